import PyProof.Rows.All
import Wide.All
import OpenK.AllK
import Wide.FinOn
import HandS.Base
import HandS.Call
import HandS.List
import HandS.Comp
import HandS.Ends
import HandS.Exc
import HandS.ExcOwn
import HandS.TryOnly
import HandS.ExcIs
import HandS.IsInst
import HandS.FStr
import HandS.RaiseMore
import HandS.Words
import HandS.WordsList
import HandS.WordsExc
import HandS.WideBits
import HandS.Iter
import HandS.Text
import HandS.Evl
import HandS.Head0
import HandS.Head1
import HandS.Head2
import HandS.HeadEnd
import HandS.HeadHook1
import HandS.HeadHook2
import HandS.HeadHook4
import HandS.EndBits
import HandS.Style
import PySem.Challenge.RW_curveseal_k20_extended_coordinates
set_option Elab.async false
set_option linter.all false
set_option maxRecDepth 100000
set_option autoImplicit false
set_option maxHeartbeats 4000000
set_option maxHeartbeats 1000000
namespace Mi
open PySem PySem.Spec L2
open Evl (Ex)

/-! ### data -/
inductive D where
  | non | bl (b : Bool) | int (i : Int) | str (s : Str) | ty (n : String)
  | tup (xs : List D) | lst (xs : List D) | obj (c : Str) (ks : List Str) (ds : List D)

class ToD (α : Type) where
  d : α → D
abbrev toD {α : Type} [ToD α] (x : α) : D := ToD.d x
instance : ToD D := ⟨fun x => x⟩
instance : ToD Int := ⟨D.int⟩
instance : ToD Bool := ⟨D.bl⟩
instance : ToD Unit := ⟨fun _ => .non⟩
instance : ToD Str := ⟨D.str⟩
instance {α : Type} [ToD α] : ToD (List α) := ⟨fun xs => .lst (xs.map ToD.d)⟩
instance {α : Type} [ToD α] : ToD (Option α) := ⟨fun o => match o with | none => .non | some x => ToD.d x⟩
structure T1 (α : Type) where
  a : α
structure T2 (α β : Type) where
  a : α
  b : β
structure T3 (α β γ : Type) where
  a : α
  b : β
  c : γ
structure T4 (α β γ δ : Type) where
  a : α
  b : β
  c : γ
  e : δ
structure Tu (α : Type) where
  xs : List α
instance {α : Type} [ToD α] : ToD (T1 α) := ⟨fun x => .tup [ToD.d x.a]⟩
instance {α β : Type} [ToD α] [ToD β] : ToD (T2 α β) := ⟨fun x => .tup [ToD.d x.a, ToD.d x.b]⟩
instance {α β γ : Type} [ToD α] [ToD β] [ToD γ] : ToD (T3 α β γ) := ⟨fun x => .tup [ToD.d x.a, ToD.d x.b, ToD.d x.c]⟩
instance {α β γ δ : Type} [ToD α] [ToD β] [ToD γ] [ToD δ] : ToD (T4 α β γ δ) := ⟨fun x => .tup [ToD.d x.a, ToD.d x.b, ToD.d x.c, ToD.d x.e]⟩
instance {α : Type} [ToD α] : ToD (Tu α) := ⟨fun x => .tup (x.xs.map ToD.d)⟩

mutual
def Rep (K : PySem.W.Frag) (F : Hp) : D → V → Prop
  | .non, v => v = .non
  | .bl b, v => v = .bl b
  | .int i, v => v = .int i
  | .str s, v => v = .str s
  | .ty n, v => v = .ty n
  | .tup ds, v => ∃ a vs, v = .ref a ∧ SqT K F a vs ∧ Reps K F ds vs
  | .lst ds, v => ∃ a vs, v = .ref a ∧ SqL K F a vs ∧ Reps K F ds vs
  | .obj c ks ds, v => ∃ a dx vs, v = .ref a ∧ F a = some (.ins (He.ga K c) dx (ks.zip vs)) ∧ ks.length = vs.length ∧ Reps K F ds vs
def Reps (K : PySem.W.Frag) (F : Hp) : List D → List V → Prop
  | [], vs => vs = []
  | d :: ds, vs => ∃ v r, vs = v :: r ∧ Rep K F d v ∧ Reps K F ds r
end

mutual
theorem Rep.mono {K : PySem.W.Frag} {F F' : Hp} (e : Ex F F') : ∀ (d : D) (v : V), Rep K F d v → Rep K F' d v
  | .non, v, h => h
  | .bl b, v, h => h
  | .int i, v, h => h
  | .str s, v, h => h
  | .ty n, v, h => h
  | .tup ds, v, h => by
    obtain ⟨a, vs, h1, h2, h3⟩ := h
    exact ⟨a, vs, h1, Evl.ex_t e h2, Reps.mono e ds vs h3⟩
  | .lst ds, v, h => by
    obtain ⟨a, vs, h1, h2, h3⟩ := h
    exact ⟨a, vs, h1, Evl.ex_l e h2, Reps.mono e ds vs h3⟩
  | .obj c ks ds, v, h => by
    obtain ⟨a, dx, vs, h1, h2, h3, h4⟩ := h
    exact ⟨a, dx, vs, h1, e _ _ h2, h3, Reps.mono e ds vs h4⟩
theorem Reps.mono {K : PySem.W.Frag} {F F' : Hp} (e : Ex F F') : ∀ (ds : List D) (vs : List V), Reps K F ds vs → Reps K F' ds vs
  | [], vs, h => h
  | d :: ds, vs, h => by
    obtain ⟨v, r, h1, h2, h3⟩ := h
    exact ⟨v, r, h1, Rep.mono e d v h2, Reps.mono e ds r h3⟩
end
section
variable {K : PySem.W.Frag} {F F' H H' H1 : Hp}
theorem Reps.length : ∀ {ds : List D} {vs : List V}, Reps K F ds vs → ds.length = vs.length
  | [], vs, h => by rw [show vs = [] from h]; rfl
  | d :: ds, vs, h => by
    obtain ⟨v, r, rfl, _, h3⟩ := h
    simp [Reps.length h3]
theorem Reps.get : ∀ {ds : List D} {vs : List V} {i : Nat} {e : D}, Reps K F ds vs → ds[i]? = some e → ∃ v, vs[i]? = some v ∧ Rep K F e v
  | [], vs, i, e, h, q => by simp at q
  | d :: ds, vs, 0, e, h, q => by
    obtain ⟨v, r, rfl, h2, h3⟩ := h
    simp at q; subst q
    exact ⟨v, rfl, h2⟩
  | d :: ds, vs, i + 1, e, h, q => by
    obtain ⟨v, r, rfl, h2, h3⟩ := h
    simp at q
    obtain ⟨w, a, b⟩ := Reps.get h3 q
    exact ⟨w, by simpa using a, b⟩
theorem Reps.append : ∀ {ds es : List D} {vs ws : List V}, Reps K F ds vs → Reps K F es ws → Reps K F (ds ++ es) (vs ++ ws)
  | [], es, vs, ws, h, q => by rw [show vs = [] from h]; exact q
  | d :: ds, es, vs, ws, h, q => by
    obtain ⟨v, r, rfl, h2, h3⟩ := h
    exact ⟨v, r ++ ws, rfl, h2, Reps.append h3 q⟩
theorem Reps.one {e : D} {v : V} (h : Rep K F e v) : Reps K F [e] [v] := ⟨v, [], rfl, h, rfl⟩
theorem Reps.set : ∀ {ds : List D} {vs : List V} (i : Nat) {e : D} {v : V}, Reps K F ds vs → Rep K F e v → Reps K F (ds.set i e) (vs.set i v)
  | [], vs, i, e, v, h, q => by rw [show vs = [] from h]; exact rfl
  | d :: ds, vs, 0, e, v, h, q => by
    obtain ⟨w, r, rfl, h2, h3⟩ := h
    exact ⟨v, r, rfl, q, h3⟩
  | d :: ds, vs, i + 1, e, v, h, q => by
    obtain ⟨w, r, rfl, h2, h3⟩ := h
    exact ⟨w, r.set i v, rfl, h2, Reps.set i h3 q⟩
theorem Reps.drop : ∀ {ds : List D} {vs : List V} (i : Nat), Reps K F ds vs → Reps K F (ds.drop i) (vs.drop i)
  | [], vs, i, h => by rw [show vs = [] from h]; simp [Reps]
  | d :: ds, vs, 0, h => h
  | d :: ds, vs, i + 1, h => by
    obtain ⟨w, r, rfl, h2, h3⟩ := h
    exact Reps.drop i h3
theorem Reps.take : ∀ {ds : List D} {vs : List V} (i : Nat), Reps K F ds vs → Reps K F (ds.take i) (vs.take i)
  | [], vs, i, h => by rw [show vs = [] from h]; simp [Reps]
  | d :: ds, vs, 0, h => by simp [Reps]
  | d :: ds, vs, i + 1, h => by
    obtain ⟨w, r, rfl, h2, h3⟩ := h
    exact ⟨w, r.take i, rfl, h2, Reps.take i h3⟩
theorem Reps.dropLast {ds : List D} {vs : List V} (h : Reps K F ds vs) : Reps K F ds.dropLast vs.dropLast := by
  rw [List.dropLast_eq_take, List.dropLast_eq_take, h.length]
  exact Reps.take _ h
theorem Reps.reverse : ∀ {ds : List D} {vs : List V}, Reps K F ds vs → Reps K F ds.reverse vs.reverse
  | [], vs, h => by rw [show vs = [] from h]; simp [Reps]
  | d :: ds, vs, h => by
    obtain ⟨w, r, rfl, h2, h3⟩ := h
    rw [List.reverse_cons, List.reverse_cons]
    exact Reps.append (Reps.reverse h3) (Reps.one h2)
theorem Reps.ints : ∀ {ns : List Int} {vs : List V}, Reps K F (ns.map D.int) vs → vs = ns.map V.int
  | [], vs, h => h
  | n :: ns, vs, h => by
    obtain ⟨w, r, rfl, h2, h3⟩ := h
    rw [show w = V.int n from h2, Reps.ints h3]; rfl
theorem Reps.of_ints : ∀ (ns : List Int), Reps K F (ns.map D.int) (ns.map V.int)
  | [] => rfl
  | n :: ns => ⟨_, _, rfl, rfl, Reps.of_ints ns⟩
theorem Reps.bls : ∀ {ns : List Bool} {vs : List V}, Reps K F (ns.map D.bl) vs → vs = ns.map V.bl
  | [], vs, h => h
  | n :: ns, vs, h => by
    obtain ⟨w, r, rfl, h2, h3⟩ := h
    rw [show w = V.bl n from h2, Reps.bls h3]; rfl
theorem Reps.strs : ∀ {ns : List Str} {vs : List V}, Reps K F (ns.map D.str) vs → vs = ns.map V.str
  | [], vs, h => h
  | n :: ns, vs, h => by
    obtain ⟨w, r, rfl, h2, h3⟩ := h
    rw [show w = V.str n from h2, Reps.strs h3]; rfl

/-! ### how the heap goes on -/
structure Adv (F H F' H' : Hp) : Prop where
  f : Ex F F'
  h : Ex H H'
  in_ : Ex F' H'
  out : ∀ p, F p = none → H p ≠ none → F' p = none
theorem Adv.refl (e : Ex F H) : Adv F H F H := ⟨Ex.refl F, Ex.refl H, e, fun _ h _ => h⟩
theorem Adv.trans {F1 H1 F2 H2 F3 H3 : Hp} (a : Adv F1 H1 F2 H2) (b : Adv F2 H2 F3 H3) : Adv F1 H1 F3 H3 :=
  ⟨a.f.trans b.f, a.h.trans b.h, b.in_, fun p h1 h2 => b.out p (a.out p h1 h2) fun z => h2 (Evl.fresh_back a.h z)⟩
theorem none_of_ex (e : Ex F H) {p : Addr} (h : H p = none) : F p = none := Evl.fresh_back e h
theorem Adv.new {p : Addr} {o : HO} (e : Ex F H) (h : H p = none) : Adv F H (upd F p o) (upd H p o) := by
  refine ⟨Ex.new (none_of_ex e h), Ex.new h, fun a u q => ?_, fun q h1 h2 => ?_⟩
  · by_cases z : a = p
    · subst z; rw [upd_same] at q ⊢; exact q
    · rw [upd_ne z] at q ⊢; exact e a u q
  · have z : q ≠ p := fun z => h2 (by rw [z]; exact h)
    rw [upd_ne z]; exact h1
/-- a new object, not frozen -/
theorem Adv.newO {p : Addr} {o : HO} (e : Ex F H) (h : H p = none) : Adv F H F (upd H p o) :=
  ⟨Ex.refl F, Ex.new h, fun a u q => (Ex.new h) a u (e a u q), fun _ h1 _ => h1⟩
end

/-! ### what a def gives -/
inductive Res (α : Type) where
  | ok (x : α) | exc (c : Str) | stuck
namespace Res
def bind {α β : Type} : Res α → (α → Res β) → Res β
  | .ok x, f => f x
  | .exc c, _ => .exc c
  | .stuck, _ => .stuck
theorem bind_ok {α β : Type} (x : α) (f : α → Res β) : (Res.ok x).bind f = f x := rfl
theorem bind_exc {α β : Type} (c : Str) (f : α → Res β) : (Res.exc c : Res α).bind f = .exc c := rfl
theorem bind_stuck {α β : Type} (f : α → Res β) : (Res.stuck : Res α).bind f = .stuck := rfl
theorem bind_assoc {α β γ : Type} (m : Res α) (f : α → Res β) (g : β → Res γ) : (m.bind f).bind g = m.bind fun x => (f x).bind g := by
  cases m <;> rfl
theorem bind_pure {α : Type} (m : Res α) : m.bind Res.ok = m := by cases m <;> rfl
/-- a condition that must hold -/
@[irreducible] noncomputable def need {α : Type} (p : Prop) (m : Res α) : Res α := @ite _ p (Classical.propDecidable p) m .stuck
theorem need_pos {α : Type} {p : Prop} {m : Res α} (h : p) : need p m = m := by unfold need; exact if_pos h
theorem need_neg {α : Type} {p : Prop} {m : Res α} (h : ¬ p) : need p m = .stuck := by unfold need; exact if_neg h
def map {α β : Type} (f : α → β) (m : Res α) : Res β := m.bind fun x => .ok (f x)
end Res

/-! ### slots -/
inductive Sk where
  | im (e : D) | ow (xs : List D) | raw (v : V) | oi (p : Option Addr) (c : Str) (ks : List Str) (ds : List D)
/-- what only this frame knows -/
def Sk.own : Sk → Bool
  | .ow _ => true
  | .oi _ _ _ _ => true
  | _ => false
abbrev En := List (Option Sk)
def SkOk (K : PySem.W.Frag) (H0 F H : Hp) : Sk → V → Prop
  | .im e, v => Rep K F e v
  | .ow xs, v => ∃ p vs, v = .ref p ∧ H0 p = none ∧ F p = none ∧ H p = some (.lst vs) ∧ Reps K F xs vs
  | .raw w, v => v = w
  | .oi pp c ks ds, v => ∃ p dx vs, v = .ref p ∧ H0 p = none ∧ F p = none ∧ H p = some (.ins (He.ga K c) dx (ks.zip vs)) ∧ ks.length = vs.length ∧ Reps K F ds vs ∧ ∀ a, pp = some a → p = a
structure Sl (K : PySem.W.Frag) (F0 H0 F H : Hp) (σ : L2.St) (env : En) : Prop where
  adv : Adv F0 H0 F H
  slot : ∀ (i : Nat) (sk : Sk), env[i]? = some (some sk) → ∃ v, σ[i]? = some (some v) ∧ SkOk K H0 F H sk v
  dis : ∀ (i j : Nat) (sk sk' : Sk) (p : Addr), i ≠ j → env[i]? = some (some sk) → env[j]? = some (some sk') → sk.own = true → sk'.own = true → σ[i]? = some (some (.ref p)) → σ[j]? ≠ some (some (.ref p))
  len : σ.length = env.length
section
variable {K : PySem.W.Frag} {F0 H0 F H F' H' : Hp} {σ : L2.St} {env : En}
theorem Sl.ex (S : Sl K F0 H0 F H σ env) : Ex F H := S.adv.in_
theorem SkOk.adv {sk : Sk} {v : V} (a : Adv F H F' H') (h : SkOk K H0 F H sk v) : SkOk K H0 F' H' sk v := by
  cases sk with
  | im e => exact Rep.mono a.f _ _ h
  | ow xs =>
    obtain ⟨p, vs, e1, e2, e3, e4, e5⟩ := h
    exact ⟨p, vs, e1, e2, a.out p e3 (by rw [e4]; simp), a.h _ _ e4, Reps.mono a.f _ _ e5⟩
  | raw w => exact h
  | oi pp c ks ds =>
    obtain ⟨p, dx, vs, e1, e2, e3, e4, e5, e6, e7⟩ := h
    exact ⟨p, dx, vs, e1, e2, a.out p e3 (by rw [e4]; simp), a.h _ _ e4, e5, Reps.mono a.f _ _ e6, e7⟩
theorem SkOk.at {sk : Sk} {v : V} (ho : sk.own = true) (h : SkOk K H0 F H sk v) : ∃ p o, v = .ref p ∧ H0 p = none ∧ F p = none ∧ H p = some o := by
  cases sk with
  | im e => cases ho
  | raw w => cases ho
  | ow xs =>
    obtain ⟨p, vs, e1, e2, e3, e4, e5⟩ := h
    exact ⟨p, _, e1, e2, e3, e4⟩
  | oi pp c ks ds =>
    obtain ⟨p, dx, vs, e1, e2, e3, e4, e5, e6, e7⟩ := h
    exact ⟨p, _, e1, e2, e3, e4⟩
theorem SkOk.updH {sk : Sk} {v : V} {p : Addr} {o : HO} (hn : sk.own = true → v ≠ .ref p) (h : SkOk K H0 F H sk v) : SkOk K H0 F (upd H p o) sk v := by
  cases sk with
  | im e => exact h
  | raw w => exact h
  | ow xs =>
    obtain ⟨q, vs, e1, e2, e3, e4, e5⟩ := h
    have hne : q ≠ p := fun z => hn rfl (by rw [e1, z])
    exact ⟨q, vs, e1, e2, e3, by rw [upd_ne hne]; exact e4, e5⟩
  | oi pp c ks ds =>
    obtain ⟨q, dx, vs, e1, e2, e3, e4, e5, e6, e7⟩ := h
    have hne : q ≠ p := fun z => hn rfl (by rw [e1, z])
    exact ⟨q, dx, vs, e1, e2, e3, by rw [upd_ne hne]; exact e4, e5, e6, e7⟩
theorem SkOk.updF {sk : Sk} {v : V} {p : Addr} {o : HO} (hf : F p = none) (hn : sk.own = true → v ≠ .ref p) (h : SkOk K H0 F H sk v) : SkOk K H0 (upd F p o) H sk v := by
  have ad : Ex F (upd F p o) := Ex.new hf
  cases sk with
  | im e => exact Rep.mono ad _ _ h
  | raw w => exact h
  | ow xs =>
    obtain ⟨q, vs, e1, e2, e3, e4, e5⟩ := h
    have hne : q ≠ p := fun z => hn rfl (by rw [e1, z])
    exact ⟨q, vs, e1, e2, by rw [upd_ne hne]; exact e3, e4, Reps.mono ad _ _ e5⟩
  | oi pp c ks ds =>
    obtain ⟨q, dx, vs, e1, e2, e3, e4, e5, e6, e7⟩ := h
    have hne : q ≠ p := fun z => hn rfl (by rw [e1, z])
    exact ⟨q, dx, vs, e1, e2, by rw [upd_ne hne]; exact e3, e4, e5, Reps.mono ad _ _ e6, e7⟩
theorem Sl.step (S : Sl K F0 H0 F H σ env) (a : Adv F H F' H') : Sl K F0 H0 F' H' σ env := by
  refine ⟨S.adv.trans a, fun i sk e => ?_, S.dis, S.len⟩
  obtain ⟨v, h1, h2⟩ := S.slot i sk e
  exact ⟨v, h1, h2.adv a⟩
theorem set_get {α : Type} {l : List α} {i j : Nat} {x y : α} (h : (l.set i x)[j]? = some y) : (i = j ∧ x = y) ∨ (i ≠ j ∧ l[j]? = some y) := by
  rw [List.getElem?_set] at h
  by_cases e : i = j
  · rw [if_pos e] at h
    split at h
    · exact .inl ⟨e, Option.some.inj h⟩
    · cases h
  · rw [if_neg e] at h
    exact .inr ⟨e, h⟩
theorem set_len {α : Type} {l : List α} {i : Nat} {x y : α} (h : (l.set i x)[i]? = some y) : i < l.length := by
  have h := (List.getElem?_eq_some_iff.mp h).1
  rwa [List.length_set] at h
theorem Sl.setIm (S : Sl K F0 H0 F H σ env) {i : Nat} {e : D} {v : V} (r : Rep K F e v) : Sl K F0 H0 F H (σ.set i (some v)) (env.set i (some (.im e))) := by
  refine ⟨S.adv, fun j sk q => ?_, fun j k sk sk' p hjk e1 e2 o1 o2 h1 => ?_, by rw [List.length_set, List.length_set]; exact S.len⟩
  · rcases set_get q with ⟨rfl, z⟩ | ⟨z, q⟩
    · cases z
      refine ⟨v, ?_, r⟩
      have hi : i < env.length := set_len q
      rw [List.getElem?_set_self (by rw [S.len]; exact hi)]
    · obtain ⟨w, h1, h2⟩ := S.slot j sk q
      exact ⟨w, by rw [List.getElem?_set_ne z]; exact h1, h2⟩
  · rcases set_get e1 with ⟨_, z⟩ | ⟨z1, e1⟩
    · cases z; cases o1
    rcases set_get e2 with ⟨_, z⟩ | ⟨z2, e2⟩
    · cases z; cases o2
    rw [List.getElem?_set_ne z1] at h1
    rw [List.getElem?_set_ne z2]
    exact S.dis j k sk sk' p hjk e1 e2 o1 o2 h1
/-- a new owned object -/
theorem Sl.setOwn (S : Sl K F0 H0 F H σ env) {i : Nat} {p : Addr} {sk : Sk} (hs : SkOk K H0 F H sk (.ref p)) (hn : ∀ (j : Nat) (sk' : Sk), env[j]? = some (some sk') → sk'.own = true → σ[j]? ≠ some (some (V.ref p))) :
    Sl K F0 H0 F H (σ.set i (some (.ref p))) (env.set i (some sk)) := by
  refine ⟨S.adv, fun j sk q => ?_, fun j k sk1 sk2 p' hjk e1 e2 o1 o2 h1 => ?_, by rw [List.length_set, List.length_set]; exact S.len⟩
  · rcases set_get q with ⟨rfl, z⟩ | ⟨z, q⟩
    · cases z
      refine ⟨_, ?_, hs⟩
      have hi : i < env.length := set_len q
      rw [List.getElem?_set_self (by rw [S.len]; exact hi)]
    · obtain ⟨w, h1, h2⟩ := S.slot j sk q
      exact ⟨w, by rw [List.getElem?_set_ne z]; exact h1, h2⟩
  · rcases set_get e1 with ⟨z0, z⟩ | ⟨z1, e1⟩
    · rcases set_get e2 with ⟨z2, _⟩ | ⟨z2, e2⟩
      · exact absurd (z0.symm.trans z2) hjk
      · subst z0
        rw [List.getElem?_set_ne z2]
        have hi : i < σ.length := set_len h1
        rw [List.getElem?_set_self hi] at h1
        cases h1
        exact hn k sk2 e2 o2
    · rw [List.getElem?_set_ne z1] at h1
      rcases set_get e2 with ⟨z2, z⟩ | ⟨z2, e2⟩
      · subst z2
        intro q
        have hi : i < σ.length := set_len q
        rw [List.getElem?_set_self hi] at q
        cases q
        exact hn j sk1 e1 o1 h1
      · rw [List.getElem?_set_ne z2]
        exact S.dis j k sk1 sk2 p' hjk e1 e2 o1 o2 h1
theorem Sl.setOw (S : Sl K F0 H0 F H σ env) {i : Nat} {p : Addr} {xs : List D} {vs : List V} (h0 : H0 p = none) (hf : F p = none) (hp : H p = some (.lst vs)) (hn : ∀ (j : Nat) (sk' : Sk), env[j]? = some (some sk') → sk'.own = true → σ[j]? ≠ some (some (V.ref p))) (r : Reps K F xs vs) :
    Sl K F0 H0 F H (σ.set i (some (.ref p))) (env.set i (some (.ow xs))) := S.setOwn ⟨p, vs, rfl, h0, hf, hp, r⟩ hn
/-- an owned object changes -/
theorem Sl.chgO (S : Sl K F0 H0 F H σ env) {i : Nat} {p : Addr} {sk sk' : Sk} {o : HO} (e : env[i]? = some (some sk)) (ho : sk.own = true) (hs : σ[i]? = some (some (.ref p))) (hp : F p = none) (h0 : H0 p = none) (hk : SkOk K H0 F (upd H p o) sk' (.ref p)) :
    Sl K F0 H0 F (upd H p o) σ (env.set i (some sk')) := by
  refine ⟨⟨S.adv.f, fun a u q => ?_, fun a u q => ?_, S.adv.out⟩, fun j sk q => ?_, fun j k sk1 sk2 p' hjk e1 e2 o1 o2 h1 => ?_, by rw [List.length_set]; exact S.len⟩
  · rw [upd_ne (ne_of_none q h0)]; exact S.adv.h a u q
  · rw [upd_ne (ne_of_none q hp)]; exact S.adv.in_ a u q
  · rcases set_get q with ⟨rfl, z⟩ | ⟨z, q⟩
    · cases z
      exact ⟨_, hs, hk⟩
    · obtain ⟨w, h1, h2⟩ := S.slot j sk q
      exact ⟨w, h1, h2.updH fun o2 zz => S.dis i j _ _ p z e q ho o2 hs (by rw [h1, zz])⟩
  · have own : ∀ {j : Nat} {s : Sk}, (env.set i (some sk'))[j]? = some (some s) → s.own = true → ∃ s', env[j]? = some (some s') ∧ s'.own = true := by
      intro j s q o
      rcases set_get q with ⟨rfl, _⟩ | ⟨_, q⟩
      · exact ⟨_, e, ho⟩
      · exact ⟨_, q, o⟩
    obtain ⟨_, q1, r1⟩ := own e1 o1
    obtain ⟨_, q2, r2⟩ := own e2 o2
    exact S.dis j k _ _ p' hjk q1 q2 r1 r2 h1
theorem Sl.chg (S : Sl K F0 H0 F H σ env) {i : Nat} {p : Addr} {xs ys : List D} {ws : List V} (e : env[i]? = some (some (.ow xs))) (hs : σ[i]? = some (some (.ref p))) (hp : F p = none) (h0 : H0 p = none) (r : Reps K F ys ws) :
    Sl K F0 H0 F (upd H p (.lst ws)) σ (env.set i (some (.ow ys))) := S.chgO e rfl hs hp h0 ⟨p, ws, rfl, h0, hp, upd_same, r⟩
/-- an owned object is frozen -/
theorem Sl.freezeO (S : Sl K F0 H0 F H σ env) {i : Nat} {sk : Sk} {d : D} (e : env[i]? = some (some sk)) (ho : sk.own = true) (hd : ∀ p o, SkOk K H0 F H sk (.ref p) → H p = some o → F p = none → Rep K (upd F p o) d (.ref p)) : ∃ F', Ex F F' ∧ Sl K F0 H0 F' H σ (env.set i (some (.im d))) := by
  obtain ⟨v, hs, hk⟩ := S.slot i _ e
  obtain ⟨p, o, rfl, h0, hf, hp⟩ := hk.at ho
  have ad : Ex F (upd F p o) := Ex.new hf
  have inn : Ex (upd F p o) H := fun a u q => by
    by_cases z : a = p
    · subst z; rw [upd_same] at q; cases q; exact hp
    · rw [upd_ne z] at q; exact S.ex a u q
  refine ⟨upd F p o, ad, ⟨⟨S.adv.f.trans ad, S.adv.h, inn, fun a h1 h2 => ?_⟩, fun j sk q => ?_, fun j k sk1 sk2 p' hjk e1 e2 o1 o2 h1 => ?_, by rw [List.length_set]; exact S.len⟩⟩
  · have z : a ≠ p := fun z => h2 (by rw [z]; exact h0)
    rw [upd_ne z]; exact S.adv.out a h1 h2
  · rcases set_get q with ⟨rfl, z⟩ | ⟨z, q⟩
    · cases z
      exact ⟨_, hs, hd p o hk hp hf⟩
    · obtain ⟨w, h1, h2⟩ := S.slot j sk q
      exact ⟨w, h1, h2.updF hf fun o2 zz => S.dis i j _ _ p z e q ho o2 hs (by rw [h1, zz])⟩
  · have own : ∀ {j : Nat} {s : Sk}, (env.set i (some (.im d)))[j]? = some (some s) → s.own = true → env[j]? = some (some s) := by
      intro j s q o
      rcases set_get q with ⟨rfl, z⟩ | ⟨_, q⟩
      · cases z; cases o
      · exact q
    exact S.dis j k _ _ p' hjk (own e1 o1) (own e2 o2) o1 o2 h1
theorem Sl.freeze (S : Sl K F0 H0 F H σ env) {i : Nat} {xs : List D} (e : env[i]? = some (some (.ow xs))) : ∃ F', Ex F F' ∧ Sl K F0 H0 F' H σ (env.set i (some (.im (.lst xs)))) :=
  S.freezeO e rfl fun p o h hp hf => by
    obtain ⟨q, vs, e1, _, _, e4, e5⟩ := h
    cases e1
    rw [hp] at e4; cases e4
    exact ⟨_, vs, rfl, .inl (.inl upd_same), Reps.mono (Ex.new hf) _ _ e5⟩
theorem Sl.freezeI (S : Sl K F0 H0 F H σ env) {i : Nat} {pp : Option Addr} {c : Str} {ks : List Str} {ds : List D} (e : env[i]? = some (some (.oi pp c ks ds))) : ∃ F', Ex F F' ∧ Sl K F0 H0 F' H σ (env.set i (some (.im (.obj c ks ds)))) :=
  S.freezeO e rfl fun p o h hp hf => by
    obtain ⟨q, dx, vs, e1, _, _, e4, e5, e6, _⟩ := h
    cases e1
    rw [hp] at e4; cases e4
    exact ⟨_, dx, vs, rfl, upd_same, e5, Reps.mono (Ex.new hf) _ _ e6⟩
end
end Mi
set_option maxHeartbeats 1000000
namespace Mi
open PySem PySem.Spec L2
open Evl (Ex)

class ToDs (β : Type) where
  ds : β → List D
instance : ToDs Unit := ⟨fun _ => []⟩
instance {α β : Type} [ToD α] [ToDs β] : ToDs (α × β) := ⟨fun p => ToD.d p.1 :: ToDs.ds p.2⟩

/-! ### what follows a value -/
section
variable (K : PySem.W.Frag) (W : WX) (F H : Hp) (σ : L2.St)
def KE {α : Type} [ToD α] (Q : VK) : Res α → Prop
  | .ok x => ∀ v F' H', Adv F H F' H' → Rep K F' (toD x) v → Q v H'
  | .exc c => ∀ F' H', Adv F H F' H' → W (.ref (He.ga K c)) none σ H'
  | .stuck => False
def KA {β : Type} [ToDs β] (Q : List V → Hp → Prop) : Res β → Prop
  | .ok x => ∀ vs F' H', Adv F H F' H' → Reps K F' (ToDs.ds x) vs → Q vs H'
  | .exc c => ∀ F' H', Adv F H F' H' → W (.ref (He.ga K c)) none σ H'
  | .stuck => False
def KT (Q : Bool → Hp → Prop) : Res Bool → Prop
  | .ok b => ∀ F' H', Adv F H F' H' → Q b H'
  | .exc c => ∀ F' H', Adv F H F' H' → W (.ref (He.ga K c)) none σ H'
  | .stuck => False
def KN {α : Type} [ToD α] (Q : VK) : Res (List α) → Prop
  | .ok xs => ∀ p vs F' H', Adv F H F' H' → H p = none → F' p = none → H' p = some (.lst vs) → Reps K F' (xs.map toD) vs → Q (.ref p) H'
  | .exc c => ∀ F' H', Adv F H F' H' → W (.ref (He.ga K c)) none σ H'
  | .stuck => False
end
def EvX (K : PySem.W.Frag) (W : WX) (env : En) (te : TE) {α : Type} [ToD α] (m : Res α) : Prop :=
  ∀ F0 H0 F H σ Q, Sl K F0 H0 F H σ env → KE K W F H σ Q m → te σ H Q
def EvA (K : PySem.W.Frag) (W : WX) (env : En) (ta : TA) {β : Type} [ToDs β] (m : Res β) : Prop :=
  ∀ F0 H0 F H σ Q, Sl K F0 H0 F H σ env → KA K W F H σ Q m → ta σ H Q
def EvT (K : PySem.W.Frag) (W : WX) (env : En) (tt : TT) (m : Res Bool) : Prop :=
  ∀ F0 H0 F H σ Q, Sl K F0 H0 F H σ env → KT K W F H σ Q m → tt σ H Q
def EvN (K : PySem.W.Frag) (W : WX) (env : En) (te : TE) {α : Type} [ToD α] (m : Res (List α)) : Prop :=
  ∀ F0 H0 F H σ Q, Sl K F0 H0 F H σ env → KN K W F H σ Q m → te σ H Q

section
variable {K : PySem.W.Frag} {W : WX} {F H F' H' : Hp} {σ : L2.St} {env : En} {α β γ τ : Type} [ToD α] [ToD β] [ToD γ] [ToD τ] {ta tb te tc : TE} {tt tu : TT} {r : R2}

/-- from what follows a whole to what follows its first part -/
theorem KE.cut {Q : VK} {Q1 : VK} {m : Res α} {f : α → Res β} (ex : Ex F H) (h : KE K W F H σ Q (m.bind f))
    (k : ∀ x v F' H', m = .ok x → Adv F H F' H' → Rep K F' (toD x) v → KE K W F' H' σ Q (f x) → Q1 v H') : KE K W F H σ Q1 m := by
  cases m with
  | ok x =>
    intro v F1 H1 a r
    refine k x v F1 H1 rfl a r ?_
    have h : KE K W F H σ Q (f x) := h
    revert h
    generalize f x = y
    intro h
    cases y with
    | ok y => exact fun v F2 H2 b q => h v F2 H2 (a.trans b) q
    | exc c => exact fun F2 H2 b => h F2 H2 (a.trans b)
    | stuck => exact h.elim
  | exc c => exact h
  | stuck => exact h.elim
theorem KE.adv {Q : VK} {m : Res β} (a : Adv F H F' H') (h : KE K W F H σ Q m) : KE K W F' H' σ Q m := by
  cases m with
  | ok y => exact fun v F2 H2 b q => h v F2 H2 (a.trans b) q
  | exc c => exact fun F2 H2 b => h F2 H2 (a.trans b)
  | stuck => exact h.elim
theorem KT.adv {Q : Bool → Hp → Prop} {m : Res Bool} (a : Adv F H F' H') (h : KT K W F H σ Q m) : KT K W F' H' σ Q m := by
  cases m with
  | ok y => exact fun F2 H2 b => h F2 H2 (a.trans b)
  | exc c => exact fun F2 H2 b => h F2 H2 (a.trans b)
  | stuck => exact h.elim
theorem KA.adv {δ : Type} [ToDs δ] {Q : List V → Hp → Prop} {m : Res δ} (a : Adv F H F' H') (h : KA K W F H σ Q m) : KA K W F' H' σ Q m := by
  cases m with
  | ok y => exact fun v F2 H2 b q => h v F2 H2 (a.trans b) q
  | exc c => exact fun F2 H2 b => h F2 H2 (a.trans b)
  | stuck => exact h.elim

/-- general: te then a use of its value -/
theorem use {Q Q1 : VK} {m : Res α} {F0 H0 : Hp} (hv : EvX K W env te m) (S : Sl K F0 H0 F H σ env)
    (hx : ∀ c, m = .exc c → ∀ F' H', Adv F H F' H' → W (.ref (He.ga K c)) none σ H') (hs : m ≠ .stuck)
    (k : ∀ x v F' H', m = .ok x → Adv F H F' H' → Rep K F' (toD x) v → Q1 v H') : te σ H Q1 := by
  refine hv F0 H0 F H σ Q1 S ?_
  cases m with
  | ok x => exact fun v F' H' a q => k x v F' H' rfl a q
  | exc c => exact hx c rfl
  | stuck => exact hs rfl

/-! ### names and constants -/
theorem ev_var {i : Nat} {x : α} (h : env[i]? = some (some (.im (toD x)))) : EvX K W env (tVar i) (.ok x) := fun F0 H0 F H σ Q S k => by
  obtain ⟨v, e, q⟩ := S.slot i _ h
  exact ⟨v, e, k v F H (Adv.refl S.ex) q⟩
theorem ev_int {i : Int} : EvX K W env (tC (.int i)) (.ok i) := fun F0 H0 F H σ Q S k => k _ F H (Adv.refl S.ex) rfl
theorem ev_bl {b : Bool} : EvX K W env (tC (.bl b)) (.ok b) := fun F0 H0 F H σ Q S k => k _ F H (Adv.refl S.ex) rfl
theorem ev_str {x : Str} : EvX K W env (tC (.str x)) (.ok x) := fun F0 H0 F H σ Q S k => k _ F H (Adv.refl S.ex) rfl
theorem ev_non : EvX K W env (tC .non) (.ok ()) := fun F0 H0 F H σ Q S k => k _ F H (Adv.refl S.ex) rfl
theorem ev_noneO : EvX K W env (tC .non) (.ok (none : Option α)) := fun F0 H0 F H σ Q S k => k _ F H (Adv.refl S.ex) rfl
theorem ev_tyc {n : String} : EvX K W env (tC (.ty n)) (.ok (D.ty n)) := fun F0 H0 F H σ Q S k => k _ F H (Adv.refl S.ex) rfl
/-- the same value in another type -/
theorem ev_as {m : Res α} {m' : Res β} (h : EvX K W env te m) (f : α → β) (e : ∀ x, toD (f x) = toD x) (em : m.bind (fun x => .ok (f x)) = m') : EvX K W env te m' := fun F0 H0 F H σ Q S k => by
  refine h F0 H0 F H σ Q S ?_
  subst em
  cases m with
  | ok x => intro v F' H' a q; exact k v F' H' a (by rw [e]; exact q)
  | exc c => exact k
  | stuck => exact k.elim

/-! ### operators -/
def OpX (K : PySem.W.Frag) (r : R2) (f : α → β → Res γ) : Prop := ∀ (F H : Hp) (x : α) (y : β) (v u : V) (Q : VK), Ex F H → Rep K F (toD x) v → Rep K F (toD y) u →
  KE K (fun _ _ _ _ => False) F H [] Q (f x y) → r v u H Q
theorem KE.exc_false {Q : VK} {c : Str} (h : KE K (fun _ _ _ _ => False) F H [] Q (.exc c : Res α)) (e : Ex F H) : False := h F H (Adv.refl e)
/-- operators let nothing out -/
def Mild (f : α → β → Res γ) : Prop := ∀ x y c, f x y ≠ .exc c
theorem KE.mild {Q : VK} {m : Res γ} (hm : ∀ c, m ≠ .exc c) (h : KE K W F H σ Q m) : KE K (fun _ _ _ _ => False) F H [] Q m := by
  cases m with
  | ok x => exact h
  | exc c => exact absurd rfl (hm c)
  | stuck => exact h.elim
theorem ev_op {m1 : Res α} {m2 : Res β} {f : α → β → Res γ} (ho : OpX K r f) (hm : Mild f) (ha : EvX K W env ta m1) (hb : EvX K W env tb m2) :
    EvX K W env (tOp r ta tb) (m1.bind fun x => m2.bind fun y => f x y) := fun F0 H0 F H σ Q S k => by
  refine ha F0 H0 F H σ _ S (KE.cut S.ex k fun x v F1 H1 e1 a1 r1 k1 => ?_)
  refine hb F0 H0 F1 H1 σ _ (S.step a1) (KE.cut a1.in_ k1 fun y u F2 H2 e2 a2 r2 k2 => ?_)
  exact ho F2 H2 x y v u Q a2.in_ (Rep.mono a2.f _ _ r1) r2 (k2.mild (hm x y))
theorem mild_ok {g : α → β → γ} : Mild (fun x y => Res.ok (g x y)) := fun _ _ _ h => nomatch h
theorem mild_need {p : α → β → Prop} {g : α → β → γ} : Mild (fun x y => Res.need (p x y) (.ok (g x y))) := fun x y c h => by
  by_cases q : p x y
  · have h : Res.need (p x y) (.ok (g x y)) = .exc c := h
    rw [Res.need_pos q] at h; cases h
  · have h : Res.need (p x y) (.ok (g x y)) = .exc c := h
    rw [Res.need_neg q] at h; cases h
theorem opx_I0 {g : Int → Int → Int} : OpX K (rI0 fun i j => .int (g i j)) (fun i j => .ok (g i j)) := fun F H x y v u Q e h1 h2 k =>
  ⟨x, y, h1, h2, k _ F H (Adv.refl e) rfl⟩
theorem opx_B0 {g : Int → Int → Bool} : OpX K (rI0 fun i j => .bl (g i j)) (fun i j => .ok (g i j)) := fun F H x y v u Q e h1 h2 k =>
  ⟨x, y, h1, h2, k _ F H (Adv.refl e) rfl⟩
theorem opx_I {C : Int → Int → Prop} {g : Int → Int → Int} : OpX K (rI C fun i j => .int (g i j)) (fun i j => .need (C i j) (.ok (g i j))) := fun F H x y v u Q e h1 h2 k => by
  by_cases c : C x y
  · have k : KE K (fun _ _ _ _ => False) F H [] Q (Res.need (C x y) (.ok (g x y))) := k
    rw [Res.need_pos c] at k
    exact ⟨x, y, h1, h2, c, k _ F H (Adv.refl e) rfl⟩
  · have k : KE K (fun _ _ _ _ => False) F H [] Q (Res.need (C x y) (.ok (g x y))) := k
    rw [Res.need_neg c] at k
    exact k.elim
/-- the same where the condition is known -/
theorem ev_opI {m1 m2 : Res Int} {C : Int → Int → Prop} {g : Int → Int → Int} (hc : ∀ x y, m1 = .ok x → m2 = .ok y → C x y) (ha : EvX K W env ta m1) (hb : EvX K W env tb m2) :
    EvX K W env (tOp (rI C fun i j => .int (g i j)) ta tb) (m1.bind fun x => m2.bind fun y => .ok (g x y)) := fun F0 H0 F H σ Q S k => by
  refine ha F0 H0 F H σ _ S (KE.cut S.ex k fun x v F1 H1 e1 a1 r1 k1 => ?_)
  refine hb F0 H0 F1 H1 σ _ (S.step a1) (KE.cut a1.in_ k1 fun y u F2 H2 e2 a2 r2 k2 => ?_)
  exact ⟨x, y, r1, r2, hc x y e1 e2, k2 _ F2 H2 (Adv.refl a2.in_) rfl⟩
theorem ev_un {m1 : Res Int} {g : Int → Int} (ha : EvX K W env ta m1) : EvX K W env (tUn (rU fun i => .int (g i)) ta) (m1.bind fun x => .ok (g x)) := fun F0 H0 F H σ Q S k => by
  refine ha F0 H0 F H σ _ S (KE.cut S.ex k fun x v F1 H1 e1 a1 r1 k1 => ?_)
  exact ⟨x, r1, k1 _ F1 H1 (Adv.refl a1.in_) rfl⟩
/-- == of two ints, two bools, two texts -/
theorem opx_eqI : OpX K rEq (fun (i j : Int) => .ok (decide (i = j))) := fun F H x y v u Q e h1 h2 k => by
  cases (show v = V.int x from h1); cases (show u = V.int y from h2)
  refine ⟨rfl, ?_⟩
  rw [show decide (V.int x = V.int y) = decide (x = y) by rw [dec_int]; rfl]
  exact k _ F H (Adv.refl e) rfl
theorem opx_neI : OpX K rNe (fun (i j : Int) => .ok (!decide (i = j))) := fun F H x y v u Q e h1 h2 k => by
  cases (show v = V.int x from h1); cases (show u = V.int y from h2)
  refine ⟨rfl, ?_⟩
  rw [show decide (V.int x = V.int y) = decide (x = y) by rw [dec_int]; rfl]
  exact k _ F H (Adv.refl e) rfl
theorem opx_eqB : OpX K rEq (fun (i j : Bool) => .ok (i == j)) := fun F H x y v u Q e h1 h2 k => by
  cases (show v = V.bl x from h1); cases (show u = V.bl y from h2)
  refine ⟨rfl, ?_⟩
  rw [dec_bl]
  exact k _ F H (Adv.refl e) rfl
theorem opx_neB : OpX K rNe (fun (i j : Bool) => .ok (!(i == j))) := fun F H x y v u Q e h1 h2 k => by
  cases (show v = V.bl x from h1); cases (show u = V.bl y from h2)
  refine ⟨rfl, ?_⟩
  rw [dec_bl]
  exact k _ F H (Adv.refl e) rfl
theorem opx_eqS : OpX K rEq (fun (i j : Str) => .ok (i == j)) := fun F H x y v u Q e h1 h2 k => by
  cases (show v = V.str x from h1); cases (show u = V.str y from h2)
  refine ⟨rfl, ?_⟩
  rw [dec_str]
  exact k _ F H (Adv.refl e) rfl
theorem opx_neS : OpX K rNe (fun (i j : Str) => .ok (!(i == j))) := fun F H x y v u Q e h1 h2 k => by
  cases (show v = V.str x from h1); cases (show u = V.str y from h2)
  refine ⟨rfl, ?_⟩
  rw [dec_str]
  exact k _ F H (Adv.refl e) rfl
def D.isNon : D → Bool
  | .non => true
  | _ => false
theorem rep_isNon : ∀ {x : D} {v : V}, Rep K F x v → decide (v = V.non) = x.isNon
  | .non, v, h => by rw [show v = V.non from h]; rfl
  | .bl b, v, h => by rw [show v = V.bl b from h]; rfl
  | .int b, v, h => by rw [show v = V.int b from h]; rfl
  | .str b, v, h => by rw [show v = V.str b from h]; rfl
  | .ty b, v, h => by rw [show v = V.ty b from h]; rfl
  | .tup ds, v, h => by obtain ⟨a, vs, rfl, _⟩ := h; rfl
  | .lst ds, v, h => by obtain ⟨a, vs, rfl, _⟩ := h; rfl
  | .obj c ks ds, v, h => by obtain ⟨a, dx, vs, rfl, _⟩ := h; rfl
theorem opx_isN : OpX K (fun x y H Q => y = .non ∧ Q (.bl (decide (x = .non))) H) (fun (x : α) (_ : Unit) => .ok (toD x).isNon) := fun F H x y v u Q e h1 h2 k =>
  ⟨h2, by rw [rep_isNon h1]; exact k _ F H (Adv.refl e) rfl⟩
theorem opx_notN : OpX K (fun x y H Q => y = .non ∧ Q (.bl (!decide (x = .non))) H) (fun (x : α) (_ : Unit) => .ok (!(toD x).isNon)) := fun F H x y v u Q e h1 h2 k =>
  ⟨h2, by rw [rep_isNon h1]; exact k _ F H (Adv.refl e) rfl⟩

/-! ### == of data -/
mutual
def D.py : D → PyData
  | .non => .none
  | .bl b => .bool b
  | .int i => .int i
  | .str s => .str s
  | .ty _ => .none
  | .tup xs => .tuple (pyL xs)
  | .lst xs => .list (pyL xs)
  | .obj _ _ _ => .none
def pyL : List D → List PyData
  | [] => []
  | x :: xs => D.py x :: pyL xs
end
mutual
/-- no objects, no classes within -/
def D.flat : D → Bool
  | .ty _ => false
  | .obj _ _ _ => false
  | .tup xs => flatL xs
  | .lst xs => flatL xs
  | _ => true
def flatL : List D → Bool
  | [] => true
  | x :: xs => D.flat x && flatL xs
end
mutual
theorem dp_of : ∀ {x : D} {v : V}, Rep K F x v → x.flat = true → Dp K F v x.py
  | .non, v, h, _ => by rw [show v = V.non from h]; exact .non
  | .bl b, v, h, _ => by rw [show v = V.bl b from h]; exact .bl b
  | .int b, v, h, _ => by rw [show v = V.int b from h]; exact .int b
  | .str b, v, h, _ => by rw [show v = V.str b from h]; exact .str b
  | .ty b, v, h, q => by cases q
  | .tup ds, v, h, q => by obtain ⟨a, vs, rfl, h2, h3⟩ := h; exact .tup h2 (dps_of h3 q)
  | .lst ds, v, h, q => by obtain ⟨a, vs, rfl, h2, h3⟩ := h; exact .lst h2 (dps_of h3 q)
  | .obj c ks ds, v, h, q => by cases q
theorem dps_of : ∀ {xs : List D} {vs : List V}, Reps K F xs vs → flatL xs = true → DpAll K F vs (pyL xs)
  | [], vs, h, _ => by rw [show vs = [] from h]; exact .nil
  | x :: xs, vs, h, q => by
    obtain ⟨v, r, rfl, h2, h3⟩ := h
    have q2 := Bool.and_eq_true_iff.mp (show (D.flat x && flatL xs) = true from q)
    exact .cons (dp_of h2 q2.1) (dps_of h3 q2.2)
end
mutual
theorem Dp.mono {e : Ex F F'} : ∀ {v : V} {x : PyData}, Dp K F v x → Dp K F' v x
  | _, _, .non => .non
  | _, _, .bl b => .bl b
  | _, _, .int b => .int b
  | _, _, .str b => .str b
  | _, _, .lst h1 h2 => .lst (Evl.ex_l e h1) (Dps.mono (e := e) h2)
  | _, _, .tup h1 h2 => .tup (Evl.ex_t e h1) (Dps.mono (e := e) h2)
theorem Dps.mono {e : Ex F F'} : ∀ {v : List V} {x : List PyData}, DpAll K F v x → DpAll K F' v x
  | _, _, .nil => .nil
  | _, _, .cons h1 h2 => .cons (Dp.mono (e := e) h1) (Dps.mono (e := e) h2)
end
/-- data that == may be asked of -/
def D.okq (x : D) : Bool := x.flat && SeqAt.shaped x.py
def pyEq (x y : D) : Bool := PyData.eqv x.py y.py
theorem opx_eqD : OpX K (rEqD K) (fun (x : α) (y : β) => .need ((toD x).okq = true ∧ (toD y).okq = true) (.ok (pyEq (toD x) (toD y)))) := fun F H x y v u Q e h1 h2 k => by
  dsimp only at k
  by_cases c : (toD x).okq = true ∧ (toD y).okq = true
  · rw [Res.need_pos c] at k
    obtain ⟨c1, c2⟩ := c
    obtain ⟨a1, a2⟩ := Bool.and_eq_true_iff.mp c1
    obtain ⟨b1, b2⟩ := Bool.and_eq_true_iff.mp c2
    exact ⟨_, _, Dp.mono (e := e) (dp_of h1 a1), Dp.mono (e := e) (dp_of h2 b1), a2, b2, k _ F H (Adv.refl e) rfl⟩
  · rw [Res.need_neg c] at k
    exact k.elim
theorem opx_neD : OpX K (rNeD K) (fun (x : α) (y : β) => .need ((toD x).okq = true ∧ (toD y).okq = true) (.ok (!pyEq (toD x) (toD y)))) := fun F H x y v u Q e h1 h2 k => by
  dsimp only at k
  by_cases c : (toD x).okq = true ∧ (toD y).okq = true
  · rw [Res.need_pos c] at k
    obtain ⟨c1, c2⟩ := c
    obtain ⟨a1, a2⟩ := Bool.and_eq_true_iff.mp c1
    obtain ⟨b1, b2⟩ := Bool.and_eq_true_iff.mp c2
    exact ⟨_, _, Dp.mono (e := e) (dp_of h1 a1), Dp.mono (e := e) (dp_of h2 b1), a2, b2, k _ F H (Adv.refl e) rfl⟩
  · rw [Res.need_neg c] at k
    exact k.elim

/-! ### an item -/
def idx {α : Type} (xs : List α) (i : Int) : Res α := match atI xs i with
  | some x => .ok x
  | none => .stuck
theorem idx_mild {α : Type} (xs : List α) (i : Int) (c : Str) : idx xs i ≠ .exc c := by
  unfold idx; split <;> intro h <;> cases h
theorem atI_map {α β : Type} (f : α → β) (xs : List α) (i : Int) : atI (xs.map f) i = (atI xs i).map f := by
  unfold atI
  rw [List.length_map]
  cases ixN xs.length i with
  | none => rfl
  | some j => simp
theorem Reps.at {xs : List D} {vs : List V} {i : Int} {x : D} (h : Reps K F xs vs) (e : atI xs i = some x) : ∃ v, atI vs i = some v ∧ Rep K F x v := by
  unfold atI at e ⊢
  rw [← h.length]
  cases q : ixN xs.length i with
  | none => rw [q] at e; cases e
  | some j => rw [q] at e; exact Reps.get h e
theorem opx_ixL : OpX K (rIxL K) (fun (xs : List α) (i : Int) => idx xs i) := fun F H xs i v u Q e h1 h2 k => by
  obtain ⟨a, vs, rfl, hl, hr⟩ := h1
  cases (show u = V.int i from h2)
  dsimp only [idx] at k
  cases q : atI xs i with
  | none => rw [q] at k; exact k.elim
  | some x =>
    rw [q] at k
    obtain ⟨w, hw, rw_⟩ := Reps.at (i := i) hr (x := toD x) (by rw [atI_map, q]; rfl)
    exact ⟨a, vs, i, w, rfl, rfl, Evl.ex_l e hl, hw, k _ F H (Adv.refl e) rw_⟩
theorem opx_ixT : OpX K (rIxT K) (fun (xs : Tu α) (i : Int) => idx xs.xs i) := fun F H xs i v u Q e h1 h2 k => by
  obtain ⟨a, vs, rfl, hl, hr⟩ := h1
  cases (show u = V.int i from h2)
  dsimp only [idx] at k
  cases q : atI xs.xs i with
  | none => rw [q] at k; exact k.elim
  | some x =>
    rw [q] at k
    obtain ⟨w, hw, rw_⟩ := Reps.at (i := i) hr (x := toD x) (by rw [atI_map, q]; rfl)
    exact ⟨a, vs, i, w, rfl, rfl, Evl.ex_t e hl, hw, k _ F H (Adv.refl e) rw_⟩
/-- t[i], i written, t a tuple whose parts have types of their own -/
theorem ev_ixTC {m : Res α} {i : Int} {f : α → β} (ha : EvX K W env ta m) (hf : ∀ x, ∃ ds, toD x = .tup ds ∧ atI ds i = some (toD (f x))) :
    EvX K W env (tOp (rIxT K) ta (tC (.int i))) (m.bind fun x => .ok (f x)) := fun F0 H0 F H σ Q S k => by
  refine ha F0 H0 F H σ _ S (KE.cut S.ex k fun x v F1 H1 e1 a1 r1 k1 => ?_)
  obtain ⟨ds, e, q⟩ := hf x
  rw [e] at r1
  obtain ⟨a, vs, rfl, hl, hr⟩ := r1
  obtain ⟨w, hw, rw_⟩ := Reps.at (i := i) hr q
  exact ⟨a, vs, i, w, rfl, rfl, Evl.ex_t a1.in_ hl, hw, k1 _ F1 H1 (Adv.refl a1.in_) rw_⟩
/-- xs[i], xs the owned list of slot j -/
theorem ev_ixO {j : Nat} {xs : List α} {m : Res Int} (h : env[j]? = some (some (.ow (xs.map toD)))) (hb : EvX K W env tb m) : EvX K W env (tOp (rIxL K) (tVar j) tb) (m.bind fun i => idx xs i) := fun F0 H0 F H σ Q S k => by
  obtain ⟨v, e, p, vs, rfl, h0, hf, hp, hr⟩ := S.slot j _ h
  refine ⟨_, e, ?_⟩
  refine hb F0 H0 F H σ _ S (KE.cut S.ex k fun i u F1 H1 e1 a1 r1 k1 => ?_)
  cases (show u = V.int i from r1)
  unfold idx at k1
  cases q : atI xs i with
  | none => rw [q] at k1; exact k1.elim
  | some x =>
    rw [q] at k1
    obtain ⟨w, hw, rw_⟩ := Reps.at (i := i) hr (x := toD x) (by rw [atI_map, q]; rfl)
    exact ⟨p, vs, i, w, rfl, rfl, .inl (.inl (a1.h _ _ hp)), hw, k1 _ F1 H1 (Adv.refl a1.in_) (Rep.mono a1.f _ _ rw_)⟩

/-! ### tests, and, or, not -/
theorem et_test {m : Res Bool} (ha : EvX K W env te m) : EvT K W env (tTest te) m := fun F0 H0 F H σ Q S k => by
  refine ha F0 H0 F H σ _ S ?_
  cases m with
  | ok b => exact fun v F' H' a q => ⟨b, q, k F' H' a⟩
  | exc c => exact k
  | stuck => exact k.elim
theorem et_B {m : Res Bool} (ha : EvX K W env te m) : EvT K W env (tB te) m := et_test ha
theorem et_not {m : Res Bool} (ha : EvT K W env tt m) : EvT K W env (tNot tt) (m.bind fun b => .ok (!b)) := fun F0 H0 F H σ Q S k => by
  refine ha F0 H0 F H σ _ S ?_
  cases m with
  | ok b => exact k
  | exc c => exact k
  | stuck => exact k.elim
theorem et_and {m1 m2 : Res Bool} (ha : EvT K W env tt m1) (hb : EvT K W env tu m2) : EvT K W env (tAnd tt tu) (m1.bind fun b => cond b m2 (.ok false)) := fun F0 H0 F H σ Q S k => by
  refine ha F0 H0 F H σ _ S ?_
  cases m1 with
  | ok b =>
    intro F' H' a
    cases b with
    | true =>
      have k : KT K W F H σ Q m2 := k
      show tu σ H' Q
      exact hb F0 H0 F' H' σ Q (S.step a) (k.adv a)
    | false => exact k F' H' a
  | exc c => exact k
  | stuck => exact k.elim
theorem et_or {m1 m2 : Res Bool} (ha : EvT K W env tt m1) (hb : EvT K W env tu m2) : EvT K W env (tOr tt tu) (m1.bind fun b => cond b (.ok true) m2) := fun F0 H0 F H σ Q S k => by
  refine ha F0 H0 F H σ _ S ?_
  cases m1 with
  | ok b =>
    intro F' H' a
    cases b with
    | false =>
      have k : KT K W F H σ Q m2 := k
      show tu σ H' Q
      exact hb F0 H0 F' H' σ Q (S.step a) (k.adv a)
    | true => exact k F' H' a
  | exc c => exact k
  | stuck => exact k.elim
theorem ev_andV {m1 m2 : Res Bool} (ha : EvX K W env ta m1) (hb : EvX K W env tb m2) : EvX K W env (tAndV ta tb) (m1.bind fun b => cond b m2 (.ok false)) := fun F0 H0 F H σ Q S k => by
  refine ha F0 H0 F H σ _ S ?_
  cases m1 with
  | ok b =>
    intro v F' H' a r
    refine ⟨b, r, ?_⟩
    cases b with
    | true =>
      have k : KE K W F H σ Q m2 := k
      exact hb F0 H0 F' H' σ Q (S.step a) (k.adv a)
    | false => exact k _ F' H' a rfl
  | exc c => exact k
  | stuck => exact k.elim
theorem ev_orV {m1 m2 : Res Bool} (ha : EvX K W env ta m1) (hb : EvX K W env tb m2) : EvX K W env (tOrV ta tb) (m1.bind fun b => cond b (.ok true) m2) := fun F0 H0 F H σ Q S k => by
  refine ha F0 H0 F H σ _ S ?_
  cases m1 with
  | ok b =>
    intro v F' H' a r
    refine ⟨b, r, ?_⟩
    cases b with
    | false =>
      have k : KE K W F H σ Q m2 := k
      exact hb F0 H0 F' H' σ Q (S.step a) (k.adv a)
    | true => exact k _ F' H' a rfl
  | exc c => exact k
  | stuck => exact k.elim
theorem ev_notV {m : Res Bool} (ha : EvX K W env ta m) : EvX K W env (tNotV ta) (m.bind fun b => .ok (!b)) := fun F0 H0 F H σ Q S k => by
  refine ha F0 H0 F H σ _ S ?_
  cases m with
  | ok b => exact fun v F' H' a r => ⟨b, r, k _ F' H' a rfl⟩
  | exc c => exact k
  | stuck => exact k.elim
theorem ev_if {m : Res Bool} {m1 m2 : Res α} (hc : EvT K W env tt m) (ha : EvX K W env ta m1) (hb : EvX K W env tb m2) : EvX K W env (tIf tt ta tb) (m.bind fun b => cond b m1 m2) := fun F0 H0 F H σ Q S k => by
  refine hc F0 H0 F H σ _ S ?_
  cases m with
  | ok b =>
    intro F' H' a
    cases b with
    | true =>
      have k : KE K W F H σ Q m1 := k
      show ta σ H' Q
      exact ha F0 H0 F' H' σ Q (S.step a) (k.adv a)
    | false =>
      have k : KE K W F H σ Q m2 := k
      show tb σ H' Q
      exact hb F0 H0 F' H' σ Q (S.step a) (k.adv a)
  | exc c => exact k
  | stuck => exact k.elim
/-- a < b < c -/
theorem ev_chain {m1 : Res α} {m2 : Res β} {m3 : Res γ} {r' : R2} {f : α → β → Res Bool} {g : β → γ → Res Bool} (ho : OpX K r f) (hf : Mild f) (ho' : OpX K r' g) (hg : Mild g) (ha : EvX K W env ta m1) (hb : EvX K W env tb m2) (hc : EvX K W env tc m3) :
    EvX K W env (tChain r r' ta tb tc) (m1.bind fun x => m2.bind fun y => (f x y).bind fun b => cond b (m3.bind fun z => g y z) (.ok false)) := fun F0 H0 F H σ Q S k => by
  refine ha F0 H0 F H σ _ S (KE.cut S.ex k fun x v F1 H1 e1 a1 r1 k1 => ?_)
  refine hb F0 H0 F1 H1 σ _ (S.step a1) (KE.cut a1.in_ k1 fun y u F2 H2 e2 a2 r2 k2 => ?_)
  refine ho F2 H2 x y v u _ a2.in_ (Rep.mono a2.f _ _ r1) r2 ?_
  cases q : f x y with
  | ok b =>
    rw [q] at k2
    intro w F3 H3 a3 rb
    refine ⟨b, rb, ?_⟩
    cases b with
    | true =>
      have k3 : KE K W F2 H2 σ Q (m3.bind fun z => g y z) := k2
      show tc σ H3 _
      refine hc F0 H0 F3 H3 σ _ (((S.step a1).step a2).step a3) (KE.cut a3.in_ (k3.adv a3) fun z w F4 H4 e4 a4 r4 k4 => ?_)
      exact ho' F4 H4 y z u w Q a4.in_ (Rep.mono (a3.trans a4).f _ _ r2) r4 (k4.mild (hg y z))
    | false => exact k2 _ F3 H3 a3 rfl
  | exc c => exact absurd q (hf x y c)
  | stuck => rw [q] at k2; exact k2.elim

/-! ### arguments, displays, calls -/
theorem ea_nil : EvA K W env tNil (.ok ()) := fun F0 H0 F H σ Q S k => k [] F H (Adv.refl S.ex) rfl
theorem ea_cons {δ : Type} [ToDs δ] {t : TA} {m1 : Res α} {m2 : Res δ} (ha : EvX K W env te m1) (hb : EvA K W env t m2) : EvA K W env (tCons te t) (m1.bind fun x => m2.bind fun y => .ok (x, y)) := fun F0 H0 F H σ Q S k => by
  refine ha F0 H0 F H σ _ S ?_
  cases m1 with
  | ok x =>
    intro v F1 H1 a1 r1
    have k1 : KA K W F H σ Q (m2.bind fun y => .ok (x, y)) := k
    refine hb F0 H0 F1 H1 σ _ (S.step a1) ?_
    cases m2 with
    | ok y =>
      intro vs F2 H2 a2 r2
      exact k1 (v :: vs) F2 H2 (a1.trans a2) ⟨v, vs, rfl, Rep.mono a2.f _ _ r1, r2⟩
    | exc c => exact fun F2 H2 a2 => k1 F2 H2 (a1.trans a2)
    | stuck => exact k1.elim
  | exc c => exact k
  | stuck => exact k.elim
/-- a tuple that is made; its type by f -/
theorem ev_tup {δ : Type} [ToDs δ] {t : TA} {m : Res δ} {f : δ → α} (ha : EvA K W env t m) (hf : ∀ y : δ, toD (f y) = .tup (ToDs.ds y)) (hn : ∀ y : δ, (ToDs.ds y).length ≤ 100000) : EvX K W env (tTup t) (m.bind fun y => .ok (f y)) := fun F0 H0 F H σ Q S k => by
  refine ha F0 H0 F H σ _ S ?_
  cases m with
  | ok y =>
    intro vs F1 H1 a1 r1
    refine ⟨by rw [← r1.length]; exact Evl.sz_of (hn y), fun p hp => ?_⟩
    have a2 : Adv F1 H1 (upd F1 p (.tup vs)) (upd H1 p (.tup vs)) := Adv.new a1.in_ hp
    refine k _ _ _ (a1.trans a2) ?_
    rw [hf]
    exact ⟨p, vs, rfl, .inl (.inl upd_same), Reps.mono a2.f _ _ r1⟩
  | exc c => exact k
  | stuck => exact k.elim
/-- a list that is made -/
theorem en_lst {δ : Type} [ToDs δ] {t : TA} {m : Res δ} {f : δ → List α} (ha : EvA K W env t m) (hf : ∀ y : δ, (f y).map toD = ToDs.ds y) (hn : ∀ y : δ, (ToDs.ds y).length ≤ 100000) : EvN K W env (tLst t) (m.bind fun y => .ok (f y)) := fun F0 H0 F H σ Q S k => by
  refine ha F0 H0 F H σ _ S ?_
  cases m with
  | ok y =>
    intro vs F1 H1 a1 r1
    refine ⟨by rw [← r1.length]; exact Evl.sz_of (hn y), fun p hp => ?_⟩
    refine k p vs _ _ (a1.trans (Adv.newO a1.in_ hp)) (Evl.fresh_back a1.h hp) (none_of_ex a1.in_ hp) upd_same ?_
    rw [hf]
    exact r1
  | exc c => exact k
  | stuck => exact k.elim
/-- a new list as a value that is not changed later -/
theorem ev_ofN {m : Res (List α)} (h : EvN K W env te m) : EvX K W env te m := fun F0 H0 F H σ Q S k => by
  refine h F0 H0 F H σ Q S ?_
  cases m with
  | ok xs =>
    intro p vs F1 H1 a1 hp hf hh r
    have e : Ex F1 (upd F1 p (.lst vs)) := Ex.new hf
    refine k _ (upd F1 p (.lst vs)) H1 ⟨a1.f.trans e, a1.h, fun a u q => ?_, fun q h1 h2 => ?_⟩ ⟨p, vs, rfl, .inl (.inl upd_same), Reps.mono e _ _ r⟩
    · by_cases z : a = p
      · subst z; rw [upd_same] at q; cases q; exact hh
      · rw [upd_ne z] at q; exact a1.in_ a u q
    · have z : q ≠ p := fun z => h2 (by rw [z]; exact hp)
      rw [upd_ne z]; exact a1.out q h1 h2
  | exc c => exact k
  | stuck => exact k.elim
/-- a def's promise, by the function that tells what it gives -/
def spM (K : PySem.W.Frag) {δ : Type} [ToDs δ] (f : δ → Res α) : Sp := fun vs H Q E => ∃ F x, Ex F H ∧ Reps K F (ToDs.ds x) vs ∧ KE K (fun cls d _ H => E cls d H) F H [] Q (f x)
theorem ev_call {δ : Type} [ToDs δ] {t : TA} {m : Res δ} {f : δ → Res α} (ha : EvA K W env t m) : EvX K W env (tCallS (spM K f) (WE W) t) (m.bind f) := fun F0 H0 F H σ Q S k => by
  refine ha F0 H0 F H σ _ S ?_
  cases m with
  | ok y =>
    intro vs F1 H1 a1 r1
    refine ⟨F1, y, a1.in_, r1, ?_⟩
    have k : KE K W F H σ Q (f y) := k
    have k := k.adv a1
    revert k
    generalize f y = z
    intro k
    cases z with
    | ok z => exact k
    | exc c => exact k
    | stuck => exact k.elim
  | exc c => exact k
  | stuck => exact k.elim
namespace Res
def noexc {α : Type} : Res α → Res α
  | .exc _ => .stuck
  | m => m
end Res
/-- a call of a def that lets nothing out there -/
theorem ev_call0 {δ : Type} [ToDs δ] {t : TA} {m : Res δ} {f : δ → Res α} (ha : EvA K W env t m) : EvX K W env (tCall (spM K f) [] E0 t) (m.bind fun y => (f y).noexc) := fun F0 H0 F H σ Q S k => by
  refine ha F0 H0 F H σ _ S ?_
  cases m with
  | ok y =>
    intro vs F1 H1 a1 r1
    refine ⟨F1, y, a1.in_, by rw [List.append_nil]; exact r1, ?_⟩
    have k : KE K W F H σ Q (f y).noexc := k
    have k := k.adv a1
    revert k
    generalize f y = z
    intro k
    cases z with
    | ok z => exact k
    | exc c => exact k.elim
    | stuck => exact k.elim
  | exc c => exact k
  | stuck => exact k.elim
/-- built-in defs by their values -/
def CrX (K : PySem.W.Frag) (r : List V → Hp → VK → Prop) {δ : Type} [ToDs δ] (f : δ → Res α) : Prop := ∀ (F H : Hp) (x : δ) (vs : List V) (Q : VK), Ex F H → Reps K F (ToDs.ds x) vs → KE K (fun _ _ _ _ => False) F H [] Q (f x) → r vs H Q
theorem ev_cb {δ : Type} [ToDs δ] {r : List V → Hp → VK → Prop} {t : TA} {m : Res δ} {f : δ → Res α} (ho : CrX K r f) (hm : ∀ x c, f x ≠ .exc c) (ha : EvA K W env t m) : EvX K W env (tCB r t) (m.bind f) := fun F0 H0 F H σ Q S k => by
  refine ha F0 H0 F H σ _ S ?_
  cases m with
  | ok y =>
    intro vs F1 H1 a1 r1
    have k : KE K W F H σ Q (f y) := k
    exact ho F1 H1 y vs Q a1.in_ r1 ((k.adv a1).mild (hm y))
  | exc c => exact k
  | stuck => exact k.elim
end
end Mi
set_option maxHeartbeats 1000000
namespace Mi
open PySem PySem.Spec L2
open Evl (Ex)

/-! ### statements -/
inductive EnLe : En → En → Prop
  | nil : EnLe [] []
  | same {e : Option Sk} {l m : En} : EnLe l m → EnLe (e :: l) (e :: m)
  | drop {e : Option Sk} {l m : En} : EnLe l m → EnLe (e :: l) (none :: m)
theorem EnLe.refl : ∀ l : En, EnLe l l
  | [] => .nil
  | _ :: l => .same (EnLe.refl l)
theorem EnLe.get : ∀ {l m : En}, EnLe l m → ∀ {i : Nat} {sk : Sk}, m[i]? = some (some sk) → l[i]? = some (some sk)
  | _, _, .nil, i, sk, h => h
  | _, _, .same t, 0, sk, h => h
  | _, _, .same t, i + 1, sk, h => EnLe.get t (by simpa using h)
  | _, _, .drop t, 0, sk, h => by simp at h
  | _, _, .drop t, i + 1, sk, h => EnLe.get t (by simpa using h)
theorem EnLe.len {l m : En} (h : EnLe l m) : l.length = m.length := by
  induction h with
  | nil => rfl
  | same _ ih => simp [ih]
  | drop _ ih => simp [ih]
theorem Sl.weak {K : PySem.W.Frag} {F0 H0 F H : Hp} {σ : L2.St} {env env' : En} (S : Sl K F0 H0 F H σ env) (h : EnLe env env') : Sl K F0 H0 F H σ env' :=
  ⟨S.adv, fun i sk e => S.slot i sk (h.get e), fun i j sk sk' p hij e1 e2 => S.dis i j sk sk' p hij (h.get e1) (h.get e2), S.len.trans h.len⟩
def Blk (K : PySem.W.Frag) (F0 H0 : Hp) {τ : Type} (KP : Res τ → Prop) (T : L2.St → Hp → Prop) (env : En) (m : Res τ) : Prop :=
  ∀ F H σ, Sl K F0 H0 F H σ env → KP m → T σ H
structure Lk (K : PySem.W.Frag) (W : WX) (F0 H0 : Hp) (rt : VK) (PT : En → Prop) {τ : Type} [ToD τ] (KP : Res τ → Prop) : Prop where
  ok : ∀ x, KP (.ok x) → ∀ v F H, Adv F0 H0 F H → Rep K F (toD x) v → rt v H
  exc : ∀ c F H σ env, KP (.exc c) → PT env → Sl K F0 H0 F H σ env → W (.ref (He.ga K c)) none σ H
  no : ¬ KP .stuck
section
variable {K : PySem.W.Frag} {W : WX} {F0 H0 F H F' H' F1 : Hp} {rt : VK} {PT : En → Prop} {env env' : En} {α β γ τ : Type} [ToD α] [ToD β] [ToD γ] [ToD τ] {KP : Res τ → Prop} {te ta tb tc : TE} {tt : TT} {Z : Ends} {t u : TS} {T : L2.St → Hp → Prop}
theorem Sl.base {σ : L2.St} (S : Sl K F0 H0 F1 H' σ env) {σ' : L2.St} (S' : Sl K F1 H0 F H σ' env') : Sl K F0 H0 F H σ' env' :=
  ⟨⟨S.adv.f.trans S'.adv.f, S'.adv.h, S'.adv.in_, fun p h1 h2 => S'.adv.out p (S.adv.out p h1 h2) h2⟩, S'.slot, S'.dis, S'.len⟩
theorem Lk.base (L : Lk K W F0 H0 rt PT KP) {σ : L2.St} (S : Sl K F0 H0 F1 H' σ env) : Lk K W F1 H0 rt PT KP :=
  ⟨fun x h v F H a r => L.ok x h v F H ⟨S.adv.f.trans a.f, a.h, a.in_, fun p h1 h2 => a.out p (S.adv.out p h1 h2) h2⟩ r,
   fun c F H σ' env' h p S' => L.exc c F H σ' env' h p (S.base S'), L.no⟩
theorem Blk.base {m : Res τ} (B : Blk K F0 H0 KP T env' m) {σ : L2.St} (S : Sl K F0 H0 F1 H' σ env) : Blk K F1 H0 KP T env' m := fun F H σ' S' h => B F H σ' (S.base S') h
theorem Blk.weak {m : Res τ} (B : Blk K F0 H0 KP T env' m) (h : EnLe env env') : Blk K F0 H0 KP T env m := fun F H σ S k => B F H σ (S.weak h) k

/-- what follows an expression in a block -/
theorem Lk.ke (L : Lk K W F0 H0 rt PT KP) (hT : PT env) {σ : L2.St} (S : Sl K F0 H0 F H σ env) {m : Res α} {f : α → Res τ} (h : KP (m.bind f)) {Q : VK}
    (k : ∀ x v F' H', m = .ok x → Adv F H F' H' → Rep K F' (toD x) v → KP (f x) → Q v H') : KE K W F H σ Q m := by
  cases m with
  | ok x => exact fun v F' H' a r => k x v F' H' rfl a r h
  | exc c => exact fun F' H' a => L.exc c F' H' σ env h hT (S.step a)
  | stuck => exact (L.no h).elim
theorem Lk.kt (L : Lk K W F0 H0 rt PT KP) (hT : PT env) {σ : L2.St} (S : Sl K F0 H0 F H σ env) {m : Res Bool} {f : Bool → Res τ} (h : KP (m.bind f)) {Q : Bool → Hp → Prop}
    (k : ∀ x F' H', m = .ok x → Adv F H F' H' → KP (f x) → Q x H') : KT K W F H σ Q m := by
  cases m with
  | ok x => exact fun F' H' a => k x F' H' rfl a h
  | exc c => exact fun F' H' a => L.exc c F' H' σ env h hT (S.step a)
  | stuck => exact (L.no h).elim
theorem Lk.kn (L : Lk K W F0 H0 rt PT KP) (hT : PT env) {σ : L2.St} (S : Sl K F0 H0 F H σ env) {m : Res (List α)} {f : List α → Res τ} (h : KP (m.bind f)) {Q : VK}
    (k : ∀ xs p vs F' H', m = .ok xs → Adv F H F' H' → H p = none → F' p = none → H' p = some (.lst vs) → Reps K F' (xs.map toD) vs → KP (f xs) → Q (.ref p) H') : KN K W F H σ Q m := by
  cases m with
  | ok x => exact fun p vs F' H' a h1 h2 h3 h4 => k x p vs F' H' rfl a h1 h2 h3 h4 h
  | exc c => exact fun F' H' a => L.exc c F' H' σ env h hT (S.step a)
  | stuck => exact (L.no h).elim

theorem blk_seq {m : Res τ} (h : Blk K F0 H0 KP (t { Z with nx := u Z }) env m) : Blk K F0 H0 KP (tSeq t u Z) env m := h
theorem blk_nil {m : Res τ} (h : Blk K F0 H0 KP Z.nx env m) : Blk K F0 H0 KP (tNext Z) env m := h

theorem Blk.nx {m : Res τ} {T bk ct : L2.St → Hp → Prop} {r : VK} (h : Blk K F0 H0 KP T env m) : Blk K F0 H0 KP (Ends.nx ⟨T, r, bk, ct⟩) env m := h
/-! targets -/
def GX (K : PySem.W.Frag) (g : TG) (x : D) (f : En → En) (ws : List Nat) : Prop := ∀ (F0 H0 F H : Hp) (σ : L2.St) (env : En) (v : V) (T : L2.St → Hp → Prop), Sl K F0 H0 F H σ env → Rep K F x v →
  (∀ σ', Sl K F0 H0 F H σ' (f env) → σ'.length = σ.length → (∀ j, j ∉ ws → σ'[j]? = σ[j]?) → T σ' H) → g v σ H T
def GXs (K : PySem.W.Frag) (g : TGs) (xs : List D) (f : En → En) (ws : List Nat) : Prop := ∀ (F0 H0 F H : Hp) (σ : L2.St) (env : En) (vs : List V) (T : L2.St → Hp → Prop), Sl K F0 H0 F H σ env → Reps K F xs vs →
  (∀ σ', Sl K F0 H0 F H σ' (f env) → σ'.length = σ.length → (∀ j, j ∉ ws → σ'[j]? = σ[j]?) → T σ' H) → g vs σ H T
def stE (i : Nat) (x : D) : En → En := fun env => env.set i (some (.im x))
theorem gx_name {i : Nat} {x : D} : GX K (gName i) x (stE i x) [i] := fun F0 H0 F H σ env v T S r k =>
  k _ (S.setIm r) (by rw [List.length_set]) fun j hj => List.getElem?_set_ne fun e => hj (by rw [e]; exact List.mem_singleton.mpr rfl)
theorem gxs_nil : GXs K gNil [] (fun e => e) [] := fun F0 H0 F H σ env vs T S r k => ⟨r, k σ S rfl fun _ _ => rfl⟩
theorem gxs_cons {g : TG} {gs : TGs} {x : D} {xs : List D} {f1 f2 : En → En} {w1 w2 : List Nat} (h1 : GX K g x f1 w1) (h2 : GXs K gs xs f2 w2) : GXs K (gCons g gs) (x :: xs) (fun e => f2 (f1 e)) (w1 ++ w2) := fun F0 H0 F H σ env vs T S r k => by
  obtain ⟨v, rs, rfl, r1, r2⟩ := r
  refine ⟨v, rs, rfl, h1 F0 H0 F H σ env v _ S r1 fun σ1 S1 l1 o1 => ?_⟩
  refine h2 F0 H0 F H σ1 _ rs T S1 r2 fun σ2 S2 l2 o2 => ?_
  refine k σ2 S2 (l2.trans l1) fun j hj => ?_
  rw [o2 j fun z => hj (List.mem_append_right _ z), o1 j fun z => hj (List.mem_append_left _ z)]
theorem gx_tup {gs : TGs} {n : Nat} {xs : List D} {f : En → En} {ws : List Nat} (h : GXs K gs xs f ws) (hn : xs.length = n) : GX K (gTup K n gs) (.tup xs) f ws := fun F0 H0 F H σ env v T S r k => by
  obtain ⟨a, vs, rfl, h1, h2⟩ := r
  exact ⟨a, vs, rfl, Evl.ex_t S.ex h1, by rw [← h2.length]; exact hn, h F0 H0 F H σ env vs T S h2 k⟩

theorem blk_asg {g : TG} {m : Res α} {f : α → Res τ} {fe : α → En → En} {ws : List Nat} (L : Lk K W F0 H0 rt PT KP) (hT : PT env) (he : EvX K W env te m) (hg : ∀ x, GX K g (toD x) (fe x) ws)
    (k : ∀ x, Blk K F0 H0 KP Z.nx (fe x env) (f x)) : Blk K F0 H0 KP (tAsg te g Z) env (m.bind f) := fun F H σ S h =>
  he F0 H0 F H σ _ S (L.ke hT S h fun x v F1 H1 e1 a1 r1 h1 => hg x F0 H0 F1 H1 σ env v _ (S.step a1) r1 fun σ' S' _ _ => k x F1 H1 σ' S' h1)
theorem blk_set {i : Nat} {m : Res α} {f : α → Res τ} (L : Lk K W F0 H0 rt PT KP) (hT : PT env) (he : EvX K W env te m)
    (k : ∀ x, Blk K F0 H0 KP Z.nx (env.set i (some (.im (toD x)))) (f x)) : Blk K F0 H0 KP (tAsg te (gName i) Z) env (m.bind f) :=
  blk_asg L hT he (fun _ => gx_name) k
/-- x = a new list that is changed later -/
theorem blk_own {i : Nat} {m : Res (List α)} {f : List α → Res τ} (L : Lk K W F0 H0 rt PT KP) (hT : PT env) (he : EvN K W env te m)
    (k : ∀ xs, Blk K F0 H0 KP Z.nx (env.set i (some (.ow (xs.map toD)))) (f xs)) : Blk K F0 H0 KP (tAsg te (gName i) Z) env (m.bind f) := fun F H σ S h =>
  he F0 H0 F H σ _ S (L.kn hT S h fun xs p vs F1 H1 e1 a1 hp hf hh r h1 => by
    have S1 := S.step a1
    refine k xs F1 H1 _ (S1.setOw (Evl.fresh_back S.adv.h hp) hf hh (fun j sk' e ho z => ?_) r) h1
    obtain ⟨v, e2, q⟩ := S.slot j _ e
    obtain ⟨p', o', rfl, _, _, q4⟩ := q.at ho
    rw [e2] at z
    cases z
    rw [hp] at q4; cases q4)
/-- x.append(e), x an owned list -/
theorem blk_app {i : Nat} {xs : List β} {m : Res β} {f : β → Res τ} (L : Lk K W F0 H0 rt PT KP) (hT : PT env) (hx : env[i]? = some (some (.ow (xs.map toD)))) (he : EvX K W env te m)
    (k : ∀ y, Blk K F0 H0 KP Z.nx (env.set i (some (.ow ((xs ++ [y]).map toD)))) (f y)) :
    Blk K F0 H0 KP (tDrop (tBM K "list" rAppend (tVar i) (tCons te tNil)) Z) env (m.bind fun y => .need (xs.length < 16777216) (f y)) := fun F H σ S h => by
  obtain ⟨v, e, p, vs, rfl, h0, hf, hp, hr⟩ := S.slot i _ hx
  refine ⟨_, e, .inl ⟨rfl, _, .inl (.inl hp)⟩, ?_⟩
  refine he F0 H0 F H σ _ S (L.ke hT S h fun y u F1 H1 e1 a1 r1 h1 => ?_)
  by_cases c : xs.length < 16777216
  · rw [Res.need_pos c] at h1
    have hr' := Reps.mono a1.f _ _ hr
    refine ⟨p, vs, u, rfl, rfl, a1.h _ _ hp, by rw [sizeLine_eq, ← hr.length, List.length_map]; exact c, ?_⟩
    refine k y F1 _ σ ((S.step a1).chg hx e (a1.out p hf (by rw [hp]; simp)) h0 ?_) h1
    rw [List.map_append]
    exact Reps.append hr' (Reps.one r1)
  · rw [Res.need_neg c] at h1
    exact (L.no h1).elim
/-- x[i] = e, x an owned list -/
theorem blk_setI {i : Nat} {xs : List β} {m : Res β} {mi : Res Int} {f : List β → Res τ} (L : Lk K W F0 H0 rt PT KP) (hT : PT env) (hx : env[i]? = some (some (.ow (xs.map toD)))) (he : EvX K W env te m) (hi : EvX K W env tb mi)
    (k : ∀ ys, Blk K F0 H0 KP Z.nx (env.set i (some (.ow (ys.map toD)))) (f ys)) :
    Blk K F0 H0 KP (tAsg te (gSub (tVar i) tb rSetL) Z) env (m.bind fun y => mi.bind fun j => match ixN xs.length j with | some a => f (xs.set a y) | none => .stuck) := fun F H σ S h => by
  obtain ⟨v, e, p, vs, rfl, h0, hf, hp, hr⟩ := S.slot i _ hx
  refine he F0 H0 F H σ _ S (L.ke hT S h fun y u F1 H1 e1 a1 r1 h1 => ?_)
  refine ⟨_, e, ?_⟩
  refine hi F0 H0 F1 H1 σ _ (S.step a1) (L.ke hT (S.step a1) h1 fun j w F2 H2 e2 a2 r2 h2 => ?_)
  cases (show w = V.int j from r2)
  have hr' := Reps.mono (a1.trans a2).f _ _ hr
  have ha := (a1.trans a2)
  have hl : vs.length = xs.length := by rw [← hr.length, List.length_map]
  cases q : ixN xs.length j with
  | none => rw [q] at h2; exact (L.no h2).elim
  | some a =>
    rw [q] at h2
    refine ⟨p, vs, j, a, rfl, rfl, ha.h _ _ hp, by rw [hl]; exact q, ?_⟩
    refine k (xs.set a y) F2 _ σ ((S.step ha).chg hx e (ha.out p hf (by rw [hp]; simp)) h0 ?_) h2
    rw [List.map_set]
    exact Reps.set a hr' (Rep.mono a2.f _ _ r1)
theorem blk_freeze {xs : List D} (i : Nat) {m : Res τ} (hx : env[i]? = some (some (.ow xs))) (k : Blk K F0 H0 KP T (env.set i (some (.im (.lst xs)))) m) : Blk K F0 H0 KP T env m := fun F H σ S h => by
  obtain ⟨F', _, S'⟩ := S.freeze hx
  exact k F' H σ S' h
theorem blk_if {m : Res Bool} {f : Bool → Res τ} (L : Lk K W F0 H0 rt PT KP) (hT : PT env) (hc : EvT K W env tt m) (h1 : Blk K F0 H0 KP (t Z) env (f true)) (h2 : Blk K F0 H0 KP (u Z) env (f false)) :
    Blk K F0 H0 KP (tIfS tt t u Z) env (m.bind f) := fun F H σ S h =>
  hc F0 H0 F H σ _ S (L.kt hT S h fun b F1 H1 e1 a1 k1 => by
    cases b with
    | true => exact h1 F1 H1 σ (S.step a1) k1
    | false => exact h2 F1 H1 σ (S.step a1) k1)
theorem blk_ret {m : Res τ} (L : Lk K W F0 H0 rt PT KP) (hT : PT env) (he : EvX K W env te m) (hZ : Z.rt = rt := by rfl) : Blk K F0 H0 KP (tRet te Z) env m := fun F H σ S h => by
  subst hZ
  rw [← Res.bind_pure m] at h
  exact he F0 H0 F H σ _ S (L.ke hT S h fun x v F1 H1 e1 a1 r1 h1 => L.ok x h1 v F1 H1 (S.adv.trans a1) r1)
/-- a value of another type is handed back -/
theorem blk_retAs {m : Res α} {f : α → τ} (L : Lk K W F0 H0 rt PT KP) (hT : PT env) (he : EvX K W env te m) (hf : ∀ x, toD (f x) = toD x) (hZ : Z.rt = rt := by rfl) : Blk K F0 H0 KP (tRet te Z) env (m.bind fun x => .ok (f x)) := fun F H σ S h => by
  subst hZ
  exact he F0 H0 F H σ _ S (L.ke hT S h fun x v F1 H1 e1 a1 r1 h1 => L.ok (f x) h1 v F1 H1 (S.adv.trans a1) (by rw [hf]; exact r1))
theorem blk_retN {x : τ} (L : Lk K W F0 H0 rt PT KP) (hx : toD x = .non) (hZ : Z.rt = rt := by rfl) : Blk K F0 H0 KP (tRetN Z) env (.ok x) := fun F H σ S h => by
  subst hZ
  exact L.ok x h .non F H S.adv (by rw [hx]; rfl)
theorem blk_expr {m : Res α} {f : α → Res τ} (L : Lk K W F0 H0 rt PT KP) (hT : PT env) (he : EvX K W env te m) (k : ∀ x, Blk K F0 H0 KP Z.nx env (f x)) : Blk K F0 H0 KP (tDrop te Z) env (m.bind f) := fun F H σ S h =>
  he F0 H0 F H σ _ S (L.ke hT S h fun x v F1 H1 e1 a1 r1 h1 => k x F1 H1 σ (S.step a1) h1)
/-- raise X('..') -/
theorem blk_raise {c : Str} (L : Lk K W F0 H0 rt PT KP) (hT : PT env) : Blk K F0 H0 KP (fun σ H => W (.ref (He.ga K c)) none σ H) env (.exc c) := fun F H σ S h => L.exc c F H σ env h hT S
theorem blk_raise1 {c : Str} {m : Res α} (L : Lk K W F0 H0 rt PT KP) (hT : PT env) (he : EvX K W env te m) : Blk K F0 H0 KP (fun σ H => te σ H fun _ H1 => W (.ref (He.ga K c)) none σ H1) env (m.bind fun _ => .exc c) := fun F H σ S h =>
  he F0 H0 F H σ _ S (L.ke hT S h fun x v F1 H1 e1 a1 r1 h1 => L.exc c F1 H1 σ env h1 hT (S.step a1))
/-- a, b = e1, e2 -/
theorem blk_par {i j : Nat} {m1 : Res α} {m2 : Res β} {f : α → β → Res τ} (L : Lk K W F0 H0 rt PT KP) (hT : PT env) (h1 : EvX K W env ta m1) (h2 : EvX K W env tb m2)
    (k : ∀ x y, Blk K F0 H0 KP Z.nx ((env.set i (some (.im (toD x)))).set j (some (.im (toD y)))) (f x y)) : Blk K F0 H0 KP (tPar i j (tCons ta (tCons tb tNil)) Z) env (m1.bind fun x => m2.bind fun y => f x y) := fun F H σ S h => by
  refine h1 F0 H0 F H σ _ S (L.ke hT S h fun x v F1 H1 e1 a1 r1 k1 => ?_)
  refine h2 F0 H0 F1 H1 σ _ (S.step a1) (L.ke hT (S.step a1) k1 fun y w F2 H2 e2 a2 r2 k2 => ?_)
  refine ⟨v, w, rfl, ?_⟩
  exact k x y F2 H2 _ ((((S.step a1).step a2).setIm (Rep.mono a2.f _ _ r1)).setIm r2) k2
/-- x op= e -/
theorem blk_aug {i : Nat} {x : Int} {m : Res Int} {f : Int → Res τ} {g : Int → Int → Int} (L : Lk K W F0 H0 rt PT KP) (hT : PT env) (hx : env[i]? = some (some (.im (.int x)))) (he : EvX K W env te m)
    (k : ∀ y, Blk K F0 H0 KP Z.nx (env.set i (some (.im (.int (g x y))))) (f y)) : Blk K F0 H0 KP (tAug i te (ipI g) Z) env (m.bind f) := fun F H σ S h => by
  obtain ⟨v, e, q⟩ := S.slot i _ hx
  cases (show v = V.int x from q)
  refine ⟨_, e, he F0 H0 F H σ _ S (L.ke hT S h fun y w F1 H1 e1 a1 r1 k1 => ?_)⟩
  exact ⟨x, y, rfl, r1, k y F1 H1 _ ((S.step a1).setIm rfl) k1⟩
theorem blk_augR {i : Nat} {x : α} {m : Res β} {f : γ → Res τ} {r : R2} {g : α → β → Res γ} (L : Lk K W F0 H0 rt PT KP) (hT : PT env) (hx : env[i]? = some (some (.im (toD x)))) (ho : OpX K r g) (hm : Mild g) (he : EvX K W env te m)
    (k : ∀ z, Blk K F0 H0 KP Z.nx (env.set i (some (.im (toD z)))) (f z)) : Blk K F0 H0 KP (tAug i te r Z) env (m.bind fun y => (g x y).bind f) := fun F H σ S h => by
  obtain ⟨v, e, q⟩ := S.slot i _ hx
  refine ⟨_, e, he F0 H0 F H σ _ S (L.ke hT S h fun y w F1 H1 e1 a1 r1 k1 => ?_)⟩
  refine ho F1 H1 x y v w _ a1.in_ (Rep.mono a1.f _ _ q) r1 ?_
  refine KE.mild (W := W) (σ := σ) (hm x y) ?_
  exact L.ke hT (S.step a1) k1 fun z u F2 H2 e2 a2 r2 k2 => k z F2 H2 _ (((S.step a1).step a2).setIm r2) k2

/-! ### loops -/
structure JS (K : PySem.W.Frag) (F : Hp) (J : It) (xs : List D) : Prop where
  go : ∀ i H, Ex F H → i < xs.length → J.go i H
  stop : ∀ i H, Ex F H → xs.length ≤ i → J.stop i H
  yld : ∀ i H v H' F1, Ex F F1 → Ex F1 H → i < xs.length → J.yld i H v H' → ∃ F2 x, Adv F1 H F2 H' ∧ xs[i]? = some x ∧ Rep K F2 x v
def KI (K : PySem.W.Frag) (W : WX) (F H : Hp) (σ : L2.St) {α : Type} [ToD α] (R : It → Hp → Prop) : Res (List α) → Prop
  | .ok xs => ∀ J F' H', Adv F H F' H' → JS K F' J (xs.map toD) → R J H'
  | .exc c => ∀ F' H', Adv F H F' H' → W (.ref (He.ga K c)) none σ H'
  | .stuck => False
def EvI (K : PySem.W.Frag) (W : WX) (env : En) (wi : TI) {α : Type} [ToD α] (m : Res (List α)) : Prop :=
  ∀ F0 H0 F H σ R, Sl K F0 H0 F H σ env → KI K W F H σ R m → wi σ H R
theorem Lk.ki (L : Lk K W F0 H0 rt PT KP) (hT : PT env) {σ : L2.St} (S : Sl K F0 H0 F H σ env) {m : Res (List α)} {f : List α → Res τ} (h : KP (m.bind f)) {R : It → Hp → Prop}
    (k : ∀ xs J F' H', m = .ok xs → Adv F H F' H' → JS K F' J (xs.map toD) → KP (f xs) → R J H') : KI K W F H σ R m := by
  cases m with
  | ok x => exact fun J F' H' a h1 => k x J F' H' rfl a h1 h
  | exc c => exact fun F' H' a => L.exc c F' H' σ env h hT (S.step a)
  | stuck => exact (L.no h).elim
theorem js_list {a : Addr} {vs : List V} {xs : List D} (hl : SqL K F a vs) (hr : Reps K F xs vs) : JS K F (Itl K a) xs := by
  have hn := hr.length
  refine ⟨fun i H e hi => ?_, fun i H e hi => ?_, fun i H v H' F1 e1 e2 hi hy => ?_⟩
  · exact ⟨vs, vs[i]'(by omega), Evl.ex_l e hl, List.getElem?_eq_getElem (by omega)⟩
  · exact ⟨vs, Evl.ex_l e hl, by omega⟩
  · obtain ⟨e, f⟩ := hy
    subst e
    have g := f vs (Evl.ex_l (e1.trans e2) hl)
    obtain ⟨w, q1, q2⟩ := hr.get (i := i) (e := xs[i]) (List.getElem?_eq_getElem hi)
    rw [g] at q1; cases q1
    exact ⟨F1, xs[i], Adv.refl e2, List.getElem?_eq_getElem hi, Rep.mono e1 _ _ q2⟩
theorem js_tup {a : Addr} {vs : List V} {xs : List D} (hl : SqT K F a vs) (hr : Reps K F xs vs) : JS K F (Itt K a) xs := by
  have hn := hr.length
  refine ⟨fun i H e hi => ?_, fun i H e hi => ?_, fun i H v H' F1 e1 e2 hi hy => ?_⟩
  · exact ⟨vs, vs[i]'(by omega), Evl.ex_t e hl, List.getElem?_eq_getElem (by omega)⟩
  · exact ⟨vs, Evl.ex_t e hl, by omega⟩
  · obtain ⟨e, f⟩ := hy
    subst e
    have g := f vs (Evl.ex_t (e1.trans e2) hl)
    obtain ⟨w, q1, q2⟩ := hr.get (i := i) (e := xs[i]) (List.getElem?_eq_getElem hi)
    rw [g] at q1; cases q1
    exact ⟨F1, xs[i], Adv.refl e2, List.getElem?_eq_getElem hi, Rep.mono e1 _ _ q2⟩
theorem ei_list {m : Res (List α)} (h : EvX K W env te m) : EvI K W env (iList K te) m := fun F0 H0 F H σ R S k => by
  refine h F0 H0 F H σ _ S ?_
  cases m with
  | ok xs =>
    intro v F1 H1 a r
    obtain ⟨p, vs, rfl, h1, h2⟩ := r
    exact ⟨p, rfl, ⟨vs, Evl.ex_l a.in_ h1⟩, k _ F1 H1 a (js_list h1 h2)⟩
  | exc c => exact k
  | stuck => exact k.elim
theorem ei_tup {m : Res (Tu α)} (h : EvX K W env te m) : EvI K W env (iTup K te) (m.bind fun x => .ok x.xs) := fun F0 H0 F H σ R S k => by
  refine h F0 H0 F H σ _ S ?_
  cases m with
  | ok xs =>
    intro v F1 H1 a r
    obtain ⟨p, vs, rfl, h1, h2⟩ := r
    exact ⟨p, rfl, ⟨vs, Evl.ex_t a.in_ h1⟩, k _ F1 H1 a (js_tup h1 h2)⟩
  | exc c => exact k
  | stuck => exact k.elim
def pyRange (lo hi : Int) : List Int := (List.range (hi - lo).toNat).map fun (i : Nat) => lo + (i : Int)
theorem pyRange_len (lo hi : Int) : (pyRange lo hi).length = (hi - lo).toNat := by simp [pyRange]
theorem pyRange_get {lo hi : Int} {i : Nat} (h : i < (hi - lo).toNat) : (pyRange lo hi)[i]? = some (lo + (i : Int)) := by
  simp [pyRange, h]
theorem js_range {lo hi : Int} : JS K F (Itr lo (hi - lo).toNat) ((pyRange lo hi).map toD) := by
  refine ⟨fun i H e h => ?_, fun i H e h => ?_, fun i H v H' F1 e1 e2 h hy => ?_⟩
  · rw [List.length_map, pyRange_len] at h; exact h
  · rw [List.length_map, pyRange_len] at h; exact h
  · rw [List.length_map, pyRange_len] at h
    obtain ⟨e, q⟩ := hy
    subst e q
    exact ⟨F1, .int (lo + (i : Int)), Adv.refl e2, by rw [List.getElem?_map, pyRange_get h]; rfl, rfl⟩
abbrev okRange (i : Int) : Prop := -(2 ^ 62) ≤ i ∧ i < 2 ^ 62
theorem ei_range1 {m : Res Int} (h : EvX K W env te m) : EvI K W env (iRng1 (tCons te tNil)) (m.bind fun j => .need (okRange j) (.ok (pyRange 0 j))) := fun F0 H0 F H σ R S k => by
  refine h F0 H0 F H σ _ S ?_
  cases m with
  | ok j =>
    intro v F1 H1 a r
    cases (show v = V.int j from r)
    have k : KI K W F H σ R (.need (okRange j) (.ok (pyRange 0 j))) := k
    by_cases c : okRange j
    · rw [Res.need_pos c] at k
      refine ⟨j, rfl, c.1, c.2, k _ F1 H1 a ?_⟩
      have := js_range (K := K) (F := F1) (lo := 0) (hi := j)
      rw [Int.sub_zero] at this
      exact this
    · rw [Res.need_neg c] at k; exact k.elim
  | exc c => exact k
  | stuck => exact k.elim
theorem ei_range2 {m1 m2 : Res Int} (h1 : EvX K W env ta m1) (h2 : EvX K W env tb m2) : EvI K W env (iRng2 (tCons ta (tCons tb tNil))) (m1.bind fun i => m2.bind fun j => .need (okRange i ∧ okRange j) (.ok (pyRange i j))) := fun F0 H0 F H σ R S k => by
  refine h1 F0 H0 F H σ _ S ?_
  cases m1 with
  | ok i =>
    intro v F1 H1 a r
    cases (show v = V.int i from r)
    refine h2 F0 H0 F1 H1 σ _ (S.step a) ?_
    have k : KI K W F H σ R (m2.bind fun j => .need (okRange i ∧ okRange j) (.ok (pyRange i j))) := k
    cases m2 with
    | ok j =>
      intro v F2 H2 a2 r
      cases (show v = V.int j from r)
      have k : KI K W F H σ R (.need (okRange i ∧ okRange j) (.ok (pyRange i j))) := k
      by_cases c : okRange i ∧ okRange j
      · rw [Res.need_pos c] at k
        exact ⟨i, j, rfl, ⟨c.1.1, c.1.2, c.2.1, c.2.2⟩, k _ F2 H2 (a.trans a2) js_range⟩
      · rw [Res.need_neg c] at k; exact k.elim
    | exc c => exact fun F2 H2 a2 => k F2 H2 (a.trans a2)
    | stuck => exact k.elim
  | exc c => exact k
  | stuck => exact k.elim
/-- range(i, j, -1) -/
def pyDown (i j : Int) : List Int := (List.range (i - j).toNat).map fun (a : Nat) => i - (a : Int)
theorem pyDown_len (lo hi : Int) : (pyDown lo hi).length = (lo - hi).toNat := by simp [pyDown]
theorem pyDown_get {lo hi : Int} {i : Nat} (h : i < (lo - hi).toNat) : (pyDown lo hi)[i]? = some (lo - (i : Int)) := by
  simp [pyDown, h]
theorem js_down {lo hi : Int} : JS K F (Itc lo (-1) (lo - hi).toNat) ((pyDown lo hi).map toD) := by
  refine ⟨fun i H e h => ?_, fun i H e h => ?_, fun i H v H' F1 e1 e2 h hy => ?_⟩
  · rw [List.length_map, pyDown_len] at h; exact h
  · rw [List.length_map, pyDown_len] at h; exact h
  · rw [List.length_map, pyDown_len] at h
    obtain ⟨e, q⟩ := hy
    subst e q
    refine ⟨F1, .int (lo - (i : Int)), Adv.refl e2, by rw [List.getElem?_map, pyDown_get h]; rfl, ?_⟩
    show V.int _ = V.int _
    congr 1; omega
theorem ei_down {m1 m2 : Res Int} (h1 : EvX K W env ta m1) (h2 : EvX K W env tb m2) (h3 : EvX K W env tc (.ok (-1 : Int))) : EvI K W env (iRng3 (tCons ta (tCons tb (tCons tc tNil)))) (m1.bind fun i => m2.bind fun j => .need (okRange i ∧ okRange j) (.ok (pyDown i j))) := fun F0 H0 F H σ R S k => by
  refine h1 F0 H0 F H σ _ S ?_
  cases m1 with
  | ok i =>
    intro v F1 H1 a r
    cases (show v = V.int i from r)
    refine h2 F0 H0 F1 H1 σ _ (S.step a) ?_
    have k : KI K W F H σ R (m2.bind fun j => .need (okRange i ∧ okRange j) (.ok (pyDown i j))) := k
    cases m2 with
    | ok j =>
      intro v F2 H2 a2 r
      cases (show v = V.int j from r)
      refine h3 F0 H0 F2 H2 σ _ ((S.step a).step a2) fun v F3 H3 a3 r => ?_
      cases (show v = V.int (-1) from r)
      have k : KI K W F H σ R (.need (okRange i ∧ okRange j) (.ok (pyDown i j))) := k
      by_cases c : okRange i ∧ okRange j
      · rw [Res.need_pos c] at k
        exact ⟨i, j, -1, (i - j).toNat, rfl, RgC.neg c.1.1 c.1.2 c.2.1 c.2.2, k _ F3 H3 ((a.trans a2).trans a3) js_down⟩
      · rw [Res.need_neg c] at k; exact k.elim
    | exc c => exact fun F2 H2 a2 => k F2 H2 (a.trans a2)
    | stuck => exact k.elim
  | exc c => exact k
  | stuck => exact k.elim

theorem blk_for {S : Type} {wi : TI} {g : TG} {tb : TS} {m : Res (List α)} {fe : α → En → En} {ws : List Nat} (loop : List α → S → Res τ) (k : S → Res τ) (envS : S → En) (s0 : S)
    (L : Lk K W F0 H0 rt PT KP) (hT : PT env) (hi : EvI K W env wi m) (hg : ∀ x, GX K g (toD x) (fe x) ws) (h0 : EnLe env (envS s0)) (hnil : ∀ s, loop [] s = k s)
    (hbody : ∀ F1, Lk K W F1 H0 rt PT KP → (∀ s, Blk K F1 H0 KP Z.nx (envS s) (k s)) → ∀ x r s (N : L2.St → Hp → Prop), (∀ s', Blk K F1 H0 KP N (envS s') (loop r s')) →
      Blk K F1 H0 KP (tb { Z with nx := N, ct := N, bk := Z.nx }) (fe x (envS s)) (loop (x :: r) s))
    (hrest : ∀ s, Blk K F0 H0 KP Z.nx (envS s) (k s)) : Blk K F0 H0 KP (tFor wi g tb Z) env (m.bind fun xs => loop xs s0) := fun F H σ S h => by
  refine hi F0 H0 F H σ _ S (L.ki hT S h fun xs J F1 H1 e1 a1 js h1 => ?_)
  have S1 := (S.step a1).weak h0
  have S11 : Sl K F1 H0 F1 H1 σ (envS s0) := ⟨⟨Ex.refl _, S1.adv.h, S1.adv.in_, fun p q _ => q⟩, S1.slot, S1.dis, S1.len⟩
  have hB := hbody F1 (L.base S1) (fun s => (hrest s).base S1)
  have hn : (xs.map toD).length = xs.length := List.length_map ..
  refine ⟨fun i m σ H => m = xs.length - i ∧ i ≤ xs.length ∧ ∃ F s, Sl K F1 H0 F H σ (envS s) ∧ KP (loop (xs.drop i) s), ⟨xs.length, rfl, Nat.zero_le _, F1, s0, S11, h1⟩, ?_⟩
  rintro i m σ H ⟨rfl, hle, F, s, S, h⟩
  by_cases hlt : i < xs.length
  · refine .inr ⟨js.go i H (S.adv.f.trans S.ex) (by rw [hn]; exact hlt), fun σ' H' => ∃ F s, Sl K F1 H0 F H' σ' (envS s) ∧ KP (loop (xs.drop (i + 1)) s), fun σ' H' w => ⟨_, by omega, rfl, hlt, w⟩, fun v H' hy => ?_⟩
    obtain ⟨F2, x, a2, ex, rx⟩ := js.yld i H v H' F S.adv.f S.ex (by rw [hn]; exact hlt) hy
    rw [List.getElem?_map, List.getElem?_eq_getElem hlt] at ex
    cases ex
    refine hg xs[i] F1 H0 F2 H' σ (envS s) v _ (S.step a2) rx fun σ' S' _ _ => ?_
    have e : xs.drop i = xs[i] :: xs.drop (i + 1) := List.drop_eq_getElem_cons hlt
    rw [e] at h
    exact hB xs[i] (xs.drop (i + 1)) s _ (fun s' F H σ S h => ⟨F, s', S, h⟩) F2 H' σ' S' h
  · have e : xs.drop i = [] := List.drop_of_length_le (by omega)
    rw [e, hnil] at h
    exact .inl ⟨js.stop i H (S.adv.f.trans S.ex) (by rw [hn]; omega), (hrest s).base S1 F H σ S h⟩
theorem blk_while {S : Type} {tb : TS} (loop : Nat → S → Res τ) (test : S → Res Bool) (body : Nat → S → Res τ) (k : S → Res τ) (envS : S → En) (s0 : S) (fuel : Nat)
    (L : Lk K W F0 H0 rt PT KP) (hT : ∀ s, PT (envS s)) (h0 : EnLe env (envS s0)) (hc : ∀ s, EvT K W (envS s) tt (test s)) (l0 : ∀ s, loop 0 s = .stuck) (l1 : ∀ n s, loop (n + 1) s = (test s).bind fun b => cond b (body n s) (k s))
    (hbody : ∀ n s (N : L2.St → Hp → Prop), (∀ s', Blk K F0 H0 KP N (envS s') (loop n s')) → Blk K F0 H0 KP (tb { Z with nx := N, ct := N, bk := Z.nx }) (envS s) (body n s))
    (hrest : ∀ s, Blk K F0 H0 KP Z.nx (envS s) (k s)) : Blk K F0 H0 KP (tWhile tt tb Z) env (loop fuel s0) := fun F H σ S h => by
  refine ⟨fun n σ H => ∃ F s, Sl K F0 H0 F H σ (envS s) ∧ KP (loop n s), ⟨fuel, F, s0, S.weak h0, h⟩, ?_⟩
  rintro n σ H ⟨F, s, S, h⟩
  cases n with
  | zero => rw [l0] at h; exact (L.no h).elim
  | succ n =>
    rw [l1] at h
    refine hc s F0 H0 F H σ _ S (L.kt (hT s) S h fun b F1 H1 e1 a1 h1 => ?_)
    cases b with
    | true =>
      show ∃ N, _
      exact ⟨fun σ' H' => ∃ F s, Sl K F0 H0 F H' σ' (envS s) ∧ KP (loop n s), fun σ' H' w => ⟨n, Nat.lt_succ_self n, w⟩, hbody n s _ (fun s' F H σ S h => ⟨F, s', S, h⟩) F1 H1 σ (S.step a1) h1⟩
    | false => exact hrest s F1 H1 σ (S.step a1) h1

/-! ### comprehensions -/
def compL {α β : Type} (t : α → Res Bool) (e : α → Res β) : List α → Res (List β)
  | [] => .ok []
  | x :: r => (t x).bind fun b => cond b ((e x).bind fun y => (compL t e r).bind fun ys => .ok (y :: ys)) (compL t e r)
def mapL {α β : Type} (e : α → Res β) : List α → Res (List β)
  | [] => .ok []
  | x :: r => (e x).bind fun y => (mapL e r).bind fun ys => .ok (y :: ys)
theorem compL_yes {α β : Type} (e : α → Res β) : ∀ xs : List α, compL (fun _ => .ok true) e xs = mapL e xs
  | [] => rfl
  | x :: r => by
    show (e x).bind _ = (e x).bind _
    rw [compL_yes e r]
end
end Mi
set_option maxHeartbeats 1000000
namespace Mi
open PySem PySem.Spec L2
open Evl (Ex)
section
variable {K : PySem.W.Frag} {W : WX} {F0 H0 F H F' H' F1 : Hp} {rt : VK} {PT : En → Prop} {env env' : En} {α β γ τ : Type} [ToD α] [ToD β] [ToD γ] [ToD τ] {KP : Res τ → Prop} {te ta tb tc : TE} {tt : TT} {Z : Ends} {t u : TS} {T : L2.St → Hp → Prop} {σ : L2.St}

/-! ### comprehensions -/
theorem Sl.updN (S : Sl K F0 H0 F H σ env) {p : Addr} {o : HO} (hp : F p = none) (h0 : H0 p = none) (hn : ∀ (i : Nat) (sk : Sk), env[i]? = some (some sk) → sk.own = true → σ[i]? ≠ some (some (V.ref p))) : Sl K F0 H0 F (upd H p o) σ env := by
  refine ⟨⟨S.adv.f, fun a u q => ?_, fun a u q => ?_, S.adv.out⟩, fun j sk q => ?_, S.dis, S.len⟩
  · rw [upd_ne (ne_of_none q h0)]; exact S.adv.h a u q
  · rw [upd_ne (ne_of_none q hp)]; exact S.adv.in_ a u q
  · obtain ⟨w, h1, h2⟩ := S.slot j sk q
    exact ⟨w, h1, h2.updH fun o2 zz => hn j sk q o2 (by rw [h1, zz])⟩
/-- the names of a comprehension are forgotten -/
def unset : List Nat → En → En
  | [], e => e
  | i :: is, e => (unset is e).set i none
theorem unset_len (e : En) : ∀ ws : List Nat, (unset ws e).length = e.length
  | [] => rfl
  | i :: is => by show ((unset is e).set i none).length = _; rw [List.length_set, unset_len e is]
theorem unset_get {e : En} {j : Nat} {sk : Sk} : ∀ {ws : List Nat}, (unset ws e)[j]? = some (some sk) → e[j]? = some (some sk) ∧ j ∉ ws
  | [], h => ⟨h, by simp⟩
  | i :: is, h => by
    have h : ((unset is e).set i none)[j]? = some (some sk) := h
    rcases set_get h with ⟨_, z⟩ | ⟨z, h⟩
    · cases z
    · obtain ⟨h1, h2⟩ := unset_get h
      exact ⟨h1, by simp only [List.mem_cons, not_or]; exact ⟨fun e => z e.symm, h2⟩⟩
theorem Sl.wipe (S : Sl K F0 H0 F H σ env) (ws : List Nat) : Sl K F0 H0 F H (L2.wipe σ ws) (unset ws env) := by
  refine ⟨S.adv, fun i sk e => ?_, fun i j xs ys p hij e1 e2 o1 o2 h1 => ?_, by rw [wipe_length, unset_len]; exact S.len⟩
  · obtain ⟨e, hn⟩ := unset_get e
    rw [wipe_out hn]; exact S.slot i sk e
  · obtain ⟨e1, n1⟩ := unset_get e1
    obtain ⟨e2, n2⟩ := unset_get e2
    rw [wipe_out n1] at h1
    rw [wipe_out n2]
    exact S.dis i j xs ys p hij e1 e2 o1 o2 h1
theorem wipe_in {j : Nat} : ∀ {ws : List Nat}, j ∈ ws → j < σ.length → (L2.wipe σ ws)[j]? = some none
  | [], h, _ => by cases h
  | i :: is, h, hl => by
    show ((L2.wipe σ is).set i none)[j]? = some none
    by_cases e : i = j
    · subst e
      rw [List.getElem?_set_self (by rw [wipe_length]; exact hl)]
    · rw [List.getElem?_set_ne e]
      rcases List.mem_cons.mp h with z | z
      · exact absurd z.symm e
      · exact wipe_in z hl
theorem wipe_eq {σ' : L2.St} {ws : List Nat} (hl : σ'.length = (L2.wipe σ ws).length) (ho : ∀ j, j ∉ ws → σ'[j]? = (L2.wipe σ ws)[j]?) : L2.wipe σ' ws = L2.wipe σ ws := by
  rw [wipe_length] at hl
  apply List.ext_getElem?
  intro j
  by_cases hj : j ∈ ws
  · by_cases hlt : j < σ.length
    · rw [wipe_in hj hlt, wipe_in hj (by rw [hl]; exact hlt)]
    · rw [List.getElem?_eq_none (by rw [wipe_length]; omega), List.getElem?_eq_none (by rw [wipe_length]; omega)]
  · rw [wipe_out hj, ho j hj]
abbrev WT : WX := fun _ _ _ _ => True
theorem ev_comp {wi : TI} {g : TG} {m : Res (List α)} {fe : α → En → En} {ws : List Nat} {tst : α → Res Bool} {el : α → Res β} (hi : EvI K W env wi m) (hg : ∀ x, GX K g (toD x) (fe x) ws)
    (ht : ∀ x, EvT K WT (fe x (unset ws env)) tt (tst x)) (he : ∀ x, EvX K WT (fe x (unset ws env)) te (el x)) :
    EvN K W env (tLc wi g tt te ws) (m.bind fun xs => .need (xs.length ≤ 16777216) (compL tst el xs)) := fun F0 H0 F H σ Q S k => by
  refine hi F0 H0 F H σ _ S ?_
  cases m with
  | exc c => exact k
  | stuck => exact k.elim
  | ok xs =>
  intro J F1 H1 a1 js D hD
  have k : KN K W F H σ Q (.need (xs.length ≤ 16777216) (compL tst el xs)) := k
  by_cases c : xs.length ≤ 16777216
  case neg => rw [Res.need_neg c] at k; exact k.elim
  rw [Res.need_pos c] at k
  have hn : (xs.map toD).length = xs.length := List.length_map ..
  have hDF : F1 D = none := none_of_ex a1.in_ hD
  have hDH : H D = none := Evl.fresh_back a1.h hD
  have hD0 : H0 D = none := Evl.fresh_back S.adv.h hDH
  -- the new list is none of the slots'
  have hne : ∀ (i : Nat) (sk : Sk), env[i]? = some (some sk) → sk.own = true → σ[i]? ≠ some (some (V.ref D)) := fun i sk e ho z => by
    obtain ⟨v, e1, q⟩ := S.slot i _ e
    obtain ⟨p, o, rfl, _, _, q⟩ := q.at ho
    rw [e1] at z; cases z
    rw [hDH] at q; cases q
  have S1 : Sl K F0 H0 F1 (upd H1 D (.lst [])) σ env := (S.step a1).updN hDF hD0 hne
  refine ⟨fun i n H' => n = xs.length - i ∧ i ≤ xs.length ∧ ∃ F' acc vs, Sl K F0 H0 F' H' σ env ∧ Adv F H F' H' ∧ Ex F1 F' ∧ F' D = none ∧ H' D = some (.lst vs) ∧ Reps K F' (acc.map toD) vs ∧ acc.length ≤ i ∧
    (∀ ys, compL tst el (xs.drop i) = .ok ys → compL tst el xs = .ok (acc ++ ys)) ∧ (∀ c, compL tst el (xs.drop i) = .exc c → compL tst el xs = .exc c) ∧ (compL tst el (xs.drop i) = .stuck → compL tst el xs = .stuck),
    ⟨xs.length, rfl, Nat.zero_le _, F1, ([] : List β), [], S1, a1.trans (Adv.newO a1.in_ hD), Ex.refl _, hDF, upd_same, (show Reps K F1 [] [] from rfl), Nat.le_refl _, fun ys h => h, fun c h => h, fun h => h⟩, ?_⟩
  rintro i n H2 ⟨rfl, hle, F2, acc, vs, S2, a2, x2, f2, h2, r2, l2, q1, q2, q3⟩
  by_cases hlt : i < xs.length
  · refine .inr ⟨js.go i H2 (x2.trans a2.in_) (by rw [hn]; exact hlt), fun H' => (i + 1 ≤ xs.length ∧ ∃ F' acc vs, Sl K F0 H0 F' H' σ env ∧ Adv F H F' H' ∧ Ex F1 F' ∧ F' D = none ∧ H' D = some (.lst vs) ∧ Reps K F' (acc.map toD) vs ∧ acc.length ≤ i + 1 ∧
      (∀ ys, compL tst el (xs.drop (i + 1)) = .ok ys → compL tst el xs = .ok (acc ++ ys)) ∧ (∀ c, compL tst el (xs.drop (i + 1)) = .exc c → compL tst el xs = .exc c) ∧ (compL tst el (xs.drop (i + 1)) = .stuck → compL tst el xs = .stuck)),
      fun H' w => ⟨_, by omega, rfl, w⟩, fun v H3 hy => ?_⟩
    obtain ⟨F3, x, a3, ex, rx⟩ := js.yld i H2 v H3 F2 x2 a2.in_ (by rw [hn]; exact hlt) hy
    rw [List.getElem?_map, List.getElem?_eq_getElem hlt] at ex
    cases ex
    have e : xs.drop i = xs[i] :: xs.drop (i + 1) := List.drop_eq_getElem_cons hlt
    rw [e] at q1 q2 q3
    have S3 := S2.step a3
    refine hg xs[i] F0 H0 F3 H3 _ _ v _ (S3.wipe ws) rx fun σ' S' sl so => ⟨wipe_eq sl so, ?_⟩
    have f3 : F3 D = none := a3.out D f2 (by rw [h2]; simp)
    refine ht xs[i] F0 H0 F3 H3 σ' _ S' ?_
    cases qt : tst xs[i] with
    | exc c => exact fun _ _ _ => trivial
    | stuck =>
      have := q3 (by show (tst xs[i]).bind _ = _; rw [qt]; rfl)
      rw [this] at k; exact k.elim
    | ok b =>
    intro F4 H4 a4
    have f4 : F4 D = none := a4.out D f3 (by rw [a3.h _ _ h2]; simp)
    cases b with
    | false =>
      show i + 1 ≤ xs.length ∧ _
      refine ⟨hlt, F4, acc, vs, S3.step a4, (a2.trans a3).trans a4, (x2.trans a3.f).trans a4.f, f4, a4.h _ _ (a3.h _ _ h2), Reps.mono (a3.trans a4).f _ _ r2, by omega, fun ys h => ?_, fun c h => ?_, fun h => ?_⟩
      · exact q1 ys (by show (tst xs[i]).bind _ = _; rw [qt]; exact h)
      · exact q2 c (by show (tst xs[i]).bind _ = _; rw [qt]; exact h)
      · exact q3 (by show (tst xs[i]).bind _ = _; rw [qt]; exact h)
    | true =>
      show te σ' H4 _
      refine he xs[i] F0 H0 F4 H4 σ' _ (S'.step a4) ?_
      cases qe : el xs[i] with
      | exc c => exact fun _ _ _ => trivial
      | stuck =>
        have := q3 (by show (tst xs[i]).bind _ = _; rw [qt]; show (el xs[i]).bind _ = _; rw [qe]; rfl)
        rw [this] at k; exact k.elim
      | ok y =>
      intro w F5 H5 a5 r5
      have f5 : F5 D = none := a5.out D f4 (by rw [a4.h _ _ (a3.h _ _ h2)]; simp)
      have h5 : H5 D = some (.lst vs) := a5.h _ _ (a4.h _ _ (a3.h _ _ h2))
      have ad := ((a2.trans a3).trans a4).trans a5
      refine ⟨vs, h5, by rw [sizeLine_eq, ← r2.length, List.length_map]; omega, hlt, F5, acc ++ [y], vs ++ [w], ((S3.step a4).step a5).updN f5 hD0 hne, ⟨ad.f, fun a u q => ?_, fun a u q => ?_, ad.out⟩,
        ((x2.trans a3.f).trans a4.f).trans a5.f, f5, upd_same, ?_, by rw [List.length_append]; simp; omega, fun ys h => ?_, fun c h => ?_, fun h => ?_⟩
      · rw [upd_ne (ne_of_none q hDH)]; exact ad.h a u q
      · rw [upd_ne (ne_of_none q f5)]; exact ad.in_ a u q
      · rw [List.map_append]
        exact Reps.append (Reps.mono ((a3.trans a4).trans a5).f _ _ r2) (Reps.one r5)
      · rw [q1 (y :: ys) (by show (tst xs[i]).bind _ = _; rw [qt]; show (el xs[i]).bind _ = _; rw [qe]; show (compL tst el _).bind _ = _; rw [h]; rfl)]
        rw [List.append_assoc]; rfl
      · exact q2 c (by show (tst xs[i]).bind _ = _; rw [qt]; show (el xs[i]).bind _ = _; rw [qe]; show (compL tst el _).bind _ = _; rw [h]; rfl)
      · exact q3 (by show (tst xs[i]).bind _ = _; rw [qt]; show (el xs[i]).bind _ = _; rw [qe]; show (compL tst el _).bind _ = _; rw [h]; rfl)
  · have e : xs.drop i = [] := List.drop_of_length_le (by omega)
    rw [e] at q1
    have := q1 [] rfl
    rw [List.append_nil] at this
    rw [this] at k
    exact .inl ⟨js.stop i H2 (x2.trans a2.in_) (by rw [hn]; omega), k D vs F2 H2 a2 hDH f2 h2 r2⟩
theorem et_yes : EvT K W env tYes (.ok true) := fun F0 H0 F H σ Q S k => k F H (Adv.refl S.ex)

/-! ### built-in defs -/
theorem cx_len : CrX K (fun xs H Q => ∃ p ys, xs = [.ref p] ∧ (SqL K H p ys ∨ SqT K H p ys) ∧ Q (.int ys.length) H) (fun (p : List α × Unit) => .ok (p.1.length : Int)) := fun F H x vs Q e r k => by
  obtain ⟨v, r1, rfl, ⟨a, ws, rfl, hl, hr⟩, h2⟩ := r
  cases (show r1 = [] from h2)
  refine ⟨a, ws, rfl, .inl (Evl.ex_l e hl), ?_⟩
  rw [← hr.length, List.length_map]
  exact k _ F H (Adv.refl e) rfl
theorem cx_lenT {n : Nat} (hn : ∀ x : α, ∃ ds, toD x = .tup ds ∧ ds.length = n) : CrX K (fun xs H Q => ∃ p ys, xs = [.ref p] ∧ (SqL K H p ys ∨ SqT K H p ys) ∧ Q (.int ys.length) H) (fun (p : α × Unit) => .ok (n : Int)) := fun F H x vs Q e r k => by
  obtain ⟨v, r1, rfl, hv, h2⟩ := r
  obtain ⟨ds, e1, e2⟩ := hn x.1
  have hv : Rep K F (toD x.1) v := hv
  rw [e1] at hv
  obtain ⟨a, ws, rfl, hl, hr⟩ := hv
  cases (show r1 = [] from h2)
  refine ⟨a, ws, rfl, .inr (Evl.ex_t e hl), ?_⟩
  rw [← hr.length, e2]
  exact k _ F H (Adv.refl e) rfl
theorem ev_lenO {j : Nat} {xs : List α} (h : env[j]? = some (some (.ow (xs.map toD)))) : EvX K W env (tCB (fun xs H Q => ∃ p ys, xs = [V.ref p] ∧ (SqL K H p ys ∨ SqT K H p ys) ∧ Q (.int ys.length) H) (tCons (tVar j) tNil)) (.ok (xs.length : Int)) := fun F0 H0 F H σ Q S k => by
  obtain ⟨v, e, p, vs, rfl, h0, hf, hp, hr⟩ := S.slot j _ h
  refine ⟨_, e, p, vs, rfl, .inl (.inl (.inl hp)), ?_⟩
  rw [← hr.length, List.length_map]
  exact k _ F H (Adv.refl S.ex) rfl
theorem cx_abs : CrX K (fun xs H Q => ∃ i, xs = [.int i] ∧ Q (.int (if i < 0 then -i else i)) H) (fun (p : Int × Unit) => .ok (p.1.natAbs : Int)) := fun F H x vs Q e r k => by
  obtain ⟨v, r1, rfl, h1, h2⟩ := r
  cases (show r1 = [] from h2); cases (show v = V.int x.1 from h1)
  refine ⟨x.1, rfl, ?_⟩
  have q : (if x.1 < 0 then -x.1 else x.1) = (x.1.natAbs : Int) := by split <;> omega
  rw [q]
  exact k _ F H (Adv.refl e) rfl
theorem cx_max : CrX K (fun xs H Q => ∃ i j, xs = [.int i, .int j] ∧ Q (.int (if j > i then j else i)) H) (fun (p : Int × Int × Unit) => .ok (max p.1 p.2.1)) := fun F H x vs Q e r k => by
  obtain ⟨v, r1, rfl, h1, w, r2, rfl, h2, h3⟩ := r
  cases (show r2 = [] from h3); cases (show v = V.int x.1 from h1); cases (show w = V.int x.2.1 from h2)
  refine ⟨x.1, x.2.1, rfl, ?_⟩
  have q : (if x.2.1 > x.1 then x.2.1 else x.1) = max x.1 x.2.1 := by split <;> omega
  rw [q]
  exact k _ F H (Adv.refl e) rfl
theorem cx_min : CrX K (fun xs H Q => ∃ i j, xs = [.int i, .int j] ∧ Q (.int (if j < i then j else i)) H) (fun (p : Int × Int × Unit) => .ok (min p.1 p.2.1)) := fun F H x vs Q e r k => by
  obtain ⟨v, r1, rfl, h1, w, r2, rfl, h2, h3⟩ := r
  cases (show r2 = [] from h3); cases (show v = V.int x.1 from h1); cases (show w = V.int x.2.1 from h2)
  refine ⟨x.1, x.2.1, rfl, ?_⟩
  have q : (if x.2.1 < x.1 then x.2.1 else x.1) = min x.1 x.2.1 := by split <;> omega
  rw [q]
  exact k _ F H (Adv.refl e) rfl
theorem cx_int : CrX K (fun xs H Q => (∃ i, xs = [.int i] ∧ Q (.int i) H) ∨ ∃ k, xs = [.bl k] ∧ Q (.int (if k then 1 else 0)) H) (fun (p : Int × Unit) => .ok p.1) := fun F H x vs Q e r k => by
  obtain ⟨v, r1, rfl, h1, h2⟩ := r
  cases (show r1 = [] from h2); cases (show v = V.int x.1 from h1)
  exact .inl ⟨x.1, rfl, k _ F H (Adv.refl e) rfl⟩
theorem cx_intB : CrX K (fun xs H Q => (∃ i, xs = [.int i] ∧ Q (.int i) H) ∨ ∃ k, xs = [.bl k] ∧ Q (.int (if k then 1 else 0)) H) (fun (p : Bool × Unit) => .ok (if p.1 = true then (1 : Int) else 0)) := fun F H x vs Q e r k => by
  obtain ⟨v, r1, rfl, h1, h2⟩ := r
  cases (show r1 = [] from h2); cases (show v = V.bl x.1 from h1)
  exact .inr ⟨x.1, rfl, k _ F H (Adv.refl e) rfl⟩
/-- the greatest, the least of a list that is not empty -/
def lmax : List Int → Int
  | [] => 0
  | x :: r => r.foldl max x
def lmin : List Int → Int
  | [] => 0
  | x :: r => r.foldl min x
theorem foldl_max_ge (r : List Int) : ∀ x, x ≤ r.foldl max x ∧ ∀ y ∈ r, y ≤ r.foldl max x := by
  induction r with
  | nil => intro x; exact ⟨Int.le_refl _, fun y h => by cases h⟩
  | cons a r ih =>
    intro x
    obtain ⟨h1, h2⟩ := ih (max x a)
    refine ⟨by have : x ≤ max x a := Int.le_max_left ..; exact Int.le_trans this h1, fun y hy => ?_⟩
    rcases List.mem_cons.mp hy with rfl | hy
    · exact Int.le_trans (Int.le_max_right ..) h1
    · exact h2 y hy
theorem foldl_max_mem (r : List Int) : ∀ x, r.foldl max x = x ∨ r.foldl max x ∈ r := by
  induction r with
  | nil => intro x; exact .inl rfl
  | cons a r ih =>
    intro x
    rcases ih (max x a) with h | h
    · show List.foldl max (max x a) r = x ∨ List.foldl max (max x a) r ∈ _
      rw [h]
      by_cases c : x ≤ a
      · rw [Int.max_eq_right c]; exact .inr List.mem_cons_self
      · rw [Int.max_eq_left (by omega)]; exact .inl rfl
    · exact .inr (List.mem_cons_of_mem _ h)
theorem foldl_min_le (r : List Int) : ∀ x, r.foldl min x ≤ x ∧ ∀ y ∈ r, r.foldl min x ≤ y := by
  induction r with
  | nil => intro x; exact ⟨Int.le_refl _, fun y h => by cases h⟩
  | cons a r ih =>
    intro x
    obtain ⟨h1, h2⟩ := ih (min x a)
    refine ⟨by have : min x a ≤ x := Int.min_le_left ..; exact Int.le_trans h1 this, fun y hy => ?_⟩
    rcases List.mem_cons.mp hy with rfl | hy
    · exact Int.le_trans h1 (Int.min_le_right ..)
    · exact h2 y hy
theorem foldl_min_mem (r : List Int) : ∀ x, r.foldl min x = x ∨ r.foldl min x ∈ r := by
  induction r with
  | nil => intro x; exact .inl rfl
  | cons a r ih =>
    intro x
    rcases ih (min x a) with h | h
    · show List.foldl min (min x a) r = x ∨ List.foldl min (min x a) r ∈ _
      rw [h]
      by_cases c : x ≤ a
      · rw [Int.min_eq_left c]; exact .inl rfl
      · rw [Int.min_eq_right (by omega)]; exact .inr List.mem_cons_self
    · exact .inr (List.mem_cons_of_mem _ h)
theorem lmax_spec {ns : List Int} {m : Int} (h1 : m ∈ ns) (h2 : ∀ y ∈ ns, y ≤ m) : m = lmax ns := by
  cases ns with
  | nil => cases h1
  | cons x r =>
    show m = r.foldl max x
    obtain ⟨g1, g2⟩ := foldl_max_ge r x
    have a : m ≤ r.foldl max x := by
      rcases List.mem_cons.mp h1 with rfl | h
      · exact g1
      · exact g2 m h
    have b : r.foldl max x ≤ m := by
      rcases foldl_max_mem r x with e | e
      · rw [e]; exact h2 x List.mem_cons_self
      · exact h2 _ (List.mem_cons_of_mem _ e)
    omega
theorem lmin_spec {ns : List Int} {m : Int} (h1 : m ∈ ns) (h2 : ∀ y ∈ ns, m ≤ y) : m = lmin ns := by
  cases ns with
  | nil => cases h1
  | cons x r =>
    show m = r.foldl min x
    obtain ⟨g1, g2⟩ := foldl_min_le r x
    have a : r.foldl min x ≤ m := by
      rcases List.mem_cons.mp h1 with rfl | h
      · exact g1
      · exact g2 m h
    have b : m ≤ r.foldl min x := by
      rcases foldl_min_mem r x with e | e
      · rw [e]; exact h2 x List.mem_cons_self
      · exact h2 _ (List.mem_cons_of_mem _ e)
    omega
theorem cx_lmax : CrX K (rMax K) (fun (p : List Int × Unit) => .need (0 < p.1.length) (.ok (lmax p.1))) := fun F H x vs Q e r k => by
  obtain ⟨v, r1, rfl, ⟨a, ws, rfl, hl, hr⟩, h2⟩ := r
  cases (show r1 = [] from h2)
  have e2 : ws = x.1.map V.int := Reps.ints hr
  subst e2
  by_cases c : 0 < x.1.length
  · dsimp only at k
    rw [Res.need_pos c] at k
    refine ⟨a, x.1, rfl, Evl.ex_l e hl, c, fun m h1 h2 => ?_⟩
    rw [lmax_spec h1 h2]
    exact k _ F H (Adv.refl e) rfl
  · dsimp only at k; rw [Res.need_neg c] at k; exact k.elim
theorem cx_lmin : CrX K (rMin K) (fun (p : List Int × Unit) => .need (0 < p.1.length) (.ok (lmin p.1))) := fun F H x vs Q e r k => by
  obtain ⟨v, r1, rfl, ⟨a, ws, rfl, hl, hr⟩, h2⟩ := r
  cases (show r1 = [] from h2)
  have e2 : ws = x.1.map V.int := Reps.ints hr
  subst e2
  by_cases c : 0 < x.1.length
  · dsimp only at k
    rw [Res.need_pos c] at k
    refine ⟨a, x.1, rfl, Evl.ex_l e hl, c, fun m h1 h2 => ?_⟩
    rw [lmin_spec h1 h2]
    exact k _ F H (Adv.refl e) rfl
  · dsimp only at k; rw [Res.need_neg c] at k; exact k.elim
theorem cx_sum : CrX K (rSum K) (fun (p : List Int × Unit) => .ok p.1.sum) := fun F H x vs Q e r k => by
  obtain ⟨v, r1, rfl, ⟨a, ws, rfl, hl, hr⟩, h2⟩ := r
  cases (show r1 = [] from h2)
  have e2 : ws = x.1.map V.int := Reps.ints hr
  subst e2
  exact ⟨a, x.1, rfl, Evl.ex_l e hl, k _ F H (Adv.refl e) rfl⟩
theorem cx_all : CrX K (rAll K) (fun (p : List Bool × Unit) => .ok (p.1.all id)) := fun F H x vs Q e r k => by
  obtain ⟨v, r1, rfl, ⟨a, ws, rfl, hl, hr⟩, h2⟩ := r
  cases (show r1 = [] from h2)
  have e2 : ws = x.1.map V.bl := Reps.bls hr
  subst e2
  exact ⟨a, x.1, rfl, Evl.ex_l e hl, k _ F H (Adv.refl e) rfl⟩
theorem cx_any : CrX K (rAny K) (fun (p : List Bool × Unit) => .ok (p.1.any id)) := fun F H x vs Q e r k => by
  obtain ⟨v, r1, rfl, ⟨a, ws, rfl, hl, hr⟩, h2⟩ := r
  cases (show r1 = [] from h2)
  have e2 : ws = x.1.map V.bl := Reps.bls hr
  subst e2
  exact ⟨a, x.1, rfl, Evl.ex_l e hl, k _ F H (Adv.refl e) rfl⟩
/-- list(xs): a new list -/
theorem en_list {m : Res (List α)} (h : EvX K W env te m) : EvN K W env (tCB (fun xs H Q => ∃ p ys, xs = [V.ref p] ∧ (SqL K H p ys ∨ SqT K H p ys) ∧ ∀ l, H l = none → Q (.ref l) (upd H l (.lst ys))) (tCons te tNil)) m := fun F0 H0 F H σ Q S k => by
  refine h F0 H0 F H σ _ S ?_
  cases m with
  | ok xs =>
    intro v F1 H1 a r
    obtain ⟨p, vs, rfl, h1, h2⟩ := r
    exact ⟨p, vs, rfl, .inl (Evl.ex_l a.in_ h1), fun l hl => k l vs F1 _ (a.trans (Adv.newO a.in_ hl)) (Evl.fresh_back a.h hl) (none_of_ex a.in_ hl) upd_same h2⟩
  | exc c => exact k
  | stuck => exact k.elim
theorem en_listT {m : Res (Tu α)} (h : EvX K W env te m) : EvN K W env (tCB (fun xs H Q => ∃ p ys, xs = [V.ref p] ∧ (SqL K H p ys ∨ SqT K H p ys) ∧ ∀ l, H l = none → Q (.ref l) (upd H l (.lst ys))) (tCons te tNil)) (m.bind fun x => .ok x.xs) := fun F0 H0 F H σ Q S k => by
  refine h F0 H0 F H σ _ S ?_
  cases m with
  | ok xs =>
    intro v F1 H1 a r
    obtain ⟨p, vs, rfl, h1, h2⟩ := r
    exact ⟨p, vs, rfl, .inr (Evl.ex_t a.in_ h1), fun l hl => k l vs F1 _ (a.trans (Adv.newO a.in_ hl)) (Evl.fresh_back a.h hl) (none_of_ex a.in_ hl) upd_same h2⟩
  | exc c => exact k
  | stuck => exact k.elim
/-- tuple(xs) of a list -/
theorem ev_tupleL {m : Res (List α)} (h : EvX K W env te m) : EvX K W env (tCB (fun xs H Q => ∃ p ys, xs = [V.ref p] ∧ ((SqL K H p ys ∧ ∀ l, H l = none → Q (.ref l) (upd H l (.tup ys))) ∨ (SqT K H p ys ∧ Q (.ref p) H))) (tCons te tNil)) (m.bind fun x => .ok (Tu.mk x)) := fun F0 H0 F H σ Q S k => by
  refine h F0 H0 F H σ _ S ?_
  cases m with
  | ok xs =>
    intro v F1 H1 a r
    obtain ⟨p, vs, rfl, h1, h2⟩ := r
    refine ⟨p, vs, rfl, .inl ⟨Evl.ex_l a.in_ h1, fun l hl => ?_⟩⟩
    have a2 : Adv F1 H1 (upd F1 l (.tup vs)) (upd H1 l (.tup vs)) := Adv.new a.in_ hl
    exact k _ _ _ (a.trans a2) ⟨l, vs, rfl, .inl (.inl upd_same), Reps.mono a2.f _ _ h2⟩
  | exc c => exact k
  | stuck => exact k.elim
/-- xs[lo:hi] -/
theorem en_slice {m : Res (List α)} {lo hi : Option Int} {tl th : TO} (h : EvX K W env te m) (hl : ∀ σ H Q, Q lo H → tl σ H Q) (hh : ∀ σ H Q, Q hi H → th σ H Q) :
    EvN K W env (tSl (rSlL K) te tl th) (m.bind fun xs => .ok ((xs.drop (HT.sIx xs.length 0 lo)).take (HT.sIx xs.length xs.length hi - HT.sIx xs.length 0 lo))) := fun F0 H0 F H σ Q S k => by
  refine h F0 H0 F H σ _ S ?_
  cases m with
  | ok xs =>
    intro v F1 H1 a r
    obtain ⟨p, vs, rfl, h1, h2⟩ := r
    refine hl _ _ _ (hh _ _ _ ⟨p, vs, rfl, Evl.ex_l a.in_ h1, fun l hl => ?_⟩)
    refine k l _ F1 _ (a.trans (Adv.newO a.in_ hl)) (Evl.fresh_back a.h hl) (none_of_ex a.in_ hl) upd_same ?_
    have e : xs.length = vs.length := by have := h2.length; rwa [List.length_map] at this
    unfold cutV
    rw [List.map_take, List.map_drop, e]
    exact Reps.take _ (Reps.drop _ h2)
  | exc c => exact k
  | stuck => exact k.elim
theorem to_none : ∀ (σ : L2.St) (H : Hp) (Q : Option Int → Hp → Prop), Q none H → tNoPart σ H Q := fun _ _ _ q => q
theorem to_int {i : Int} : ∀ (σ : L2.St) (H : Hp) (Q : Option Int → Hp → Prop), Q (some i) H → tPart (tC (.int i)) σ H Q := fun _ _ _ q => ⟨i, rfl, q⟩

/-! ### isinstance of data -/
def tyName : D → String
  | .non => "NoneType" | .bl _ => "bool" | .int _ => "int" | .str _ => "str" | .ty _ => "type" | .tup _ => "tuple" | .lst _ => "list" | .obj _ _ _ => "object"
def D.plain : D → Bool
  | .ty _ => false | .obj _ _ _ => false | _ => true
theorem tyx_of {x : D} {v : V} (h : Rep K F x v) (e : Ex F H) (p : x.plain = true) : TyX K H v (.type (tyName x)) := by
  cases x with
  | non => rw [show v = V.non from h]; exact .base .non
  | bl b => rw [show v = V.bl b from h]; exact .base (.bl b)
  | int b => rw [show v = V.int b from h]; exact .base (.int b)
  | str b => rw [show v = V.str b from h]; exact .base (.str b)
  | ty b => cases p
  | obj c ks ds => cases p
  | lst ds =>
    obtain ⟨a, vs, rfl, hl, _⟩ := h
    rcases Evl.ex_l e hl with (q | ⟨o, q⟩) | ⟨o, its, n, q1, q2, _⟩
    · exact .base (.lst q)
    · exact .base (.frz q)
    · exact .kList q1 q2
  | tup ds =>
    obtain ⟨a, vs, rfl, hl, _⟩ := h
    rcases Evl.ex_t e hl with (q | ⟨o, q⟩) | ⟨o, its, n, q1, q2, _⟩
    · exact .base (.tup q)
    · exact .fTuple q
    · exact .kTuple q1 q2
/-- isinstance(x, T), T a built-in class, x any data but objects -/
def isI (n : String) (x : D) : Bool := tyName x == n || (n == "int" && tyName x == "bool")
def isiOk (n : String) : Prop := kitB "NoneType" n = some ("NoneType" == n) ∧ kitB "bool" n = some ("bool" == n || n == "int") ∧ kitB "int" n = some ("int" == n) ∧ kitB "str" n = some ("str" == n) ∧ kitB "tuple" n = some ("tuple" == n) ∧ kitB "list" n = some ("list" == n)
theorem ev_isi {n : String} {m : Res α} (hn : isiOk n) (h : EvX K W env te m) : EvX K W env (tCB (rIsi K) (tCons te (tCons (tC (.ty n)) tNil))) (m.bind fun x => .need ((toD x).plain = true) (.ok (isI n (toD x)))) := fun F0 H0 F H σ Q S k => by
  refine h F0 H0 F H σ _ S (KE.cut S.ex k fun x v F1 H1 e1 a1 r1 k1 => ?_)
  by_cases c : (toD x).plain = true
  · rw [Res.need_pos c] at k1
    refine ⟨v, .ty n, _, _, isI n (toD x), rfl, .ty n, tyx_of r1 a1.in_ c, ?_, k1 _ F1 H1 (Adv.refl a1.in_) rfl⟩
    refine kit_ty ?_
    obtain ⟨h1, h2, h3, h4, h5, h6⟩ := hn
    revert c
    generalize toD x = y
    intro c
    cases y with
    | non => rw [show tyName .non = "NoneType" from rfl, h1]; simp [isI, tyName]
    | bl b => rw [show tyName (.bl b) = "bool" from rfl, h2]; simp [isI, tyName]
    | int b => rw [show tyName (.int b) = "int" from rfl, h3]; simp [isI, tyName]
    | str b => rw [show tyName (.str b) = "str" from rfl, h4]; simp [isI, tyName]
    | tup b => rw [show tyName (.tup b) = "tuple" from rfl, h5]; simp [isI, tyName]
    | lst b => rw [show tyName (.lst b) = "list" from rfl, h6]; simp [isI, tyName]
    | ty b => cases c
    | obj a b d => cases c
  · rw [Res.need_neg c] at k1; exact k1.elim
theorem isi_int : isiOk "int" := by unfold isiOk; decide +kernel
theorem isi_bool : isiOk "bool" := by unfold isiOk; decide +kernel
theorem isi_list : isiOk "list" := by unfold isiOk; decide +kernel
theorem isi_tuple : isiOk "tuple" := by unfold isiOk; decide +kernel
theorem isi_str : isiOk "str" := by unfold isiOk; decide +kernel

/-! ### errors -/
/-- what a body of a try gives: it falls through, or it hands back -/
inductive Fall (S τ : Type) where
  | go (s : S) | back (x : τ)
instance {S τ : Type} [ToD τ] : ToD (Fall S τ) := ⟨fun x => match x with | .go _ => .obj Str.empty [] [.non] | .back x => ToD.d x⟩
theorem no_go {S : Type} {s : S} {v : V} (h : Rep K F (toD (Fall.go s : Fall S τ)) v) : False := by
  obtain ⟨a, dx, vs, _, _, h3, h4⟩ := h
  obtain ⟨w, r, e, _⟩ := h4
  subst e
  simp at h3
/-- the classes of the errors: which they are, which is under which -/
structure Cls (K : PySem.W.Frag) (cs : List Str) (sub : Str → Str → Bool) : Prop where
  exc : ∀ c ∈ cs, ExcC K (He.ga K c)
  exm : ∀ c ∈ cs, ∀ d ∈ cs, PySem.W.exmOne K (.ref (He.ga K c)) (.ref (He.ga K d)) = some (sub c d)
  kit : ∀ c ∈ cs, ∀ d ∈ cs, PySem.W.kitOne K (.ref (He.ga K c)) (.ref (He.ga K d)) = some (sub c d)
  kiv : ∀ c ∈ cs, PySem.W.kitOne K (.ref (He.ga K c)) (.type "ValueError") = some true
/-- the outcome of: try body, except X -/
def tryR {S τ : Type} (known : Str → Bool) (sub : Str → Bool) (m : Res (Fall S τ)) (rest : S → Res τ) (hd : Str → Res τ) : Res τ := match m with
  | .ok (.go s) => rest s
  | .ok (.back x) => .ok x
  | .exc c => if known c = true then (if sub c = true then hd c else .exc c) else .stuck
  | .stuck => .stuck
theorem Sl.setNone {K : PySem.W.Frag} {F0 H0 F H : Hp} {σ : L2.St} {env : En} (S : Sl K F0 H0 F H σ env) (i : Nat) : Sl K F0 H0 F H (σ.set i none) (env.set i none) := by
  refine ⟨S.adv, fun j sk e => ?_, fun j k xs ys p hjk e1 e2 o1 o2 h1 => ?_, by rw [List.length_set, List.length_set]; exact S.len⟩
  · rcases set_get e with ⟨_, z⟩ | ⟨z, e⟩
    · cases z
    · obtain ⟨w, q1, q2⟩ := S.slot j sk e
      exact ⟨w, by rw [List.getElem?_set_ne z]; exact q1, q2⟩
  · rcases set_get e1 with ⟨_, z⟩ | ⟨z1, e1⟩
    · cases z
    rcases set_get e2 with ⟨_, z⟩ | ⟨z2, e2⟩
    · cases z
    rw [List.getElem?_set_ne z1] at h1
    rw [List.getElem?_set_ne z2]
    exact S.dis j k xs ys p hjk e1 e2 o1 o2 h1
/-- the body falls through by s (envS s, rest s), or hands back; the suite hands back, or falls through to mr -/
theorem blk_tryAs {S : Type} {cs : List Str} {sub : Str → Str → Bool} {x : Str} {i : Nat} {tb : WX → TS} {ts : Addr → Value → Option Addr → TS} {envS : S → En} {m : Res (Fall S τ)} {rest : S → Res τ} {hd : Str → Res τ}
    (L : Lk K W F0 H0 rt PT KP) (hT : PT env) (C : Cls K cs sub) (hx : x ∈ cs)
    (hb : ∀ (W' : WX) (KP' : Res (Fall S τ) → Prop), Lk K W' F0 H0 rt (fun e => EnLe e env) KP' → (∀ s, Blk K F0 H0 KP' Z.nx (envS s) (.ok (.go s))) → Blk K F0 H0 KP' (tb W' Z) env m)
    (hs : ∀ (c : Str) (a : Addr) (nx bk ct : L2.St → Hp → Prop), c ∈ cs → sub c x = true → (∀ env' m', Blk K F0 H0 KP Z.nx (env'.set i none) m' → Blk K F0 H0 KP nx env' m') →
      Blk K F0 H0 KP (ts a (.ref (He.ga K c)) none { nx := nx, rt := rt, bk := bk, ct := ct }) (env.set i (some (.raw (.ref a)))) (hd c))
    (hr : ∀ s, Blk K F0 H0 KP Z.nx (envS s) (rest s)) (hZ : Z.rt = rt := by rfl) :
    Blk K F0 H0 KP (tb (wAs K (.ref (He.ga K x)) i ts W Z) Z) env (tryR (fun c => decide (c ∈ cs)) (fun c => sub c x) m rest hd) := fun F H σ S1 h => by
  subst hZ
  refine hb (wAs K (.ref (He.ga K x)) i ts W Z) (fun r => KP (tryR (fun c => decide (c ∈ cs)) (fun c => sub c x) r rest hd)) ⟨fun y h v F H a r => ?_, fun c F H σ env' h p S' => ?_, L.no⟩ (fun s F H σ S h => hr s F H σ S h) F H σ S1 h
  · cases y with
    | go s => exact (no_go r).elim
    | back y => exact L.ok y h v F H a r
  · have h : KP (if decide (c ∈ cs) = true then (if sub c x = true then hd c else .exc c) else .stuck) := h
    by_cases hc : c ∈ cs
    · rw [if_pos (decide_eq_true hc)] at h
      have S2 := S'.weak p
      refine ⟨sub c x, C.exm c hc x hx, fun q a ha => ?_, fun q => ?_⟩
      · rw [if_pos q] at h
        refine hs c a _ _ _ hc q (fun env' m' B F H σ S h => B F H _ (S.setNone i) h) F H _ ?_ h
        refine ⟨S2.adv, fun j sk e => ?_, fun j k xs ys p hjk e1 e2 o1 o2 h1 => ?_, by rw [List.length_set, List.length_set]; exact S2.len⟩
        · rcases set_get e with ⟨rfl, z⟩ | ⟨z, e⟩
          · cases z
            have hi : i < env.length := by
              have h := (List.getElem?_eq_some_iff.mp e).1
              rwa [List.length_set] at h
            exact ⟨_, by rw [List.getElem?_set_self (by rw [S2.len]; exact hi)], rfl⟩
          · obtain ⟨w, q1, q2⟩ := S2.slot j sk e
            exact ⟨w, by rw [List.getElem?_set_ne z]; exact q1, q2⟩
        · rcases set_get e1 with ⟨_, z⟩ | ⟨z1, e1⟩
          · cases z; cases o1
          rcases set_get e2 with ⟨_, z⟩ | ⟨z2, e2⟩
          · cases z; cases o2
          rw [List.getElem?_set_ne z1] at h1
          rw [List.getElem?_set_ne z2]
          exact S2.dis j k xs ys p hjk e1 e2 o1 o2 h1
      · rw [if_neg (by rw [q]; exact Bool.false_ne_true)] at h
        exact L.exc c F H σ env h hT S2
    · rw [if_neg (by simpa using hc)] at h
      exact (L.no h).elim
/-- isinstance(e, C), isinstance(e, (C1, C2)) in the suite -/
def rIsE2 (K : PySem.W.Frag) (a : Addr) (cls : Value) (d : Option Addr) : List V → Hp → VK → Prop := fun xs H Q => ∃ (Dc : Addr) (c : V) (cv : Value) (b : Bool), cls = .ref Dc ∧ d = none ∧ ExcC K Dc ∧ xs = [.ref a, c] ∧ (∀ u, RelV c u → u = cv) ∧ PySem.W.kitOne K (.ref Dc) cv = some b ∧ Q (.bl b) H
theorem call_isE2 {X : Cx} {a : Addr} {cls : Value} {d : Option Addr} {oe : Obj} {pn : List (Addr × Obj)} (hz : Zc cls d oe) (hf : ∃ vs, oe.data = .fields vs) : CallR (X.suite a ((a, oe) :: pn)) (.builtin "isinstance") (rIsE2 X.K a cls d) := by
  intro pins s σ H xs us Q I r h
  obtain ⟨Dc, c, cv, b, rfl, rfl, C, e, k, q, hQ⟩ := h
  exact call_isE (X := X) C hz hf pins s σ H xs us Q I r ⟨c, cv, b, e, k, q, hQ⟩
def rIsET (K : PySem.W.Frag) (a : Addr) (cls : Value) (d : Option Addr) : List V → Hp → VK → Prop := fun xs H Q => ∃ (Dc tp : Addr) (cl : List V) (us : List Value) (b : Bool), cls = .ref Dc ∧ d = none ∧ ExcC K Dc ∧ xs = [.ref a, .ref tp] ∧ H tp = some (.tup cl) ∧ Paired ClsV cl us ∧ PySem.W.kitAny K (.ref Dc) us = some b ∧ Q (.bl b) H
theorem call_isET {X : Cx} {a : Addr} {cls : Value} {d : Option Addr} {oe : Obj} {pn : List (Addr × Obj)} (hz : Zc cls d oe) (hf : ∃ vs, oe.data = .fields vs) : CallR (X.suite a ((a, oe) :: pn)) (.builtin "isinstance") (rIsET X.K a cls d) := by
  intro pins s σ H xs us Q I r h
  obtain ⟨Dc, tp, cl, ws, b, rfl, rfl, C, rfl, hT, k, e, q⟩ := h
  obtain ⟨u1, u2, rfl, r1, r2⟩ := vals2 r
  cases (show u2 = Value.ref tp from r2)
  cases (show u1 = Value.ref a from r1)
  obtain ⟨_, its, rv, o, h1, h2, n, h3⟩ := (show ObjOk X.prog X.w H s.heap tp (.tup cl) from I.hok tp _ hT)
  have e3 := ClsV.all k rv
  subst e3
  obtain ⟨oc, od, dt, sl⟩ := o
  simp only at h2 h3
  subst h2 h3
  obtain ⟨hget, _⟩ := I.pin (a, oe) (List.mem_append.mpr (.inl List.mem_cons_self))
  obtain ⟨vs, hv⟩ := hf
  have J : PySem.W.InstAt s.heap a oe Dc none := by
    obtain ⟨oc, od, oda, osl⟩ := oe
    obtain ⟨h1, h2⟩ := hz
    dsimp only at h1 h2 hv
    subst h1 h2 hv
    exact ⟨hget, rfl, rfl, trivial⟩
  exact PySem.W.kia_tup (PySem.W.handS_kitx_exc C.hg C.hk C.hs C.hd C.ha C.hn C.ht C.hm) I.kIn J h1 e (fun z => nomatch z) fun tk => ⟨.bl b, H, I.tok tk, rfl, q⟩
theorem ev_isE {cs : List Str} {sub : Str → Str → Bool} {c x : Str} {i : Nat} {a : Addr} (C : Cls K cs sub) (hc : c ∈ cs) (hx : x ∈ cs) (h : env[i]? = some (some (.raw (.ref a)))) :
    EvX K W env (tCB (rIsE2 K a (.ref (He.ga K c)) none) (tCons (tVar i) (tCons (tC (.ref (He.ga K x))) tNil))) (.ok (sub c x)) := fun F0 H0 F H σ Q S k => by
  obtain ⟨v, e, q⟩ := S.slot i _ h
  cases (show v = V.ref a from q)
  exact ⟨_, e, He.ga K c, .ref (He.ga K x), .ref (He.ga K x), sub c x, rfl, rfl, C.exc c hc, rfl, fun u r => r, C.kit c hc x hx, k _ F H (Adv.refl S.ex) rfl⟩
theorem ev_isEV {cs : List Str} {sub : Str → Str → Bool} {c : Str} {i : Nat} {a : Addr} (C : Cls K cs sub) (hc : c ∈ cs) (h : env[i]? = some (some (.raw (.ref a)))) :
    EvX K W env (tCB (rIsE2 K a (.ref (He.ga K c)) none) (tCons (tVar i) (tCons (tC (.ty "ValueError")) tNil))) (.ok true) := fun F0 H0 F H σ Q S k => by
  obtain ⟨v, e, q⟩ := S.slot i _ h
  cases (show v = V.ref a from q)
  exact ⟨_, e, He.ga K c, .ty "ValueError", .type "ValueError", true, rfl, rfl, C.exc c hc, rfl, fun u r => r, C.kiv c hc, k _ F H (Adv.refl S.ex) rfl⟩
theorem kit_any {cs : List Str} {sub : Str → Str → Bool} {c : Str} (C : Cls K cs sub) (hc : c ∈ cs) : ∀ {xs : List Str}, (∀ x ∈ xs, x ∈ cs) → PySem.W.kitAny K (.ref (He.ga K c)) (xs.map fun x => .ref (He.ga K x)) = some (xs.any (sub c))
  | [], _ => rfl
  | x :: xs, h => by
    show (match PySem.W.kitOne K (.ref (He.ga K c)) (.ref (He.ga K x)) with | some true => some true | some false => PySem.W.kitAny K (.ref (He.ga K c)) (xs.map fun x => .ref (He.ga K x)) | none => none) = _
    rw [C.kit c hc x (h x List.mem_cons_self), kit_any C hc fun y hy => h y (List.mem_cons_of_mem _ hy)]
    cases q : sub c x <;> simp [q]
theorem ev_isET2 {cs : List Str} {sub : Str → Str → Bool} {c x y : Str} {i : Nat} {a : Addr} (C : Cls K cs sub) (hc : c ∈ cs) (hx : x ∈ cs) (hy : y ∈ cs) (h : env[i]? = some (some (.raw (.ref a)))) :
    EvX K W env (tCB (rIsET K a (.ref (He.ga K c)) none) (tCons (tVar i) (tCons (tTup (tCons (tC (.ref (He.ga K x))) (tCons (tC (.ref (He.ga K y))) tNil))) tNil))) (.ok (sub c x || sub c y)) := fun F0 H0 F H σ Q S k => by
  obtain ⟨v, e, q⟩ := S.slot i _ h
  cases (show v = V.ref a from q)
  refine ⟨_, e, by show 2 ≤ sizeLine; decide, fun p hp => ?_⟩
  have a2 : Adv F H (upd F p (.tup [.ref (He.ga K x), .ref (He.ga K y)])) (upd H p (.tup [.ref (He.ga K x), .ref (He.ga K y)])) := Adv.new S.ex hp
  refine ⟨He.ga K c, p, [.ref (He.ga K x), .ref (He.ga K y)], [.ref (He.ga K x), .ref (He.ga K y)], sub c x || sub c y, rfl, rfl, C.exc c hc, rfl, upd_same, .cons (.own _) (.cons (.own _) .nil), ?_, k _ _ _ a2 rfl⟩
  have := kit_any C hc (xs := [x, y]) (by simp [hx, hy])
  simpa using this
end

/-! ### a def -/
def enStart (N : List Str) (ds : List D) : En := ds.map (fun x => some (.im x)) ++ List.replicate (N.length - ds.length) none
theorem sl_start {K : PySem.W.Frag} {F H : Hp} {N : List Str} {ds : List D} {vs : List V} (e : Ex F H) (r : Reps K F ds vs) : Sl K F H F H (L2.start N vs) (enStart N ds) := by
  have hl := r.length
  refine ⟨Adv.refl e, fun i sk q => ?_, fun i j xs ys p _ q _ oo _ _ => ?_, by simp [L2.start, enStart, hl]⟩
  · unfold enStart at q
    by_cases c : i < ds.length
    · rw [List.getElem?_append_left (by simpa using c), List.getElem?_map, List.getElem?_eq_getElem c] at q
      cases q
      obtain ⟨v, h1, h2⟩ := r.get (List.getElem?_eq_getElem c)
      refine ⟨v, ?_, h2⟩
      unfold L2.start
      rw [List.getElem?_append_left (by rw [List.length_map]; omega), List.getElem?_map, h1]; rfl
    · rw [List.getElem?_append_right (by simpa using c), List.getElem?_replicate] at q
      split at q <;> cases q
  · unfold enStart at q
    by_cases c : i < ds.length
    · rw [List.getElem?_append_left (by simpa using c), List.getElem?_map, List.getElem?_eq_getElem c] at q
      cases q; cases oo
    · rw [List.getElem?_append_right (by simpa using c), List.getElem?_replicate] at q
      split at q <;> cases q
section
variable {P : Program} {w : World} {K : PySem.W.Frag} {mg : Str → Option Value} {base : Heap} {x qual : Str} {params : Arguments} {body : List Stmt} {scope : Scope} {dvs : List V} {kws : List (Str × V)} {f : Addr} {fd : FuncData}
theorem fn_ok {N ps : List Str} {k : Nat} {β τ : Type} [ToDs β] [ToD τ] {fM : β → Res τ} (F : FunD K x qual params body scope dvs kws f fd) (S : FnScope N ps scope) (hl : ∀ y : β, (ToDs.ds y).length = ps.length)
    (hbody : ∀ (cdv : Value) (A : Around) (outer : List Env) (s : Shared) (H : Hp) (E : XK), Room k (A.deeper (PyProof.Rows.envOfC qual scope s.heap.objs.size f cdv)) →
      ∃ t, PSs (cxOf (L2.CX P w) P w K mg base N qual scope f cdv A outer s H E) body t ∧
        ∀ (y : β) (F0 H0 : Hp) (Q : VK) (KP : Res τ → Prop), Lk K (fun cls d _ H => E cls d H) F0 H0 Q (fun _ => True) KP → Blk K F0 H0 KP (t { nx := fun _ H' => Q .non H', rt := Q }) (enStart N (ToDs.ds y)) (fM y)) :
    FnOk P w K mg base (L2.CX P w) (k + 1) f fd ps (spM K fM) := by
  refine F.ok S (fun vs H Q E h => ?_) (fun cdv A outer s H vs Q E hr h => ?_)
  · obtain ⟨F, y, _, r, _⟩ := h
    rw [← r.length]; exact hl y
  · obtain ⟨t, h1, h2⟩ := hbody cdv A outer s H E hr
    refine ⟨t, h1, ?_⟩
    obtain ⟨F, y, e, r, q⟩ := h
    refine h2 y F H Q (fun r => KE K (fun cls d _ H => E cls d H) F H [] Q r) ⟨fun z h v F' H' a r => h v F' H' a r, fun c F' H' σ env h _ S' => h F' H' S'.adv, fun z => z⟩ F H _ (sl_start e r) q
end
end Mi
set_option maxHeartbeats 1000000
namespace Mi
open PySem PySem.Spec L2
open Evl (Ex)
abbrev W0 (E : XK) : WX := fun cls d _ H => E cls d H
theorem need_mild {α : Type} {p : Prop} {x : α} {c : Str} (h : Res.need p (.ok x) = .exc c) : False := by
  by_cases q : p
  · rw [Res.need_pos q] at h; cases h
  · rw [Res.need_neg q] at h; cases h
/-! what a value of any kind is taken for -/
def D.asInt : D → Res Int
  | .int i => .ok i
  | _ => .stuck
def D.asBool : D → Res Bool
  | .bl i => .ok i
  | _ => .stuck
def D.asStr : D → Res Str
  | .str i => .ok i
  | _ => .stuck
def D.asList : D → Res (List D)
  | .lst i => .ok i
  | _ => .stuck
def D.asTu : D → Res (Tu D)
  | .tup i => .ok ⟨i⟩
  | _ => .stuck
def intsOf : List D → Res (List Int)
  | [] => .ok []
  | .int i :: r => (intsOf r).bind fun s => .ok (i :: s)
  | _ :: _ => .stuck
def D.asInts : D → Res (List Int)
  | .lst i => intsOf i
  | _ => .stuck
theorem asInt_ok : ∀ (x : D) (y : Int), x.asInt = .ok y → toD y = x
  | .int i, y, h => by cases h; rfl
theorem asInt_x (x : D) (c : Str) : x.asInt ≠ .exc c := by cases x <;> intro h <;> cases h
theorem asBool_ok : ∀ (x : D) (y : Bool), x.asBool = .ok y → toD y = x
  | .bl i, y, h => by cases h; rfl
theorem asBool_x (x : D) (c : Str) : x.asBool ≠ .exc c := by cases x <;> intro h <;> cases h
theorem asStr_ok : ∀ (x : D) (y : Str), x.asStr = .ok y → toD y = x
  | .str i, y, h => by cases h; rfl
theorem asStr_x (x : D) (c : Str) : x.asStr ≠ .exc c := by cases x <;> intro h <;> cases h
theorem asList_ok : ∀ (x : D) (y : List D), x.asList = .ok y → toD y = x
  | .lst i, y, h => by cases h; show D.lst (i.map fun x => x) = _; rw [List.map_id']
theorem asList_x (x : D) (c : Str) : x.asList ≠ .exc c := by cases x <;> intro h <;> cases h
theorem asTu_ok : ∀ (x : D) (y : Tu D), x.asTu = .ok y → toD y = x
  | .tup i, y, h => by cases h; show D.tup (i.map fun x => x) = _; rw [List.map_id']
theorem asTu_x (x : D) (c : Str) : x.asTu ≠ .exc c := by cases x <;> intro h <;> cases h
theorem intsOf_ok : ∀ (x : List D) (y : List Int), intsOf x = .ok y → y.map D.int = x
  | [], y, h => by cases h; rfl
  | .int i :: r, y, h => by
    have h : (intsOf r).bind (fun s => .ok (i :: s)) = .ok y := h
    cases e : intsOf r with
    | ok z => rw [e] at h; cases h; rw [List.map_cons, intsOf_ok r z e]
    | exc c => rw [e] at h; cases h
    | stuck => rw [e] at h; cases h
theorem intsOf_x : ∀ (x : List D) (c : Str), intsOf x ≠ .exc c
  | [], c, h => by cases h
  | .int i :: r, c, h => by
    have h : (intsOf r).bind (fun s => .ok (i :: s)) = .exc c := h
    cases e : intsOf r with
    | ok z => rw [e] at h; cases h
    | exc c => exact intsOf_x r c e
    | stuck => rw [e] at h; cases h
  | .non :: _, c, h => by cases h
  | .bl _ :: _, c, h => by cases h
  | .str _ :: _, c, h => by cases h
  | .ty _ :: _, c, h => by cases h
  | .tup _ :: _, c, h => by cases h
  | .lst _ :: _, c, h => by cases h
  | .obj _ _ _ :: _, c, h => by cases h
theorem asInts_ok : ∀ (x : D) (y : List Int), x.asInts = .ok y → toD y = x
  | .lst i, y, h => congrArg D.lst (intsOf_ok i y h)
theorem asInts_x : ∀ (x : D) (c : Str), x.asInts ≠ .exc c
  | .lst i, c, h => intsOf_x i c h
  | .non, c, h => by cases h
  | .bl _, c, h => by cases h
  | .int _, c, h => by cases h
  | .str _, c, h => by cases h
  | .ty _, c, h => by cases h
  | .tup _, c, h => by cases h
  | .obj _ _ _, c, h => by cases h
theorem intsOf_map : ∀ (y : List Int), intsOf (y.map D.int) = .ok y
  | [] => rfl
  | i :: r => by show (intsOf (r.map D.int)).bind _ = _; rw [intsOf_map r]; rfl
theorem asInts_toD (y : List Int) : (toD y).asInts = .ok y := intsOf_map y
/-- xs[lo:hi] -/
def cutL {α : Type} (xs : List α) (lo hi : Option Int) : List α := (xs.drop (HT.sIx xs.length 0 lo)).take (HT.sIx xs.length xs.length hi - HT.sIx xs.length 0 lo)
section
variable {K : PySem.W.Frag} {W : WX} {F0 H0 F H F' H' F1 : Hp} {rt : VK} {PT : En → Prop} {env env' : En} {α β γ τ : Type} [ToD α] [ToD β] [ToD γ] [ToD τ] {KP : Res τ → Prop} {te ta tb tc : TE} {tt : TT} {Z : Ends} {t u : TS} {T : L2.St → Hp → Prop} {σ : L2.St}
theorem ev_bits {m : Res Int} (h : EvX K W env te m) : EvX K W env (tBits te) (m.bind fun i => .ok ((Builtin.Int.intBits i : Nat) : Int)) := fun F0 H0 F H σ Q S k => by
  refine h F0 H0 F H σ _ S (KE.cut S.ex k fun x v F1 H1 e1 a1 r1 k1 => ?_)
  exact ⟨x, r1, k1 _ F1 H1 (Adv.refl a1.in_) rfl⟩
theorem ev_cast {m : Res D} {f : D → Res α} (hf : ∀ x y, f x = .ok y → toD y = x) (hx : ∀ x c, f x ≠ .exc c) (h : EvX K W env te m) : EvX K W env te (m.bind f) := fun F0 H0 F H σ Q S k => by
  refine h F0 H0 F H σ _ S ?_
  cases m with
  | ok x =>
    intro v F1 H1 a r
    have k : KE K W F H σ Q (f x) := k
    cases e : f x with
    | ok y => rw [e] at k; exact k v F1 H1 a (by rw [hf x y e]; exact r)
    | exc c => exact absurd e (hx x c)
    | stuck => rw [e] at k; exact k.elim
  | exc c => exact k
  | stuck => exact k.elim
theorem blk_fin {Q : VK} {x : τ} (L : Lk K W F0 H0 Q PT KP) (hx : toD x = .non) : Blk K F0 H0 KP (fun _ H' => Q .non H') env (.ok x) := fun F H σ S h => L.ok x h .non F H S.adv (by rw [hx]; rfl)
/-- what follows first, then the statement -/
theorem blk_with {m1 m : Res τ} {env1 : En} (h1 : Blk K F0 H0 KP Z.nx env1 m1) (h2 : Blk K F0 H0 KP Z.nx env1 m1 → Blk K F0 H0 KP (t Z) env m) : Blk K F0 H0 KP (t Z) env m := h2 h1
theorem blk_if2 {m : Res Bool} {a b : Res τ} (L : Lk K W F0 H0 rt PT KP) (hT : PT env) (hc : EvT K W env tt m) (h1 : Blk K F0 H0 KP (t Z) env a) (h2 : Blk K F0 H0 KP (u Z) env b) :
    Blk K F0 H0 KP (tIfS tt t u Z) env (m.bind fun c => cond c a b) := blk_if L hT hc h1 h2
theorem blk_ifj {S : Type} (envS : S → En) (k : S → Res τ) {m : Res Bool} {a b : Res τ} (L : Lk K W F0 H0 rt PT KP) (hT : PT env) (hc : EvT K W env tt m) (hr : ∀ s, Blk K F0 H0 KP Z.nx (envS s) (k s))
    (h1 : (∀ s, Blk K F0 H0 KP Z.nx (envS s) (k s)) → Blk K F0 H0 KP (t Z) env a) (h2 : (∀ s, Blk K F0 H0 KP Z.nx (envS s) (k s)) → Blk K F0 H0 KP (u Z) env b) :
    Blk K F0 H0 KP (tIfS tt t u Z) env (m.bind fun c => cond c a b) := blk_if L hT hc (h1 hr) (h2 hr)
end
/-- try: .. except X as n: .. -/
def tTry (K : PySem.W.Frag) (c : Value) (i : Nat) (ts : Addr → Value → Option Addr → TS) (W : WX) (tb : WX → TS) : TS := fun D σ H => tb (wAs K c i ts W D) D σ H
section
variable {X : Cx} {x n : Str} {i : Nat} {c : Value} {body suite : List Stmt} {b₀ : Stmt} {np pos pos' : Pos} {tb : WX → TS} {ts : Addr → Value → Option Addr → TS} {Wout : WX}
theorem ps_tryW (hs : X.stack = X.env :: X.outer) (hf : X.env.frame = some X.env.locals) (hN : X.N.Nodup) (hi : X.N[i]? = some n) (hln : X.env.kindOf n = some .local) (hc : Names X x c) (tk : Takes X Wout)
    (hb : ∀ (W : WX) (pn : List (Addr × Obj)) (xe : Value → Shared → Prop), Takes (X.tr pn xe) W → PassesOwn (model X.prog X.w) X.A X.env xe → PSs (X.tr pn xe) body (tb W))
    (hsu : ∀ (a : Addr) (oe : Obj) (cls : Value) (d : Option Addr) (pn : List (Addr × Obj)), Zc cls d oe → (∃ vs, oe.data = .fields vs) → PSs (X.suite a ((a, oe) :: pn)) (b₀ :: suite) (ts a cls d)) :
    PS X (.Try body [.ExceptHandler (some (.Name x np)) (some n) (b₀ :: suite) pos'] [] [] pos) (tTry X.K c i ts Wout tb) := ps_try_as hs hf hN hi hln hc tk hb hsu
end
section
variable {K : PySem.W.Frag} {W : WX} {F0 H0 F H F' H' F1 : Hp} {rt : VK} {PT : En → Prop} {env env' : En} {τ : Type} [ToD τ] {KP : Res τ → Prop} {Z : Ends}
theorem blk_tryW {S : Type} {cs : List Str} {sub : Str → Str → Bool} {x : Str} {i : Nat} {tb : WX → TS} {ts : Addr → Value → Option Addr → TS} {envS : S → En} {m : Res (Fall S τ)} {rest : S → Res τ} {hd : Str → Res τ}
    (L : Lk K W F0 H0 rt PT KP) (hT : PT env) (C : Cls K cs sub) (hx : x ∈ cs)
    (hb : ∀ (W' : WX) (KP' : Res (Fall S τ) → Prop), Lk K W' F0 H0 rt (fun e => EnLe e env) KP' → (∀ s, Blk K F0 H0 KP' Z.nx (envS s) (.ok (.go s))) → Blk K F0 H0 KP' (tb W' Z) env m)
    (hs : ∀ (c : Str) (a : Addr) (nx bk ct : L2.St → Hp → Prop), c ∈ cs → sub c x = true → (∀ env' m', Blk K F0 H0 KP Z.nx (env'.set i none) m' → Blk K F0 H0 KP nx env' m') →
      Blk K F0 H0 KP (ts a (.ref (He.ga K c)) none { nx := nx, rt := rt, bk := bk, ct := ct }) (env.set i (some (.raw (.ref a)))) (hd c))
    (hr : ∀ s, Blk K F0 H0 KP Z.nx (envS s) (rest s)) (hZ : Z.rt = rt := by rfl) :
    Blk K F0 H0 KP (tTry K (.ref (He.ga K x)) i ts W tb Z) env (tryR (fun c => decide (c ∈ cs)) (fun c => sub c x) m rest hd) := blk_tryAs L hT C hx hb hs hr hZ
end
section
variable {X : Cx}
theorem ip_of {op : Operator} {r : R2} (h : OpR X (inplaceOp op) r) : PIp X op r := by
  intro pins s σ H x y v u Q I rx ry q
  exact h pins s σ H x y v u Q I rx ry q
theorem iop_mulX : OpR X (inplaceOp .Mult) (rI CMulX fun i j => .int (i * j)) := opI fun _ _ _ _ _ _ _ hc q => PyProof.Rows.imul_int q hc.ok
end

/-! ### the errors' facts, by one Bool -/
def eqOV (a : Option (Option Value)) (b : Value) : Bool := decide (a = some (some b))
def excCB (K : PySem.W.Frag) (C : Addr) : Bool :=
  He.eqO (PySem.W.findIn K (.ref C) "__getattribute__") (some (some (.builtin "BaseException.__getattribute__"))) && (He.eqO (PySem.W.findIn K (.ref C) "__getattr__") (some none) && (decide (PySem.W.subIn K (.ref C) (.type "BaseException") = some true) && (PySem.W.hasDictIn K C &&
    (He.eqO (PySem.W.findIn K (.ref C) "__class__") (some (some (.builtin "object.__class__"))) && (He.eqO (PySem.W.specialIn K (.builtin "object.__class__") "__get__") (some (some (.builtin "getset_descriptor.__get__"))) &&
      (decide (PySem.W.takesIn K (.builtin "object.__class__") = some true) && decide (PySem.W.mroIn K C (.type "object") = some true)))))))
theorem excC_of {K : PySem.W.Frag} {C : Addr} (h : excCB K C = true) : ExcC K C := by
  obtain ⟨h1, h⟩ := He.ba h
  obtain ⟨h2, h⟩ := He.ba h
  obtain ⟨h3, h⟩ := He.ba h
  obtain ⟨h4, h⟩ := He.ba h
  obtain ⟨h5, h⟩ := He.ba h
  obtain ⟨h6, h⟩ := He.ba h
  obtain ⟨h7, h8⟩ := He.ba h
  exact ⟨He.eqO_ok h1, He.eqO_ok h2, of_decide_eq_true h3, h4, He.eqO_ok h5, He.eqO_ok h6, of_decide_eq_true h7, of_decide_eq_true h8⟩
def clsB (K : PySem.W.Frag) (cs : List Str) (sub : Str → Str → Bool) : Bool := cs.all fun c => excCB K (He.ga K c) && ((cs.all fun d => decide (PySem.W.kitOne K (.ref (He.ga K c)) (.ref (He.ga K d)) = some (sub c d)) && decide (PySem.W.exmOne K (.ref (He.ga K c)) (.ref (He.ga K d)) = some (sub c d))) &&
  decide (PySem.W.kitOne K (.ref (He.ga K c)) (.type "ValueError") = some true))
theorem cls_of {K : PySem.W.Frag} {cs : List Str} {sub : Str → Str → Bool} (h : clsB K cs sub = true) : Cls K cs sub := by
  have h1 : ∀ c ∈ cs, _ := fun c hc => He.ba (List.all_eq_true.mp h c hc)
  refine ⟨fun c hc => excC_of (h1 c hc).1, fun c hc d hd => ?_, fun c hc d hd => ?_, fun c hc => ?_⟩
  · exact of_decide_eq_true (He.ba (List.all_eq_true.mp (He.ba (h1 c hc).2).1 d hd)).2
  · exact of_decide_eq_true (He.ba (List.all_eq_true.mp (He.ba (h1 c hc).2).1 d hd)).1
  · exact of_decide_eq_true (He.ba (h1 c hc).2).2
end Mi
set_option maxHeartbeats 1000000
namespace Mi
open PySem PySem.Spec L2
open Evl (Ex)
theorem walk_end {l : PySem.W.OpenLaw} {n k : Nat} {q : Program} {loose : List Str} {XP : (Str → Option Value) → Heap → Prop} {YP : World → Heap → Prop} {d : PySem.DefRec} {x : Str} {m : List Int → Res Bool}
    (hn : l.most = some n) (hn2 : n ≤ sizeLine) (hdf : d.params.defaults = []) (hr : Room k PySem.callerA)
    (F : ∀ (w : World) (mg : Str → Option Value) (fa : Addr) (h : Heap), YP w h → h.Ns mainGlobals mg → mg d.name = some (.ref fa) →
      ∃ (K : PySem.W.Frag) (fd : FuncData), K.In h ∧ (∀ (s : Shared) (u : Value), PySem.BindsTo s fd ⟨[u], []⟩ [(x, u)]) ∧
        ∀ base : Heap, K.In base → base.Ns mainGlobals mg → FnOk l.prog w K mg base (L2.CX l.prog w) k fa fd [x] (spM K (fun (p : List Int × Unit) => m p.1)))
    (ht : ∀ ns : List Int, ns.length ≤ n → (∀ i ∈ ns, Builtin.Int.intBits i ≤ 1048576) → m ns = .ok true) :
    PySem.W.WalkO q loose XP YP l.row.toRowW d [] (fun f vs => PySem.call f vs) := by
  refine Att.attach_callB hn hdf fun w s₀ s₁ mg mb fa o pm cd doc a vs ns G Y ho hd hcd hmg hobj hints hlen hbits hg => ?_
  obtain ⟨K, fd, KX, hb, hF⟩ := F w mg fa _ Y G.T.g hmg
  refine law_call KX G.T.g G.T.b G.T.builtins G.T.nolimit hg hobj hints (Nat.le_trans hlen hn2) hr hF hb (fun H hO hS => ?_) fun H e s' z => ?_
  · refine ⟨H, (ns, ()), Ex.refl H, ⟨.ref a, [], rfl, ⟨a, ns.map V.int, rfl, hS, Reps.of_ints ns⟩, rfl⟩, ?_⟩
    show KE K _ H H [] _ (m ns)
    rw [ht ns hlen hbits]
    exact fun v F' H' _ r => r
  · obtain ⟨_, _, _, _, _, _, _, _, _, _, _, _, z⟩ := z
    exact z
end Mi
set_option maxHeartbeats 1000000
namespace Mi
open PySem PySem.Spec L2
open Evl (Ex)
abbrev rLenS (K : PySem.W.Frag) : List V → Hp → VK → Prop := fun xs H Q => ∃ p ys, xs = [.ref p] ∧ (SqL K H p ys ∨ SqT K H p ys) ∧ Q (.int ys.length) H
theorem cr_len {X : Cx} {K : PySem.W.Frag} (h : X.K = K) : CallR X (.builtin "len") (rLenS K) := by
  subst h; exact call_len_seq
theorem cr_ixL {X : Cx} {K : PySem.W.Frag} (h : X.K = K) : IxR X (rIxL K) := by
  subst h; exact ix_list
theorem cr_ixT {X : Cx} {K : PySem.W.Frag} (h : X.K = K) : IxR X (rIxT K) := by
  subst h; exact ix_tup
theorem cr_slL {X : Cx} {K : PySem.W.Frag} (h : X.K = K) : SlR X (rSlL K) := by
  subst h; exact sl_list
section
variable {K : PySem.W.Frag} {W : WX} {F0 H0 F H F' H' F1 : Hp} {rt : VK} {PT : En → Prop} {env env' : En} {α β γ τ : Type} [ToD α] [ToD β] [ToD γ] [ToD τ] {KP : Res τ → Prop} {te ta tb tc : TE} {tt : TT} {Z : Ends} {t u : TS} {T : L2.St → Hp → Prop} {σ : L2.St}
/-- xs[::-1] -/
theorem en_rev {m : Res (List α)} (h : EvX K W env te m) : EvN K W env (tRevL K te) (m.bind fun xs => .ok xs.reverse) := fun F0 H0 F H σ Q S k => by
  refine h F0 H0 F H σ _ S ?_
  cases m with
  | ok xs =>
    intro v F1 H1 a r
    obtain ⟨p, vs, rfl, h1, h2⟩ := r
    refine ⟨p, vs, rfl, Evl.ex_l a.in_ h1, fun l hl => ?_⟩
    refine k l _ F1 _ (a.trans (Adv.newO a.in_ hl)) (Evl.fresh_back a.h hl) (none_of_ex a.in_ hl) upd_same ?_
    rw [List.map_reverse]
    exact Reps.reverse h2
  | exc c => exact k
  | stuck => exact k.elim
/-- the parts of a text of an error -/
def EvJ (K : PySem.W.Frag) (W : WX) (env : En) (ts : List TE) (N : Nat) (m : Res Unit) : Prop :=
  ∀ F0 H0 F H σ acc (Q : Str → Hp → Prop), Sl K F0 H0 F H σ env → acc.length + N ≤ sizeLine → KE K W F H σ (fun _ H' => ∀ out, Q out H') m → tJs ts acc σ H Q
theorem ej_nil : EvJ K W env [] 0 (.ok ()) := fun F0 H0 F H σ acc Q S hn k => k .non F H (Adv.refl S.ex) rfl acc
theorem ej_txt {x : Str} {n N : Nat} {ts : List TE} {m : Res Unit} (hx : x.length ≤ n) (h : EvJ K W env ts N m) : EvJ K W env (tC (.str x) :: ts) (n + N) m := fun F0 H0 F H σ acc Q S hn k => by
  have e : (acc ++ x).length = acc.length + x.length := Str.length_append ..
  exact ⟨x, rfl, by omega, h F0 H0 F H σ (acc ++ x) Q S (by omega) k⟩
theorem ej_int {te : TE} {N : Nat} {ts : List TE} {m1 : Res Int} {m : Res Unit} (h1 : EvX K W env te m1) (h : EvJ K W env ts N m) : EvJ K W env (tFmt te :: ts) (1000 + N) (m1.bind fun i => .need (i.natAbs.log2 < 1920 ∧ (toString i : Str).length ≤ 1000) m) := fun F0 H0 F H σ acc Q S hn k => by
  refine h1 F0 H0 F H σ _ S (k.cut S.ex fun i v F1 H1 e1 a1 r1 k1 => ?_)
  have r1 : v = V.int i := r1
  subst r1
  by_cases q : i.natAbs.log2 < 1920 ∧ (toString i : Str).length ≤ 1000
  · rw [Res.need_pos q] at k1
    have e : (acc ++ toString i).length = acc.length + (toString i : Str).length := Str.length_append ..
    exact .inr ⟨i, rfl, q.1, toString i, rfl, by omega, h F0 H0 F1 H1 σ _ Q (S.step a1) (by omega) k1⟩
  · rw [Res.need_neg q] at k1; exact k1.elim
theorem blk_raiseJ {c : Str} {m : Res Unit} {ts : List TE} {N : Nat} (L : Lk K W F0 H0 rt PT KP) (hT : PT env) (hN : N ≤ sizeLine) (he : EvJ K W env ts N m) : Blk K F0 H0 KP (fun σ H => tJs ts Str.empty σ H fun _ H1 => W (.ref (He.ga K c)) none σ H1) env (m.bind fun _ => .exc c) := fun F H σ S h => by
  refine he F0 H0 F H σ _ _ S (by show 0 + N ≤ _; omega) (L.ke hT S h fun x v F1 H1 e1 a1 r1 h1 => ?_)
  exact fun _ => L.exc c F1 H1 σ env h1 hT (S.step a1)
end
end Mi
set_option maxHeartbeats 1000000
namespace Mi
open PySem PySem.Spec L2
open Evl (Ex)

/-! ### own classes: rules with what is raised at the caller's slots -/
section
variable {X : Cx} {CX : CXT} {k : Nat} {f C : Addr} {fd : FuncData} {ps : List Str} {sp : Sp} {E : L2.St → XK} {x m : Str} {p pos apos : Pos} {e o : Expr} {es : List Expr} {ta : TE} {t : TA}
def tMethQ (C : Addr) (m : Str) (sp : Sp) (E : L2.St → XK) (ta : TE) (t : TA) : TE := fun σ H Q => ta σ H fun x H1 => ∃ a dx fs, x = .ref a ∧ H1 a = some (.ins C dx fs) ∧ fs.lookup m = none ∧ t σ H1 fun vs H2 => sp (x :: vs) H2 Q (E σ)
theorem pe_methQ {pl : Sem Bool} (he : PE X o ta) (c : L2.Cls X.K C) (hm : Meth X.K C m f) (F : FnOk X.prog X.w X.K X.mg X.base CX k f fd ps sp) (hr : Room k X.A) (hb : Binds X.K fd ps []) (hx : ∀ σ, PassesAt CX X σ (E σ)) (ha : PA X (e :: es) t)
    (hst : starEach (e :: es) X.env = (false, eval e X.env) :: starEach es X.env := by rfl) (hpl : (backTo pos (starEach es X.env)).any (·.1) = false := by rfl)
    (ht : eval (.Call (.Attribute o m apos) (e :: es) [] pos) X.env = (do
      let ov ← eval o X.env
      standAt apos.atName
      let (f, first) ← holding [ov] (getMethod ov m pl)
      callWith pos f first (backTo pos (starEach (e :: es) X.env)) (backToKw pos (keywordEach [] X.env))) := by rfl) :
    PE X (.Call (.Attribute o m apos) (e :: es) [] pos) (tMethQ C m sp E ta t) := by
  refine ⟨fun pins s σ H Q I h => ?_⟩
  refine PySem.W.methodCall_KW (pl := pl) (thn (he.run pins s σ H _ I h) fun u s1 ⟨x, H1, I1, rx, a, dx, fs, ex, ea, l, q⟩ => ?_) ht
  subst ex
  obtain rfl : u = Value.ref a := rx
  refine getmeth_ok I1 ea c hm l ?_
  refine PySem.W.callWith_K (first := [.ref a]) (h₀ := X.base) I.ok.mod.kin hm.kp (thn (ha.run pos pins s1 σ H1 _ I1 q) fun us s2 ⟨vs, H2, I2, r, q2⟩ => ⟨I2.kIn, ?_⟩) hst hpl
  exact run_fnS (us := .ref a :: us) (vs := .ref a :: vs) F hr hb (hx σ) I2 (.cons rfl r) q2
theorem pe_methQ0 {pl : Sem Bool} (he : PE X o ta) (c : L2.Cls X.K C) (hm : Meth X.K C m f) (F : FnOk X.prog X.w X.K X.mg X.base CX k f fd ps sp) (hr : Room k X.A) (hb : Binds X.K fd ps []) (hx : ∀ σ, PassesAt CX X σ (E σ))
    (ht : eval (.Call (.Attribute o m apos) [] [] pos) X.env = (do
      let ov ← eval o X.env
      standAt apos.atName
      let (f, first) ← holding [ov] (getMethod ov m pl)
      callWith pos f first (backTo pos (starEach [] X.env)) (backToKw pos (keywordEach [] X.env))) := by rfl) :
    PE X (.Call (.Attribute o m apos) [] [] pos) (tMethQ C m sp E ta tNil) := by
  refine ⟨fun pins s σ H Q I h => ?_⟩
  refine PySem.W.methodCall_KW (pl := pl) (thn (he.run pins s σ H _ I h) fun u s1 ⟨x, H1, I1, rx, a, dx, fs, ex, ea, l, q⟩ => ?_) ht
  subst ex
  obtain rfl : u = Value.ref a := rx
  refine getmeth_ok I1 ea c hm l ?_
  exact PySem.W.callWith_K0 (first := [.ref a]) I1.kIn hm.kp (run_fnS (us := [.ref a]) (vs := [.ref a]) F hr hb (hx σ) I1 (.cons rfl .nil) q)
def tMakeQ (C : Addr) (sp : Sp) (E : L2.St → XK) (t : TA) : TE := fun σ H Q => t σ H fun vs H1 => ∀ x dx, H1 x = none → H1 dx = none → dx ≠ x → sp (.ref x :: vs) (upd (upd H1 dx (.own x)) x (.ins C dx [])) (fun v H2 => v = .non ∧ Q (.ref x) H2) (E σ)
theorem run_makeQ {pins : List (Addr × Obj)} {σ : L2.St} {H : Hp} {s : Shared} {Q : VK} {us : List Value} {vs : List V} (M : Mk X.K C f) (F : FnOk X.prog X.w X.K X.mg X.base CX k f fd ps sp) (hr : Room (k + 1) X.A) (hb : Binds X.K fd ps [])
    (hx : PassesAt CX X σ (E σ)) (I : Inv X pins σ H s) (r : Vals vs us)
    (h : ∀ x dx, H x = none → H dx = none → dx ≠ x → sp (.ref x :: vs) (upd (upd H dx (.own x)) x (.ins C dx [])) (fun v H2 => v = .non ∧ Q (.ref x) H2) (E σ)) :
    wpAny (model X.prog X.w) X.A (call (.ref C) us) (EP X pins σ Q) X.xe s := by
  have hq := h (s.heap.objs.size + 1) s.heap.objs.size (I.hok.fresh (Nat.le_succ _)) (I.hok.fresh (Nat.le_refl _)) (Nat.ne_of_lt (Nat.lt_succ_self _))
  have I2 := Inv.made (C := C) I
  have r2 : Vals (V.ref (s.heap.objs.size + 1) :: vs) (Value.ref (s.heap.objs.size + 1) :: us) := .cons rfl r
  have hl : (Value.ref (s.heap.objs.size + 1) :: us ++ []).length = ps.length := by
    rw [List.append_nil]
    have e := r2.length
    rw [F.len _ _ _ _ hq] at e
    exact e.symm
  have b := hb _ (Value.ref (s.heap.objs.size + 1) :: us) I2.kIn hl
  rw [List.append_nil] at b
  refine wpAny_call (make_map (f := f) I.kIn M.makes M.init (beq_iff_eq.mp M.fn) (codeAny_mono (F.run _ X.stack _ _ ⟨Value.ref (s.heap.objs.size + 1) :: us, []⟩ (Value.ref (s.heap.objs.size + 1) :: us) _ _ (E σ) (hr.make C us [])
    (I2.env0.make C us []) b r2 hq) fun r s' hq' => ?_))
  cases r with
  | error e => exact hx pins _ _ e s' I2 hq'
  | ok fl =>
    cases fl with
    | ret u =>
      obtain ⟨v, H', I3, rv, ev, q3⟩ := I2.after hq'
      subst ev
      exact ⟨rv, ⟨V.ref (s.heap.objs.size + 1), H', I3, rfl, q3⟩⟩
    | next => exact False.elim hq'
    | brk => exact False.elim hq'
    | cont => exact False.elim hq'
theorem pe_makeQ (M : Mk X.K C f) (F : FnOk X.prog X.w X.K X.mg X.base CX k f fd ps sp) (hr : Room (k + 1) X.A) (hg : Gl X x) (hm : X.mg x = some (.ref C)) (hb : Binds X.K fd ps []) (hx : ∀ σ, PassesAt CX X σ (E σ))
    (ha : PA X (e :: es) t) (hdb : (x == ("__debug__" : Str)) = false := by decide) (he : starEach (e :: es) X.env = (false, eval e X.env) :: starEach es X.env := by rfl) (hpl : (backTo pos (starEach es X.env)).any (·.1) = false := by rfl) :
    PE X (.Call (.Name x p) (e :: es) [] pos) (tMakeQ C sp E t) := by
  refine ⟨fun pins s σ H Q I h => ?_⟩
  refine wpAny_Call_Name_kw (ld_glob I hg hm ?_ hdb)
  refine PySem.W.callWith_K (h₀ := X.base) I.ok.mod.kin M.kp (thn (ha.run pos pins s σ H _ I h) fun us s1 ⟨vs, H1, I1, r, q⟩ => ⟨I1.kIn, ?_⟩) he hpl
  exact run_makeQ M F hr hb (hx σ) I1 r q
theorem pe_makeQ0 (M : Mk X.K C f) (F : FnOk X.prog X.w X.K X.mg X.base CX k f fd ps sp) (hr : Room (k + 1) X.A) (hg : Gl X x) (hm : X.mg x = some (.ref C)) (hb : Binds X.K fd ps []) (hx : ∀ σ, PassesAt CX X σ (E σ))
    (hdb : (x == ("__debug__" : Str)) = false := by decide) : PE X (.Call (.Name x p) [] [] pos) (tMakeQ C sp E tNil) := by
  refine ⟨fun pins s σ H Q I h => ?_⟩
  refine wpAny_Call_Name_kw (ld_glob I hg hm ?_ hdb)
  exact PySem.W.callWith_K0 I.kIn M.kp (run_makeQ (us := []) M F hr hb (hx σ) I .nil h)
end

/-! ### fields by their place -/
def posK (f : Str) : List Str → Option Nat
  | [] => none
  | g :: r => if g = f then some 0 else (posK f r).map (· + 1)
theorem lookup_pos {f : Str} {v : V} : ∀ {ks : List Str} {vs : List V} {j : Nat}, posK f ks = some j → vs[j]? = some v → (ks.zip vs).lookup f = some v
  | [], _, _, h, _ => by cases h
  | g :: r, [], j, h, q => by simp at q
  | g :: r, w :: ws, j, h, q => by
    unfold posK at h
    by_cases c : g = f
    · rw [if_pos c] at h; cases h
      simp at q; subst q c
      simp [List.zip_cons_cons, List.lookup]
    · rw [if_neg c] at h
      have c2 : (f == g) = false := beq_eq_false_iff_ne.mpr fun z => c z.symm
      cases e : posK f r with
      | none => rw [e] at h; cases h
      | some i =>
        rw [e] at h; cases h
        simp only [List.zip_cons_cons, List.lookup, c2]
        exact lookup_pos e (by simpa using q)
theorem lookup_no {f : Str} : ∀ {ks : List Str} {vs : List V}, posK f ks = none → (ks.zip vs).lookup f = none
  | [], _, _ => rfl
  | g :: r, [], _ => rfl
  | g :: r, w :: ws, h => by
    unfold posK at h
    by_cases c : g = f
    · rw [if_pos c] at h; cases h
    · rw [if_neg c] at h
      have c2 : (f == g) = false := beq_eq_false_iff_ne.mpr fun z => c z.symm
      simp only [List.zip_cons_cons, List.lookup, c2]
      refine lookup_no ?_
      cases e : posK f r with
      | none => rfl
      | some i => rw [e] at h; cases h
theorem putF_new {f : Str} {v : V} : ∀ {ks : List Str} {vs : List V}, posK f ks = none → ks.length = vs.length → putF f v (ks.zip vs) = (ks ++ [f]).zip (vs ++ [v])
  | [], [], _, _ => rfl
  | [], _ :: _, _, h => by simp at h
  | g :: r, [], _, h => by simp at h
  | g :: r, w :: ws, h, hl => by
    unfold posK at h
    by_cases c : g = f
    · rw [if_pos c] at h; cases h
    · rw [if_neg c] at h
      show (if g = f then _ else (g, w) :: putF f v (r.zip ws)) = _
      rw [if_neg c]
      rw [putF_new (ks := r) (vs := ws) (by cases e : posK f r with | none => rfl | some i => rw [e] at h; cases h) (by simpa using hl)]
      rfl
theorem putF_old {f : Str} {v : V} : ∀ {ks : List Str} {vs : List V} {j : Nat}, posK f ks = some j → ks.length = vs.length → putF f v (ks.zip vs) = ks.zip (vs.set j v)
  | [], _, _, h, _ => by cases h
  | g :: r, [], _, _, h => by simp at h
  | g :: r, w :: ws, j, h, hl => by
    unfold posK at h
    by_cases c : g = f
    · rw [if_pos c] at h; cases h
      show (if g = f then (g, v) :: r.zip ws else _) = _
      rw [if_pos c]; rfl
    · rw [if_neg c] at h
      cases e : posK f r with
      | none => rw [e] at h; cases h
      | some i =>
        rw [e] at h; cases h
        show (if g = f then _ else (g, w) :: putF f v (r.zip ws)) = _
        rw [if_neg c, putF_old e (by simpa using hl)]
        rfl
section
variable {K : PySem.W.Frag} {W : WX} {F0 H0 F H F' H' F1 : Hp} {rt : VK} {PT : En → Prop} {env env' : En} {α β γ τ : Type} [ToD α] [ToD β] [ToD γ] [ToD τ] {KP : Res τ → Prop} {te ta tb tc : TE} {tt : TT} {Z : Ends} {t u : TS} {T : L2.St → Hp → Prop} {σ : L2.St}
/-- e.f, e an object that stands still -/
theorem ev_fld {m : Res α} {g : α → β} {c f : Str} {ks : List Str} {j : Nat} (he : EvX K W env te m) (hc : L2.Cls K (He.ga K c)) (hn : NoAttr K (He.ga K c) f) (hj : posK f ks = some j) (hf : ∀ x : α, ∃ ds, toD x = .obj c ks ds ∧ ds[j]? = some (toD (g x))) :
    EvX K W env (tFld K te f) (m.bind fun x => .ok (g x)) := fun F0 H0 F H σ Q S k => by
  refine he F0 H0 F H σ _ S (KE.cut S.ex k fun x v F1 H1 e1 a1 r1 k1 => ?_)
  obtain ⟨ds, e, q⟩ := hf x
  rw [e] at r1
  obtain ⟨a, dx, vs, rfl, h2, h3, h4⟩ := r1
  obtain ⟨w, hw, rw_⟩ := Reps.get h4 q
  exact ⟨a, _, dx, _, w, rfl, a1.in_ _ _ h2, hc, hn, lookup_pos hj hw, k1 _ F1 H1 (Adv.refl a1.in_) rw_⟩
/-- self.f, self an object that is being made -/
theorem ev_fldO {x : α} {c f : Str} {pp : Option Addr} {ks : List Str} {ds : List D} {i j : Nat} (hi : env[i]? = some (some (.oi pp c ks ds))) (hc : L2.Cls K (He.ga K c)) (hn : NoAttr K (He.ga K c) f) (hj : posK f ks = some j) (hd : ds[j]? = some (toD x)) :
    EvX K W env (tFld K (tVar i) f) (.ok x) := fun F0 H0 F H σ Q S k => by
  obtain ⟨v, e, p, dx, vs, rfl, h0, hf, hp, hl, hr, _⟩ := S.slot i _ hi
  obtain ⟨w, hw, rw_⟩ := Reps.get hr hd
  exact ⟨_, e, p, _, dx, _, w, rfl, hp, hc, hn, lookup_pos hj hw, k _ F H (Adv.refl S.ex) rw_⟩
/-- self.f = e, a new field -/
theorem blk_fldN {i : Nat} {m : Res α} {g : α → Res τ} {c f : Str} {pp : Option Addr} {ks : List Str} {ds : List D} (L : Lk K W F0 H0 rt PT KP) (hT : PT env) (he : EvX K W env te m) (hi : env[i]? = some (some (.oi pp c ks ds))) (hc : L2.Cls K (He.ga K c)) (hn : NoAttr K (He.ga K c) f) (hj : posK f ks = none) (hk : ks.length < 1000)
    (k : ∀ x, Blk K F0 H0 KP Z.nx (env.set i (some (.oi pp c (ks ++ [f]) (ds ++ [toD x])))) (g x)) : Blk K F0 H0 KP (sFld K (tVar i) te f Z) env (m.bind g) := fun F H σ S h =>
  he F0 H0 F H σ _ S (L.ke hT S h fun x v F1 H1 e1 a1 r1 h1 => by
    have S1 := S.step a1
    obtain ⟨w, e, p, dx, vs, rfl, h0, hf, hp, hl, hr, hpp⟩ := S1.slot i _ hi
    refine ⟨_, e, p, _, dx, _, rfl, hp, hc, hn, by rw [List.length_zip, ← hl, Nat.min_self]; exact hk, ?_⟩
    refine k x F1 _ σ (S1.chgO hi rfl e hf h0 ⟨p, dx, vs ++ [v], rfl, h0, hf, ?_, by simp [hl], Reps.append hr (Reps.one r1), hpp⟩) h1
    rw [upd_same, putF_new hj hl])
/-- self.f = e, a field that is there -/
theorem blk_fldR {i j : Nat} {m : Res α} {g : α → Res τ} {c f : Str} {pp : Option Addr} {ks : List Str} {ds : List D} (L : Lk K W F0 H0 rt PT KP) (hT : PT env) (he : EvX K W env te m) (hi : env[i]? = some (some (.oi pp c ks ds))) (hc : L2.Cls K (He.ga K c)) (hn : NoAttr K (He.ga K c) f) (hj : posK f ks = some j) (hk : ks.length < 1000)
    (k : ∀ x, Blk K F0 H0 KP Z.nx (env.set i (some (.oi pp c ks (ds.set j (toD x))))) (g x)) : Blk K F0 H0 KP (sFld K (tVar i) te f Z) env (m.bind g) := fun F H σ S h =>
  he F0 H0 F H σ _ S (L.ke hT S h fun x v F1 H1 e1 a1 r1 h1 => by
    have S1 := S.step a1
    obtain ⟨w, e, p, dx, vs, rfl, h0, hf, hp, hl, hr, hpp⟩ := S1.slot i _ hi
    refine ⟨_, e, p, _, dx, _, rfl, hp, hc, hn, by rw [List.length_zip, ← hl, Nat.min_self]; exact hk, ?_⟩
    refine k x F1 _ σ (S1.chgO hi rfl e hf h0 ⟨p, dx, vs.set j v, rfl, h0, hf, ?_, by simp [hl], Reps.set j hr r1, hpp⟩) h1
    rw [upd_same, putF_old hj hl])
/-- o.m(e, ..), o an object that stands still -/
theorem ev_meth {δ : Type} [ToDs δ] {ts : TA} {mo : Res α} {ma : Res δ} {c m : Str} {ks : List Str} {f : α × δ → Res β} (ho : EvX K W env te mo) (ha : EvA K W env ts ma) (hj : posK m ks = none) (hf : ∀ x : α, ∃ ds, toD x = .obj c ks ds) :
    EvX K W env (tMethQ (He.ga K c) m (spM K f) (WE W) te ts) (mo.bind fun x => ma.bind fun y => f (x, y)) := fun F0 H0 F H σ Q S k => by
  refine ho F0 H0 F H σ _ S (KE.cut S.ex k fun x v F1 H1 e1 a1 r1 k1 => ?_)
  obtain ⟨ds, e⟩ := hf x
  have r1' := r1
  rw [e] at r1
  obtain ⟨a, dx, vs, rfl, h2, h3, h4⟩ := r1
  refine ⟨a, dx, _, rfl, a1.in_ _ _ h2, lookup_no hj, ?_⟩
  refine ha F0 H0 F1 H1 σ _ (S.step a1) ?_
  cases ma with
  | ok y =>
    intro ws F2 H2 a2 r2
    have k1 : KE K W F1 H1 σ Q (f (x, y)) := k1
    have k1 := k1.adv a2
    refine ⟨F2, (x, y), a2.in_, ⟨_, ws, rfl, Rep.mono a2.f _ _ r1', r2⟩, ?_⟩
    revert k1
    generalize f (x, y) = z
    intro k1
    cases z with
    | ok z => exact k1
    | exc c => exact k1
    | stuck => exact k1.elim
  | exc c => exact k1
  | stuck => exact k1.elim
theorem ev_meth0 {δ : Type} [ToDs δ] {ts : TA} {mo : Res α} {ma : Res δ} {c m : Str} {ks : List Str} {f : α × δ → Res β} (ho : EvX K W env te mo) (ha : EvA K W env ts ma) (hj : posK m ks = none) (hf : ∀ x : α, ∃ ds, toD x = .obj c ks ds) :
    EvX K W env (tMeth (He.ga K c) m (spM K f) [] E0 te ts) (mo.bind fun x => ma.bind fun y => (f (x, y)).noexc) := fun F0 H0 F H σ Q S k => by
  refine ho F0 H0 F H σ _ S (KE.cut S.ex k fun x v F1 H1 e1 a1 r1 k1 => ?_)
  obtain ⟨ds, e⟩ := hf x
  have r1' := r1
  rw [e] at r1
  obtain ⟨a, dx, vs, rfl, h2, h3, h4⟩ := r1
  refine ⟨a, dx, _, rfl, a1.in_ _ _ h2, lookup_no hj, ?_⟩
  refine ha F0 H0 F1 H1 σ _ (S.step a1) ?_
  cases ma with
  | ok y =>
    intro ws F2 H2 a2 r2
    have k1 : KE K W F1 H1 σ Q (f (x, y)).noexc := k1
    have k1 := k1.adv a2
    refine ⟨F2, (x, y), a2.in_, by rw [List.append_nil]; exact ⟨_, ws, rfl, Rep.mono a2.f _ _ r1', r2⟩, ?_⟩
    revert k1
    generalize f (x, y) = z
    intro k1
    cases z with
    | ok z => exact k1
    | exc c => exact k1.elim
    | stuck => exact k1.elim
  | exc c => exact k1
  | stuck => exact k1.elim
/-- the heap without an object that a def changes -/
def hide (H : Hp) (p : Addr) : Hp := fun q => if q = p then none else H q
theorem hide_same {H : Hp} {p : Addr} : hide H p p = none := if_pos rfl
theorem hide_ne {H : Hp} {p q : Addr} (h : q ≠ p) : hide H p q = H q := if_neg h
theorem hide_ex {H : Hp} {p : Addr} : Ex (hide H p) H := fun a u q => by
  by_cases z : a = p
  · subst z; rw [hide_same] at q; cases q
  · rw [hide_ne z] at q; exact q
/-- the promise of an __init__ -/
def KIn (K : PySem.W.Frag) (F H : Hp) (p : Addr) (Q : VK) (E : XK) : Res α → Prop
  | .ok x => ∀ F' H', Adv F (hide H p) F' H' → Rep K F' (toD x) (.ref p) → Q .non H'
  | .exc c => ∀ F' H', Adv F (hide H p) F' H' → E (.ref (He.ga K c)) none H'
  | .stuck => False
def spI (K : PySem.W.Frag) (c : Str) {δ : Type} [ToDs δ] (f : δ → Res α) : Sp := fun vs H Q E => ∃ F y p dx ws, vs = .ref p :: ws ∧ Ex F H ∧ F p = none ∧ H p = some (.ins (He.ga K c) dx []) ∧ Reps K F (ToDs.ds y) ws ∧ KIn K F H p Q E (f y)
theorem ev_make {δ : Type} [ToDs δ] {ts : TA} {ma : Res δ} {c : Str} {f : δ → Res α} (ha : EvA K W env ts ma) : EvX K W env (tMakeQ (He.ga K c) (spI K c f) (WE W) ts) (ma.bind f) := fun F0 H0 F H σ Q S k => by
  refine ha F0 H0 F H σ _ S ?_
  cases ma with
  | ok y =>
    intro vs F1 H1 a1 r1 x dx nx ndx hne
    have k : KE K W F H σ Q (f y) := k
    have k := k.adv a1
    have ex1 : Ex H1 (hide (upd (upd H1 dx (.own x)) x (.ins (He.ga K c) dx [])) x) := fun a u q => by
      have z : a ≠ x := ne_of_none q nx
      rw [hide_ne z, upd_ne z, upd_ne (ne_of_none q ndx)]
      exact q
    have exF : Ex F1 (upd (upd H1 dx (.own x)) x (.ins (He.ga K c) dx [])) := fun a u q => hide_ex _ _ (ex1 _ _ (a1.in_ _ _ q))
    have ad : ∀ {F' H' : Hp}, Adv F1 (hide (upd (upd H1 dx (.own x)) x (.ins (He.ga K c) dx [])) x) F' H' → Adv F1 H1 F' H' := fun {F' H'} b =>
      ⟨b.f, ex1.trans b.h, b.in_, fun q h1 h2 => b.out q h1 (by
        cases e : H1 q with
        | none => exact absurd e h2
        | some o => rw [ex1 _ _ e]; simp)⟩
    refine ⟨F1, y, x, dx, vs, rfl, exF, none_of_ex a1.in_ nx, upd_same, r1, ?_⟩
    revert k
    generalize f y = z
    intro k
    cases z with
    | ok z => exact fun F' H' b r => ⟨rfl, k _ F' H' (ad b) r⟩
    | exc c => exact fun F' H' b => k F' H' (ad b)
    | stuck => exact k.elim
  | exc c => exact k
  | stuck => exact k.elim
/-- the end of an __init__ -/
theorem blk_finI {Q : VK} {x : τ} {p : Addr} {c : Str} {ks : List Str} {ds : List D} {i : Nat} (L : Lk K W F0 H0 (fun v H' => v = .ref p → Q .non H') PT KP) (hi : env[i]? = some (some (.oi (some p) c ks ds))) (hx : toD x = .obj c ks ds) : Blk K F0 H0 KP (fun _ H' => Q .non H') env (.ok x) := fun F H σ S h => by
  obtain ⟨v, e, q, dx, vs, rfl, h0, hf, hp, hl, hr, hpp⟩ := S.slot i _ hi
  have : q = p := hpp p rfl
  subst this
  obtain ⟨F', ex, S'⟩ := S.freezeI hi
  have hi' : i < env.length := by
    have := (List.getElem?_eq_some_iff.mp hi).1
    exact this
  obtain ⟨v2, e2, r2⟩ := S'.slot i (.im (.obj c ks ds)) (by rw [List.getElem?_set_self hi'])
  rw [e] at e2; cases e2
  exact L.ok x h (.ref q) F' H S'.adv (by rw [hx]; exact r2) rfl
end
section
variable {P : Program} {w : World} {K : PySem.W.Frag} {mg : Str → Option Value} {base : Heap} {x qual : Str} {params : Arguments} {body : List Stmt} {scope : Scope} {dvs : List V} {kws : List (Str × V)} {f : Addr} {fd : FuncData}
theorem sl_startI {K : PySem.W.Frag} {F H : Hp} {N : List Str} {ds : List D} {vs : List V} {p dx : Addr} {c : Str} {n0 : Str} (e : Ex F H) (hf : F p = none) (hp : H p = some (.ins (He.ga K c) dx [])) (r : Reps K F ds vs) :
    Sl K F (hide H p) F H (L2.start (n0 :: N) (.ref p :: vs)) (some (.oi (some p) c [] []) :: enStart N ds) := by
  have hl := r.length
  refine ⟨⟨Ex.refl F, hide_ex, e, fun q h _ => h⟩, fun i sk q => ?_, fun i j sk sk' a hij q q' o o' h1 => ?_, by simp [L2.start, enStart, hl]⟩
  · cases i with
    | zero =>
      simp at q; subst q
      exact ⟨.ref p, by simp [L2.start], p, dx, [], rfl, hide_same, hf, hp, rfl, rfl, fun a h => Option.some.inj h⟩
    | succ i =>
      have q : (enStart N ds)[i]? = some (some sk) := by simpa using q
      unfold enStart at q
      by_cases c : i < ds.length
      · rw [List.getElem?_append_left (by simpa using c), List.getElem?_map, List.getElem?_eq_getElem c] at q
        cases q
        obtain ⟨v, h1, h2⟩ := r.get (List.getElem?_eq_getElem c)
        refine ⟨v, ?_, h2⟩
        unfold L2.start
        rw [List.getElem?_append_left (by simp only [List.map_cons, List.length_cons, List.length_map]; omega), List.getElem?_map, List.getElem?_cons_succ, h1]; rfl
      · rw [List.getElem?_append_right (by simpa using c), List.getElem?_replicate] at q
        split at q <;> cases q
  · have im : ∀ (i : Nat) (sk : Sk), (some (Sk.oi (some p) c [] []) :: enStart N ds)[i]? = some (some sk) → sk.own = true → i = 0 := by
      intro i sk q o
      cases i with
      | zero => rfl
      | succ i =>
        have q : (enStart N ds)[i]? = some (some sk) := by simpa using q
        unfold enStart at q
        by_cases c : i < ds.length
        · rw [List.getElem?_append_left (by simpa using c), List.getElem?_map, List.getElem?_eq_getElem c] at q
          cases q; cases o
        · rw [List.getElem?_append_right (by simpa using c), List.getElem?_replicate] at q
          split at q <;> cases q
    exact absurd ((im i sk q o).trans (im j sk' q' o').symm) hij
theorem fn_okI {N ps : List Str} {n0 : Str} {k : Nat} {β τ : Type} [ToDs β] [ToD τ] {fM : β → Res τ} {c : Str} (F : FunD K x qual params body scope dvs kws f fd) (S : FnScope (n0 :: N) ps scope) (hl : ∀ y : β, (ToDs.ds y).length + 1 = ps.length)
    (hbody : ∀ (cdv : Value) (A : Around) (outer : List Env) (s : Shared) (H : Hp) (E : XK), Room k (A.deeper (PyProof.Rows.envOfC qual scope s.heap.objs.size f cdv)) →
      ∃ t, PSs (cxOf (L2.CX P w) P w K mg base (n0 :: N) qual scope f cdv A outer s H E) body t ∧
        ∀ (y : β) (p : Addr) (F0 H0 : Hp) (Q : VK) (KP : Res τ → Prop), Lk K (fun cls d _ H => E cls d H) F0 H0 (fun v H' => v = .ref p → Q .non H') (fun _ => True) KP → Blk K F0 H0 KP (t { nx := fun _ H' => Q .non H', rt := Q }) (some (.oi (some p) c [] []) :: enStart N (ToDs.ds y)) (fM y)) :
    FnOk P w K mg base (L2.CX P w) (k + 1) f fd ps (spI K c fM) := by
  refine F.ok S (fun vs H Q E h => ?_) (fun cdv A outer s H vs Q E hr h => ?_)
  · obtain ⟨F, y, p, dx, ws, rfl, _, _, _, r, _⟩ := h
    rw [← hl y, List.length_cons, ← r.length]
  · obtain ⟨t, h1, h2⟩ := hbody cdv A outer s H E hr
    refine ⟨t, h1, ?_⟩
    obtain ⟨F, y, p, dx, ws, rfl, e, hf, hp, r, q⟩ := h
    refine h2 y p F (hide H p) Q (fun r => KIn K F H p Q E r) ⟨fun z h v F' H' a r z => ?_, fun c F' H' σ env h _ S' => h F' H' S'.adv, fun z => z⟩ F H _ (sl_startI e hf hp r) q
    subst z
    exact h F' H' a r
end
end Mi
namespace Mi
open PySem PySem.Spec L2
open Evl (Ex)
structure T5 (α β γ δ ε : Type) where
  a : α
  b : β
  c : γ
  e : δ
  f : ε
structure T6 (α β γ δ ε ζ : Type) where
  a : α
  b : β
  c : γ
  e : δ
  f : ε
  g : ζ
structure T8 (α β γ δ ε ζ η θ : Type) where
  a : α
  b : β
  c : γ
  e : δ
  f : ε
  g : ζ
  h : η
  i : θ
instance {α β γ δ ε : Type} [ToD α] [ToD β] [ToD γ] [ToD δ] [ToD ε] : ToD (T5 α β γ δ ε) := ⟨fun x => .tup [ToD.d x.a, ToD.d x.b, ToD.d x.c, ToD.d x.e, ToD.d x.f]⟩
instance {α β γ δ ε ζ : Type} [ToD α] [ToD β] [ToD γ] [ToD δ] [ToD ε] [ToD ζ] : ToD (T6 α β γ δ ε ζ) := ⟨fun x => .tup [ToD.d x.a, ToD.d x.b, ToD.d x.c, ToD.d x.e, ToD.d x.f, ToD.d x.g]⟩
instance {α β γ δ ε ζ η θ : Type} [ToD α] [ToD β] [ToD γ] [ToD δ] [ToD ε] [ToD ζ] [ToD η] [ToD θ] : ToD (T8 α β γ δ ε ζ η θ) := ⟨fun x => .tup [ToD.d x.a, ToD.d x.b, ToD.d x.c, ToD.d x.e, ToD.d x.f, ToD.d x.g, ToD.d x.h, ToD.d x.i]⟩
def optGet {α : Type} : Option α → Res α
  | some x => .ok x
  | none => .stuck
theorem optGet_ok {α : Type} [ToD α] : ∀ (x : Option α) (y : α), optGet x = .ok y → toD y = toD x
  | some x, y, h => by cases h; rfl
  | none, y, h => by cases h
theorem optGet_x {α : Type} : ∀ (x : Option α) (c : Str), optGet x ≠ .exc c
  | some x, c, h => by cases h
  | none, c, h => by cases h
def D.asT1 : D → Res (T1 D)
  | .tup [a] => .ok ⟨a⟩
  | _ => .stuck
def D.asT2 : D → Res (T2 D D)
  | .tup [a, b] => .ok ⟨a, b⟩
  | _ => .stuck
def D.asT3 : D → Res (T3 D D D)
  | .tup [a, b, c] => .ok ⟨a, b, c⟩
  | _ => .stuck
theorem asT1_ok : ∀ (x : D) (y : T1 D), x.asT1 = .ok y → toD y = x := by
  intro x y h
  unfold D.asT1 at h
  split at h
  · cases h; rfl
  · cases h
theorem asT2_ok : ∀ (x : D) (y : T2 D D), x.asT2 = .ok y → toD y = x := by
  intro x y h
  unfold D.asT2 at h
  split at h
  · cases h; rfl
  · cases h
theorem asT3_ok : ∀ (x : D) (y : T3 D D D), x.asT3 = .ok y → toD y = x := by
  intro x y h
  unfold D.asT3 at h
  split at h
  · cases h; rfl
  · cases h
theorem asT1_x (x : D) (c : Str) : x.asT1 ≠ .exc c := by intro h; unfold D.asT1 at h; split at h <;> cases h
theorem asT2_x (x : D) (c : Str) : x.asT2 ≠ .exc c := by intro h; unfold D.asT2 at h; split at h <;> cases h
theorem asT3_x (x : D) (c : Str) : x.asT3 ≠ .exc c := by intro h; unfold D.asT3 at h; split at h <;> cases h
def D.lenR : D → Res Int
  | .tup xs => .ok (xs.length : Int)
  | .lst xs => .ok (xs.length : Int)
  | _ => .stuck
section
variable {K : PySem.W.Frag} {W : WX} {F0 H0 F H F' H' F1 : Hp} {rt : VK} {PT : En → Prop} {env env' : En} {α β γ τ : Type} [ToD α] [ToD β] [ToD γ] [ToD τ] {KP : Res τ → Prop} {te ta tb tc : TE} {tt : TT} {Z : Ends} {t u : TS} {T : L2.St → Hp → Prop} {σ : L2.St}
theorem ev_castG {m : Res α} {f : α → Res β} (hf : ∀ x y, f x = .ok y → toD y = toD x) (hx : ∀ x c, f x ≠ .exc c) (h : EvX K W env te m) : EvX K W env te (m.bind f) := fun F0 H0 F H σ Q S k => by
  refine h F0 H0 F H σ _ S ?_
  cases m with
  | ok x =>
    intro v F1 H1 a r
    have k : KE K W F H σ Q (f x) := k
    cases e : f x with
    | ok y => rw [e] at k; exact k v F1 H1 a (by rw [hf x y e]; exact r)
    | exc c => exact absurd e (hx x c)
    | stuck => rw [e] at k; exact k.elim
  | exc c => exact k
  | stuck => exact k.elim
theorem ev_lenD {m : Res D} (h : EvX K W env te m) : EvX K W env (tCB (rLenS K) (tCons te tNil)) (m.bind fun x => D.lenR x) := fun F0 H0 F H σ Q S k => by
  refine h F0 H0 F H σ _ S (KE.cut S.ex k fun x v F1 H1 e1 a1 r1 k1 => ?_)
  have k1 : KE K W F1 H1 σ Q (D.lenR x) := k1
  cases x with
  | tup xs =>
    obtain ⟨a, vs, rfl, h2, h3⟩ := r1
    refine ⟨a, vs, rfl, .inr (Evl.ex_t a1.in_ h2), ?_⟩
    have := k1 (.int xs.length) F1 H1 (Adv.refl a1.in_) rfl
    rw [← h3.length]; exact this
  | lst xs =>
    obtain ⟨a, vs, rfl, h2, h3⟩ := r1
    refine ⟨a, vs, rfl, .inl (Evl.ex_l a1.in_ h2), ?_⟩
    have := k1 (.int xs.length) F1 H1 (Adv.refl a1.in_) rfl
    rw [← h3.length]; exact this
  | _ => exact k1.elim
theorem cx_lenTu : CrX K (rLenS K) (fun (p : Tu α × Unit) => .ok (p.1.xs.length : Int)) := fun F H x vs Q e r k => by
  obtain ⟨v, rs, rfl, r1, r2⟩ := r
  cases (show rs = [] from r2)
  obtain ⟨a, ws, rfl, h2, h3⟩ := r1
  refine ⟨a, ws, rfl, .inr (Evl.ex_t e h2), ?_⟩
  have := k (.int x.1.xs.length) F H (Adv.refl e) rfl
  rw [← h3.length, List.length_map]; exact this
end
end Mi
set_option maxHeartbeats 1000000
namespace Mi
open PySem PySem.Spec L2
open Evl (Ex)
def CPowX (i j : Int) : Prop := 0 ≤ j ∧ (Builtin.Int.intBits i : Int) * j ≤ 2 ^ 27
theorem op_powX {X : Cx} : OpR X (binaryOp .Pow) (rI CPowX fun i j => .int (i ^ j.toNat)) := opI fun _ _ _ _ _ _ _ hc q => PyProof.Rows.pow_int hc.1 hc.2 q
end Mi
namespace Mi
open PySem PySem.Spec L2
/-- a promise of nothing -/
theorem fnok_stuck {P : Program} {w : World} {K : PySem.W.Frag} {mg : Str → Option Value} {base : Heap} {k : Nat} {f : Addr} {fd : FuncData} {ps : List Str} {β τ : Type} [ToDs β] [ToD τ] (fM : β → Res τ) (h : ∀ y, fM y = .stuck) : FnOk P w K mg base (L2.CX P w) k f fd ps (spM K fM) := by
  have no : ∀ vs H Q E, ¬ spM K fM vs H Q E := by
    rintro vs H Q E ⟨F, x, _, _, q⟩
    rw [h x] at q
    exact q
  exact ⟨fun vs H Q E q => absurd q (no _ _ _ _), fun A outer s H args us vs Q E _ _ _ _ q => absurd q (no _ _ _ _)⟩
end Mi
set_option maxHeartbeats 1000000
namespace Mi
open PySem PySem.Spec L2
open Evl (Ex)
structure T7 (α β γ δ ε ζ η : Type) where
  a : α
  b : β
  c : γ
  e : δ
  f : ε
  g : ζ
  h : η
instance {α β γ δ ε ζ η : Type} [ToD α] [ToD β] [ToD γ] [ToD δ] [ToD ε] [ToD ζ] [ToD η] : ToD (T7 α β γ δ ε ζ η) := ⟨fun x => .tup [ToD.d x.a, ToD.d x.b, ToD.d x.c, ToD.d x.e, ToD.d x.f, ToD.d x.g, ToD.d x.h]⟩

/-! ### the module's constants -/
def tupB (K : PySem.W.Frag) (a : Addr) : Option (List Value) := match K.lookup a with
  | some o => match o.data with
    | .seq its n => if o.cls = .type "tuple" ∧ its.size ≤ sizeLine then some its.toList else none
    | _ => none
  | none => none
def lstB (K : PySem.W.Frag) (a : Addr) : Option (List Value) := match K.lookup a with
  | some o => match o.data with
    | .seq its n => if o.cls = .type "list" ∧ o.dict = none ∧ its.size ≤ sizeLine then some its.toList else none
    | _ => none
  | none => none
mutual
def repB (K : PySem.W.Frag) : D → Value → Bool
  | .non, u => decide (u = .none)
  | .bl b, u => decide (u = .bool b)
  | .int i, .int j _ => decide (j = i)
  | .str s, .str z _ => decide (z = s)
  | .ty n, u => decide (u = .type n)
  | .tup ds, .ref a => (match tupB K a with
    | some us => repsB K ds us
    | none => false)
  | .lst ds, .ref a => (match lstB K a with
    | some us => repsB K ds us
    | none => false)
  | _, _ => false
def repsB (K : PySem.W.Frag) : List D → List Value → Bool
  | [], us => us.isEmpty
  | d :: ds, u :: us => repB K d u && repsB K ds us
  | _ :: _, [] => false
end
theorem tupB_ok {K : PySem.W.Frag} {a : Addr} {us : List Value} (h : tupB K a = some us) {xs : List V} (r : Vals xs us) (F : Hp) : SqT K F a xs := by
  unfold tupB at h
  split at h
  · rename_i o e
    split at h
    · rename_i its n ed
      split at h
      · rename_i hc
        cases h
        exact .inr ⟨o, its, n, e, hc.1, ed, hc.2, r⟩
      · cases h
    · cases h
  · cases h
theorem lstB_ok {K : PySem.W.Frag} {a : Addr} {us : List Value} (h : lstB K a = some us) {xs : List V} (r : Vals xs us) (F : Hp) : SqL K F a xs := by
  unfold lstB at h
  split at h
  · rename_i o e
    split at h
    · rename_i its n ed
      split at h
      · rename_i hc
        cases h
        exact .inr ⟨o, its, n, e, hc.1, hc.2.1, ed, hc.2.2, r⟩
      · cases h
    · cases h
  · cases h
mutual
theorem repB_ok {K : PySem.W.Frag} : ∀ (d : D) (u : Value), repB K d u = true → ∃ v, RelV v u ∧ ∀ F, Rep K F d v
  | .non, u, h => ⟨.non, (of_decide_eq_true (show decide (u = Value.none) = true from h) : u = Value.none), fun _ => rfl⟩
  | .bl b, u, h => ⟨.bl b, (of_decide_eq_true (show decide (u = Value.bool b) = true from h) : u = Value.bool b), fun _ => rfl⟩
  | .ty n, u, h => ⟨.ty n, (of_decide_eq_true (show decide (u = Value.type n) = true from h) : u = Value.type n), fun _ => rfl⟩
  | .int i, u, h => by
    cases u with
    | int j t => exact ⟨.int i, ⟨t, by rw [of_decide_eq_true (show decide (j = i) = true from h)]⟩, fun _ => rfl⟩
    | _ => cases h
  | .str s, u, h => by
    cases u with
    | str z t => exact ⟨.str s, ⟨t, by rw [of_decide_eq_true (show decide (z = s) = true from h)]⟩, fun _ => rfl⟩
    | _ => cases h
  | .tup ds, u, h => by
    cases u with
    | ref a =>
      rw [repB] at h
      split at h
      · rename_i us e
        obtain ⟨xs, r, hr⟩ := repsB_ok ds us h
        exact ⟨.ref a, rfl, fun F => ⟨a, xs, rfl, tupB_ok e r F, hr F⟩⟩
      · cases h
    | _ => cases h
  | .lst ds, u, h => by
    cases u with
    | ref a =>
      rw [repB] at h
      split at h
      · rename_i us e
        obtain ⟨xs, r, hr⟩ := repsB_ok ds us h
        exact ⟨.ref a, rfl, fun F => ⟨a, xs, rfl, lstB_ok e r F, hr F⟩⟩
      · cases h
    | _ => cases h
  | .obj c ks ds, u, h => by cases u <;> cases h
theorem repsB_ok {K : PySem.W.Frag} : ∀ (ds : List D) (us : List Value), repsB K ds us = true → ∃ xs, Vals xs us ∧ ∀ F, Reps K F ds xs
  | [], us, h => by
    cases us with
    | nil => exact ⟨[], .nil, fun _ => rfl⟩
    | cons u us => cases h
  | d :: ds, us, h => by
    cases us with
    | nil => cases h
    | cons u us =>
      rw [repsB] at h
      obtain ⟨h1, h2⟩ := He.ba h
      obtain ⟨v, r, hv⟩ := repB_ok d u h1
      obtain ⟨xs, rs, hx⟩ := repsB_ok ds us h2
      exact ⟨v :: xs, .cons r rs, fun F => ⟨v, xs, rfl, hv F, hx F⟩⟩
end
def conB (K : PySem.W.Frag) (cs : List (Str × D)) : Bool := cs.all fun c => match PySem.W.nsIn K mainGlobals c.1 with
  | some (some u) => repB K c.2 u
  | _ => false
/-- a name of the module that stands for data -/
def ConF (K : PySem.W.Frag) (mg : Str → Option Value) (x : Str) (d : D) : Prop := ∃ u v, mg x = some u ∧ RelV v u ∧ ∀ F, Rep K F d v
theorem con_of {K : PySem.W.Frag} {h : Heap} {mg : Str → Option Value} {cs : List (Str × D)} (X : K.In h) (G : h.Ns mainGlobals mg) (c : conB K cs = true) {x : Str} {d : D} (m : (x, d) ∈ cs) : ConF K mg x d := by
  have q := List.all_eq_true.mp c _ m
  dsimp only at q
  split at q
  · rename_i u e
    obtain ⟨v, r, hv⟩ := repB_ok d u q
    exact ⟨u, v, PySem.W.mg_of X G e, r, hv⟩
  · cases q
section
variable {K : PySem.W.Frag} {mg : Str → Option Value} {x : Str} {d : D}
noncomputable def ConF.u (h : ConF K mg x d) : Value := h.choose
noncomputable def ConF.v (h : ConF K mg x d) : V := h.choose_spec.choose
theorem ConF.m (h : ConF K mg x d) : mg x = some h.u := h.choose_spec.choose_spec.1
theorem ConF.r (h : ConF K mg x d) : RelV h.v h.u := h.choose_spec.choose_spec.2.1
theorem ConF.p (h : ConF K mg x d) (F : Hp) : Rep K F d h.v := h.choose_spec.choose_spec.2.2 F
theorem ev_con {α : Type} [ToD α] {W : WX} {env : En} {z : α} (h : ConF K mg x (toD z)) : EvX K W env (tC h.v) (.ok z) := fun F0 H0 F H σ Q S k => k _ F H (Adv.refl S.ex) (h.p F)
end
/-! ### is True, is False -/
theorem opx_isB {K : PySem.W.Frag} : OpX K rIsB (fun (i j : Bool) => .ok (decide (i = j))) := fun F H x y v u Q e h1 h2 k => by
  cases (show v = V.bl x from h1); cases (show u = V.bl y from h2)
  exact ⟨x, y, rfl, rfl, k _ F H (Adv.refl e) rfl⟩
theorem opx_notB {K : PySem.W.Frag} : OpX K rNotB (fun (i j : Bool) => .ok (!decide (i = j))) := fun F H x y v u Q e h1 h2 k => by
  cases (show v = V.bl x from h1); cases (show u = V.bl y from h2)
  exact ⟨x, y, rfl, rfl, k _ F H (Adv.refl e) rfl⟩
theorem ev_isET3 {K : PySem.W.Frag} {W : WX} {env : En} {cs : List Str} {sub : Str → Str → Bool} {c x y z : Str} {i : Nat} {a : Addr} (C : Cls K cs sub) (hc : c ∈ cs) (hx : x ∈ cs) (hy : y ∈ cs) (hz : z ∈ cs) (h : env[i]? = some (some (.raw (.ref a)))) :
    EvX K W env (tCB (rIsET K a (.ref (He.ga K c)) none) (tCons (tVar i) (tCons (tTup (tCons (tC (.ref (He.ga K x))) (tCons (tC (.ref (He.ga K y))) (tCons (tC (.ref (He.ga K z))) tNil)))) tNil))) (.ok ([x, y, z].any (sub c))) := fun F0 H0 F H σ Q S k => by
  obtain ⟨v, e, q⟩ := S.slot i _ h
  cases (show v = V.ref a from q)
  refine ⟨_, e, by show 3 ≤ sizeLine; decide, fun p hp => ?_⟩
  have a2 : Adv F H (upd F p (.tup [.ref (He.ga K x), .ref (He.ga K y), .ref (He.ga K z)])) (upd H p (.tup [.ref (He.ga K x), .ref (He.ga K y), .ref (He.ga K z)])) := Adv.new S.ex hp
  refine ⟨He.ga K c, p, [.ref (He.ga K x), .ref (He.ga K y), .ref (He.ga K z)], [.ref (He.ga K x), .ref (He.ga K y), .ref (He.ga K z)], [x, y, z].any (sub c), rfl, rfl, C.exc c hc, rfl, upd_same, (.cons (.own _) (.cons (.own _) (.cons (.own _) .nil))), ?_, k _ _ _ a2 rfl⟩
  exact kit_any C hc (xs := [x, y, z]) (by simp [hx, hy, hz])
theorem ev_isET4 {K : PySem.W.Frag} {W : WX} {env : En} {cs : List Str} {sub : Str → Str → Bool} {c x y z w : Str} {i : Nat} {a : Addr} (C : Cls K cs sub) (hc : c ∈ cs) (hx : x ∈ cs) (hy : y ∈ cs) (hz : z ∈ cs) (hw : w ∈ cs) (h : env[i]? = some (some (.raw (.ref a)))) :
    EvX K W env (tCB (rIsET K a (.ref (He.ga K c)) none) (tCons (tVar i) (tCons (tTup (tCons (tC (.ref (He.ga K x))) (tCons (tC (.ref (He.ga K y))) (tCons (tC (.ref (He.ga K z))) (tCons (tC (.ref (He.ga K w))) tNil))))) tNil))) (.ok ([x, y, z, w].any (sub c))) := fun F0 H0 F H σ Q S k => by
  obtain ⟨v, e, q⟩ := S.slot i _ h
  cases (show v = V.ref a from q)
  refine ⟨_, e, by show 4 ≤ sizeLine; decide, fun p hp => ?_⟩
  have a2 : Adv F H (upd F p (.tup [.ref (He.ga K x), .ref (He.ga K y), .ref (He.ga K z), .ref (He.ga K w)])) (upd H p (.tup [.ref (He.ga K x), .ref (He.ga K y), .ref (He.ga K z), .ref (He.ga K w)])) := Adv.new S.ex hp
  refine ⟨He.ga K c, p, [.ref (He.ga K x), .ref (He.ga K y), .ref (He.ga K z), .ref (He.ga K w)], [.ref (He.ga K x), .ref (He.ga K y), .ref (He.ga K z), .ref (He.ga K w)], [x, y, z, w].any (sub c), rfl, rfl, C.exc c hc, rfl, upd_same, (.cons (.own _) (.cons (.own _) (.cons (.own _) (.cons (.own _) .nil)))), ?_, k _ _ _ a2 rfl⟩
  exact kit_any C hc (xs := [x, y, z, w]) (by simp [hx, hy, hz, hw])
end Mi
set_option maxHeartbeats 1000000
namespace Mi
open PySem PySem.Spec L2
/-! ### what follows, in plain mathematics -/
theorem need_bind {α β : Type} {p : Prop} (m : Res α) (f : α → Res β) : (Res.need p m).bind f = Res.need p (m.bind f) := by
  by_cases h : p
  · rw [Res.need_pos h, Res.need_pos h]
  · rw [Res.need_neg h, Res.need_neg h]; rfl
theorem cond_dec {α : Type} {p : Prop} [Decidable p] (a b : α) : cond (decide p) a b = if p then a else b := by
  by_cases h : p <;> simp [h]
theorem cond_not {α : Type} {p : Bool} (a b : α) : cond (!p) a b = cond p b a := by cases p <;> rfl
theorem ibits_le {i : Int} {n : Nat} (h : Builtin.Int.intBits i ≤ n) : i.natAbs < 2 ^ n := by
  unfold Builtin.Int.intBits at h
  split at h
  · rename_i h0
    have : i = 0 := by simpa using h0
    subst this
    exact Nat.two_pow_pos n
  · rename_i h0
    have hne : i.natAbs ≠ 0 := by
      intro z
      apply h0
      have : i = 0 := Int.natAbs_eq_zero.mp z
      simp [this]
    have h1 : i.natAbs.log2 < n := by omega
    exact (Nat.log2_lt hne).mp h1
theorem le_ibits {i : Int} {n : Nat} (h : i.natAbs < 2 ^ n) : Builtin.Int.intBits i ≤ n := by
  unfold Builtin.Int.intBits
  split
  · exact Nat.zero_le _
  · rename_i h0
    have hne : i.natAbs ≠ 0 := by
      intro z
      apply h0
      have : i = 0 := Int.natAbs_eq_zero.mp z
      simp [this]
    have := (Nat.log2_lt hne).mpr h
    omega
theorem cmulx {i j : Int} {a b : Nat} (ha : i.natAbs < 2 ^ a) (hb : j.natAbs < 2 ^ b) (h : a + b ≤ 134217728) : CMulX i j := mulx_ok ha hb h
theorem need_mulx {α : Type} {i j : Int} {m : Res α} {a b : Nat} (ha : i.natAbs < 2 ^ a) (hb : j.natAbs < 2 ^ b) (h : a + b ≤ 134217728) : Res.need (CMulX i j) m = m := Res.need_pos (cmulx ha hb h)
theorem pow_add_lt {x y a b : Nat} (ha : x < 2 ^ a) (hb : y < 2 ^ b) : x * y < 2 ^ (a + b) := by
  rw [Nat.pow_add]; exact Nat.mul_lt_mul'' ha hb
theorem idx_nat {α : Type} {xs : List α} {j : Nat} {v : α} (h : xs[j]? = some v) : idx xs (j : Int) = .ok v := by
  unfold idx; rw [atI_nat h]
theorem idx_int {α : Type} {xs : List α} {i : Int} {v : α} (h0 : 0 ≤ i) (h : xs[i.toNat]? = some v) : idx xs i = .ok v := by
  have : i = (i.toNat : Int) := by omega
  rw [this]; exact idx_nat h
theorem idx_last {α : Type} (xs : List α) (v : α) : idx (xs ++ [v]) (-1) = .ok v := by
  unfold idx; rw [atI_last]
theorem pow31 : ((2 : Int) ^ (31 : Int).toNat) = 2147483648 := by decide +kernel
theorem pow18 : ((10 : Int) ^ (18 : Int).toNat) = 1000000000000000000 := by decide +kernel
theorem m31_lt : (2147483648 : Int).natAbs < 2 ^ 32 := by decide +kernel
theorem compL_none {α β : Type} {t : α → Res Bool} {e : α → Res β} {xs : List α} (h : ∀ x ∈ xs, t x = .ok false) : compL t e xs = .ok [] := by
  induction xs with
  | nil => rfl
  | cons x r ih =>
    show (t x).bind _ = _
    rw [h x List.mem_cons_self]
    exact ih fun y hy => h y (List.mem_cons_of_mem _ hy)
theorem compL_map {α β : Type} {t : α → Res Bool} {e : α → Res β} {g : α → β} {xs : List α} (ht : ∀ x ∈ xs, t x = .ok true) (he : ∀ x ∈ xs, e x = .ok (g x)) : compL t e xs = .ok (xs.map g) := by
  induction xs with
  | nil => rfl
  | cons x r ih =>
    show (t x).bind _ = _
    rw [ht x List.mem_cons_self]
    show (e x).bind _ = _
    rw [he x List.mem_cons_self]
    show (compL t e r).bind _ = _
    rw [ih (fun y hy => ht y (List.mem_cons_of_mem _ hy)) fun y hy => he y (List.mem_cons_of_mem _ hy)]
    rfl
theorem bit1 (x : Int) : Builtin.bitAnd x 1 = x % 2 := by
  have := PySem.W.kbt_mask x 1
  simpa using this
theorem bind_ite {α β : Type} {p : Prop} [Decidable p] (a b : Res α) (f : α → Res β) : (if p then a else b).bind f = if p then a.bind f else b.bind f := by split <;> rfl
theorem idx_getLast {α : Type} {xs : List α} {v : α} (h : xs.getLast? = some v) : idx xs (-1) = .ok v := by
  obtain ⟨ys, rfl⟩ := List.getLast?_eq_some_iff.mp h
  exact idx_last ys v
/-! == of data -/
theorem pyEq_int (i j : Int) : pyEq (.int i) (.int j) = (i == j) := by simp [pyEq, D.py, PyData.eqv]
mutual
/-- no truth values within -/
def D.nob : D → Bool
  | .bl _ => false
  | .ty _ => false
  | .obj _ _ _ => false
  | .tup xs => nobL xs
  | .lst xs => nobL xs
  | _ => true
def nobL : List D → Bool
  | [] => true
  | x :: xs => D.nob x && nobL xs
end
mutual
theorem pyEq_iff : ∀ (x y : D), x.nob = true → y.nob = true → (PyData.eqv x.py y.py = true ↔ x = y)
  | .non, y, _, h => by cases y <;> simp_all [D.py, PyData.eqv, D.nob]
  | .int i, y, _, h => by cases y <;> simp_all [D.py, PyData.eqv, D.nob]
  | .str s, y, _, h => by cases y <;> simp_all [D.py, PyData.eqv, D.nob]
  | .bl b, y, h, _ => by cases h
  | .ty b, y, h, _ => by cases h
  | .obj a b c, y, h, _ => by cases h
  | .tup xs, y, h1, h => by
    cases y with
    | tup ys =>
      have := pyEqL_iff xs ys h1 h
      simp only [D.py, PyData.eqv, D.tup.injEq]; exact this
    | bl b => cases h
    | ty b => cases h
    | obj a b c => cases h
    | _ => simp [D.py, PyData.eqv]
  | .lst xs, y, h1, h => by
    cases y with
    | lst ys =>
      have := pyEqL_iff xs ys h1 h
      simp only [D.py, PyData.eqv, D.lst.injEq]; exact this
    | bl b => cases h
    | ty b => cases h
    | obj a b c => cases h
    | _ => simp [D.py, PyData.eqv]
theorem pyEqL_iff : ∀ (xs ys : List D), nobL xs = true → nobL ys = true → (PyData.eqvAll (pyL xs) (pyL ys) = true ↔ xs = ys)
  | [], ys, _, h => by cases ys <;> simp [pyL, PyData.eqvAll]
  | x :: xs, ys, h1, h => by
    cases ys with
    | nil => simp [pyL, PyData.eqvAll]
    | cons y ys =>
      obtain ⟨a1, a2⟩ := Bool.and_eq_true_iff.mp (show (D.nob x && nobL xs) = true from h1)
      obtain ⟨b1, b2⟩ := Bool.and_eq_true_iff.mp (show (D.nob y && nobL ys) = true from h)
      simp only [pyL, PyData.eqvAll, Bool.and_eq_true, pyEq_iff x y a1 b1, pyEqL_iff xs ys a2 b2, List.cons.injEq]
end
theorem pyEq_dec {x y : D} (hx : x.nob = true) (hy : y.nob = true) : pyEq x y = true ↔ x = y := pyEq_iff x y hx hy
theorem pyEq_self {x : D} (hx : x.nob = true) : pyEq x x = true := (pyEq_dec hx hx).mpr rfl
theorem pyEq_ne {x y : D} (hx : x.nob = true) (hy : y.nob = true) (h : x ≠ y) : pyEq x y = false := by
  cases e : pyEq x y with
  | false => rfl
  | true => exact absurd ((pyEq_dec hx hy).mp e) h
theorem nob_ints : ∀ xs : List Int, nobL (xs.map D.int) = true
  | [] => rfl
  | _ :: xs => nob_ints xs
theorem nob_strs : ∀ xs : List Str, nobL (xs.map D.str) = true
  | [] => rfl
  | _ :: xs => nob_strs xs
theorem flat_ints : ∀ xs : List Int, flatL (xs.map D.int) = true
  | [] => rfl
  | _ :: xs => flat_ints xs
theorem lay_ints : ∀ xs : List Int, PyData.canLayAll0 (pyL (xs.map D.int)) = true
  | [] => rfl
  | _ :: xs => by show (true && _) = true; rw [lay_ints xs]; rfl
theorem dep_ints : ∀ xs : List Int, PyData.depthAll (pyL (xs.map D.int)) = 0
  | [] => rfl
  | _ :: xs => by show max 0 _ = 0; rw [dep_ints xs]; rfl
theorem okq_ints (xs : List Int) : (toD xs).okq = true := by
  show (flatL (xs.map D.int) && (PyData.canLayAll0 (pyL (xs.map D.int)) && decide (PyData.depthAll (pyL (xs.map D.int)) + 1 ≤ 64))) = true
  rw [flat_ints, lay_ints, dep_ints]; rfl
theorem toD_ints_inj {xs ys : List Int} (h : toD xs = toD ys) : xs = ys := by
  have h : xs.map D.int = ys.map D.int := D.lst.inj h
  exact List.map_inj_right (fun a b q => D.int.inj q) |>.mp h
theorem pyEq_ints (xs ys : List Int) : pyEq (toD xs) (toD ys) = decide (xs = ys) := by
  by_cases h : xs = ys
  · subst h; rw [pyEq_self (show (toD xs).nob = true from nob_ints xs)]; simp
  · rw [pyEq_ne (show (toD xs).nob = true from nob_ints xs) (show (toD ys).nob = true from nob_ints ys) fun e => h (toD_ints_inj e)]; simp [h]
theorem lmin_mem {es : List Int} (h : 0 < es.length) : lmin es ∈ es := by
  cases es with
  | nil => simp at h
  | cons x r =>
    rcases foldl_min_mem r x with q | q
    · show r.foldl min x ∈ x :: r
      rw [q]; exact List.mem_cons_self
    · exact List.mem_cons_of_mem _ q
theorem lmax_mem {es : List Int} (h : 0 < es.length) : lmax es ∈ es := by
  cases es with
  | nil => simp at h
  | cons x r =>
    rcases foldl_max_mem r x with q | q
    · show r.foldl max x ∈ x :: r
      rw [q]; exact List.mem_cons_self
    · exact List.mem_cons_of_mem _ q
theorem pyRange_drop {n i : Nat} (h : i < n) : (pyRange 0 (n : Int)).drop i = (i : Int) :: (pyRange 0 (n : Int)).drop (i + 1) := by
  have hl : (pyRange 0 (n : Int)).length = n := by rw [pyRange_len]; omega
  rw [List.drop_eq_getElem_cons (by omega)]
  congr 1
  have := pyRange_get (lo := 0) (hi := (n : Int)) (i := i) (by omega)
  rw [List.getElem?_eq_getElem (by omega)] at this
  have := Option.some.inj this
  omega
theorem pyRange_nonneg {k n : Int} (h : k ∈ pyRange 0 n) : 0 ≤ k := by
  obtain ⟨i, _, rfl⟩ := List.mem_map.mp h
  omega
theorem toD_D (x : D) : toD x = x := rfl
theorem okq_int (i : Int) : (toD (D.int i)).okq = true := rfl
theorem compL_get {α β : Type} (f : α → Res β) {xs : List α} {ys : List β} (h : xs.length = ys.length) (he : ∀ i (h1 : i < xs.length) (h2 : i < ys.length), f xs[i] = .ok ys[i]) : compL (fun _ => .ok true) f xs = .ok ys := by
  induction xs generalizing ys with
  | nil => cases ys with
    | nil => rfl
    | cons y r => simp at h
  | cons x xs ih =>
    cases ys with
    | nil => simp at h
    | cons y ys =>
      show (f x).bind _ = _
      rw [show f x = .ok y from he 0 (by simp) (by simp)]
      show (compL (fun _ => .ok true) f xs).bind _ = _
      rw [ih (by simpa using h) fun i h1 h2 => he (i + 1) (by simp; omega) (by simp; omega)]
      rfl
end Mi
set_option maxHeartbeats 1000000
namespace Mi
/-! ### primes -/
def IsP (n : Nat) : Prop := 2 ≤ n ∧ ∀ d, d ∣ n → d = 1 ∨ d = n
theorem IsP.cop {p a : Nat} (h : IsP p) (ha : ¬ p ∣ a) : Nat.Coprime p a := by
  rcases h.2 _ (Nat.gcd_dvd_left p a) with e | e
  · exact e
  · exact absurd (e ▸ Nat.gcd_dvd_right p a) ha
theorem IsP.dvd_mul {p a b : Nat} (h : IsP p) (hd : p ∣ a * b) : p ∣ a ∨ p ∣ b := by
  by_cases ha : p ∣ a
  · exact .inl ha
  · exact .inr ((h.cop ha).dvd_of_dvd_mul_left hd)
theorem IsP.dvd_pow {p a : Nat} (h : IsP p) : ∀ k, p ∣ a ^ k → p ∣ a
  | 0, hd => by
    rw [Nat.pow_zero] at hd
    have := Nat.le_of_dvd (by decide) hd
    have := h.1
    omega
  | k + 1, hd => by
    rw [Nat.pow_succ] at hd
    rcases h.dvd_mul hd with q | q
    · exact h.dvd_pow k q
    · exact q
def prodL (l : List Nat) : Nat := l.foldr (· * ·) 1
theorem prodL_perm {l m : List Nat} (h : l.Perm m) : prodL l = prodL m := by
  induction h with
  | nil => rfl
  | cons x _ ih => simp only [prodL, List.foldr_cons] at *; rw [ih]
  | swap x y l => simp only [prodL, List.foldr_cons]; rw [Nat.mul_left_comm]
  | trans _ _ h1 h2 => exact h1.trans h2
theorem perm_of_sub : ∀ (l L : List Nat), l.Nodup → (∀ x ∈ l, x ∈ L) → L.length ≤ l.length → l.Perm L := by
  intro l
  induction l with
  | nil =>
    intro L _ _ h
    have : L = [] := List.eq_nil_of_length_eq_zero (by simpa using h)
    subst this; exact List.Perm.nil
  | cons x r ih =>
    intro L hn hs hl
    obtain ⟨n1, n2⟩ := List.nodup_cons.mp hn
    have hx := hs x List.mem_cons_self
    have e := List.length_erase_of_mem hx
    have hp := List.length_pos_of_mem hx
    have q := ih (L.erase x) n2 (fun y hy => (List.mem_erase_of_ne (by intro z; subst z; exact n1 hy)).mpr (hs y (List.mem_cons_of_mem _ hy))) (by rw [e]; simp at hl; omega)
    exact (q.cons x).trans (List.perm_cons_erase hx).symm
theorem prod_mod (a p : Nat) : ∀ l : List Nat, prodL (l.map fun x => a * x % p) % p = a ^ l.length * prodL l % p := by
  intro l
  induction l with
  | nil => simp [prodL]
  | cons x r ih =>
    show (a * x % p) * prodL (r.map fun x => a * x % p) % p = a ^ (r.length + 1) * (x * prodL r) % p
    rw [Nat.mul_mod, ih, Nat.mod_mod, ← Nat.mul_mod]
    congr 1
    rw [Nat.pow_succ]
    ac_rfl
theorem prod_cop {p : Nat} (h : IsP p) : ∀ l : List Nat, (∀ x ∈ l, 0 < x ∧ x < p) → ¬ p ∣ prodL l := by
  intro l
  induction l with
  | nil =>
    intro _ hd
    have := Nat.le_of_dvd (by decide) hd
    have := h.1
    simp [prodL] at *; omega
  | cons x r ih =>
    intro hx hd
    rcases h.dvd_mul hd with q | q
    · have := hx x List.mem_cons_self
      have := Nat.le_of_dvd this.1 q
      omega
    · exact ih (fun y hy => hx y (List.mem_cons_of_mem _ hy)) q
theorem dvd_sub_of_mod {x y p : Nat} (h : y ≤ x) (e : x % p = y % p) : p ∣ x - y := Nat.dvd_of_mod_eq_zero (Nat.sub_mod_eq_zero_of_mod_eq e)
theorem inj_mod {p a x y : Nat} (h : IsP p) (ha : ¬ p ∣ a) (hx : x < p) (hy : y < p) (e : a * x % p = a * y % p) : x = y := by
  rcases Nat.le_total y x with q | q
  · have d := dvd_sub_of_mod (Nat.mul_le_mul_left a q) e
    rw [← Nat.mul_sub] at d
    rcases h.dvd_mul d with d | d
    · exact absurd d ha
    · have := Nat.eq_zero_of_dvd_of_lt d (by omega); omega
  · have d := dvd_sub_of_mod (Nat.mul_le_mul_left a q) e.symm
    rw [← Nat.mul_sub] at d
    rcases h.dvd_mul d with d | d
    · exact absurd d ha
    · have := Nat.eq_zero_of_dvd_of_lt d (by omega); omega
/-- Fermat -/
theorem fermat {p a : Nat} (h : IsP p) (ha : ¬ p ∣ a) : a ^ (p - 1) % p = 1 := by
  have h2 := h.1
  have hL : ∀ x ∈ List.range' 1 (p - 1), 0 < x ∧ x < p := fun x hx => by
    have := List.mem_range'_1.mp hx; omega
  have nd : (List.range' 1 (p - 1)).Nodup := List.nodup_range'
  have pm : ((List.range' 1 (p - 1)).map fun x => a * x % p).Perm (List.range' 1 (p - 1)) := by
    refine perm_of_sub _ _ ?_ ?_ (by simp)
    · refine List.pairwise_map.mpr (List.Pairwise.imp_of_mem (fun {x y} hx hy q e => q (inj_mod h ha (hL x hx).2 (hL y hy).2 e)) nd)
    · intro y hy
      obtain ⟨x, hx, rfl⟩ := List.mem_map.mp hy
      have q := hL x hx
      have lt := Nat.mod_lt (a * x) (show 0 < p by omega)
      refine List.mem_range'_1.mpr ⟨Nat.pos_of_ne_zero fun z => ?_, by omega⟩
      rcases h.dvd_mul (Nat.dvd_of_mod_eq_zero z) with d | d
      · exact ha d
      · have := Nat.le_of_dvd q.1 d; omega
  have e := prod_mod a p (List.range' 1 (p - 1))
  rw [prodL_perm pm, List.length_range'] at e
  have nc := prod_cop h _ hL
  generalize prodL (List.range' 1 (p - 1)) = P at *
  have hpos : 0 < a := Nat.pos_of_ne_zero fun z => ha (z ▸ Nat.dvd_zero p)
  have h1 : 1 ≤ a ^ (p - 1) := Nat.pow_pos hpos
  have d := dvd_sub_of_mod (x := a ^ (p - 1) * P) (y := P) (by
    have := Nat.mul_le_mul_right P h1; omega) e.symm
  have e3 : a ^ (p - 1) * P - P = (a ^ (p - 1) - 1) * P := by rw [Nat.sub_mul, Nat.one_mul]
  rw [e3] at d
  rcases h.dvd_mul d with d | d
  · obtain ⟨k, hk⟩ := d
    have : a ^ (p - 1) = 1 + p * k := by omega
    rw [this, Nat.add_mul_mod_self_left, Nat.mod_eq_of_lt (by omega)]
  · exact absurd d nc
theorem pow_mod_one {b m : Nat} (hm : 1 < m) {i : Nat} (h : b ^ i % m = 1) (k : Nat) : b ^ (i * k) % m = 1 := by
  rw [Nat.pow_mul, Nat.pow_mod, h, Nat.one_pow, Nat.mod_eq_of_lt hm]
theorem pow_gcd {b m : Nat} (hm : 1 < m) (i j : Nat) : b ^ i % m = 1 → b ^ j % m = 1 → b ^ Nat.gcd i j % m = 1 := by
  induction i, j using Nat.gcd.induction with
  | H0 n => intro _ h; rwa [Nat.gcd_zero_left]
  | H1 i j hi ih =>
    intro h1 h2
    rw [Nat.gcd_rec]
    refine ih ?_ h1
    have e := Nat.div_add_mod j i
    rw [← e, Nat.pow_add, Nat.mul_mod, pow_mod_one hm h1, Nat.one_mul, Nat.mod_mod] at h2
    exact h2
/-- every prime factor of n is 1 above a multiple of q -/
theorem pock {n a q : Nat} (hq : IsP q) (hd : q ∣ n - 1) (h1 : a ^ (n - 1) % n = 1) (hg : Nat.gcd (a ^ ((n - 1) / q) % n - 1) n = 1) (h0 : 0 < a ^ ((n - 1) / q) % n) {p : Nat} (hp : IsP p) (hpn : p ∣ n) : q ∣ p - 1 := by
  have p2 := hp.1
  have hb : (a ^ ((n - 1) / q)) ^ q % p = 1 := by
    rw [← Nat.pow_mul, Nat.div_mul_cancel hd, ← Nat.mod_mod_of_dvd _ hpn, h1, Nat.mod_eq_of_lt (by omega)]
  have hnd : ¬ p ∣ a ^ ((n - 1) / q) := fun d => by
    have : p ∣ (a ^ ((n - 1) / q)) ^ q := by
      have hq0 : q = (q - 1) + 1 := by have := hq.1; omega
      generalize a ^ ((n - 1) / q) = b at *
      rw [hq0, Nat.pow_succ]
      exact Nat.dvd_trans d (Nat.dvd_mul_left ..)
    rw [Nat.mod_eq_zero_of_dvd this] at hb; cases hb
  have f := fermat hp hnd
  have g := pow_gcd (by omega) q (p - 1) hb f
  rcases hq.2 _ (Nat.gcd_dvd_left q (p - 1)) with e | e
  · rw [e, Nat.pow_one] at g
    have d : p ∣ a ^ ((n - 1) / q) % n - 1 := by
      refine dvd_sub_of_mod (by omega) ?_
      rw [Nat.mod_mod_of_dvd _ hpn, g, Nat.mod_eq_of_lt (by omega)]
    have := Nat.dvd_gcd d hpn
    rw [hg] at this
    have := Nat.le_of_dvd (by decide) this
    omega
  · exact e ▸ Nat.gcd_dvd_right q (p - 1)
theorem has_prime : ∀ (n : Nat), 2 ≤ n → ∃ p, IsP p ∧ p ∣ n := by
  intro n
  induction n using Nat.strongRecOn with
  | ind n ih =>
    intro h
    by_cases hp : IsP n
    · exact ⟨n, hp, Nat.dvd_refl n⟩
    · have : ∃ d, d ∣ n ∧ d ≠ 1 ∧ d ≠ n := by
        refine Classical.byContradiction fun c => hp ⟨h, fun d hd => ?_⟩
        refine Classical.byContradiction fun e => c ⟨d, hd, fun z => e (.inl z), fun z => e (.inr z)⟩
      obtain ⟨d, hd, h1, h2⟩ := this
      have hle := Nat.le_of_dvd (by omega) hd
      have h0 : d ≠ 0 := fun z => by subst z; have := Nat.eq_zero_of_zero_dvd hd; omega
      obtain ⟨p, p1, p2⟩ := ih d (by omega) (by omega)
      exact ⟨p, p1, Nat.dvd_trans p2 hd⟩
/-- no prime factor up to the root: a prime -/
theorem isP_of {n : Nat} (h2 : 2 ≤ n) (h : ∀ p, IsP p → p ∣ n → n < p * p) : IsP n := by
  refine ⟨h2, fun d hd => Classical.byContradiction fun c => ?_⟩
  have hle := Nat.le_of_dvd (by omega) hd
  have h0 : d ≠ 0 := fun z => by subst z; have := Nat.eq_zero_of_zero_dvd hd; omega
  have h1 : d ≠ 1 := fun z => c (.inl z)
  have h3 : d ≠ n := fun z => c (.inr z)
  obtain ⟨e, rfl⟩ := hd
  have e2 : 2 ≤ e := by
    rcases (by omega : e = 0 ∨ e = 1 ∨ 2 ≤ e) with rfl | rfl | q
    · omega
    · omega
    · exact q
  obtain ⟨p, p1, p2⟩ := has_prime d (by omega)
  obtain ⟨q, q1, q2⟩ := has_prime e e2
  have a1 := h p p1 (Nat.dvd_trans p2 (Nat.dvd_mul_right d e))
  have a2 := h q q1 (Nat.dvd_trans q2 (Nat.dvd_mul_left e d))
  have b1 := Nat.le_of_dvd (by omega) p2
  have b2 := Nat.le_of_dvd (by omega) q2
  have b3 := Nat.mul_le_mul b1 b2
  rcases Nat.le_total p q with z | z
  · have := Nat.mul_le_mul_left p z; omega
  · have := Nat.mul_le_mul_right q z; omega
/-- the power's residue, as the kernel works it out -/
def pwm (n : Nat) : Nat → Nat → Nat → Nat → Nat
  | 0, _, _, acc => acc
  | f + 1, b, e, acc => pwm n f (b * b % n) (e / 2) (if e % 2 = 1 then acc * b % n else acc)
theorem pwm_eq (n : Nat) : ∀ (f b e acc : Nat), e < 2 ^ f → pwm n f b e acc % n = acc * b ^ e % n := by
  intro f
  induction f with
  | zero => intro b e acc h; have : e = 0 := by simpa using h
            subst this; simp [pwm]
  | succ f ih =>
    intro b e acc h
    rw [pwm, ih _ _ _ (by rw [Nat.pow_succ] at h; omega)]
    have e2 : b ^ e = (b * b) ^ (e / 2) * b ^ (e % 2) := by
      rw [← Nat.pow_two, ← Nat.pow_mul, ← Nat.pow_add, Nat.div_add_mod]
    rw [e2, Nat.mul_mod, ← Nat.pow_mod, ← Nat.mul_mod]
    rcases (by omega : e % 2 = 0 ∨ e % 2 = 1) with z | z
    · rw [z, if_neg (by decide), Nat.pow_zero, Nat.mul_one]
    · rw [z, if_pos rfl, Nat.pow_one, Nat.mul_mod, Nat.mod_mod, ← Nat.mul_mod]
      congr 1; ac_rfl
theorem pwm_one {n f b e : Nat} (h : e < 2 ^ f) : pwm n f b e 1 % n = b ^ e % n := by rw [pwm_eq n f b e 1 h, Nat.one_mul]
/-- one prime q of n - 1, by numbers -/
def pkOk (n a q f : Nat) : Bool := decide (q ∣ n - 1) && decide (n - 1 < 2 ^ f) && decide (pwm n f a (n - 1) 1 % n = 1) && decide (Nat.gcd (pwm n f a ((n - 1) / q) 1 % n - 1) n = 1) && decide (0 < pwm n f a ((n - 1) / q) 1 % n)
theorem pk_of {n a q f : Nat} (hq : IsP q) (h : pkOk n a q f = true) {p : Nat} (hp : IsP p) (hpn : p ∣ n) : q ∣ p - 1 := by
  simp only [pkOk, Bool.and_eq_true, decide_eq_true_eq] at h
  obtain ⟨⟨⟨⟨h1, h2⟩, h3⟩, h4⟩, h5⟩ := h
  have h6 : (n - 1) / q < 2 ^ f := Nat.lt_of_le_of_lt (Nat.div_le_self ..) h2
  rw [pwm_one h2] at h3
  rw [pwm_one h6] at h4 h5
  exact pock hq h1 h3 h4 h5 hp hpn
theorem small_prime {n : Nat} (h2 : 2 ≤ n) (h : ∀ d, 2 ≤ d → d * d ≤ n → ¬ d ∣ n) : IsP n :=
  isP_of h2 fun p hp hd => Nat.lt_of_not_le fun z => h p hp.1 z hd
def noDiv (n : Nat) : Nat → Nat → Bool
  | 0, _ => true
  | f + 1, d => !decide (n % d = 0) && noDiv n f (d + 1)
theorem noDiv_ok (n : Nat) : ∀ (f d : Nat), noDiv n f d = true → ∀ k, d ≤ k → k < d + f → ¬ k ∣ n
  | 0, d, _, k, h1, h2 => by omega
  | f + 1, d, h, k, h1, h2 => by
    rw [noDiv, Bool.and_eq_true] at h
    obtain ⟨a, b⟩ := h
    by_cases e : k = d
    · subst e
      intro z
      rw [Nat.mod_eq_zero_of_dvd z] at a
      simp at a
    · exact noDiv_ok n f (d + 1) b k (by omega) (by omega)
theorem prime_by {n f : Nat} (h2 : 2 ≤ n) (hf : n < (f + 2) * (f + 2)) (h : noDiv n f 2 = true) : IsP n :=
  small_prime h2 fun d h3 h4 h5 => noDiv_ok n f 2 h d h3 (Nat.lt_of_not_le fun z => by
    have := Nat.mul_le_mul z z
    rw [Nat.add_comm] at hf
    omega) h5
theorem IsP.eq_of_dvd {p q : Nat} (hp : IsP p) (hq : IsP q) (h : p ∣ q) : p = q := by
  rcases hq.2 p h with e | e
  · have := hp.1; omega
  · exact e
theorem IsP.dvd_prod {p : Nat} (h : IsP p) : ∀ l : List Nat, (∀ x ∈ l, IsP x) → p ∣ prodL l → p ∈ l := by
  intro l
  induction l with
  | nil =>
    intro _ hd
    have hd : p ∣ 1 := hd
    have := Nat.le_of_dvd (by decide) hd
    have := h.1
    omega
  | cons x r ih =>
    intro hx hd
    rcases h.dvd_mul hd with q | q
    · rw [h.eq_of_dvd (hx x List.mem_cons_self) q]; exact List.mem_cons_self
    · exact List.mem_cons_of_mem _ (ih (fun y hy => hx y (List.mem_cons_of_mem _ hy)) q)
theorem prod_dvd : ∀ (l : List Nat) (m : Nat), l.Nodup → (∀ x ∈ l, IsP x) → (∀ x ∈ l, x ∣ m) → prodL l ∣ m := by
  intro l
  induction l with
  | nil => intro m _ _ _; exact Nat.one_dvd m
  | cons x r ih =>
    intro m hn hp hd
    obtain ⟨n1, n2⟩ := List.nodup_cons.mp hn
    have hx := hp x List.mem_cons_self
    have hr := fun y hy => hp y (List.mem_cons_of_mem x hy)
    have c := hx.cop (fun z => n1 (hx.dvd_prod r hr z))
    exact Nat.Coprime.mul_dvd_of_dvd_of_dvd c (hd x List.mem_cons_self) (ih m n2 hr fun y hy => hd y (List.mem_cons_of_mem _ hy))
theorem isP_pock {n f : Nat} (h2 : 2 ≤ n) (qs : List (Nat × Nat)) (hp : ∀ x ∈ qs, IsP x.1) (hk : (qs.all fun x => pkOk n x.2 x.1 f) = true) (hd : (qs.map (·.1)).Nodup) (hF : n < (prodL (qs.map (·.1)) + 1) * (prodL (qs.map (·.1)) + 1)) : IsP n := by
  refine isP_of h2 fun p p1 p2 => ?_
  have d := prod_dvd (qs.map (·.1)) (p - 1) hd (fun x hx => by
    obtain ⟨y, hy, rfl⟩ := List.mem_map.mp hx
    exact hp y hy) (fun x hx => by
    obtain ⟨y, hy, rfl⟩ := List.mem_map.mp hx
    exact pk_of (hp y hy) (List.all_eq_true.mp hk y hy) p1 p2)
  have := p1.1
  have le := Nat.le_of_dvd (by omega) d
  have := Nat.mul_le_mul (show prodL (qs.map (·.1)) + 1 ≤ p by omega) (show prodL (qs.map (·.1)) + 1 ≤ p by omega)
  omega
theorem p61 : IsP 1321 ∧ IsP 331 ∧ IsP 151 ∧ IsP 61 := ⟨prime_by (f := 40) (by decide) (by decide) (by decide +kernel), prime_by (f := 40) (by decide) (by decide) (by decide +kernel), prime_by (f := 40) (by decide) (by decide) (by decide +kernel), prime_by (f := 40) (by decide) (by decide) (by decide +kernel)⟩
theorem prime_m61 : IsP 2305843009213693951 := isP_pock (f := 61) (by decide) [(1321, 3), (331, 3), (151, 3), (61, 2)] (by simp only [List.forall_mem_cons]; exact ⟨p61.1, p61.2.1, p61.2.2.1, p61.2.2.2, by simp⟩) (by decide +kernel) (by decide +kernel) (by decide +kernel)
theorem prime_m31 : IsP 2147483647 := isP_pock (f := 31) (by decide) [(331, 3), (151, 3)] (by simp only [List.forall_mem_cons]; exact ⟨p61.2.1, p61.2.2.1, by simp⟩) (by decide +kernel) (by decide +kernel) (by decide +kernel)
theorem pr_8574133 : IsP 8574133 := prime_by (f := 2928) (by decide) (by decide) (by decide +kernel)
theorem pr_127 : IsP 127 := prime_by (f := 11) (by decide) (by decide) (by decide +kernel)
theorem pr_1919519569386763 : IsP 1919519569386763 := isP_pock (f := 51) (by decide) [(8574133, 2), (127, 2)] (by simp only [List.forall_mem_cons]; exact ⟨pr_8574133, pr_127, by simp⟩) (by decide +kernel) (by decide +kernel) (by decide +kernel)
theorem pr_569003 : IsP 569003 := prime_by (f := 754) (by decide) (by decide) (by decide +kernel)
theorem pr_2773320623 : IsP 2773320623 := isP_pock (f := 32) (by decide) [(569003, 2)] (by simp only [List.forall_mem_cons]; exact ⟨pr_569003, by simp⟩) (by decide +kernel) (by decide +kernel) (by decide +kernel)
theorem pr_72106336199 : IsP 72106336199 := isP_pock (f := 37) (by decide) [(2773320623, 2)] (by simp only [List.forall_mem_cons]; exact ⟨pr_2773320623, by simp⟩) (by decide +kernel) (by decide +kernel) (by decide +kernel)
theorem pr_75445702479781427272750846543864801 : IsP 75445702479781427272750846543864801 := isP_pock (f := 116) (by decide) [(1919519569386763, 2), (72106336199, 2)] (by simp only [List.forall_mem_cons]; exact ⟨pr_1919519569386763, pr_72106336199, by simp⟩) (by decide +kernel) (by decide +kernel) (by decide +kernel)
theorem pr_430751 : IsP 430751 := prime_by (f := 656) (by decide) (by decide) (by decide +kernel)
theorem pr_4153 : IsP 4153 := prime_by (f := 64) (by decide) (by decide) (by decide +kernel)
theorem pr_31757755568855353 : IsP 31757755568855353 := isP_pock (f := 55) (by decide) [(430751, 2), (4153, 2)] (by simp only [List.forall_mem_cons]; exact ⟨pr_430751, pr_4153, by simp⟩) (by decide +kernel) (by decide +kernel) (by decide +kernel)
theorem pr_74058212732561358302231226437062788676166966415465897661863160754340907 : IsP 74058212732561358302231226437062788676166966415465897661863160754340907 := isP_pock (f := 236) (by decide) [(75445702479781427272750846543864801, 2), (31757755568855353, 2)] (by simp only [List.forall_mem_cons]; exact ⟨pr_75445702479781427272750846543864801, pr_31757755568855353, by simp⟩) (by decide +kernel) (by decide +kernel) (by decide +kernel)
theorem pr_57896044618658097711785492504343953926634992332820282019728792003956564819949 : IsP 57896044618658097711785492504343953926634992332820282019728792003956564819949 := isP_pock (f := 255) (by decide) [(74058212732561358302231226437062788676166966415465897661863160754340907, 2)] (by simp only [List.forall_mem_cons]; exact ⟨pr_74058212732561358302231226437062788676166966415465897661863160754340907, by simp⟩) (by decide +kernel) (by decide +kernel) (by decide +kernel)
theorem pr_53 : IsP 53 := prime_by (f := 7) (by decide) (by decide) (by decide +kernel)
theorem pr_29 : IsP 29 := prime_by (f := 5) (by decide) (by decide) (by decide +kernel)
theorem pr_7 : IsP 7 := prime_by (f := 2) (by decide) (by decide) (by decide +kernel)
theorem pr_107590001 : IsP 107590001 := isP_pock (f := 27) (by decide) [(53, 2), (29, 2), (7, 2)] (by simp only [List.forall_mem_cons]; exact ⟨pr_53, pr_29, pr_7, by simp⟩) (by decide +kernel) (by decide +kernel) (by decide +kernel)
theorem pr_7240687 : IsP 7240687 := prime_by (f := 2690) (by decide) (by decide) (by decide +kernel)
theorem pr_96557 : IsP 96557 := prime_by (f := 310) (by decide) (by decide) (by decide +kernel)
theorem pr_255515944373312847190720520512484175977 : IsP 255515944373312847190720520512484175977 := isP_pock (f := 128) (by decide) [(107590001, 2), (7240687, 2), (96557, 2)] (by simp only [List.forall_mem_cons]; exact ⟨pr_107590001, pr_7240687, pr_96557, by simp⟩) (by decide +kernel) (by decide +kernel) (by decide +kernel)
theorem pr_205115282021455665897114700593932402728804164701536103180137503955397371 : IsP 205115282021455665897114700593932402728804164701536103180137503955397371 := isP_pock (f := 237) (by decide) [(255515944373312847190720520512484175977, 2)] (by simp only [List.forall_mem_cons]; exact ⟨pr_255515944373312847190720520512484175977, by simp⟩) (by decide +kernel) (by decide +kernel) (by decide +kernel)
theorem pr_115792089237316195423570985008687907853269984665640564039457584007908834671663 : IsP 115792089237316195423570985008687907853269984665640564039457584007908834671663 := isP_pock (f := 256) (by decide) [(205115282021455665897114700593932402728804164701536103180137503955397371, 2)] (by simp only [List.forall_mem_cons]; exact ⟨pr_205115282021455665897114700593932402728804164701536103180137503955397371, by simp⟩) (by decide +kernel) (by decide +kernel) (by decide +kernel)
theorem pr_704251 : IsP 704251 := prime_by (f := 839) (by decide) (by decide) (by decide +kernel)
theorem pr_78283 : IsP 78283 := prime_by (f := 279) (by decide) (by decide) (by decide +kernel)
theorem pr_46076956964474543 : IsP 46076956964474543 := isP_pock (f := 56) (by decide) [(704251, 2), (78283, 2)] (by simp only [List.forall_mem_cons]; exact ⟨pr_704251, pr_78283, by simp⟩) (by decide +kernel) (by decide +kernel) (by decide +kernel)
theorem pr_3677 : IsP 3677 := prime_by (f := 60) (by decide) (by decide) (by decide +kernel)
theorem pr_197 : IsP 197 := prime_by (f := 14) (by decide) (by decide) (by decide +kernel)
theorem pr_66417393611 : IsP 66417393611 := isP_pock (f := 36) (by decide) [(3677, 2), (197, 2)] (by simp only [List.forall_mem_cons]; exact ⟨pr_3677, pr_197, by simp⟩) (by decide +kernel) (by decide +kernel) (by decide +kernel)
theorem pr_11290956913871 : IsP 11290956913871 := isP_pock (f := 44) (by decide) [(66417393611, 2)] (by simp only [List.forall_mem_cons]; exact ⟨pr_66417393611, by simp⟩) (by decide +kernel) (by decide +kernel) (by decide +kernel)
theorem pr_774023187263532362759620327192479577272145303 : IsP 774023187263532362759620327192479577272145303 := isP_pock (f := 150) (by decide) [(46076956964474543, 2), (11290956913871, 2)] (by simp only [List.forall_mem_cons]; exact ⟨pr_46076956964474543, pr_11290956913871, by simp⟩) (by decide +kernel) (by decide +kernel) (by decide +kernel)
theorem pr_835945042244614951780389953367877943453916927241 : IsP 835945042244614951780389953367877943453916927241 := isP_pock (f := 160) (by decide) [(774023187263532362759620327192479577272145303, 2)] (by simp only [List.forall_mem_cons]; exact ⟨pr_774023187263532362759620327192479577272145303, by simp⟩) (by decide +kernel) (by decide +kernel) (by decide +kernel)
theorem pr_115792089210356248762697446949407573530086143415290314195533631308867097853951 : IsP 115792089210356248762697446949407573530086143415290314195533631308867097853951 := isP_pock (f := 256) (by decide) [(835945042244614951780389953367877943453916927241, 2)] (by simp only [List.forall_mem_cons]; exact ⟨pr_835945042244614951780389953367877943453916927241, by simp⟩) (by decide +kernel) (by decide +kernel) (by decide +kernel)
end Mi
set_option maxHeartbeats 1000000
namespace Mi
/-! ### residues -/
theorem em_mul {p x y u v : Int} (h : x % p = u % p) (h2 : y % p = v % p) : x * y % p = u * v % p := by rw [Int.mul_emod, h, h2, ← Int.mul_emod]
theorem em_pow {p x u : Int} (h : x % p = u % p) : ∀ k : Nat, x ^ k % p = u ^ k % p
  | 0 => by rw [Int.pow_zero, Int.pow_zero]
  | k + 1 => by rw [Int.pow_succ, Int.pow_succ]; exact em_mul (em_pow h k) h
theorem em_em (x p : Int) : x % p % p = x % p := Int.emod_emod_of_dvd x (Int.dvd_refl p)
theorem em_dvd {p x y : Int} (h : x % p = y % p) : p ∣ x - y := Int.dvd_of_emod_eq_zero (Int.emod_eq_emod_iff_emod_sub_eq_zero.mp h)
theorem em_of_dvd {p x y : Int} (h : p ∣ x - y) : x % p = y % p := Int.emod_eq_emod_iff_emod_sub_eq_zero.mpr (Int.emod_eq_zero_of_dvd h)
theorem IsP.dvd_mulI {p : Nat} (h : IsP p) {a b : Int} (hd : (p : Int) ∣ a * b) : (p : Int) ∣ a ∨ (p : Int) ∣ b := by
  have := Int.natAbs_dvd_natAbs.mpr hd
  rw [Int.natAbs_mul, Int.natAbs_natCast] at this
  rcases h.dvd_mul this with q | q
  · exact .inl (Int.natAbs_dvd_natAbs.mp (by rw [Int.natAbs_natCast]; exact q))
  · exact .inr (Int.natAbs_dvd_natAbs.mp (by rw [Int.natAbs_natCast]; exact q))
theorem IsP.dvd_powI {p : Nat} (h : IsP p) {a : Int} : ∀ k : Nat, (p : Int) ∣ a ^ k → (p : Int) ∣ a
  | 0, hd => by
    rw [Int.pow_zero] at hd
    have := Int.le_of_dvd (by decide) hd
    have := h.1
    omega
  | k + 1, hd => by
    rw [Int.pow_succ] at hd
    rcases h.dvd_mulI hd with q | q
    · exact h.dvd_powI k q
    · exact q
theorem fermatI {p : Nat} (h : IsP p) {a : Int} (ha : ¬ (p : Int) ∣ a) : a ^ (p - 1) % p = 1 := by
  have h2 := h.1
  have e0 := Int.emod_nonneg a (show (p : Int) ≠ 0 by omega)
  obtain ⟨x, hx⟩ := Int.eq_ofNat_of_zero_le e0
  have hn : ¬ p ∣ x := fun d => by
    obtain ⟨k, rfl⟩ := d
    refine ha (Int.dvd_of_emod_eq_zero ?_)
    rw [← em_em a p, hx]
    exact Int.emod_eq_zero_of_dvd ⟨k, by show ((p * k : Nat) : Int) = _; rw [Int.natCast_mul]⟩
  have f := fermat h hn
  rw [em_pow (u := (x : Int)) (by rw [← hx, em_em])]
  rw [← Int.natCast_pow, ← Int.natCast_emod, f]; rfl
theorem sq_one {p : Nat} (h : IsP p) {x : Int} (hx : x * x % p = 1) : x % p = 1 ∨ x % p = p - 1 := by
  have h2 := h.1
  have o : (1 : Int) % p = 1 := Int.emod_eq_of_lt (by decide) (by omega)
  have d := em_dvd (p := p) (x := x * x) (y := 1) (by rw [hx, o])
  rw [show x * x - 1 = (x - 1) * (x - -1) by grind] at d
  rcases h.dvd_mulI d with q | q
  · left; rw [em_of_dvd q, o]
  · right
    rw [em_of_dvd q]
    have : (-1 : Int) = (p - 1 : Int) + p * (-1) := by omega
    rw [this, Int.add_mul_emod_self_left, Int.emod_eq_of_lt (by omega) (by omega)]
theorem m1_sq {p : Nat} (h : IsP p) {x : Int} (hx : x % p = p - 1) : x * x % p = 1 := by
  have h2 := h.1
  have o : (1 : Int) % p = 1 := Int.emod_eq_of_lt (by decide) (by omega)
  have hp : ((p : Int) - 1) % p = p - 1 := Int.emod_eq_of_lt (by omega) (by omega)
  rw [em_mul (hx.trans hp.symm) (hx.trans hp.symm), show ((p : Int) - 1) * (p - 1) = 1 + p * (p - 2) by grind, Int.add_mul_emod_self_left, o]
/-! ### a polynomial's roots -/
def evp : List Int → Int → Int
  | [], _ => 0
  | c :: cs, x => c + x * evp cs x
def dvp : List Int → Int → List Int
  | [], _ => []
  | [_], _ => []
  | _ :: d :: cs, r => evp (d :: cs) r :: dvp (d :: cs) r
theorem evp_dvp : ∀ (cs : List Int) (x r : Int), evp cs x - evp cs r = (x - r) * evp (dvp cs r) x
  | [], x, r => by simp [evp, dvp]
  | [c], x, r => by simp [evp, dvp]
  | c :: d :: cs, x, r => by
    have ih := evp_dvp (d :: cs) x r
    show c + x * evp (d :: cs) x - (c + r * evp (d :: cs) r) = (x - r) * (evp (d :: cs) r + x * evp (dvp (d :: cs) r) x)
    generalize evp (d :: cs) x = u at *
    generalize evp (d :: cs) r = v at *
    generalize evp (dvp (d :: cs) r) x = w at *
    have : u = v + (x - r) * w := by omega
    subst this
    grind
theorem dvp_len : ∀ (cs : List Int) (r : Int), (dvp cs r).length = cs.length - 1
  | [], r => rfl
  | [c], r => rfl
  | c :: d :: cs, r => by
    have ih := dvp_len (d :: cs) r
    simp only [dvp, List.length_cons] at *; omega
theorem dvp_top : ∀ (cs : List Int) (r : Int), 2 ≤ cs.length → cs.getLast? = some 1 → (dvp cs r).getLast? = some 1
  | [], r, h, _ => by simp at h
  | [c], r, h, _ => by simp at h
  | [c, d], r, _, h => by
    have : d = 1 := by simpa using h
    subst this
    simp [dvp, evp]
  | c :: d :: e :: cs, r, _, h => by
    have ih := dvp_top (d :: e :: cs) r (by simp) (by simpa using h)
    rw [dvp]
    have hn : dvp (d :: e :: cs) r ≠ [] := by simp [dvp]
    cases hq : dvp (d :: e :: cs) r with
    | nil => exact absurd hq hn
    | cons y ys => rw [hq] at ih; rw [List.getLast?_cons_cons]; exact ih
theorem roots_le {p : Nat} (h : IsP p) : ∀ (n : Nat) (cs : List Int), cs.length = n + 1 → cs.getLast? = some 1 → ∀ rs : List Int, rs.Pairwise (fun x y => ¬ (p : Int) ∣ y - x) → (∀ r ∈ rs, (p : Int) ∣ evp cs r) → rs.length ≤ n := by
  intro n
  induction n with
  | zero =>
    intro cs hl ht rs hp hr
    cases rs with
    | nil => exact Nat.le_refl 0
    | cons r rs =>
      match cs, hl with
      | [c], _ =>
        have : c = 1 := by simpa using ht
        subst this
        have d := hr r List.mem_cons_self
        have e : evp [1] r = 1 := by simp [evp]
        rw [e] at d
        have := Int.le_of_dvd (by decide) d
        have := h.1
        omega
  | succ n ih =>
    intro cs hl ht rs hp hr
    cases rs with
    | nil => exact Nat.zero_le _
    | cons r rs =>
      obtain ⟨h1, h2⟩ := List.pairwise_cons.mp hp
      have q := ih (dvp cs r) (by rw [dvp_len]; omega) (dvp_top cs r (by omega) ht) rs h2 fun s hs => by
        have d : (p : Int) ∣ evp cs s - evp cs r := Int.dvd_sub (hr s (List.mem_cons_of_mem _ hs)) (hr r List.mem_cons_self)
        rw [evp_dvp] at d
        exact (h.dvd_mulI d).resolve_left (h1 s hs)
      rw [List.length_cons]; omega
theorem evp_pow : ∀ (k : Nat) (x : Int), evp (List.replicate k 0 ++ [1]) x = x ^ k
  | 0, x => by simp [evp]
  | k + 1, x => by
    rw [List.replicate_succ, List.cons_append, evp, evp_pow k x, Int.pow_succ]; grind
/-- a number whose power is not 1 -/
theorem non_root {p : Nat} (h : IsP p) {k : Nat} (k0 : 0 < k) (hk : k < p - 1) : ∃ z : Nat, 1 ≤ z ∧ z < p ∧ (z : Int) ^ k % p ≠ 1 := by
  refine Classical.byContradiction fun c => ?_
  have all : ∀ z : Nat, 1 ≤ z → z < p → (z : Int) ^ k % p = 1 := fun z h1 h2 => Classical.byContradiction fun e => c ⟨z, h1, h2, e⟩
  have q := roots_le h k (-1 :: (List.replicate (k - 1) 0 ++ [1])) (by simp; omega) (by
    cases hq : (List.replicate (k - 1) 0 ++ [(1 : Int)]) with
    | nil => simp at hq
    | cons y ys => rw [List.getLast?_cons_cons, ← hq]; simp) ((List.range' 1 (p - 1)).map fun (z : Nat) => (z : Int)) (by
      refine List.pairwise_map.mpr (List.Pairwise.imp_of_mem (fun {x y} hx hy q d => ?_) (List.nodup_range' (s := 1) (n := p - 1)))
      have hx := List.mem_range'_1.mp hx
      have hy := List.mem_range'_1.mp hy
      have := Int.eq_zero_of_dvd_of_natAbs_lt_natAbs d (by omega)
      exact q (by omega)) (fun r hr => by
      obtain ⟨z, hz, rfl⟩ := List.mem_map.mp hr
      have hz := List.mem_range'_1.mp hz
      have e := all z hz.1 (by omega)
      have o : (1 : Int) % p = 1 := Int.emod_eq_of_lt (by decide) (by have := h.1; omega)
      have d := em_dvd (p := p) (x := (z : Int) ^ k) (y := 1) (by rw [e, o])
      show (p : Int) ∣ -1 + (z : Int) * evp (List.replicate (k - 1) 0 ++ [1]) z
      rw [evp_pow]
      have ek : (z : Int) * (z : Int) ^ (k - 1) = (z : Int) ^ k := by
        rw [Int.mul_comm, ← Int.pow_succ]; congr 1; omega
      rw [ek, show (-1 : Int) + (z : Int) ^ k = (z : Int) ^ k - 1 by omega]
      exact d)
  rw [List.length_map, List.length_range'] at q
  omega
/-- half the exponent: 1 or -1 -/
theorem half_pow {p : Nat} (h : IsP p) (ho : p % 2 = 1) {a : Int} (ha : ¬ (p : Int) ∣ a) : a ^ ((p - 1) / 2) % p = 1 ∨ a ^ ((p - 1) / 2) % p = p - 1 := by
  refine sq_one h ?_
  rw [← Int.pow_add, show (p - 1) / 2 + (p - 1) / 2 = p - 1 by omega]
  exact fermatI h ha
/-! ### the twos of a number -/
theorem low_and (o t : Nat) : (((2 * o + 1) * 2 ^ t) &&& ((2 * o + 1) * 2 ^ t - 1)) = 2 * o * 2 ^ t := by
  induction t with
  | zero =>
    rw [Nat.pow_zero, Nat.mul_one, Nat.mul_one, Nat.add_sub_cancel]
    have e1 := @Nat.and_div_two (2 * o + 1) (2 * o)
    have e2 := @Nat.and_mod_two_eq_one (2 * o + 1) (2 * o)
    rw [show (2 * o + 1) / 2 = o by omega, show 2 * o / 2 = o by omega, Nat.and_self] at e1
    omega
  | succ t ih =>
    have hp := Nat.two_pow_pos t
    have hm : 0 < (2 * o + 1) * 2 ^ t := Nat.mul_pos (by omega) hp
    have ep : (2 * o + 1) * 2 ^ (t + 1) = 2 * ((2 * o + 1) * 2 ^ t) := by rw [Nat.pow_succ]; ac_rfl
    have eq : 2 * o * 2 ^ (t + 1) = 2 * (2 * o * 2 ^ t) := by rw [Nat.pow_succ]; ac_rfl
    rw [ep, eq]
    generalize (2 * o + 1) * 2 ^ t = m at *
    have e1 := @Nat.and_div_two (2 * m) (2 * m - 1)
    have e2 := @Nat.and_mod_two_eq_one (2 * m) (2 * m - 1)
    rw [show 2 * m / 2 = m by omega, show (2 * m - 1) / 2 = m - 1 by omega, ih] at e1
    omega
theorem odd_part : ∀ n : Nat, 0 < n → ∃ o t, n = (2 * o + 1) * 2 ^ t := by
  intro n
  induction n using Nat.strongRecOn with
  | ind n ih =>
    intro h
    by_cases e : n % 2 = 1
    · exact ⟨n / 2, 0, by rw [Nat.pow_zero]; omega⟩
    · obtain ⟨o, t, q⟩ := ih (n / 2) (by omega) (by omega)
      exact ⟨o, t + 1, by rw [Nat.pow_succ, ← Nat.mul_assoc, ← q]; omega⟩
end Mi
set_option maxHeartbeats 1000000
namespace Mi
/-! ### residues as a ring -/
def zr (p : Nat) (x y : Int) : Prop := x % p = y % p
def Zp (p : Nat) : Type := Quot (zr p)
def zm (p : Nat) (x : Int) : Zp p := Quot.mk _ x
theorem zr_iff {p : Nat} {x y : Int} : zr p x y ↔ (p : Int) ∣ x - y := ⟨fun h => em_dvd h, fun h => em_of_dvd h⟩
section
variable {p : Nat}
def zadd : Zp p → Zp p → Zp p := Quot.lift (fun x => Quot.lift (fun y => zm p (x + y)) fun a b h => Quot.sound (by
  rw [zr_iff] at h ⊢; rw [show x + a - (x + b) = a - b by omega]; exact h)) fun a b h => by
  funext y
  induction y using Quot.ind
  refine Quot.sound ?_
  rw [zr_iff] at h ⊢
  rename_i y
  rw [show a + y - (b + y) = a - b by omega]; exact h
def zmul : Zp p → Zp p → Zp p := Quot.lift (fun x => Quot.lift (fun y => zm p (x * y)) fun a b h => Quot.sound (em_mul rfl h)) fun a b h => by
  funext y
  induction y using Quot.ind
  exact Quot.sound (em_mul h rfl)
def zneg : Zp p → Zp p := Quot.lift (fun x => zm p (-x)) fun a b h => Quot.sound (by
  rw [zr_iff] at h ⊢
  rw [show -a - -b = -(a - b) by omega]; exact Int.dvd_neg.mpr h)
instance : Add (Zp p) := ⟨zadd⟩
instance : Mul (Zp p) := ⟨zmul⟩
instance : Neg (Zp p) := ⟨zneg⟩
instance : Sub (Zp p) := ⟨fun x y => x + -y⟩
instance : NatCast (Zp p) := ⟨fun n => zm p (n : Int)⟩
instance : IntCast (Zp p) := ⟨fun n => zm p n⟩
instance (n : Nat) : OfNat (Zp p) n := ⟨zm p (n : Int)⟩
def zpow (x : Zp p) : Nat → Zp p
  | 0 => 1
  | n + 1 => zpow x n * x
instance : HPow (Zp p) Nat (Zp p) := ⟨zpow⟩
instance : SMul Nat (Zp p) := ⟨fun n x => (n : Zp p) * x⟩
instance : SMul Int (Zp p) := ⟨fun n x => (n : Zp p) * x⟩
theorem zm_add (x y : Int) : zm p (x + y) = zm p x + zm p y := rfl
theorem zm_mul (x y : Int) : zm p (x * y) = zm p x * zm p y := rfl
theorem zm_neg (x : Int) : zm p (-x) = -zm p x := rfl
theorem zm_sub (x y : Int) : zm p (x - y) = zm p x - zm p y := by
  rw [Int.sub_eq_add_neg]; rfl
theorem zm_eq {x y : Int} : zm p x = zm p y ↔ x % p = y % p := by
  refine ⟨fun h => ?_, fun h => Quot.sound h⟩
  have : ∀ z : Zp p, zm p x = z → Quot.lift (fun y => x % p = y % p) (fun a b h => by simp only [show a % (p : Int) = b % p from h]) z := by
    intro z e; subst e; rfl
  exact this _ h
theorem zm_num (n : Nat) : zm p (OfNat.ofNat n : Int) = (OfNat.ofNat n : Zp p) := rfl
theorem zm_nat (n : Nat) : zm p (n : Int) = (OfNat.ofNat n : Zp p) := rfl
theorem zm_mod (x : Int) : zm p (x % p) = zm p x := zm_eq.mpr (em_em _ _)
instance : Lean.Grind.CommRing (Zp p) where
  add_zero := fun a => Quot.inductionOn a (fun x => congrArg (zm p) (Int.add_zero x))
  add_comm := fun a b => Quot.inductionOn a (fun x => Quot.inductionOn b (fun y => congrArg (zm p) (Int.add_comm x y)))
  add_assoc := fun a b c => Quot.inductionOn a (fun x => Quot.inductionOn b (fun y => Quot.inductionOn c (fun z => congrArg (zm p) (Int.add_assoc x y z))))
  mul_assoc := fun a b c => Quot.inductionOn a (fun x => Quot.inductionOn b (fun y => Quot.inductionOn c (fun z => congrArg (zm p) (Int.mul_assoc x y z))))
  mul_one := fun a => Quot.inductionOn a (fun x => congrArg (zm p) (Int.mul_one x))
  one_mul := fun a => Quot.inductionOn a (fun x => congrArg (zm p) (Int.one_mul x))
  left_distrib := fun a b c => Quot.inductionOn a (fun x => Quot.inductionOn b (fun y => Quot.inductionOn c (fun z => congrArg (zm p) (Int.mul_add x y z))))
  right_distrib := fun a b c => Quot.inductionOn a (fun x => Quot.inductionOn b (fun y => Quot.inductionOn c (fun z => congrArg (zm p) (Int.add_mul x y z))))
  zero_mul := fun a => Quot.inductionOn a (fun x => congrArg (zm p) (Int.zero_mul x))
  mul_zero := fun a => Quot.inductionOn a (fun x => congrArg (zm p) (Int.mul_zero x))
  pow_zero := fun a => rfl
  pow_succ := fun a n => rfl
  ofNat_succ := fun n => rfl
  ofNat_eq_natCast := fun n => rfl
  nsmul_eq_natCast_mul := fun n a => rfl
  neg_add_cancel := fun a => Quot.inductionOn a (fun x => congrArg (zm p) (Int.add_left_neg x))
  sub_eq_add_neg := fun a b => rfl
  neg_zsmul := fun i a => Quot.inductionOn a (fun x => congrArg (zm p) (Int.neg_mul i x))
  zsmul_natCast_eq_nsmul := fun n a => rfl
  intCast_ofNat := fun n => rfl
  intCast_neg := fun i => rfl
  mul_comm := fun a b => Quot.inductionOn a (fun x => Quot.inductionOn b (fun y => congrArg (zm p) (Int.mul_comm x y)))
theorem zm_zero {x : Int} : zm p x = 0 ↔ x % p = 0 := by
  have : zm p x = zm p 0 ↔ _ := zm_eq
  rw [Int.zero_emod] at this
  exact this
theorem zm_pow (x : Int) : ∀ n : Nat, zm p (x ^ n) = zm p x ^ n
  | 0 => by rw [Int.pow_zero]; rfl
  | n + 1 => by
    rw [Int.pow_succ, zm_mul, zm_pow x n]; rfl
theorem zm_dvd {x : Int} : zm p x = 0 ↔ (p : Int) ∣ x := zm_zero.trans ⟨Int.dvd_of_emod_eq_zero, Int.emod_eq_zero_of_dvd⟩
theorem z_dom (h : IsP p) {x y : Zp p} (e : x * y = 0) : x = 0 ∨ y = 0 := by
  revert e
  refine Quot.inductionOn x (fun x => ?_)
  refine Quot.inductionOn y (fun y => ?_)
  intro e
  rcases h.dvd_mulI (zm_dvd.mp e) with q | q
  · exact .inl (zm_dvd.mpr q)
  · exact .inr (zm_dvd.mpr q)
theorem z_cancel (h : IsP p) {x y : Zp p} (hx : x ≠ 0) (e : x * y = 0) : y = 0 := (z_dom h e).resolve_left hx
theorem z_mul_ne (h : IsP p) {x y : Zp p} (hx : x ≠ 0) (hy : y ≠ 0) : x * y ≠ 0 := fun e => hy (z_cancel h hx e)
theorem z_inv0 (h : IsP p) (x : Int) (hx : zm p x ≠ 0) : zm p x ^ (p - 2) * zm p x = 1 := by
  have h2 := h.1
  have f := fermatI h (a := x) fun d => hx (zm_dvd.mpr d)
  rw [← zm_pow, ← zm_mul, ← Int.pow_succ, show (p - 2).succ = p - 1 by omega]
  exact (show zm p (x ^ (p - 1)) = zm p 1 from zm_eq.mpr (by rw [f, Int.emod_eq_of_lt (by decide) (by omega)]))
theorem z_inv (h : IsP p) {x : Zp p} : x ≠ 0 → x ^ (p - 2) * x = 1 := Quot.inductionOn x fun x hx => z_inv0 h x hx
theorem z_ne_num (n : Nat) (h0 : 0 < n) (h1 : n < p) : (OfNat.ofNat n : Zp p) ≠ 0 := by
  intro e
  have := zm_zero.mp (show zm p (n : Int) = 0 from e)
  rw [Int.emod_eq_of_lt (by omega) (by omega)] at this
  omega
/-- residues are equal if their classes are -/
theorem res_eq {x y : Int} (hx0 : 0 ≤ x) (hx1 : x < p) (hy0 : 0 ≤ y) (hy1 : y < p) (h : zm p x = zm p y) : x = y := by
  have := zm_eq.mp h
  rwa [Int.emod_eq_of_lt hx0 hx1, Int.emod_eq_of_lt hy0 hy1] at this
end
theorem z_test {p : Nat} (x y : Zp p) (h : x * x = y) : (x + 1) ^ 2 - 2 * x - 1 = y := by grind
end Mi
namespace Mi
theorem z_clos {p : Nat} (x1 y1 x2 y2 a b l i : Zp p) (h1 : y1*y1 = x1*x1*x1 + a*x1 + b) (h2 : y2*y2 = x2*x2*x2 + a*x2 + b) (hi : i*(x2-x1) = 1) (hl : l*(x2-x1) = (y2-y1))  : (l*(x1-(l*l - x1 - x2)) - y1)*(l*(x1-(l*l - x1 - x2)) - y1) = (l*l - x1 - x2)*(l*l - x1 - x2)*(l*l - x1 - x2) + a*(l*l - x1 - x2) + b := by
  have q : x1*x1 + x1*x2 + x2*x2 + a = l*(y1+y2) := by
    have : (x2-x1)*(x1*x1 + x1*x2 + x2*x2 + a - l*(y1+y2)) = 0 := by grind
    grind
  have e : y2 = y1 + l*(x2-x1) := by grind
  subst e
  grind
end Mi
set_option maxHeartbeats 1000000
namespace Mi
open PySem PySem.Spec L2
/-! ### sizes, found by themselves -/
class Bd (x : Int) (n : outParam Nat) : Prop where
  lt : x.natAbs < 2 ^ n
class Pb (p : Nat) : Prop where
  pos : 0 < p
  lt : p < 2 ^ 256
theorem Bd.up {x : Int} {m n : Nat} (h : x.natAbs < 2 ^ m) (e : m ≤ n) : x.natAbs < 2 ^ n := Nat.lt_of_lt_of_le h (Nat.pow_le_pow_right (by decide) e)
instance bd_mul {x y : Int} {a b : Nat} [h1 : Bd x a] [h2 : Bd y b] : Bd (x * y) (a + b) := ⟨by rw [Int.natAbs_mul]; exact pow_add_lt h1.lt h2.lt⟩
theorem two_sum {u v a b : Nat} (h1 : u < 2 ^ a) (h2 : v < 2 ^ b) : u + v < 2 ^ (max a b + 1) := by
  have := Nat.lt_of_lt_of_le h1 (Nat.pow_le_pow_right (show 0 < 2 by decide) (Nat.le_max_left a b))
  have := Nat.lt_of_lt_of_le h2 (Nat.pow_le_pow_right (show 0 < 2 by decide) (Nat.le_max_right a b))
  rw [Nat.pow_succ]; omega
instance bd_add {x y : Int} {a b : Nat} [h1 : Bd x a] [h2 : Bd y b] : Bd (x + y) (max a b + 1) := ⟨Nat.lt_of_le_of_lt (Int.natAbs_add_le x y) (two_sum h1.lt h2.lt)⟩
instance bd_sub {x y : Int} {a b : Nat} [h1 : Bd x a] [h2 : Bd y b] : Bd (x - y) (max a b + 1) := ⟨Nat.lt_of_le_of_lt (Int.natAbs_sub_le x y) (two_sum h1.lt h2.lt)⟩
instance bd_neg {x : Int} {a : Nat} [h1 : Bd x a] : Bd (-x) a := ⟨by rw [Int.natAbs_neg]; exact h1.lt⟩
instance bd_pow {x : Int} {a k : Nat} [h1 : Bd x a] : Bd (x ^ k) (a * k + 1) := ⟨by
  rw [Int.natAbs_pow]
  have : x.natAbs ^ k ≤ (2 ^ a) ^ k := Nat.pow_le_pow_left (Nat.le_of_lt h1.lt) k
  rw [← Nat.pow_mul] at this
  have : 2 ^ (a * k) < 2 ^ (a * k + 1) := Nat.pow_lt_pow_right (by decide) (by omega)
  omega⟩
instance : Bd (0 : Int) 8 := ⟨by decide⟩
instance : Bd (1 : Int) 8 := ⟨by decide⟩
instance : Bd (2 : Int) 8 := ⟨by decide⟩
instance : Bd (3 : Int) 8 := ⟨by decide⟩
instance : Bd (4 : Int) 8 := ⟨by decide⟩
instance : Bd (5 : Int) 8 := ⟨by decide⟩
instance : Bd (6 : Int) 8 := ⟨by decide⟩
instance : Bd (7 : Int) 8 := ⟨by decide⟩
instance : Bd (8 : Int) 8 := ⟨by decide⟩
instance : Bd (9 : Int) 8 := ⟨by decide⟩
instance : Bd (12 : Int) 8 := ⟨by decide⟩
instance : Bd (13 : Int) 8 := ⟨by decide⟩
instance : Bd (16 : Int) 8 := ⟨by decide⟩
instance : Bd (27 : Int) 8 := ⟨by decide⟩
instance : Bd (2147483648 : Int) 70 := ⟨by decide +kernel⟩
instance : Bd (4294967296 : Int) 70 := ⟨by decide +kernel⟩
instance : Bd (2305843009213693952 : Int) 70 := ⟨by decide +kernel⟩
instance : Bd (9223372036854775808 : Int) 70 := ⟨by decide +kernel⟩
instance : Bd (18446744073709551616 : Int) 70 := ⟨by decide +kernel⟩
instance : Bd (6277101735386680763835789423207666416102355444464034512896 : Int) 200 := ⟨by decide +kernel⟩
instance bd_p {p : Nat} [h : Pb p] : Bd (p : Int) 256 := ⟨by rw [Int.natAbs_natCast]; exact h.lt⟩
instance bd_mod {p : Nat} {x : Int} [h : Pb p] : Bd (x % (p : Int)) 256 := ⟨by
  have := h.pos; have := h.lt
  have := Int.emod_nonneg x (show (p : Int) ≠ 0 by omega)
  have := Int.emod_lt_of_pos x (show (0 : Int) < (p : Int) by omega)
  omega⟩
theorem need_bd {α : Type} {x y : Int} {a b : Nat} {m : Res α} [h1 : Bd x a] [h2 : Bd y b] (h : (decide (a + b ≤ 134217728)) = true) : Res.need (CMulX x y) m = m := Res.need_pos (cmulx h1.lt h2.lt (of_decide_eq_true h))
theorem need_pw2 {α : Type} {x : Int} {a : Nat} {m : Res α} [h1 : Bd x a] (h : (decide (a * 2 ≤ 134217728)) = true) : Res.need (CPowX x 2) m = m := Res.need_pos ⟨by decide, by
  have := le_ibits h1.lt
  have h := of_decide_eq_true h
  show ((Builtin.Int.intBits x : Nat) : Int) * 2 ≤ 134217728
  omega⟩
theorem need_pw3 {α : Type} {x : Int} {a : Nat} {m : Res α} [h1 : Bd x a] (h : (decide (a * 3 ≤ 134217728)) = true) : Res.need (CPowX x 3) m = m := Res.need_pos ⟨by decide, by
  have := le_ibits h1.lt
  have h := of_decide_eq_true h
  show ((Builtin.Int.intBits x : Nat) : Int) * 3 ≤ 134217728
  omega⟩
theorem need_pw4 {α : Type} {x : Int} {a : Nat} {m : Res α} [h1 : Bd x a] (h : (decide (a * 4 ≤ 134217728)) = true) : Res.need (CPowX x 4) m = m := Res.need_pos ⟨by decide, by
  have := le_ibits h1.lt
  have h := of_decide_eq_true h
  show ((Builtin.Int.intBits x : Nat) : Int) * 4 ≤ 134217728
  omega⟩
theorem need_pw6 {α : Type} {x : Int} {a : Nat} {m : Res α} [h1 : Bd x a] (h : (decide (a * 6 ≤ 134217728)) = true) : Res.need (CPowX x 6) m = m := Res.need_pos ⟨by decide, by
  have := le_ibits h1.lt
  have h := of_decide_eq_true h
  show ((Builtin.Int.intBits x : Nat) : Int) * 6 ≤ 134217728
  omega⟩
theorem need_p {α : Type} {p : Nat} {m : Res α} [h : Pb p] : Res.need (0 < (p : Int)) m = m := Res.need_pos (by have := h.pos; omega)
theorem need_true {α : Type} {m : Res α} : Res.need True m = m := Res.need_pos trivial
theorem tn2 : (2 : Int).toNat = 2 := rfl
theorem tn3 : (3 : Int).toNat = 3 := rfl
theorem tn4 : (4 : Int).toNat = 4 := rfl
theorem tn6 : (6 : Int).toNat = 6 := rfl
theorem bd_test {α : Type} {p : Nat} [Pb p] (x y : Int) [Bd x 256] [Bd y 256] (m : Res α) : Res.need (CMulX (x * y - 27 * x ^ 3) (y + (x * x * x) % (p : Int))) (Res.need (0 < (p : Int)) (Res.need (CPowX (x * y) 3) m)) = m := by
  simp (decide := true) only [need_bd, need_p, need_pw3]
end Mi
set_option maxHeartbeats 1000000
namespace Mi
/-! ### residues of a prime as a field -/
class Prm (p : Nat) : Prop where
  pr : IsP p
section
variable {p : Nat}
def zv : Zp p → Int := Quot.lift (fun x => x % (p : Int)) fun a b h => h
theorem zv_zm (x : Int) : zv (zm p x) = x % p := rfl
theorem zm_zv (x : Zp p) : zm p (zv x) = x := Quot.inductionOn x fun x => zm_mod x
theorem zv_ge [P : Prm p] (x : Zp p) : 0 ≤ zv x := Quot.inductionOn x fun x => Int.emod_nonneg _ (by have := P.pr.1; omega)
theorem zv_lt [P : Prm p] (x : Zp p) : zv x < p := Quot.inductionOn x fun x => Int.emod_lt_of_pos _ (by have := P.pr.1; omega)
theorem zv_inj {x y : Zp p} (h : zv x = zv y) : x = y := by rw [← zm_zv x, ← zm_zv y, h]
theorem zv_of {x : Int} (h0 : 0 ≤ x) (h1 : x < p) : zv (zm p x) = x := by rw [zv_zm, Int.emod_eq_of_lt h0 h1]
theorem zpow_zero' (n : Nat) (h : 0 < n) : (0 : Zp p) ^ n = 0 := by
  cases n with
  | zero => omega
  | succ n => show (0 : Zp p) ^ n * 0 = 0; grind
open Classical in
noncomputable def zinv (x : Zp p) : Zp p := if x = 0 then 0 else x ^ (p - 2)
noncomputable instance : Inv (Zp p) := ⟨zinv⟩
noncomputable instance : Div (Zp p) := ⟨fun x y => x * y⁻¹⟩
noncomputable def zzpow (x : Zp p) : Int → Zp p
  | .ofNat n => x ^ n
  | .negSucc n => (x ^ (n + 1))⁻¹
noncomputable instance : HPow (Zp p) Int (Zp p) := ⟨zzpow⟩
theorem z_inv_zero : (0 : Zp p)⁻¹ = 0 := by show zinv 0 = 0; unfold zinv; rw [if_pos rfl]
theorem z_one_inv [P : Prm p] : (1 : Zp p)⁻¹ = 1 := by
  show zinv 1 = 1
  unfold zinv
  split
  · rename_i h; exact h.symm
  · have : ∀ n : Nat, (1 : Zp p) ^ n = 1 := by
      intro n
      induction n with
      | zero => rfl
      | succ n ih => show (1 : Zp p) ^ n * 1 = 1; rw [ih]; grind
    exact this _
theorem z_mul_inv [P : Prm p] {x : Zp p} (h : x ≠ 0) : x * x⁻¹ = 1 := by
  show x * zinv x = 1
  unfold zinv
  rw [if_neg h]
  have := z_inv P.pr h
  grind
theorem z_inv_inv [P : Prm p] (x : Zp p) : x⁻¹⁻¹ = x := by
  by_cases h : x = 0
  · subst h; rw [z_inv_zero, z_inv_zero]
  · have a := z_mul_inv h
    have h' : x⁻¹ ≠ 0 := by
      intro e
      rw [e] at a
      have : (1 : Zp p) = 0 := by grind
      exact z_ne_num 1 (by decide) (by have := P.pr.1; omega) this
    have b := z_mul_inv h'
    have : x * (x⁻¹ * x⁻¹⁻¹) = x := by rw [b]; grind
    have t : x * (x⁻¹ * x⁻¹⁻¹) = (x * x⁻¹) * x⁻¹⁻¹ := by grind
    rw [t, a] at this
    grind
noncomputable instance [P : Prm p] : Lean.Grind.Field (Zp p) where
  toCommRing := inferInstance
  div_eq_mul_inv := fun a b => rfl
  zero_ne_one := fun h => z_ne_num (p := p) 1 (by decide) (by have := P.pr.1; omega) h.symm
  inv_zero := z_inv_zero
  mul_inv_cancel := fun h => z_mul_inv h
  zpow_zero := fun a => rfl
  zpow_succ := fun a n => rfl
  zpow_neg := fun a n => by
    cases n with
    | ofNat n =>
      cases n with
      | zero => exact z_one_inv.symm
      | succ n => rfl
    | negSucc n => exact (z_inv_inv _).symm
end
/-! ### multiples in a commutative group -/
section
open Lean.Grind
variable {M : Type} [AddCommGroup M]
def nsm (n : Nat) (a : M) : M := match n with
  | 0 => 0
  | n + 1 => nsm n a + a
def zsm (n : Int) (a : M) : M := match n with
  | .ofNat n => nsm n a
  | .negSucc n => -(nsm (n + 1) a)
theorem g_add_comm (a b : M) : a + b = b + a := AddCommMonoid.add_comm a b
theorem g_add_assoc (a b c : M) : a + b + c = a + (b + c) := AddCommMonoid.add_assoc a b c
theorem g_add_zero (a : M) : a + 0 = a := AddCommMonoid.add_zero a
theorem g_zero_add (a : M) : 0 + a = a := by rw [g_add_comm]; exact g_add_zero a
theorem g_neg_add (a : M) : -a + a = 0 := AddCommGroup.neg_add_cancel a
theorem g_add_neg (a : M) : a + -a = 0 := by rw [g_add_comm]; exact g_neg_add a
theorem g_cancel_r {a b c : M} (h : a + c = b + c) : a = b := by
  have := congrArg (fun z => z + -c) h
  simp only [g_add_assoc, g_add_neg, g_add_zero] at this
  exact this
theorem g_cancel_l {a b c : M} (h : c + a = c + b) : a = b := g_cancel_r (c := c) (by rw [g_add_comm a, g_add_comm b]; exact h)
theorem g_neg_eq {a b : M} (h : a + b = 0) : b = -a := g_cancel_l (c := a) (by rw [h, g_add_neg])
theorem g_neg_neg (a : M) : - -a = a := (g_neg_eq (g_neg_add a)).symm
theorem g_neg_addd (a b : M) : -(a + b) = -a + -b := (g_neg_eq (by
  rw [g_add_assoc, g_add_comm (-a), ← g_add_assoc b, g_add_neg, g_zero_add, g_add_neg])).symm
theorem g_neg_zero : -(0 : M) = 0 := (g_neg_eq (g_add_zero 0)).symm
theorem g_sub (a b : M) : a - b = a + -b := AddCommGroup.sub_eq_add_neg a b
theorem nsm_zero (a : M) : nsm 0 a = 0 := rfl
theorem nsm_succ (n : Nat) (a : M) : nsm (n + 1) a = nsm n a + a := rfl
theorem nsm_one (a : M) : nsm 1 a = a := g_zero_add a
theorem nsm_add (m n : Nat) (a : M) : nsm (m + n) a = nsm m a + nsm n a := by
  induction n with
  | zero => rw [Nat.add_zero, nsm_zero, g_add_zero]
  | succ n ih => rw [← Nat.add_assoc, nsm_succ, nsm_succ, ih, g_add_assoc]
theorem nsm_zero' (n : Nat) : nsm n (0 : M) = 0 := by
  induction n with
  | zero => rfl
  | succ n ih => rw [nsm_succ, ih, g_add_zero]
theorem nsm_addd (n : Nat) (a b : M) : nsm n (a + b) = nsm n a + nsm n b := by
  induction n with
  | zero => rw [nsm_zero, nsm_zero, nsm_zero, g_add_zero]
  | succ n ih => rw [nsm_succ, nsm_succ, nsm_succ, ih, g_add_assoc, g_add_assoc, ← g_add_assoc (nsm n b), ← g_add_assoc a, g_add_comm a (nsm n b)]
theorem nsm_mul (m n : Nat) (a : M) : nsm (m * n) a = nsm m (nsm n a) := by
  induction m with
  | zero => rw [Nat.zero_mul]; rfl
  | succ m ih => rw [Nat.succ_mul, nsm_add, ih, nsm_succ]
theorem nsm_neg (n : Nat) (a : M) : nsm n (-a) = -(nsm n a) := g_neg_eq (by rw [← nsm_addd, g_add_neg, nsm_zero'])
theorem zsm_nat (n : Nat) (a : M) : zsm (n : Int) a = nsm n a := rfl
theorem zsm_neg_nat (n : Nat) (a : M) : zsm (-(n : Int)) a = -(nsm n a) := by
  cases n with
  | zero => show nsm 0 a = -(nsm 0 a); rw [nsm_zero, g_neg_zero]
  | succ n => rfl
theorem zsm_neg (n : Int) (a : M) : zsm (-n) a = -(zsm n a) := by
  rcases Int.eq_nat_or_neg n with ⟨k, rfl | rfl⟩
  · rw [zsm_neg_nat, zsm_nat]
  · rw [Int.neg_neg, zsm_neg_nat, zsm_nat, g_neg_neg]
theorem zsm_negp (n : Int) (a : M) : zsm n (-a) = -(zsm n a) := by
  rcases Int.eq_nat_or_neg n with ⟨k, rfl | rfl⟩
  · rw [zsm_nat, zsm_nat, nsm_neg]
  · rw [zsm_neg_nat, zsm_neg_nat, nsm_neg]
theorem zsm_sub_nat (m n : Nat) (a : M) : zsm ((m : Int) - n) a = nsm m a + -(nsm n a) := by
  rcases Nat.le_total n m with h | h
  · obtain ⟨k, rfl⟩ := Nat.exists_eq_add_of_le h
    rw [show ((n + k : Nat) : Int) - n = (k : Int) by omega, zsm_nat, Nat.add_comm, nsm_add, g_add_assoc, g_add_neg, g_add_zero]
  · obtain ⟨k, rfl⟩ := Nat.exists_eq_add_of_le h
    rw [show (m : Int) - ((m + k : Nat) : Int) = -(k : Int) by omega, zsm_neg_nat, nsm_add, g_neg_addd, ← g_add_assoc, g_add_neg, g_zero_add]
theorem zsm_add (m n : Int) (a : M) : zsm (m + n) a = zsm m a + zsm n a := by
  rcases Int.eq_nat_or_neg m with ⟨k, rfl | rfl⟩ <;> rcases Int.eq_nat_or_neg n with ⟨l, rfl | rfl⟩
  · rw [← Int.natCast_add, zsm_nat, zsm_nat, zsm_nat, nsm_add]
  · rw [← Int.sub_eq_add_neg, zsm_sub_nat, zsm_nat, zsm_neg_nat]
  · rw [Int.add_comm, ← Int.sub_eq_add_neg, zsm_sub_nat, zsm_nat, zsm_neg_nat, g_add_comm]
  · rw [show -(k : Int) + -(l : Int) = -((k + l : Nat) : Int) by omega, zsm_neg_nat, zsm_neg_nat, zsm_neg_nat, nsm_add, g_neg_addd]
theorem zsm_addd (n : Int) (a b : M) : zsm n (a + b) = zsm n a + zsm n b := by
  rcases Int.eq_nat_or_neg n with ⟨k, rfl | rfl⟩
  · rw [zsm_nat, zsm_nat, zsm_nat, nsm_addd]
  · rw [zsm_neg_nat, zsm_neg_nat, zsm_neg_nat, nsm_addd, g_neg_addd]
theorem zsm_mul (m n : Int) (a : M) : zsm (m * n) a = zsm m (zsm n a) := by
  rcases Int.eq_nat_or_neg m with ⟨k, rfl | rfl⟩ <;> rcases Int.eq_nat_or_neg n with ⟨l, rfl | rfl⟩
  · rw [← Int.natCast_mul, zsm_nat, zsm_nat, zsm_nat, nsm_mul]
  · rw [Int.mul_neg, ← Int.natCast_mul, zsm_neg_nat, zsm_nat, zsm_neg_nat, nsm_neg, nsm_mul]
  · rw [Int.neg_mul, ← Int.natCast_mul, zsm_neg_nat, zsm_neg_nat, zsm_nat, nsm_mul]
  · rw [Int.neg_mul_neg, ← Int.natCast_mul, zsm_nat, zsm_neg_nat, zsm_neg_nat, nsm_neg, g_neg_neg, nsm_mul]
theorem zsm_zero (a : M) : zsm 0 a = 0 := rfl
theorem zsm_one (a : M) : zsm 1 a = a := nsm_one a
theorem zsm_zero' (n : Int) : zsm n (0 : M) = 0 := by
  rcases Int.eq_nat_or_neg n with ⟨k, rfl | rfl⟩
  · rw [zsm_nat, nsm_zero']
  · rw [zsm_neg_nat, nsm_zero', g_neg_zero]
theorem zsm_two (a : M) : zsm 2 a = a + a := by
  show nsm 2 a = _
  rw [nsm_succ, nsm_one]
end
end Mi
set_option maxHeartbeats 40000000
namespace Mi
open Lean.Grind
section
variable {F : Type} [Field F]
/-! ### the sum of points of a twisted Edwards curve, over any field -/
theorem g_dom {x y : F} (h : x * y = 0) : x = 0 ∨ y = 0 := by
  by_cases hx : x = 0
  · exact .inl hx
  · refine .inr ?_
    have := Field.mul_inv_cancel hx
    grind
theorem g_cancel {x y : F} (hx : x ≠ 0) (h : x * y = 0) : y = 0 := (g_dom h).resolve_left hx
def OnE {R : Type} [CommRing R] (a d : R) (p : R × R) : Prop := a * p.1 * p.1 + p.2 * p.2 = 1 + d * p.1 * p.1 * p.2 * p.2
structure EdC {R : Type} [CommRing R] (a d : R) : Prop where
  two : (2 : R) ≠ 0
  sq : ∃ r, r * r = a ∧ r ≠ 0
  non : ∀ z : R, z * z ≠ d
noncomputable def eadd (a d : F) (p q : F × F) : F × F :=
  ((p.1 * q.2 + p.2 * q.1) * (1 + d * p.1 * q.1 * p.2 * q.2)⁻¹, (p.2 * q.2 - a * p.1 * q.1) * (1 - d * p.1 * q.1 * p.2 * q.2)⁻¹)
def eneg {R : Type} [CommRing R] (p : R × R) : R × R := (-p.1, p.2)
def ezero {R : Type} [CommRing R] : R × R := (0, 1)
theorem ed_sq {d x y r : F} (hn : ∀ z : F, z * z ≠ d) (hx : x ≠ 0) (h : y * y = d * x * x * r * r) (hr : r ≠ 0) : False := by
  have i := Field.mul_inv_cancel (a := x * r) (fun e => by rcases g_dom e with q | q; exact hx q; exact hr q)
  apply hn (y * (x * r)⁻¹)
  generalize (x * r)⁻¹ = v at *
  have : y * v * (y * v) = (y * y) * (v * v) := by grind
  rw [this, h]
  have : d * x * x * r * r * (v * v) = d * ((x * r * v) * (x * r * v)) := by grind
  rw [this, i]; grind
theorem ed_k1 {r d x1 y1 x2 y2 e : F} (o1 : r * r * x1 * x1 + y1 * y1 = 1 + d * x1 * x1 * y1 * y1) (o2 : r * r * x2 * x2 + y2 * y2 = 1 + d * x2 * x2 * y2 * y2) (he : e * e = 1) (h : d * x1 * x2 * y1 * y2 = e) :
    (r * x1 + e * y1) * (r * x1 + e * y1) = d * (x1 * y1) * (x1 * y1) * (r * x2 + y2) * (r * x2 + y2) := by
  have q2 : d * (x1 * y1) * (x1 * y1) * (r * x2 + y2) * (r * x2 + y2) = d * x1 * x1 * y1 * y1 * (r * r * x2 * x2 + y2 * y2) + 2 * r * (d * x1 * x2 * y1 * y2) * x1 * y1 := by grind
  have q3 : d * x1 * x1 * y1 * y1 * (1 + d * x2 * x2 * y2 * y2) = d * x1 * x1 * y1 * y1 + (d * x1 * x2 * y1 * y2) * (d * x1 * x2 * y1 * y2) := by grind
  rw [q2, o2, q3, h, he]
  have q4 : (r * x1 + e * y1) * (r * x1 + e * y1) = r * r * x1 * x1 + y1 * y1 * (e * e) + 2 * r * e * x1 * y1 := by grind
  rw [q4, he]
  grind
theorem ed_k2 {r d x1 y1 x2 y2 e : F} (o1 : r * r * x1 * x1 + y1 * y1 = 1 + d * x1 * x1 * y1 * y1) (o2 : r * r * x2 * x2 + y2 * y2 = 1 + d * x2 * x2 * y2 * y2) (he : e * e = 1) (h : d * x1 * x2 * y1 * y2 = e) :
    (r * x1 - e * y1) * (r * x1 - e * y1) = d * (x1 * y1) * (x1 * y1) * (r * x2 - y2) * (r * x2 - y2) := by
  have q2 : d * (x1 * y1) * (x1 * y1) * (r * x2 - y2) * (r * x2 - y2) = d * x1 * x1 * y1 * y1 * (r * r * x2 * x2 + y2 * y2) - 2 * r * (d * x1 * x2 * y1 * y2) * x1 * y1 := by grind
  have q3 : d * x1 * x1 * y1 * y1 * (1 + d * x2 * x2 * y2 * y2) = d * x1 * x1 * y1 * y1 + (d * x1 * x2 * y1 * y2) * (d * x1 * x2 * y1 * y2) := by grind
  rw [q2, o2, q3, h, he]
  have q4 : (r * x1 - e * y1) * (r * x1 - e * y1) = r * r * x1 * x1 + y1 * y1 * (e * e) - 2 * r * e * x1 * y1 := by grind
  rw [q4, he]
  grind
theorem ed_ne {a d x1 y1 x2 y2 e : F} (E : EdC a d) (o1 : OnE a d (x1, y1)) (o2 : OnE a d (x2, y2)) (he : e * e = 1) (h : d * x1 * x2 * y1 * y2 = e) : False := by
  have o1 : a * x1 * x1 + y1 * y1 = 1 + d * x1 * x1 * y1 * y1 := o1
  have o2 : a * x2 * x2 + y2 * y2 = 1 + d * x2 * x2 * y2 * y2 := o2
  obtain ⟨r, hr, r0⟩ := E.sq
  have e0 : e ≠ 0 := by
    intro z; subst z
    have : (1 : F) = 0 := by grind
    exact Field.zero_ne_one this.symm
  have hxy : x1 * y1 ≠ 0 := by
    intro z
    apply e0
    rw [← h]
    have : d * x1 * x2 * y1 * y2 = d * x2 * y2 * (x1 * y1) := by grind
    rw [this, z]; grind
  have hx2 : x2 ≠ 0 := by
    intro z; subst z; apply e0; rw [← h]; grind
  subst hr
  have k1 := ed_k1 o1 o2 he h
  have k2 := ed_k2 o1 o2 he h
  by_cases c1 : r * x2 + y2 = 0
  · by_cases c2 : r * x2 - y2 = 0
    · have t : 2 * (r * x2) = 0 := by grind
      exact hx2 (g_cancel r0 (g_cancel E.two t))
    · exact ed_sq E.non hxy k2 c2
  · exact ed_sq E.non hxy k1 c1
theorem ed_p {a d x1 y1 x2 y2 : F} (E : EdC a d) (o1 : OnE a d (x1, y1)) (o2 : OnE a d (x2, y2)) : 1 + d * x1 * x2 * y1 * y2 ≠ 0 := fun h => ed_ne E o1 o2 (e := -1) (by grind) (by grind)
theorem ed_m {a d x1 y1 x2 y2 : F} (E : EdC a d) (o1 : OnE a d (x1, y1)) (o2 : OnE a d (x2, y2)) : 1 - d * x1 * x2 * y1 * y2 ≠ 0 := fun h => ed_ne E o1 o2 (e := 1) (by grind) (by grind)
theorem ed_as_x {a d x1 y1 x2 y2 x3 y3 A B C D t s : F} (e1 : a*x1*x1+y1*y1 = 1+d*x1*x1*y1*y1) (e2 : a*x2*x2+y2*y2 = 1+d*x2*x2*y2*y2) (e3 : a*x3*x3+y3*y3 = 1+d*x3*x3*y3*y3)
  (hA : A = x1*y2+y1*x2) (hB : B = y1*y2-a*x1*x2) (hC : C = x2*y3+y2*x3) (hD : D = y2*y3-a*x2*x3) (ht : t = d*x1*x2*y1*y2) (hs : s = d*x2*x3*y2*y3) :
  (A*(1-t)*y3 + B*(1+t)*x3) * ((1-s*s)+d*C*D*x1*y1) = (x1*D*(1+s)+y1*C*(1-s)) * ((1-t*t)+d*A*B*x3*y3) := by
  subst hA hB hC hD ht hs
  grind
theorem ed_as_y {a d x1 y1 x2 y2 x3 y3 A B C D t s : F} (e1 : a*x1*x1+y1*y1 = 1+d*x1*x1*y1*y1) (e2 : a*x2*x2+y2*y2 = 1+d*x2*x2*y2*y2) (e3 : a*x3*x3+y3*y3 = 1+d*x3*x3*y3*y3)
  (hA : A = x1*y2+y1*x2) (hB : B = y1*y2-a*x1*x2) (hC : C = x2*y3+y2*x3) (hD : D = y2*y3-a*x2*x3) (ht : t = d*x1*x2*y1*y2) (hs : s = d*x2*x3*y2*y3) :
  (B*(1+t)*y3 - a*(A*(1-t)*x3)) * ((1-s*s)-d*C*D*x1*y1) = (y1*D*(1+s)-a*(x1*C*(1-s))) * ((1-t*t)-d*A*B*x3*y3) := by
  subst hA hB hC hD ht hs
  grind
theorem ed_clos {a d x1 y1 x2 y2 A B t : F} (e1 : a*x1*x1+y1*y1 = 1+d*x1*x1*y1*y1) (e2 : a*x2*x2+y2*y2 = 1+d*x2*x2*y2*y2)
  (hA : A = x1*y2+y1*x2) (hB : B = y1*y2-a*x1*x2) (ht : t = d*x1*x2*y1*y2) :
  a*A*A*(1-t)*(1-t) + B*B*(1+t)*(1+t) = (1-t*t)*(1-t*t) + d*A*A*B*B := by
  subst hA hB ht
  grind
theorem eadd_on {a d : F} (E : EdC a d) {p q : F × F} (hp : OnE a d p) (hq : OnE a d q) : OnE a d (eadd a d p q) := by
  obtain ⟨x1, y1⟩ := p
  obtain ⟨x2, y2⟩ := q
  have u := Field.mul_inv_cancel (ed_p E hp hq)
  have v := Field.mul_inv_cancel (ed_m E hp hq)
  have k := ed_clos (A := x1*y2+y1*x2) (B := y1*y2-a*x1*x2) (t := d*x1*x2*y1*y2) hp hq rfl rfl rfl
  show a * ((x1 * y2 + y1 * x2) * (1 + d * x1 * x2 * y1 * y2)⁻¹) * ((x1 * y2 + y1 * x2) * (1 + d * x1 * x2 * y1 * y2)⁻¹) + ((y1 * y2 - a * x1 * x2) * (1 - d * x1 * x2 * y1 * y2)⁻¹) * ((y1 * y2 - a * x1 * x2) * (1 - d * x1 * x2 * y1 * y2)⁻¹) = 1 + d * ((x1 * y2 + y1 * x2) * (1 + d * x1 * x2 * y1 * y2)⁻¹) * ((x1 * y2 + y1 * x2) * (1 + d * x1 * x2 * y1 * y2)⁻¹) * ((y1 * y2 - a * x1 * x2) * (1 - d * x1 * x2 * y1 * y2)⁻¹) * ((y1 * y2 - a * x1 * x2) * (1 - d * x1 * x2 * y1 * y2)⁻¹)
  generalize x1 * y2 + y1 * x2 = A at *
  generalize y1 * y2 - a * x1 * x2 = B at *
  generalize d * x1 * x2 * y1 * y2 = t at *
  generalize (1 + t)⁻¹ = i at *
  generalize (1 - t)⁻¹ = j at *
  have k := congrArg (fun z => z * (i * i * j * j)) k
  have m : a * A * A * (1 - t) * (1 - t) * (i * i * j * j) = a * (A * i) * (A * i) * (((1 - t) * j) * ((1 - t) * j)) := by grind
  have m2 : B * B * (1 + t) * (1 + t) * (i * i * j * j) = B * j * (B * j) * (((1 + t) * i) * ((1 + t) * i)) := by grind
  have m3 : (1 - t * t) * (1 - t * t) * (i * i * j * j) = (((1 + t) * i) * ((1 + t) * i)) * (((1 - t) * j) * ((1 - t) * j)) := by grind
  rw [u] at m2 m3
  rw [v] at m m3
  grind
theorem eadd_comm (a d : F) (p q : F × F) : eadd a d p q = eadd a d q p := by
  obtain ⟨x1, y1⟩ := p
  obtain ⟨x2, y2⟩ := q
  show ((x1 * y2 + y1 * x2) * (1 + d * x1 * x2 * y1 * y2)⁻¹, (y1 * y2 - a * x1 * x2) * (1 - d * x1 * x2 * y1 * y2)⁻¹) = ((x2 * y1 + y2 * x1) * (1 + d * x2 * x1 * y2 * y1)⁻¹, (y2 * y1 - a * x2 * x1) * (1 - d * x2 * x1 * y2 * y1)⁻¹)
  rw [show d * x2 * x1 * y2 * y1 = d * x1 * x2 * y1 * y2 by grind, show x2 * y1 + y2 * x1 = x1 * y2 + y1 * x2 by grind, show y2 * y1 - a * x2 * x1 = y1 * y2 - a * x1 * x2 by grind]
theorem f_inv1 : (1 : F)⁻¹ = 1 := by
  have := Field.mul_inv_cancel (a := (1 : F)) (fun h => Field.zero_ne_one h.symm)
  grind
theorem eadd_zero (a d : F) (p : F × F) : eadd a d p ezero = p := by
  obtain ⟨x1, y1⟩ := p
  show ((x1 * 1 + y1 * 0) * (1 + d * x1 * 0 * y1 * 1)⁻¹, (y1 * 1 - a * x1 * 0) * (1 - d * x1 * 0 * y1 * 1)⁻¹) = (x1, y1)
  rw [show 1 + d * x1 * 0 * y1 * 1 = 1 by grind, show 1 - d * x1 * 0 * y1 * 1 = 1 by grind, f_inv1]
  congr 1 <;> grind
theorem ezero_on (a d : F) : OnE a d (ezero : F × F) := by
  show a * 0 * 0 + 1 * 1 = 1 + d * 0 * 0 * 1 * 1
  grind
theorem eneg_on {a d : F} {p : F × F} (h : OnE a d p) : OnE a d (eneg p) := by
  obtain ⟨x, y⟩ := p
  have h : a * x * x + y * y = 1 + d * x * x * y * y := h
  show a * -x * -x + y * y = 1 + d * -x * -x * y * y
  grind
theorem eneg_eneg (p : F × F) : eneg (eneg p) = p := by
  obtain ⟨x, y⟩ := p
  show (- -x, y) = (x, y)
  rw [show - -x = x by grind]
theorem eadd_neg {a d : F} (E : EdC a d) {p : F × F} (h : OnE a d p) : eadd a d p (eneg p) = ezero := by
  have v := Field.mul_inv_cancel (ed_m E h (eneg_on h))
  obtain ⟨x, y⟩ := p
  have h : a * x * x + y * y = 1 + d * x * x * y * y := h
  show ((x * y + y * -x) * (1 + d * x * -x * y * y)⁻¹, (y * y - a * x * -x) * (1 - d * x * -x * y * y)⁻¹) = (0, 1)
  have v : (1 - d * x * -x * y * y) * (1 - d * x * -x * y * y)⁻¹ = 1 := v
  rw [show y * y - a * x * -x = 1 - d * x * -x * y * y by grind, v, show x * y + y * -x = 0 by grind, show (0 : F) * (1 + d * x * -x * y * y)⁻¹ = 0 by grind]
theorem f_div {x y u v i j : F} (hu : u * i = 1) (hv : v * j = 1) (h : x * v = y * u) : x * i = y * j := by
  have : x * i * (v * j) = y * j * (u * i) := by
    have : x * i * (v * j) = (x * v) * (i * j) := by grind
    rw [this, h]; grind
  rw [hu, hv] at this
  grind
theorem ed_frac {A B t x3 y3 k i j v d : F} (u1 : (1 + t) * i = 1) (u2 : (1 - t) * j = 1) (u3 : (1 + d * (A * i) * x3 * (B * j) * y3) * v = 1) :
    ((1 - t * t) + d * A * B * x3 * y3) * (v * i * j) = 1 ∧ (A * i * y3 + B * j * x3) * v = (A * (1 - t) * y3 + B * (1 + t) * x3) * (v * i * j) := by
  have q : (1 - t * t) * (i * j) = 1 := by
    have : (1 - t * t) * (i * j) = ((1 + t) * i) * ((1 - t) * j) := by grind
    rw [this, u1, u2]; grind
  constructor
  · have : ((1 - t * t) + d * A * B * x3 * y3) * (v * i * j) = ((1 - t * t) * (i * j) + d * (A * i) * x3 * (B * j) * y3) * v := by grind
    rw [this, q, u3]
  · have : (A * (1 - t) * y3 + B * (1 + t) * x3) * (v * i * j) = (A * i * ((1 - t) * j) * y3 + B * j * ((1 + t) * i) * x3) * v := by grind
    rw [this, u1, u2]; grind
theorem ed_fracy {a A B t x3 y3 i j v d : F} (u1 : (1 + t) * i = 1) (u2 : (1 - t) * j = 1) (u3 : (1 - d * (A * i) * x3 * (B * j) * y3) * v = 1) :
    ((1 - t * t) - d * A * B * x3 * y3) * (v * i * j) = 1 ∧ (B * j * y3 - a * (A * i) * x3) * v = (B * (1 + t) * y3 - a * (A * (1 - t) * x3)) * (v * i * j) := by
  have q : (1 - t * t) * (i * j) = 1 := by
    have : (1 - t * t) * (i * j) = ((1 + t) * i) * ((1 - t) * j) := by grind
    rw [this, u1, u2]; grind
  constructor
  · have : ((1 - t * t) - d * A * B * x3 * y3) * (v * i * j) = ((1 - t * t) * (i * j) - d * (A * i) * x3 * (B * j) * y3) * v := by grind
    rw [this, q, u3]
  · have : (B * (1 + t) * y3 - a * (A * (1 - t) * x3)) * (v * i * j) = (B * j * ((1 + t) * i) * y3 - a * (A * i * ((1 - t) * j)) * x3) * v := by grind
    rw [this, u1, u2]; grind
theorem eadd_assoc {a d : F} (E : EdC a d) {p q r : F × F} (hp : OnE a d p) (hq : OnE a d q) (hr : OnE a d r) : eadd a d (eadd a d p q) r = eadd a d p (eadd a d q r) := by
  have hpq := eadd_on E hp hq
  have hqr := eadd_on E hq hr
  have u1 := Field.mul_inv_cancel (ed_p E hp hq)
  have u2 := Field.mul_inv_cancel (ed_m E hp hq)
  have w1 := Field.mul_inv_cancel (ed_p E hq hr)
  have w2 := Field.mul_inv_cancel (ed_m E hq hr)
  have u3 := Field.mul_inv_cancel (ed_p E hpq hr)
  have u4 := Field.mul_inv_cancel (ed_m E hpq hr)
  have w3 := Field.mul_inv_cancel (ed_p E hqr hp)
  have w4 := Field.mul_inv_cancel (ed_m E hqr hp)
  rw [eadd_comm a d p (eadd a d q r)]
  obtain ⟨x1, y1⟩ := p
  obtain ⟨x2, y2⟩ := q
  obtain ⟨x3, y3⟩ := r
  have X := ed_as_x (A := x1*y2+y1*x2) (B := y1*y2-a*x1*x2) (C := x2*y3+y2*x3) (D := y2*y3-a*x2*x3) (t := d*x1*x2*y1*y2) (s := d*x2*x3*y2*y3) hp hq hr rfl rfl rfl rfl rfl rfl
  have Y := ed_as_y (A := x1*y2+y1*x2) (B := y1*y2-a*x1*x2) (C := x2*y3+y2*x3) (D := y2*y3-a*x2*x3) (t := d*x1*x2*y1*y2) (s := d*x2*x3*y2*y3) hp hq hr rfl rfl rfl rfl rfl rfl
  clear hpq hqr hp hq hr
  unfold eadd
  generalize x1 * y2 + y1 * x2 = A at *
  generalize y1 * y2 - a * x1 * x2 = B at *
  generalize d * x1 * x2 * y1 * y2 = t at *
  generalize x2 * y3 + y2 * x3 = C at *
  generalize y2 * y3 - a * x2 * x3 = D at *
  generalize d * x2 * x3 * y2 * y3 = s at *
  generalize (1 + t)⁻¹ = i at *
  generalize (1 - t)⁻¹ = j at *
  generalize (1 + s)⁻¹ = k at *
  generalize (1 - s)⁻¹ = l at *
  generalize (1 + d * (A * i) * x3 * (B * j) * y3)⁻¹ = v at *
  generalize (1 - d * (A * i) * x3 * (B * j) * y3)⁻¹ = v' at *
  generalize (1 + d * (C * k) * x1 * (D * l) * y1)⁻¹ = w at *
  generalize (1 - d * (C * k) * x1 * (D * l) * y1)⁻¹ = w' at *
  obtain ⟨a1, a2⟩ := ed_frac (x3 := x3) (y3 := y3) (k := 0) u1 u2 u3
  obtain ⟨b1, b2⟩ := ed_frac (x3 := x1) (y3 := y1) (k := 0) w1 w2 w3
  obtain ⟨c1, c2⟩ := ed_fracy (a := a) (x3 := x3) (y3 := y3) u1 u2 u4
  obtain ⟨d1, d2⟩ := ed_fracy (a := a) (x3 := x1) (y3 := y1) w1 w2 w4
  rw [a2, b2, c2, d2]
  congr 1
  · exact f_div a1 b1 (by rw [X]; grind)
  · exact f_div c1 d1 (by rw [Y]; grind)
end
end Mi
set_option maxHeartbeats 1000000
namespace Mi
/-! ### the group of a twisted Edwards curve over residues -/
structure Ev where
  p : Nat
  a : Int
  d : Int
  pr : IsP p
  ge : 3 ≤ p
  a0 : 0 ≤ a
  a1 : a < p
  d0 : 0 ≤ d
  d1 : d < p
  ec : EdC (zm p a) (zm p d)
instance (C : Ev) : Prm C.p := ⟨C.pr⟩
structure Ev.Pt (C : Ev) where
  v : Zp C.p × Zp C.p
  on : OnE (zm C.p C.a) (zm C.p C.d) v
theorem Ev.ext {C : Ev} {P Q : C.Pt} (h : P.v = Q.v) : P = Q := by cases P; cases Q; cases h; rfl
noncomputable instance (C : Ev) : Add C.Pt := ⟨fun P Q => ⟨eadd (zm C.p C.a) (zm C.p C.d) P.v Q.v, eadd_on C.ec P.on Q.on⟩⟩
noncomputable instance (C : Ev) : Zero C.Pt := ⟨⟨ezero, ezero_on _ _⟩⟩
noncomputable instance (C : Ev) : Neg C.Pt := ⟨fun P => ⟨eneg P.v, eneg_on P.on⟩⟩
noncomputable instance (C : Ev) : Sub C.Pt := ⟨fun P Q => P + -Q⟩
noncomputable instance (C : Ev) : Lean.Grind.AddCommGroup C.Pt where
  add_zero := fun P => Ev.ext (eadd_zero _ _ P.v)
  add_comm := fun P Q => Ev.ext (eadd_comm _ _ P.v Q.v)
  add_assoc := fun P Q R => Ev.ext (eadd_assoc C.ec P.on Q.on R.on)
  neg_add_cancel := fun P => Ev.ext (by
    show eadd _ _ (eneg P.v) P.v = ezero
    rw [eadd_comm]; exact eadd_neg C.ec P.on)
  sub_eq_add_neg := fun P Q => rfl
end Mi
set_option maxHeartbeats 4000000
namespace Mi
/-! ### a small number that is no square, for every prime below a million -/
def hw (q n e : Nat) : Nat := Nat.mod (Nat.mul (Nat.pow (Nat.mod (Nat.mul (Nat.pow (Nat.mod (Nat.mul (Nat.pow (Nat.pow q (Nat.div e 32768)) 32) (Nat.pow q (Nat.mod (Nat.div e 1024) 32))) n) 32) (Nat.pow q (Nat.mod (Nat.div e 32) 32))) n) 32) (Nat.pow q (Nat.mod e 32))) n
def hq (n e q : Nat) : Bool := Nat.ble 2 (hw q n e)
def gq (n g : Nat) : Bool := cond (Nat.ble 2 g) (cond (Nat.beq g n) false true) false
def gp (n P : Nat) : Bool := gq n (Nat.gcd P n)
def hn (n : Nat) : Bool := cond (gp n 6541380665835015) true ( cond (gp n 596198451071780903153248370436854441997784023331563115247063987027) true ( cond (gp n 16006124734833987812847898611219010509505243630710716917888649760122127893181413598427915663451817162356659929017218771548569) true ( cond (gp n 156915385718474740098380762903186294114572096170121960499858850559942028601603169440122137228528621637326135015991638173008859629176502034135881932577526949280554593084948790072440148477583174209256086407374119) true (cond (hq n (Nat.div n 2) 2) true ( cond (hq n (Nat.div n 2) 3) true ( cond (hq n (Nat.div n 2) 5) true ( cond (hq n (Nat.div n 2) 7) true ( cond (hq n (Nat.div n 2) 11) true ( cond (hq n (Nat.div n 2) 13) true ( cond (hq n (Nat.div n 2) 17) true ( cond (hq n (Nat.div n 2) 19) true ( cond (hq n (Nat.div n 2) 23) true ( cond (hq n (Nat.div n 2) 29) true ( cond (hq n (Nat.div n 2) 31) true ( cond (hq n (Nat.div n 2) 37) true ( cond (hq n (Nat.div n 2) 41) true ( cond (hq n (Nat.div n 2) 43) true ( cond (hq n (Nat.div n 2) 47) true ( cond (hq n (Nat.div n 2) 53) true ( cond (hq n (Nat.div n 2) 59) true ( cond (hq n (Nat.div n 2) 61) true ( cond (hq n (Nat.div n 2) 67) true ( cond (hq n (Nat.div n 2) 71) true ( cond (hq n (Nat.div n 2) 73) true ( cond (hq n (Nat.div n 2) 79) true ( cond (hq n (Nat.div n 2) 83) true ( cond (hq n (Nat.div n 2) 89) true ( cond (hq n (Nat.div n 2) 97) true ( cond (hq n (Nat.div n 2) 101) true (false))))))))))))))))))))))))))))))
def hr : Nat → Nat → Bool
  | 0, n => hn (Nat.add (Nat.mul 2 n) 1)
  | k + 1, n => cond (hr k (Nat.mul 2 n)) (hr k (Nat.add (Nat.mul 2 n) 1)) false
theorem hw_st (x b n : Nat) : (x % n) ^ 32 * b % n = x ^ 32 * b % n := by rw [Nat.mul_mod, ← Nat.pow_mod, ← Nat.mul_mod]
theorem hw_eq (q n e : Nat) : hw q n e = q ^ e % n := by
  have e1 : e = (((e / 32768) * 32 + e / 1024 % 32) * 32 + e / 32 % 32) * 32 + e % 32 := by omega
  show (((q ^ (e / 32768)) ^ 32 * q ^ (e / 1024 % 32) % n) ^ 32 * q ^ (e / 32 % 32) % n) ^ 32 * q ^ (e % 32) % n = _
  have st2 : ∀ a b c : Nat, ((a % n) ^ 32 * b) ^ 32 * c % n = (a ^ 32 * b) ^ 32 * c % n := fun a b c => by
    rw [Nat.mul_mod, Nat.pow_mod, hw_st, ← Nat.pow_mod, ← Nat.mul_mod]
  rw [hw_st, st2]
  conv => rhs; rw [e1]
  simp only [Nat.pow_add, Nat.pow_mul]
theorem hr_ok : ∀ (k n m : Nat), hr k n = true → n * 2 ^ k ≤ m → m < (n + 1) * 2 ^ k → hn (2 * m + 1) = true
  | 0, n, m, h, h1, h2 => by
    have : m = n := by simp at h1 h2; omega
    subst this; exact h
  | k + 1, n, m, h, h1, h2 => by
    have h : cond (hr k (2 * n)) (hr k (2 * n + 1)) false = true := h
    cases a : hr k (2 * n) with
    | false => rw [a] at h; cases h
    | true =>
      rw [a] at h
      have b : hr k (2 * n + 1) = true := h
      rw [Nat.pow_succ] at h1 h2
      by_cases c : m < (2 * n + 1) * 2 ^ k
      · exact hr_ok k (2 * n) m a (by rw [Nat.mul_comm 2 n, Nat.mul_assoc, Nat.mul_comm 2]; omega) c
      · refine hr_ok k (2 * n + 1) m b (by omega) ?_
        rw [show 2 * n + 1 + 1 = (n + 1) * 2 by omega, Nat.mul_assoc, Nat.mul_comm 2]
        omega
theorem hq_ok {p : Nat} (hp : IsP p) (ho : p % 2 = 1) {q : Nat} (h : hq p (Nat.div p 2) q = true) : q ^ ((p - 1) / 2) % p = p - 1 := by
  have h : 2 ≤ hw q p (p / 2) := Nat.le_of_ble_eq_true h
  have e : p / 2 = (p - 1) / 2 := by omega
  rw [hw_eq, e] at h
  have hd : ¬ p ∣ q := by
    intro d
    have h1 := hp.1
    have : p ∣ q ^ ((p - 1) / 2) := by
      have : (p - 1) / 2 = (p - 1) / 2 - 1 + 1 := by omega
      rw [this, Nat.pow_succ]
      exact Nat.dvd_trans d (Nat.dvd_mul_left ..)
    rw [Nat.mod_eq_zero_of_dvd this] at h
    omega
  have f := half_pow hp ho (a := (q : Int)) (fun d => hd (Int.natCast_dvd_natCast.mp d))
  have c : ((q : Int) ^ ((p - 1) / 2) % (p : Int)) = ((q ^ ((p - 1) / 2) % p : Nat) : Int) := by
    rw [Int.natCast_emod, Int.natCast_pow]
  rw [c] at f
  omega
theorem gp_no {p P : Nat} (hp : IsP p) : gp p P = false := by
  show gq p (Nat.gcd P p) = false
  rcases hp.2 _ (Nat.gcd_dvd_right P p) with h | h
  · rw [h]; rfl
  · rw [h]
    show cond (Nat.ble 2 p) (cond (Nat.beq p p) false true) false = false
    rw [Nat.beq_refl]
    cases Nat.ble 2 p <;> rfl
theorem cond_or {b c : Bool} (h : cond b true c = true) : b = true ∨ c = true := by cases b <;> simp_all
theorem hn_ok {p : Nat} (hp : IsP p) (ho : p % 2 = 1) (h : hn p = true) : ∃ q : Nat, 2 ≤ q ∧ q ≤ 101 ∧ q ^ ((p - 1) / 2) % p = p - 1 := by
  unfold hn at h
  simp only [gp_no hp, cond_false] at h
  rcases cond_or h with g | h
  · exact ⟨2, by decide, by decide, hq_ok hp ho g⟩
  rcases cond_or h with g | h
  · exact ⟨3, by decide, by decide, hq_ok hp ho g⟩
  rcases cond_or h with g | h
  · exact ⟨5, by decide, by decide, hq_ok hp ho g⟩
  rcases cond_or h with g | h
  · exact ⟨7, by decide, by decide, hq_ok hp ho g⟩
  rcases cond_or h with g | h
  · exact ⟨11, by decide, by decide, hq_ok hp ho g⟩
  rcases cond_or h with g | h
  · exact ⟨13, by decide, by decide, hq_ok hp ho g⟩
  rcases cond_or h with g | h
  · exact ⟨17, by decide, by decide, hq_ok hp ho g⟩
  rcases cond_or h with g | h
  · exact ⟨19, by decide, by decide, hq_ok hp ho g⟩
  rcases cond_or h with g | h
  · exact ⟨23, by decide, by decide, hq_ok hp ho g⟩
  rcases cond_or h with g | h
  · exact ⟨29, by decide, by decide, hq_ok hp ho g⟩
  rcases cond_or h with g | h
  · exact ⟨31, by decide, by decide, hq_ok hp ho g⟩
  rcases cond_or h with g | h
  · exact ⟨37, by decide, by decide, hq_ok hp ho g⟩
  rcases cond_or h with g | h
  · exact ⟨41, by decide, by decide, hq_ok hp ho g⟩
  rcases cond_or h with g | h
  · exact ⟨43, by decide, by decide, hq_ok hp ho g⟩
  rcases cond_or h with g | h
  · exact ⟨47, by decide, by decide, hq_ok hp ho g⟩
  rcases cond_or h with g | h
  · exact ⟨53, by decide, by decide, hq_ok hp ho g⟩
  rcases cond_or h with g | h
  · exact ⟨59, by decide, by decide, hq_ok hp ho g⟩
  rcases cond_or h with g | h
  · exact ⟨61, by decide, by decide, hq_ok hp ho g⟩
  rcases cond_or h with g | h
  · exact ⟨67, by decide, by decide, hq_ok hp ho g⟩
  rcases cond_or h with g | h
  · exact ⟨71, by decide, by decide, hq_ok hp ho g⟩
  rcases cond_or h with g | h
  · exact ⟨73, by decide, by decide, hq_ok hp ho g⟩
  rcases cond_or h with g | h
  · exact ⟨79, by decide, by decide, hq_ok hp ho g⟩
  rcases cond_or h with g | h
  · exact ⟨83, by decide, by decide, hq_ok hp ho g⟩
  rcases cond_or h with g | h
  · exact ⟨89, by decide, by decide, hq_ok hp ho g⟩
  rcases cond_or h with g | h
  · exact ⟨97, by decide, by decide, hq_ok hp ho g⟩
  rcases cond_or h with g | h
  · exact ⟨101, by decide, by decide, hq_ok hp ho g⟩
  cases h
theorem hs_0 : (hn 3 && hn 5 && hn 7 && hn 9 && hn 11 && hn 13 && hn 15) = true := by decide +kernel
theorem hs_3 : hr 3 1 = true := by decide +kernel
theorem hs_4 : hr 4 1 = true := by decide +kernel
theorem hs_5 : hr 5 1 = true := by decide +kernel
theorem hs_6 : hr 6 1 = true := by decide +kernel
theorem hs_7 : hr 7 1 = true := by decide +kernel
theorem hs_8 : hr 8 1 = true := by decide +kernel
theorem hs_9 : hr 9 1 = true := by decide +kernel
theorem hs_10 : hr 10 1 = true := by decide +kernel
theorem hs_11 : hr 11 1 = true := by decide +kernel
theorem hs_12 : hr 12 1 = true := by decide +kernel
theorem hs_all {m : Nat} (h1 : 1 ≤ m) (h2 : m < 8192) : hn (2 * m + 1) = true := by
  by_cases s : m < 8
  · have h := hs_0
    simp only [Bool.and_eq_true] at h
    rcases (by omega : m = 1 ∨ m = 2 ∨ m = 3 ∨ m = 4 ∨ m = 5 ∨ m = 6 ∨ m = 7) with rfl | rfl | rfl | rfl | rfl | rfl | rfl
    · exact h.1.1.1.1.1.1
    · exact h.1.1.1.1.1.2
    · exact h.1.1.1.1.2
    · exact h.1.1.1.2
    · exact h.1.1.2
    · exact h.1.2
    · exact h.2
  by_cases s : m < 16
  · exact hr_ok 3 1 m hs_3 (by omega) (by omega)
  by_cases s : m < 32
  · exact hr_ok 4 1 m hs_4 (by omega) (by omega)
  by_cases s : m < 64
  · exact hr_ok 5 1 m hs_5 (by omega) (by omega)
  by_cases s : m < 128
  · exact hr_ok 6 1 m hs_6 (by omega) (by omega)
  by_cases s : m < 256
  · exact hr_ok 7 1 m hs_7 (by omega) (by omega)
  by_cases s : m < 512
  · exact hr_ok 8 1 m hs_8 (by omega) (by omega)
  by_cases s : m < 1024
  · exact hr_ok 9 1 m hs_9 (by omega) (by omega)
  by_cases s : m < 2048
  · exact hr_ok 10 1 m hs_10 (by omega) (by omega)
  by_cases s : m < 4096
  · exact hr_ok 11 1 m hs_11 (by omega) (by omega)
  by_cases s : m < 8192
  · exact hr_ok 12 1 m hs_12 (by omega) (by omega)
  omega
theorem hr_1 : hr 13 1 = true := by decide +kernel
theorem hr_2 : hr 13 2 = true := by decide +kernel
theorem hr_3 : hr 13 3 = true := by decide +kernel
theorem hr_4 : hr 13 4 = true := by decide +kernel
theorem hr_5 : hr 13 5 = true := by decide +kernel
theorem hr_6 : hr 13 6 = true := by decide +kernel
theorem hr_7 : hr 13 7 = true := by decide +kernel
theorem hr_8 : hr 13 8 = true := by decide +kernel
theorem hr_9 : hr 13 9 = true := by decide +kernel
theorem hr_10 : hr 13 10 = true := by decide +kernel
theorem hr_11 : hr 13 11 = true := by decide +kernel
theorem hr_12 : hr 13 12 = true := by decide +kernel
theorem hr_13 : hr 13 13 = true := by decide +kernel
theorem hr_14 : hr 13 14 = true := by decide +kernel
theorem hr_15 : hr 13 15 = true := by decide +kernel
theorem hr_16 : hr 13 16 = true := by decide +kernel
theorem hr_17 : hr 13 17 = true := by decide +kernel
theorem hr_18 : hr 13 18 = true := by decide +kernel
theorem hr_19 : hr 13 19 = true := by decide +kernel
theorem hr_20 : hr 13 20 = true := by decide +kernel
theorem hr_21 : hr 13 21 = true := by decide +kernel
theorem hr_22 : hr 13 22 = true := by decide +kernel
theorem hr_23 : hr 13 23 = true := by decide +kernel
theorem hr_24 : hr 13 24 = true := by decide +kernel
theorem hr_25 : hr 13 25 = true := by decide +kernel
theorem hr_26 : hr 13 26 = true := by decide +kernel
theorem hr_27 : hr 13 27 = true := by decide +kernel
theorem hr_28 : hr 13 28 = true := by decide +kernel
theorem hr_29 : hr 13 29 = true := by decide +kernel
theorem hr_30 : hr 13 30 = true := by decide +kernel
theorem hr_31 : hr 13 31 = true := by decide +kernel
theorem hr_32 : hr 13 32 = true := by decide +kernel
theorem hr_33 : hr 13 33 = true := by decide +kernel
theorem hr_34 : hr 13 34 = true := by decide +kernel
theorem hr_35 : hr 13 35 = true := by decide +kernel
theorem hr_36 : hr 13 36 = true := by decide +kernel
theorem hr_37 : hr 13 37 = true := by decide +kernel
theorem hr_38 : hr 13 38 = true := by decide +kernel
theorem hr_39 : hr 13 39 = true := by decide +kernel
theorem hr_40 : hr 13 40 = true := by decide +kernel
theorem hr_41 : hr 13 41 = true := by decide +kernel
theorem hr_42 : hr 13 42 = true := by decide +kernel
theorem hr_43 : hr 13 43 = true := by decide +kernel
theorem hr_44 : hr 13 44 = true := by decide +kernel
theorem hr_45 : hr 13 45 = true := by decide +kernel
theorem hr_46 : hr 13 46 = true := by decide +kernel
theorem hr_47 : hr 13 47 = true := by decide +kernel
theorem hr_48 : hr 13 48 = true := by decide +kernel
theorem hr_49 : hr 13 49 = true := by decide +kernel
theorem hr_50 : hr 13 50 = true := by decide +kernel
theorem hr_51 : hr 13 51 = true := by decide +kernel
theorem hr_52 : hr 13 52 = true := by decide +kernel
theorem hr_53 : hr 13 53 = true := by decide +kernel
theorem hr_54 : hr 13 54 = true := by decide +kernel
theorem hr_55 : hr 13 55 = true := by decide +kernel
theorem hr_56 : hr 13 56 = true := by decide +kernel
theorem hr_57 : hr 13 57 = true := by decide +kernel
theorem hr_58 : hr 13 58 = true := by decide +kernel
theorem hr_59 : hr 13 59 = true := by decide +kernel
theorem hr_60 : hr 13 60 = true := by decide +kernel
theorem hr_61 : hr 13 61 = true := by decide +kernel
theorem hr_all {m : Nat} (h1 : 1 ≤ m) (h2 : m < 507904) : hn (2 * m + 1) = true := by
  by_cases s : m < 8192
  · exact hs_all h1 s
  by_cases s : m < 16384
  · exact hr_ok 13 1 m hr_1 (by omega) (by omega)
  by_cases s : m < 24576
  · exact hr_ok 13 2 m hr_2 (by omega) (by omega)
  by_cases s : m < 32768
  · exact hr_ok 13 3 m hr_3 (by omega) (by omega)
  by_cases s : m < 40960
  · exact hr_ok 13 4 m hr_4 (by omega) (by omega)
  by_cases s : m < 49152
  · exact hr_ok 13 5 m hr_5 (by omega) (by omega)
  by_cases s : m < 57344
  · exact hr_ok 13 6 m hr_6 (by omega) (by omega)
  by_cases s : m < 65536
  · exact hr_ok 13 7 m hr_7 (by omega) (by omega)
  by_cases s : m < 73728
  · exact hr_ok 13 8 m hr_8 (by omega) (by omega)
  by_cases s : m < 81920
  · exact hr_ok 13 9 m hr_9 (by omega) (by omega)
  by_cases s : m < 90112
  · exact hr_ok 13 10 m hr_10 (by omega) (by omega)
  by_cases s : m < 98304
  · exact hr_ok 13 11 m hr_11 (by omega) (by omega)
  by_cases s : m < 106496
  · exact hr_ok 13 12 m hr_12 (by omega) (by omega)
  by_cases s : m < 114688
  · exact hr_ok 13 13 m hr_13 (by omega) (by omega)
  by_cases s : m < 122880
  · exact hr_ok 13 14 m hr_14 (by omega) (by omega)
  by_cases s : m < 131072
  · exact hr_ok 13 15 m hr_15 (by omega) (by omega)
  by_cases s : m < 139264
  · exact hr_ok 13 16 m hr_16 (by omega) (by omega)
  by_cases s : m < 147456
  · exact hr_ok 13 17 m hr_17 (by omega) (by omega)
  by_cases s : m < 155648
  · exact hr_ok 13 18 m hr_18 (by omega) (by omega)
  by_cases s : m < 163840
  · exact hr_ok 13 19 m hr_19 (by omega) (by omega)
  by_cases s : m < 172032
  · exact hr_ok 13 20 m hr_20 (by omega) (by omega)
  by_cases s : m < 180224
  · exact hr_ok 13 21 m hr_21 (by omega) (by omega)
  by_cases s : m < 188416
  · exact hr_ok 13 22 m hr_22 (by omega) (by omega)
  by_cases s : m < 196608
  · exact hr_ok 13 23 m hr_23 (by omega) (by omega)
  by_cases s : m < 204800
  · exact hr_ok 13 24 m hr_24 (by omega) (by omega)
  by_cases s : m < 212992
  · exact hr_ok 13 25 m hr_25 (by omega) (by omega)
  by_cases s : m < 221184
  · exact hr_ok 13 26 m hr_26 (by omega) (by omega)
  by_cases s : m < 229376
  · exact hr_ok 13 27 m hr_27 (by omega) (by omega)
  by_cases s : m < 237568
  · exact hr_ok 13 28 m hr_28 (by omega) (by omega)
  by_cases s : m < 245760
  · exact hr_ok 13 29 m hr_29 (by omega) (by omega)
  by_cases s : m < 253952
  · exact hr_ok 13 30 m hr_30 (by omega) (by omega)
  by_cases s : m < 262144
  · exact hr_ok 13 31 m hr_31 (by omega) (by omega)
  by_cases s : m < 270336
  · exact hr_ok 13 32 m hr_32 (by omega) (by omega)
  by_cases s : m < 278528
  · exact hr_ok 13 33 m hr_33 (by omega) (by omega)
  by_cases s : m < 286720
  · exact hr_ok 13 34 m hr_34 (by omega) (by omega)
  by_cases s : m < 294912
  · exact hr_ok 13 35 m hr_35 (by omega) (by omega)
  by_cases s : m < 303104
  · exact hr_ok 13 36 m hr_36 (by omega) (by omega)
  by_cases s : m < 311296
  · exact hr_ok 13 37 m hr_37 (by omega) (by omega)
  by_cases s : m < 319488
  · exact hr_ok 13 38 m hr_38 (by omega) (by omega)
  by_cases s : m < 327680
  · exact hr_ok 13 39 m hr_39 (by omega) (by omega)
  by_cases s : m < 335872
  · exact hr_ok 13 40 m hr_40 (by omega) (by omega)
  by_cases s : m < 344064
  · exact hr_ok 13 41 m hr_41 (by omega) (by omega)
  by_cases s : m < 352256
  · exact hr_ok 13 42 m hr_42 (by omega) (by omega)
  by_cases s : m < 360448
  · exact hr_ok 13 43 m hr_43 (by omega) (by omega)
  by_cases s : m < 368640
  · exact hr_ok 13 44 m hr_44 (by omega) (by omega)
  by_cases s : m < 376832
  · exact hr_ok 13 45 m hr_45 (by omega) (by omega)
  by_cases s : m < 385024
  · exact hr_ok 13 46 m hr_46 (by omega) (by omega)
  by_cases s : m < 393216
  · exact hr_ok 13 47 m hr_47 (by omega) (by omega)
  by_cases s : m < 401408
  · exact hr_ok 13 48 m hr_48 (by omega) (by omega)
  by_cases s : m < 409600
  · exact hr_ok 13 49 m hr_49 (by omega) (by omega)
  by_cases s : m < 417792
  · exact hr_ok 13 50 m hr_50 (by omega) (by omega)
  by_cases s : m < 425984
  · exact hr_ok 13 51 m hr_51 (by omega) (by omega)
  by_cases s : m < 434176
  · exact hr_ok 13 52 m hr_52 (by omega) (by omega)
  by_cases s : m < 442368
  · exact hr_ok 13 53 m hr_53 (by omega) (by omega)
  by_cases s : m < 450560
  · exact hr_ok 13 54 m hr_54 (by omega) (by omega)
  by_cases s : m < 458752
  · exact hr_ok 13 55 m hr_55 (by omega) (by omega)
  by_cases s : m < 466944
  · exact hr_ok 13 56 m hr_56 (by omega) (by omega)
  by_cases s : m < 475136
  · exact hr_ok 13 57 m hr_57 (by omega) (by omega)
  by_cases s : m < 483328
  · exact hr_ok 13 58 m hr_58 (by omega) (by omega)
  by_cases s : m < 491520
  · exact hr_ok 13 59 m hr_59 (by omega) (by omega)
  by_cases s : m < 499712
  · exact hr_ok 13 60 m hr_60 (by omega) (by omega)
  by_cases s : m < 507904
  · exact hr_ok 13 61 m hr_61 (by omega) (by omega)
  omega
theorem small_non {p : Nat} (hp : IsP p) (ho : p % 2 = 1) (h : p < 1015808) : ∃ q : Nat, 2 ≤ q ∧ q ≤ 101 ∧ q ^ ((p - 1) / 2) % p = p - 1 := by
  have h2 := hp.1
  have := hr_all (m := p / 2) (by omega) (by omega)
  rw [show 2 * (p / 2) + 1 = p by omega] at this
  exact hn_ok hp ho this
end Mi
set_option maxHeartbeats 4000000
namespace Mi
open PySem PySem.Spec L2
def topS (i : Nat) : Stmt := PySem.Challenge.pw_curveseal_k20_extended_coordinates.main.body.getD i (.Pass ⟨0, 0, 0, 0⟩)

structure O_EdwardsCurve where
  f_prime : Int
  f_a : Int
  f_d : Int
instance : ToD O_EdwardsCurve := ⟨fun x => .obj "EdwardsCurve" ["prime", "a", "d"] [toD x.f_prime, toD x.f_a, toD x.f_d]⟩
abbrev s_bits_from_top : Stmt := topS 2
theorem sc_bits_from_top : FnScope ["number", "at"] ["number"] (defScope s_bits_from_top) := ⟨rfl, rfl, rfl, by decide +kernel, rfl, by decide +kernel, by decide +kernel⟩
abbrev s_is_whole : Stmt := topS 9
theorem sc_is_whole : FnScope ["value"] ["value"] (defScope s_is_whole) := ⟨rfl, rfl, rfl, by decide +kernel, rfl, by decide +kernel, by decide +kernel⟩
abbrev s_is_residue : Stmt := topS 11
theorem sc_is_residue : FnScope ["value", "modulus"] ["value", "modulus"] (defScope s_is_residue) := ⟨rfl, rfl, rfl, by decide +kernel, rfl, by decide +kernel, by decide +kernel⟩
abbrev s_bezout : Stmt := topS 13
theorem sc_bezout : FnScope ["a", "b", "first", "second", "times", "rest"] ["a", "b"] (defScope s_bezout) := ⟨rfl, rfl, rfl, by decide +kernel, rfl, by decide +kernel, by decide +kernel⟩
abbrev s_inverse : Stmt := topS 14
theorem sc_inverse : FnScope ["a", "modulus", "divisor", "factor", "_"] ["a", "modulus"] (defScope s_inverse) := ⟨rfl, rfl, rfl, by decide +kernel, rfl, by decide +kernel, by decide +kernel⟩
abbrev s_power : Stmt := topS 15
theorem sc_power : FnScope ["a", "exponent", "modulus", "result", "square", "rest"] ["a", "exponent", "modulus"] (defScope s_power) := ⟨rfl, rfl, rfl, by decide +kernel, rfl, by decide +kernel, by decide +kernel⟩
abbrev s_square_class : Stmt := topS 16
theorem sc_square_class : FnScope ["a", "prime"] ["a", "prime"] (defScope s_square_class) := ⟨rfl, rfl, rfl, by decide +kernel, rfl, by decide +kernel, by decide +kernel⟩
abbrev s_split_twos : Stmt := topS 17
theorem sc_split_twos : FnScope ["number", "twos"] ["number"] (defScope s_split_twos) := ⟨rfl, rfl, rfl, by decide +kernel, rfl, by decide +kernel, by decide +kernel⟩
abbrev s_square_root : Stmt := topS 18
theorem sc_square_root : FnScope ["a", "prime", "kind", "root"] ["a", "prime"] (defScope s_square_root) := ⟨rfl, rfl, rfl, by decide +kernel, rfl, by decide +kernel, by decide +kernel⟩
abbrev s_u_root_of_square : Stmt := topS 19
theorem sc_u_root_of_square : FnScope ["a", "prime", "odd", "twos", "root", "rest", "helper", "level"] ["a", "prime"] (defScope s_u_root_of_square) := ⟨rfl, rfl, rfl, by decide +kernel, rfl, by decide +kernel, by decide +kernel⟩
abbrev s_u_non_square : Stmt := topS 20
theorem sc_u_non_square : FnScope ["prime", "number"] ["prime"] (defScope s_u_non_square) := ⟨rfl, rfl, rfl, by decide +kernel, rfl, by decide +kernel, by decide +kernel⟩
abbrev s_root_with_parity : Stmt := topS 21
theorem sc_root_with_parity : FnScope ["a", "prime", "odd", "root"] ["a", "prime", "odd"] (defScope s_root_with_parity) := ⟨rfl, rfl, rfl, by decide +kernel, rfl, by decide +kernel, by decide +kernel⟩
abbrev s_to_extended : Stmt := topS 24
theorem sc_to_extended : FnScope ["curve", "point", "x", "y"] ["curve", "point"] (defScope s_to_extended) := ⟨rfl, rfl, rfl, by decide +kernel, rfl, by decide +kernel, by decide +kernel⟩
abbrev s_from_extended : Stmt := topS 25
theorem sc_from_extended : FnScope ["curve", "four", "scale"] ["curve", "four"] (defScope s_from_extended) := ⟨rfl, rfl, rfl, by decide +kernel, rfl, by decide +kernel, by decide +kernel⟩
abbrev s_add_extended : Stmt := topS 26
theorem sc_add_extended : FnScope ["curve", "first", "second", "x1", "y1", "z1", "t1", "x2", "y2", "z2", "t2", "p", "zz", "dtt", "e", "f", "g", "h"] ["curve", "first", "second"] (defScope s_add_extended) := ⟨rfl, rfl, rfl, by decide +kernel, rfl, by decide +kernel, by decide +kernel⟩
abbrev s_same_extended : Stmt := topS 27
theorem sc_same_extended : FnScope ["curve", "first", "second", "x_differs", "y_differs"] ["curve", "first", "second"] (defScope s_same_extended) := ⟨rfl, rfl, rfl, by decide +kernel, rfl, by decide +kernel, by decide +kernel⟩
abbrev s_multiply_extended : Stmt := topS 28
theorem sc_multiply_extended : FnScope ["curve", "factor", "point", "start", "result", "bit"] ["curve", "factor", "point"] (defScope s_multiply_extended) := ⟨rfl, rfl, rfl, by decide +kernel, rfl, by decide +kernel, by decide +kernel⟩
abbrev s_EdwardsCurve_init : Stmt := inClass (topS 30) 0
theorem sc_EdwardsCurve_init : FnScope ["self", "prime", "a", "d"] ["self", "prime", "a", "d"] (defScope s_EdwardsCurve_init) := ⟨rfl, rfl, rfl, by decide +kernel, rfl, by decide +kernel, by decide +kernel⟩
abbrev s_EdwardsCurve_negate : Stmt := inClass (topS 30) 2
theorem sc_EdwardsCurve_negate : FnScope ["self", "point"] ["self", "point"] (defScope s_EdwardsCurve_negate) := ⟨rfl, rfl, rfl, by decide +kernel, rfl, by decide +kernel, by decide +kernel⟩
abbrev s_EdwardsCurve_lift : Stmt := inClass (topS 30) 6
theorem sc_EdwardsCurve_lift : FnScope ["self", "y", "odd", "divisor", "x_square", "x"] ["self", "y", "odd"] (defScope s_EdwardsCurve_lift) := ⟨rfl, rfl, rfl, by decide +kernel, rfl, by decide +kernel, by decide +kernel⟩
abbrev s_u_law_cell : Stmt := topS 32
theorem sc_u_law_cell : FnScope ["script", "k"] ["script", "k"] (defScope s_u_law_cell) := ⟨rfl, rfl, rfl, by decide +kernel, rfl, by decide +kernel, by decide +kernel⟩
abbrev s_u_law_is_integer : Stmt := topS 33
theorem sc_u_law_is_integer : FnScope ["actual"] ["actual"] (defScope s_u_law_is_integer) := ⟨rfl, rfl, rfl, by decide +kernel, rfl, by decide +kernel, by decide +kernel⟩
abbrev s_u_law_is_prime : Stmt := topS 34
theorem sc_u_law_is_prime : FnScope ["n", "divisor", "k"] ["n"] (defScope s_u_law_is_prime) := ⟨rfl, rfl, rfl, by decide +kernel, rfl, by decide +kernel, by decide +kernel⟩
abbrev s_u_law_prime : Stmt := topS 35
theorem sc_u_law_prime : FnScope ["cell", "least", "rest", "number", "k"] ["cell", "least"] (defScope s_u_law_prime) := ⟨rfl, rfl, rfl, by decide +kernel, rfl, by decide +kernel, by decide +kernel⟩
abbrev s_u_law_power : Stmt := topS 36
theorem sc_u_law_power : FnScope ["a", "exponent", "modulus", "result", "square", "k"] ["a", "exponent", "modulus"] (defScope s_u_law_power) := ⟨rfl, rfl, rfl, by decide +kernel, rfl, by decide +kernel, by decide +kernel⟩
abbrev s_u_law_inverse : Stmt := topS 37
theorem sc_u_law_inverse : FnScope ["a", "prime"] ["a", "prime"] (defScope s_u_law_inverse) := ⟨rfl, rfl, rfl, by decide +kernel, rfl, by decide +kernel, by decide +kernel⟩
abbrev s_u_law_residue : Stmt := topS 38
theorem sc_u_law_residue : FnScope ["cell", "prime", "rest"] ["cell", "prime"] (defScope s_u_law_residue) := ⟨rfl, rfl, rfl, by decide +kernel, rfl, by decide +kernel, by decide +kernel⟩
abbrev s_u_law_class : Stmt := topS 39
theorem sc_u_law_class : FnScope ["a", "prime", "value"] ["a", "prime"] (defScope s_u_law_class) := ⟨rfl, rfl, rfl, by decide +kernel, rfl, by decide +kernel, by decide +kernel⟩
abbrev s_u_law_edwards_prime : Stmt := topS 40
theorem sc_u_law_edwards_prime : FnScope ["cell", "high"] ["cell"] (defScope s_u_law_edwards_prime) := ⟨rfl, rfl, rfl, by decide +kernel, rfl, by decide +kernel, by decide +kernel⟩
abbrev s_u_law_numbers : Stmt := topS 41
theorem sc_u_law_numbers : FnScope ["script", "at", "prime", "root", "other", "lowest", "k"] ["script", "at", "prime"] (defScope s_u_law_numbers) := ⟨rfl, rfl, rfl, by decide +kernel, rfl, by decide +kernel, by decide +kernel⟩
abbrev s_u_law_on : Stmt := topS 42
theorem sc_u_law_on : FnScope ["prime", "a", "d", "point", "x", "y"] ["prime", "a", "d", "point"] (defScope s_u_law_on) := ⟨rfl, rfl, rfl, by decide +kernel, rfl, by decide +kernel, by decide +kernel⟩
abbrev s_u_law_lifted : Stmt := topS 43
theorem sc_u_law_lifted : FnScope ["curve", "prime", "a", "d", "cell", "y", "k", "point"] ["curve", "prime", "a", "d", "cell"] (defScope s_u_law_lifted) := ⟨rfl, rfl, rfl, by decide +kernel, rfl, by decide +kernel, by decide +kernel⟩
abbrev s_u_law_add : Stmt := topS 44
theorem sc_u_law_add : FnScope ["prime", "a", "d", "first", "second", "x1", "y1", "x2", "y2", "t", "x3", "y3"] ["prime", "a", "d", "first", "second"] (defScope s_u_law_add) := ⟨rfl, rfl, rfl, by decide +kernel, rfl, by decide +kernel, by decide +kernel⟩
abbrev s_u_law_tuple : Stmt := topS 45
theorem sc_u_law_tuple : FnScope ["point", "scale", "prime", "x", "y"] ["point", "scale", "prime"] (defScope s_u_law_tuple) := ⟨rfl, rfl, rfl, by decide +kernel, rfl, by decide +kernel, by decide +kernel⟩
abbrev s_u_law_sum : Stmt := topS 46
theorem sc_u_law_sum : FnScope ["prime", "a", "d", "first", "second", "x1", "y1", "z1", "t1", "x2", "y2", "z2", "t2", "e", "f", "g", "h"] ["prime", "a", "d", "first", "second"] (defScope s_u_law_sum) := ⟨rfl, rfl, rfl, by decide +kernel, rfl, by decide +kernel, by decide +kernel⟩
abbrev s_law : Stmt := topS 47
theorem sc_law : FnScope ["script", "prime", "a", "d", "curve", "first", "second", "kind", "left", "right", "total", "due", "same", "factor", "point", "result", "double", "rest", "k"] ["script"] (defScope s_law) := ⟨rfl, rfl, rfl, by decide +kernel, rfl, by decide +kernel, by decide +kernel⟩
def errs : List Str := ["CurveError", "OutOfRange", "NoInverse", "Refused"]
def ancE : List (Str × List Str) := [("CurveError", ["CurveError"]), ("OutOfRange", ["OutOfRange", "CurveError"]), ("NoInverse", ["NoInverse", "CurveError"]), ("Refused", ["Refused", "CurveError"])]
def subE (c d : Str) : Bool := match ancE.lookup c with | some l => decide (d ∈ l) | none => false
def k_NEUTRAL_FOUR : (T4 Int Int Int Int) := (T4.mk (0 : Int) (1 : Int) (1 : Int) (0 : Int))
abbrev FnP (K : PySem.W.Frag) (x q : Str) (st : Stmt) (f : Addr) (fd : FuncData) : Prop := FunD K x q (defArgs st) (defBody st) (defScope st) [] [] f fd
structure Facts (K : PySem.W.Frag) (mg : Str → Option Value) : Prop where
  d_bits_from_top : ∃ fd, FnP K "bits_from_top" "bits_from_top" s_bits_from_top (He.ga K "bits_from_top") fd
  g_bits_from_top : mg "bits_from_top" = some (.ref (He.ga K "bits_from_top"))
  d_is_whole : ∃ fd, FnP K "is_whole" "is_whole" s_is_whole (He.ga K "is_whole") fd
  g_is_whole : mg "is_whole" = some (.ref (He.ga K "is_whole"))
  d_is_residue : ∃ fd, FnP K "is_residue" "is_residue" s_is_residue (He.ga K "is_residue") fd
  g_is_residue : mg "is_residue" = some (.ref (He.ga K "is_residue"))
  d_bezout : ∃ fd, FnP K "bezout" "bezout" s_bezout (He.ga K "bezout") fd
  g_bezout : mg "bezout" = some (.ref (He.ga K "bezout"))
  d_inverse : ∃ fd, FnP K "inverse" "inverse" s_inverse (He.ga K "inverse") fd
  g_inverse : mg "inverse" = some (.ref (He.ga K "inverse"))
  d_power : ∃ fd, FnP K "power" "power" s_power (He.ga K "power") fd
  g_power : mg "power" = some (.ref (He.ga K "power"))
  d_square_class : ∃ fd, FnP K "square_class" "square_class" s_square_class (He.ga K "square_class") fd
  g_square_class : mg "square_class" = some (.ref (He.ga K "square_class"))
  d_split_twos : ∃ fd, FnP K "split_twos" "split_twos" s_split_twos (He.ga K "split_twos") fd
  g_split_twos : mg "split_twos" = some (.ref (He.ga K "split_twos"))
  d_square_root : ∃ fd, FnP K "square_root" "square_root" s_square_root (He.ga K "square_root") fd
  g_square_root : mg "square_root" = some (.ref (He.ga K "square_root"))
  d_u_root_of_square : ∃ fd, FnP K "_root_of_square" "_root_of_square" s_u_root_of_square (He.ga K "_root_of_square") fd
  g_u_root_of_square : mg "_root_of_square" = some (.ref (He.ga K "_root_of_square"))
  d_u_non_square : ∃ fd, FnP K "_non_square" "_non_square" s_u_non_square (He.ga K "_non_square") fd
  g_u_non_square : mg "_non_square" = some (.ref (He.ga K "_non_square"))
  d_root_with_parity : ∃ fd, FnP K "root_with_parity" "root_with_parity" s_root_with_parity (He.ga K "root_with_parity") fd
  g_root_with_parity : mg "root_with_parity" = some (.ref (He.ga K "root_with_parity"))
  d_to_extended : ∃ fd, FnP K "to_extended" "to_extended" s_to_extended (He.ga K "to_extended") fd
  g_to_extended : mg "to_extended" = some (.ref (He.ga K "to_extended"))
  d_from_extended : ∃ fd, FnP K "from_extended" "from_extended" s_from_extended (He.ga K "from_extended") fd
  g_from_extended : mg "from_extended" = some (.ref (He.ga K "from_extended"))
  d_add_extended : ∃ fd, FnP K "add_extended" "add_extended" s_add_extended (He.ga K "add_extended") fd
  g_add_extended : mg "add_extended" = some (.ref (He.ga K "add_extended"))
  d_same_extended : ∃ fd, FnP K "same_extended" "same_extended" s_same_extended (He.ga K "same_extended") fd
  g_same_extended : mg "same_extended" = some (.ref (He.ga K "same_extended"))
  d_multiply_extended : ∃ fd, FnP K "multiply_extended" "multiply_extended" s_multiply_extended (He.ga K "multiply_extended") fd
  g_multiply_extended : mg "multiply_extended" = some (.ref (He.ga K "multiply_extended"))
  d_EdwardsCurve_init : ∃ fd, FnP K "__init__" "EdwardsCurve.__init__" s_EdwardsCurve_init (He.ma K (He.ga K "EdwardsCurve") "__init__") fd
  d_EdwardsCurve_negate : ∃ fd, FnP K "negate" "EdwardsCurve.negate" s_EdwardsCurve_negate (He.ma K (He.ga K "EdwardsCurve") "negate") fd
  d_EdwardsCurve_lift : ∃ fd, FnP K "lift" "EdwardsCurve.lift" s_EdwardsCurve_lift (He.ma K (He.ga K "EdwardsCurve") "lift") fd
  d_u_law_cell : ∃ fd, FnP K "_law_cell" "_law_cell" s_u_law_cell (He.ga K "_law_cell") fd
  g_u_law_cell : mg "_law_cell" = some (.ref (He.ga K "_law_cell"))
  d_u_law_is_integer : ∃ fd, FnP K "_law_is_integer" "_law_is_integer" s_u_law_is_integer (He.ga K "_law_is_integer") fd
  g_u_law_is_integer : mg "_law_is_integer" = some (.ref (He.ga K "_law_is_integer"))
  d_u_law_is_prime : ∃ fd, FnP K "_law_is_prime" "_law_is_prime" s_u_law_is_prime (He.ga K "_law_is_prime") fd
  g_u_law_is_prime : mg "_law_is_prime" = some (.ref (He.ga K "_law_is_prime"))
  d_u_law_prime : ∃ fd, FnP K "_law_prime" "_law_prime" s_u_law_prime (He.ga K "_law_prime") fd
  g_u_law_prime : mg "_law_prime" = some (.ref (He.ga K "_law_prime"))
  d_u_law_power : ∃ fd, FnP K "_law_power" "_law_power" s_u_law_power (He.ga K "_law_power") fd
  g_u_law_power : mg "_law_power" = some (.ref (He.ga K "_law_power"))
  d_u_law_inverse : ∃ fd, FnP K "_law_inverse" "_law_inverse" s_u_law_inverse (He.ga K "_law_inverse") fd
  g_u_law_inverse : mg "_law_inverse" = some (.ref (He.ga K "_law_inverse"))
  d_u_law_residue : ∃ fd, FnP K "_law_residue" "_law_residue" s_u_law_residue (He.ga K "_law_residue") fd
  g_u_law_residue : mg "_law_residue" = some (.ref (He.ga K "_law_residue"))
  d_u_law_class : ∃ fd, FnP K "_law_class" "_law_class" s_u_law_class (He.ga K "_law_class") fd
  g_u_law_class : mg "_law_class" = some (.ref (He.ga K "_law_class"))
  d_u_law_edwards_prime : ∃ fd, FnP K "_law_edwards_prime" "_law_edwards_prime" s_u_law_edwards_prime (He.ga K "_law_edwards_prime") fd
  g_u_law_edwards_prime : mg "_law_edwards_prime" = some (.ref (He.ga K "_law_edwards_prime"))
  d_u_law_numbers : ∃ fd, FnP K "_law_numbers" "_law_numbers" s_u_law_numbers (He.ga K "_law_numbers") fd
  g_u_law_numbers : mg "_law_numbers" = some (.ref (He.ga K "_law_numbers"))
  d_u_law_on : ∃ fd, FnP K "_law_on" "_law_on" s_u_law_on (He.ga K "_law_on") fd
  g_u_law_on : mg "_law_on" = some (.ref (He.ga K "_law_on"))
  d_u_law_lifted : ∃ fd, FnP K "_law_lifted" "_law_lifted" s_u_law_lifted (He.ga K "_law_lifted") fd
  g_u_law_lifted : mg "_law_lifted" = some (.ref (He.ga K "_law_lifted"))
  d_u_law_add : ∃ fd, FnP K "_law_add" "_law_add" s_u_law_add (He.ga K "_law_add") fd
  g_u_law_add : mg "_law_add" = some (.ref (He.ga K "_law_add"))
  d_u_law_tuple : ∃ fd, FnP K "_law_tuple" "_law_tuple" s_u_law_tuple (He.ga K "_law_tuple") fd
  g_u_law_tuple : mg "_law_tuple" = some (.ref (He.ga K "_law_tuple"))
  d_u_law_sum : ∃ fd, FnP K "_law_sum" "_law_sum" s_u_law_sum (He.ga K "_law_sum") fd
  g_u_law_sum : mg "_law_sum" = some (.ref (He.ga K "_law_sum"))
  d_law : ∃ fd, FnP K "law" "law" s_law (He.ga K "law") fd
  g_law : mg "law" = some (.ref (He.ga K "law"))
  g_EdwardsCurve : mg "EdwardsCurve" = some (.ref (He.ga K "EdwardsCurve"))
  cl_EdwardsCurve : L2.Cls K (He.ga K "EdwardsCurve")
  nf_EdwardsCurve_a : NoAttr K (He.ga K "EdwardsCurve") "a"
  nf_EdwardsCurve_d : NoAttr K (He.ga K "EdwardsCurve") "d"
  nf_EdwardsCurve_prime : NoAttr K (He.ga K "EdwardsCurve") "prime"
  mt_EdwardsCurve_lift : Meth K (He.ga K "EdwardsCurve") "lift" (He.ma K (He.ga K "EdwardsCurve") "lift")
  mt_EdwardsCurve_negate : Meth K (He.ga K "EdwardsCurve") "negate" (He.ma K (He.ga K "EdwardsCurve") "negate")
  mk_EdwardsCurve : Mk K (He.ga K "EdwardsCurve") (He.ma K (He.ga K "EdwardsCurve") "__init__")
  g_CurveError : mg "CurveError" = some (.ref (He.ga K "CurveError"))
  g_OutOfRange : mg "OutOfRange" = some (.ref (He.ga K "OutOfRange"))
  g_NoInverse : mg "NoInverse" = some (.ref (He.ga K "NoInverse"))
  g_Refused : mg "Refused" = some (.ref (He.ga K "Refused"))
  x_NoInverse : PySem.W.excIn K (He.ga K "NoInverse") He.veBase "ValueError.__new__" = true
  k_NoInverse : PySem.W.keepIn K (.ref (He.ga K "NoInverse")) = true
  b_NoInverse : PySem.W.subIn K (.ref (He.ga K "NoInverse")) (.type "BaseException") = some true
  t_NoInverse : PySem.W.typeIn K (.ref (He.ga K "NoInverse")) = some (.type "type")
  x_OutOfRange : PySem.W.excIn K (He.ga K "OutOfRange") He.veBase "ValueError.__new__" = true
  k_OutOfRange : PySem.W.keepIn K (.ref (He.ga K "OutOfRange")) = true
  b_OutOfRange : PySem.W.subIn K (.ref (He.ga K "OutOfRange")) (.type "BaseException") = some true
  t_OutOfRange : PySem.W.typeIn K (.ref (He.ga K "OutOfRange")) = some (.type "type")
  x_Refused : PySem.W.excIn K (He.ga K "Refused") He.veBase "ValueError.__new__" = true
  k_Refused : PySem.W.keepIn K (.ref (He.ga K "Refused")) = true
  b_Refused : PySem.W.subIn K (.ref (He.ga K "Refused")) (.type "BaseException") = some true
  t_Refused : PySem.W.typeIn K (.ref (He.ga K "Refused")) = some (.type "type")
  n_abs : mg "abs" = none
  n_bool : mg "bool" = none
  n_int : mg "int" = none
  n_isinstance : mg "isinstance" = none
  n_len : mg "len" = none
  n_min : mg "min" = none
  n_range : mg "range" = none
  n_tuple : mg "tuple" = none
  c_NEUTRAL_FOUR : ConF K mg "NEUTRAL_FOUR" (toD k_NEUTRAL_FOUR)
  cls : Cls K errs subE
noncomputable def m_bits_from_top (number_ : Int) : Res (List Int) :=
  (((((Res.ok number_)).bind fun (t1 : Int) => Res.ok ((Builtin.Int.intBits t1 : Nat) : Int)).bind fun (t2 : Int) => ((Res.ok (1 : Int))).bind fun (t3 : Int) => Res.ok (t2 - t3)).bind fun (t6 : Int) => (((Res.ok (1 : Int))).bind fun (t4 : Int) => Res.ok (-t4)).bind fun (t7 : Int) => Res.need (okRange t6 ∧ okRange t7) (Res.ok (pyDown t6 t7))).bind fun (xs13 : List Int) => Res.need (xs13.length ≤ 16777216) (compL (fun (x8 : Int) => Res.ok true) (fun (x8 : Int) => (((Res.ok number_)).bind fun (t9 : Int) => ((Res.ok x8)).bind fun (t10 : Int) => Res.need (0 ≤ t10) (Res.ok (t9 / 2 ^ t10.toNat))).bind fun (t11 : Int) => ((Res.ok (1 : Int))).bind fun (t12 : Int) => Res.ok (Builtin.bitAnd t11 t12)) xs13)
theorem ok_bits_from_top {P : Program} {w : World} {K : PySem.W.Frag} {mg : Str → Option Value} {base : Heap} (T : Facts K mg) {fd : FuncData} (F : FnP K "bits_from_top" "bits_from_top" s_bits_from_top (He.ga K "bits_from_top") fd) :
    FnOk P w K mg base (L2.CX P w) 1 (He.ga K "bits_from_top") fd ["number"] (spM K (fun (p : Int × Unit) => m_bits_from_top p.1)) := by
  refine fn_ok F sc_bits_from_top (fun y => rfl) (fun cdv A outer s H E hr => ?_)
  refine ⟨_, (pss_one (ps_ret (pe_lc (own := [("at", 1)]) rfl sc_bits_from_top.nd (pi_range3 rfl T.n_range (pa_cons (pe_op op_sub (pe_bits (pv 0)) pe_int) (pa_cons (pe_un un_neg pe_int) (pa_cons (pe_un un_neg pe_int) pa_nil)))) (blkOk_by (own := [("at", 1)]) (N := ["number", "at"]) (sc := defScope s_bits_from_top) (by decide +kernel)) (fun _ _ _ _ _ => (pg_name (i := 1) sc_bits_from_top.nd rfl (Or.inl rfl))) (fun _ _ _ _ _ => pts_nil) (fun _ _ _ _ _ => (pe_op op_and (pe_op op_shr (pv 0) (pv 1)) pe_int))))), ?_⟩
  rintro ⟨number_, ⟨⟩⟩ F0 H0 Q KP L
  show Blk K F0 H0 KP _ [some (.im (toD number_)), none] (m_bits_from_top number_)
  unfold m_bits_from_top
  have hr_ := ((ev_ofN (ev_comp (tst := fun (x8 : Int) => Res.ok true) (el := fun (x8 : Int) => (((Res.ok number_)).bind fun (t9 : Int) => ((Res.ok x8)).bind fun (t10 : Int) => Res.need (0 ≤ t10) (Res.ok (t9 / 2 ^ t10.toNat))).bind fun (t11 : Int) => ((Res.ok (1 : Int))).bind fun (t12 : Int) => Res.ok (Builtin.bitAnd t11 t12)) (ws := [1]) (ei_down (ev_op (opx_I0 (g := fun i j => i - j)) mild_ok (ev_bits (ev_var (i := 0) (x := number_) rfl)) (ev_int (i := 1))) (ev_un (g := fun i => -i) (ev_int (i := 1))) (ev_un (g := fun i => -i) (ev_int (i := 1)))) (fun _ => gx_name) (fun x8 => et_yes) (fun x8 => ((ev_op (opx_I0 (g := Builtin.bitAnd)) mild_ok (ev_op (opx_I (C := (fun _ j => 0 ≤ j)) (g := fun i j => i / 2 ^ j.toNat)) mild_need (ev_var (i := 0) (x := number_) rfl) (ev_var (i := 1) (x := x8) rfl)) (ev_int (i := 1))) : EvX K WT [some (.im (toD number_)), some (.im (toD x8))] _ _)))) : EvX K (W0 E) [some (.im (toD number_)), none] _ _)
  exact blk_ret L trivial hr_
noncomputable def m_is_whole (value_ : D) : Res Bool :=
  (((Res.ok value_)).bind fun (t14 : D) => Res.need ((toD t14).plain = true) (Res.ok (isI "int" (toD t14)))).bind fun b17 => cond b17 ((((Res.ok value_)).bind fun (t15 : D) => Res.need ((toD t15).plain = true) (Res.ok (isI "bool" (toD t15)))).bind fun (t16 : Bool) => Res.ok (!t16)) (Res.ok false)
theorem ok_is_whole {P : Program} {w : World} {K : PySem.W.Frag} {mg : Str → Option Value} {base : Heap} (T : Facts K mg) {fd : FuncData} (F : FnP K "is_whole" "is_whole" s_is_whole (He.ga K "is_whole") fd) :
    FnOk P w K mg base (L2.CX P w) 1 (He.ga K "is_whole") fd ["value"] (spM K (fun (p : D × Unit) => m_is_whole p.1)) := by
  refine fn_ok F sc_is_whole (fun y => rfl) (fun cdv A outer s H E hr => ?_)
  refine ⟨_, (pss_one (ps_ret (pe_and (pe_callB call_isi (by rfl) T.n_isinstance (by decide +kernel) (pa_cons (pv 0) (pa_cons (pe_bltn (v := .ty "int") (by rfl) T.n_int (by decide +kernel) rfl) pa_nil))) (pe_one (pe_not (pe_callB call_isi (by rfl) T.n_isinstance (by decide +kernel) (pa_cons (pv 0) (pa_cons (pe_bltn (v := .ty "bool") (by rfl) T.n_bool (by decide +kernel) rfl) pa_nil)))))))), ?_⟩
  rintro ⟨value_, ⟨⟩⟩ F0 H0 Q KP L
  show Blk K F0 H0 KP _ [some (.im (toD value_))] (m_is_whole value_)
  unfold m_is_whole
  have hr_ := ((ev_andV (ev_isi isi_int (ev_var (i := 0) (x := value_) rfl)) (ev_notV (ev_isi isi_bool (ev_var (i := 0) (x := value_) rfl)))) : EvX K (W0 E) [some (.im (toD value_))] _ _)
  exact blk_ret L trivial hr_
noncomputable def m_is_residue (value_ : D) (modulus_ : Int) : Res Bool :=
  ((((Res.ok value_)).bind fun a19 => (Res.ok ()).bind fun a20 => Res.ok (a19, a20)).bind fun p18 => m_is_whole p18.1).bind fun b25 => cond b25 (((Res.ok (0 : Int))).bind fun (t21 : Int) => (((Res.ok value_)).bind D.asInt).bind fun (t22 : Int) => (Res.ok (decide (t21 ≤ t22))).bind fun b24 => cond b24 (((Res.ok modulus_)).bind fun (t23 : Int) => Res.ok (decide (t22 < t23))) (Res.ok false)) (Res.ok false)
theorem ok_is_residue {P : Program} {w : World} {K : PySem.W.Frag} {mg : Str → Option Value} {base : Heap} (T : Facts K mg) {fd : FuncData} (F : FnP K "is_residue" "is_residue" s_is_residue (He.ga K "is_residue") fd) :
    FnOk P w K mg base (L2.CX P w) 2 (He.ga K "is_residue") fd ["value", "modulus"] (spM K (fun (p : D × Int × Unit) => m_is_residue p.1 p.2.1)) := by
  obtain ⟨fd_is_whole, F_is_whole⟩ := T.d_is_whole
  have G_is_whole := ok_is_whole (P := P) (w := w) (base := base) T F_is_whole
  have b_is_whole : Binds K fd_is_whole ["value"] [] := F_is_whole.bindsN fun _ _ _ _ _ _ us hl => match us, hl with | [_], _ => rfl
  refine fn_ok F sc_is_residue (fun y => rfl) (fun cdv A outer s H E hr => ?_)
  refine ⟨_, (pss_one (ps_ret (pe_and (pe_callS G_is_whole (hr.mono (by decide)) rfl T.g_is_whole F_is_whole.kp b_is_whole (fun σ => passAt (takes_of rfl rfl rfl rfl) σ) (pa_cons (pv 0) pa_nil)) (pe_one (pe_chain op_le op_lt pe_int (pv 0) (pv 1)))))), ?_⟩
  rintro ⟨value_, modulus_, ⟨⟩⟩ F0 H0 Q KP L
  show Blk K F0 H0 KP _ [some (.im (toD value_)), some (.im (toD modulus_))] (m_is_residue value_ modulus_)
  unfold m_is_residue
  have hr_ := ((ev_andV (ev_call (f := (fun (p : D × Unit) => m_is_whole p.1)) (ea_cons (ev_var (i := 0) (x := value_) rfl) ea_nil)) (ev_chain (opx_B0 (g := fun i j => decide (i ≤ j))) mild_ok (opx_B0 (g := fun i j => decide (i < j))) mild_ok (ev_int (i := 0)) (ev_cast (f := D.asInt) asInt_ok asInt_x (ev_var (i := 0) (x := value_) rfl)) (ev_var (i := 1) (x := modulus_) rfl))) : EvX K (W0 E) [some (.im (toD value_)), some (.im (toD modulus_))] _ _)
  exact blk_ret L trivial hr_
noncomputable def m_bezout_w1 (k1 : (T3 Int Int Int) × (T3 Int Int Int) → Res (T3 Int Int Int)) : Nat → (T3 Int Int Int) × (T3 Int Int Int) → Res (T3 Int Int Int)
  | 0, _ => Res.stuck
  | n1 + 1, (first_, second_) => ((((Res.ok second_)).bind fun (t40 : (T3 Int Int Int)) => Res.ok t40.a).bind fun (t41 : Int) => ((Res.ok (0 : Int))).bind fun (t42 : Int) => Res.ok (!decide (t41 = t42))).bind fun b => cond b   (((((Res.ok first_)).bind fun (t43 : (T3 Int Int Int)) => Res.ok t43.a).bind fun (t45 : Int) => (((Res.ok second_)).bind fun (t44 : (T3 Int Int Int)) => Res.ok t44.a).bind fun (t46 : Int) => Res.need (CDivW t45 t46) (Res.ok (t45 / t46))).bind fun (times_ : Int) =>   ((((((Res.ok first_)).bind fun (t47 : (T3 Int Int Int)) => Res.ok t47.a).bind fun (t51 : Int) => (((Res.ok times_)).bind fun (t49 : Int) => (((Res.ok second_)).bind fun (t48 : (T3 Int Int Int)) => Res.ok t48.a).bind fun (t50 : Int) => Res.need (CMulX t49 t50) (Res.ok (t49 * t50))).bind fun (t52 : Int) => Res.ok (t51 - t52)).bind fun a66 => (((((Res.ok first_)).bind fun (t53 : (T3 Int Int Int)) => Res.ok t53.b).bind fun (t57 : Int) => (((Res.ok times_)).bind fun (t55 : Int) => (((Res.ok second_)).bind fun (t54 : (T3 Int Int Int)) => Res.ok t54.b).bind fun (t56 : Int) => Res.need (CMulX t55 t56) (Res.ok (t55 * t56))).bind fun (t58 : Int) => Res.ok (t57 - t58)).bind fun a68 => (((((Res.ok first_)).bind fun (t59 : (T3 Int Int Int)) => Res.ok t59.c).bind fun (t63 : Int) => (((Res.ok times_)).bind fun (t61 : Int) => (((Res.ok second_)).bind fun (t60 : (T3 Int Int Int)) => Res.ok t60.c).bind fun (t62 : Int) => Res.need (CMulX t61 t62) (Res.ok (t61 * t62))).bind fun (t64 : Int) => Res.ok (t63 - t64)).bind fun a70 => (Res.ok ()).bind fun a71 => Res.ok (a70, a71)).bind fun a69 => Res.ok (a68, a69)).bind fun a67 => Res.ok (a66, a67)).bind fun p65 => Res.ok (T3.mk p65.1 p65.2.1 p65.2.2.1)).bind fun (rest_ : (T3 Int Int Int)) =>   ((Res.ok second_)).bind fun (p72 : (T3 Int Int Int)) => ((Res.ok rest_)).bind fun (p73 : (T3 Int Int Int)) =>   (fun (first_ : (T3 Int Int Int)) (second_ : (T3 Int Int Int)) => m_bezout_w1 k1 n1 (first_, second_)) p72 p73)   (k1 (first_, second_))
noncomputable def m_bezout_k3 : (T3 Int Int Int) × (T3 Int Int Int) → Res (T3 Int Int Int) := fun (first_, second_) =>   ((((Res.ok first_)).bind fun (t74 : (T3 Int Int Int)) => Res.ok t74.a).bind fun (t75 : Int) => ((Res.ok (0 : Int))).bind fun (t76 : Int) => Res.ok (decide (t75 < t76))).bind fun b => cond b   ((((((Res.ok first_)).bind fun (t77 : (T3 Int Int Int)) => Res.ok t77.a).bind fun (t78 : Int) => Res.ok (-t78)).bind fun a84 => (((((Res.ok first_)).bind fun (t79 : (T3 Int Int Int)) => Res.ok t79.b).bind fun (t80 : Int) => Res.ok (-t80)).bind fun a86 => (((((Res.ok first_)).bind fun (t81 : (T3 Int Int Int)) => Res.ok t81.c).bind fun (t82 : Int) => Res.ok (-t82)).bind fun a88 => (Res.ok ()).bind fun a89 => Res.ok (a88, a89)).bind fun a87 => Res.ok (a86, a87)).bind fun a85 => Res.ok (a84, a85)).bind fun p83 => Res.ok (T3.mk p83.1 p83.2.1 p83.2.2.1))   ((Res.ok first_))
noncomputable def m_bezout (a_ : Int) (b_ : Int) : Res (T3 Int Int Int) :=
  ((((Res.ok a_)).bind fun a27 => (((Res.ok (1 : Int))).bind fun a29 => (((Res.ok (0 : Int))).bind fun a31 => (Res.ok ()).bind fun a32 => Res.ok (a31, a32)).bind fun a30 => Res.ok (a29, a30)).bind fun a28 => Res.ok (a27, a28)).bind fun p26 => Res.ok (T3.mk p26.1 p26.2.1 p26.2.2.1)).bind fun (p90 : (T3 Int Int Int)) => ((((Res.ok b_)).bind fun a34 => (((Res.ok (0 : Int))).bind fun a36 => (((Res.ok (1 : Int))).bind fun a38 => (Res.ok ()).bind fun a39 => Res.ok (a38, a39)).bind fun a37 => Res.ok (a36, a37)).bind fun a35 => Res.ok (a34, a35)).bind fun p33 => Res.ok (T3.mk p33.1 p33.2.1 p33.2.2.1)).bind fun (p91 : (T3 Int Int Int)) =>   (fun (first_ : (T3 Int Int Int)) (second_ : (T3 Int Int Int)) => m_bezout_w1 (m_bezout_k3) (b_.natAbs + 1) (first_, second_)) p90 p91
theorem ok_bezout {P : Program} {w : World} {K : PySem.W.Frag} {mg : Str → Option Value} {base : Heap} (T : Facts K mg) {fd : FuncData} (F : FnP K "bezout" "bezout" s_bezout (He.ga K "bezout") fd) :
    FnOk P w K mg base (L2.CX P w) 1 (He.ga K "bezout") fd ["a", "b"] (spM K (fun (p : Int × Int × Unit) => m_bezout p.1 p.2.1)) := by
  refine fn_ok F sc_bezout (fun y => rfl) (fun cdv A outer s H E hr => ?_)
  refine ⟨_, (pss_cons (ps_par (i := 2) (j := 3) (by rfl) sc_bezout.nd rfl rfl (by decide) rfl rfl (pa_cons (pe_tup (pa_cons (pv 0) (pa_cons pe_int (pa_cons pe_int pa_nil)))) (pa_cons (pe_tup (pa_cons (pv 1) (pa_cons pe_int (pa_cons pe_int pa_nil)))) pa_nil)) (by rfl)) (pss_cons (ps_while (passes_of rfl) (pt_cmpR op_ne (pe_ix (cr_ixT rfl) (pv 3) pe_int (fun _ _ => rfl)) pe_int (nomark _)) (pss_cons (ps_set (i := 4) sc_bezout.nd rfl (Or.inl rfl) (pe_op op_fdivW (pe_ix (cr_ixT rfl) (pv 2) pe_int (fun _ _ => rfl)) (pe_ix (cr_ixT rfl) (pv 3) pe_int (fun _ _ => rfl)))) (pss_cons (ps_set (i := 5) sc_bezout.nd rfl (Or.inl rfl) (pe_tup (pa_cons (pe_op op_sub (pe_ix (cr_ixT rfl) (pv 2) pe_int (fun _ _ => rfl)) (pe_op op_mulX (pv 4) (pe_ix (cr_ixT rfl) (pv 3) pe_int (fun _ _ => rfl)))) (pa_cons (pe_op op_sub (pe_ix (cr_ixT rfl) (pv 2) pe_int (fun _ _ => rfl)) (pe_op op_mulX (pv 4) (pe_ix (cr_ixT rfl) (pv 3) pe_int (fun _ _ => rfl)))) (pa_cons (pe_op op_sub (pe_ix (cr_ixT rfl) (pv 2) pe_int (fun _ _ => rfl)) (pe_op op_mulX (pv 4) (pe_ix (cr_ixT rfl) (pv 3) pe_int (fun _ _ => rfl)))) pa_nil))))) (pss_one (ps_par (i := 2) (j := 3) (by rfl) sc_bezout.nd rfl rfl (by decide) rfl rfl (pa_cons (pv 3) (pa_cons (pv 5) pa_nil)) (by rfl)))))) (pss_cons (ps_if (pt_cmpR op_lt (pe_ix (cr_ixT rfl) (pv 2) pe_int (fun _ _ => rfl)) pe_int (nomark _)) (pss_one (ps_ret (pe_tup (pa_cons (pe_un un_neg (pe_ix (cr_ixT rfl) (pv 2) pe_int (fun _ _ => rfl))) (pa_cons (pe_un un_neg (pe_ix (cr_ixT rfl) (pv 2) pe_int (fun _ _ => rfl))) (pa_cons (pe_un un_neg (pe_ix (cr_ixT rfl) (pv 2) pe_int (fun _ _ => rfl))) pa_nil)))))) pss_nil) (pss_one (ps_ret (pv 2)))))), ?_⟩
  rintro ⟨a_, b_, ⟨⟩⟩ F0 H0 Q KP L
  show Blk K F0 H0 KP _ [some (.im (toD a_)), some (.im (toD b_)), none, none, none, none] (m_bezout a_ b_)
  unfold m_bezout
  have ha_ := ((ev_tup (f := (fun y => T3.mk y.1 y.2.1 y.2.2.1)) (ea_cons (ev_var (i := 0) (x := a_) rfl) (ea_cons (ev_int (i := 1)) (ea_cons (ev_int (i := 0)) ea_nil))) (fun _ => rfl) (fun _ => by show 3 ≤ 100000; decide)) : EvX K (W0 E) [some (.im (toD a_)), some (.im (toD b_)), none, none, none, none] _ _)
  have hb_ := ((ev_tup (f := (fun y => T3.mk y.1 y.2.1 y.2.2.1)) (ea_cons (ev_var (i := 1) (x := b_) rfl) (ea_cons (ev_int (i := 0)) (ea_cons (ev_int (i := 1)) ea_nil))) (fun _ => rfl) (fun _ => by show 3 ≤ 100000; decide)) : EvX K (W0 E) [some (.im (toD a_)), some (.im (toD b_)), none, none, none, none] _ _)
  refine blk_seq (blk_par (i := 2) (j := 3) L trivial ha_ hb_ fun first_ second_ => ?_)
  show Blk _ _ _ _ _ [some (.im (toD a_)), some (.im (toD b_)), some (.im (toD first_)), some (.im (toD second_)), none, none] _
  try refine Blk.nx ?_
  refine blk_seq (blk_while (S := (T3 Int Int Int) × (T3 Int Int Int)) (m_bezout_w1 (m_bezout_k3)) (fun (s : (T3 Int Int Int) × (T3 Int Int Int)) => match s with | (first_, second_) => (((Res.ok second_)).bind fun (t40 : (T3 Int Int Int)) => Res.ok t40.a).bind fun (t41 : Int) => ((Res.ok (0 : Int))).bind fun (t42 : Int) => Res.ok (!decide (t41 = t42))) (fun n s => match s with | (first_, second_) => ((((Res.ok first_)).bind fun (t43 : (T3 Int Int Int)) => Res.ok t43.a).bind fun (t45 : Int) => (((Res.ok second_)).bind fun (t44 : (T3 Int Int Int)) => Res.ok t44.a).bind fun (t46 : Int) => Res.need (CDivW t45 t46) (Res.ok (t45 / t46))).bind fun (times_ : Int) =>   ((((((Res.ok first_)).bind fun (t47 : (T3 Int Int Int)) => Res.ok t47.a).bind fun (t51 : Int) => (((Res.ok times_)).bind fun (t49 : Int) => (((Res.ok second_)).bind fun (t48 : (T3 Int Int Int)) => Res.ok t48.a).bind fun (t50 : Int) => Res.need (CMulX t49 t50) (Res.ok (t49 * t50))).bind fun (t52 : Int) => Res.ok (t51 - t52)).bind fun a66 => (((((Res.ok first_)).bind fun (t53 : (T3 Int Int Int)) => Res.ok t53.b).bind fun (t57 : Int) => (((Res.ok times_)).bind fun (t55 : Int) => (((Res.ok second_)).bind fun (t54 : (T3 Int Int Int)) => Res.ok t54.b).bind fun (t56 : Int) => Res.need (CMulX t55 t56) (Res.ok (t55 * t56))).bind fun (t58 : Int) => Res.ok (t57 - t58)).bind fun a68 => (((((Res.ok first_)).bind fun (t59 : (T3 Int Int Int)) => Res.ok t59.c).bind fun (t63 : Int) => (((Res.ok times_)).bind fun (t61 : Int) => (((Res.ok second_)).bind fun (t60 : (T3 Int Int Int)) => Res.ok t60.c).bind fun (t62 : Int) => Res.need (CMulX t61 t62) (Res.ok (t61 * t62))).bind fun (t64 : Int) => Res.ok (t63 - t64)).bind fun a70 => (Res.ok ()).bind fun a71 => Res.ok (a70, a71)).bind fun a69 => Res.ok (a68, a69)).bind fun a67 => Res.ok (a66, a67)).bind fun p65 => Res.ok (T3.mk p65.1 p65.2.1 p65.2.2.1)).bind fun (rest_ : (T3 Int Int Int)) =>   ((Res.ok second_)).bind fun (p72 : (T3 Int Int Int)) => ((Res.ok rest_)).bind fun (p73 : (T3 Int Int Int)) =>   (fun (first_ : (T3 Int Int Int)) (second_ : (T3 Int Int Int)) => m_bezout_w1 (m_bezout_k3) n (first_, second_)) p72 p73) (m_bezout_k3) (fun (first_, second_) => [some (.im (toD a_)), some (.im (toD b_)), some (.im (toD first_)), some (.im (toD second_)), none, none]) (first_, second_) (b_.natAbs + 1) L ?_ (.same (.same (.same (.same (.same (.same .nil)))))) ?_ (fun ⟨_, _⟩ => rfl) (fun _ ⟨_, _⟩ => rfl) ?_ ?_)
  · rintro ⟨first_, second_⟩
    exact trivial
  · rintro ⟨first_, second_⟩
    exact ((et_test (ev_op opx_neI mild_ok (ev_ixTC (i := 0) (f := fun x => x.a) (ev_var (i := 3) (x := second_) rfl) (fun x => ⟨_, rfl, rfl⟩)) (ev_int (i := 0)))) : EvT K (W0 E) [some (.im (toD a_)), some (.im (toD b_)), some (.im (toD first_)), some (.im (toD second_)), none, none] _ _)
  · intro n1 s_ N_ hN1
    obtain ⟨first_, second_⟩ := s_
    show Blk _ _ _ _ _ [some (.im (toD a_)), some (.im (toD b_)), some (.im (toD first_)), some (.im (toD second_)), none, none] _
    have hs_ := ((ev_op (opx_I (C := CDivW) (g := fun i j => i / j)) mild_need (ev_ixTC (i := 0) (f := fun x => x.a) (ev_var (i := 2) (x := first_) rfl) (fun x => ⟨_, rfl, rfl⟩)) (ev_ixTC (i := 0) (f := fun x => x.a) (ev_var (i := 3) (x := second_) rfl) (fun x => ⟨_, rfl, rfl⟩))) : EvX K (W0 E) [some (.im (toD a_)), some (.im (toD b_)), some (.im (toD first_)), some (.im (toD second_)), none, none] _ _)
    refine blk_seq (blk_set (i := 4) L trivial hs_ fun times_ => ?_)
    show Blk _ _ _ _ _ [some (.im (toD a_)), some (.im (toD b_)), some (.im (toD first_)), some (.im (toD second_)), some (.im (toD times_)), none] _
    try refine Blk.nx ?_
    have hs_ := ((ev_tup (f := (fun y => T3.mk y.1 y.2.1 y.2.2.1)) (ea_cons (ev_op (opx_I0 (g := fun i j => i - j)) mild_ok (ev_ixTC (i := 0) (f := fun x => x.a) (ev_var (i := 2) (x := first_) rfl) (fun x => ⟨_, rfl, rfl⟩)) (ev_op (opx_I (C := CMulX) (g := fun i j => i * j)) mild_need (ev_var (i := 4) (x := times_) rfl) (ev_ixTC (i := 0) (f := fun x => x.a) (ev_var (i := 3) (x := second_) rfl) (fun x => ⟨_, rfl, rfl⟩)))) (ea_cons (ev_op (opx_I0 (g := fun i j => i - j)) mild_ok (ev_ixTC (i := 1) (f := fun x => x.b) (ev_var (i := 2) (x := first_) rfl) (fun x => ⟨_, rfl, rfl⟩)) (ev_op (opx_I (C := CMulX) (g := fun i j => i * j)) mild_need (ev_var (i := 4) (x := times_) rfl) (ev_ixTC (i := 1) (f := fun x => x.b) (ev_var (i := 3) (x := second_) rfl) (fun x => ⟨_, rfl, rfl⟩)))) (ea_cons (ev_op (opx_I0 (g := fun i j => i - j)) mild_ok (ev_ixTC (i := 2) (f := fun x => x.c) (ev_var (i := 2) (x := first_) rfl) (fun x => ⟨_, rfl, rfl⟩)) (ev_op (opx_I (C := CMulX) (g := fun i j => i * j)) mild_need (ev_var (i := 4) (x := times_) rfl) (ev_ixTC (i := 2) (f := fun x => x.c) (ev_var (i := 3) (x := second_) rfl) (fun x => ⟨_, rfl, rfl⟩)))) ea_nil))) (fun _ => rfl) (fun _ => by show 3 ≤ 100000; decide)) : EvX K (W0 E) [some (.im (toD a_)), some (.im (toD b_)), some (.im (toD first_)), some (.im (toD second_)), some (.im (toD times_)), none] _ _)
    refine blk_seq (blk_set (i := 5) L trivial hs_ fun rest_ => ?_)
    show Blk _ _ _ _ _ [some (.im (toD a_)), some (.im (toD b_)), some (.im (toD first_)), some (.im (toD second_)), some (.im (toD times_)), some (.im (toD rest_))] _
    try refine Blk.nx ?_
    have ha_ := ((ev_var (i := 3) (x := second_) rfl) : EvX K (W0 E) [some (.im (toD a_)), some (.im (toD b_)), some (.im (toD first_)), some (.im (toD second_)), some (.im (toD times_)), some (.im (toD rest_))] _ _)
    have hb_ := ((ev_var (i := 5) (x := rest_) rfl) : EvX K (W0 E) [some (.im (toD a_)), some (.im (toD b_)), some (.im (toD first_)), some (.im (toD second_)), some (.im (toD times_)), some (.im (toD rest_))] _ _)
    refine blk_par (i := 2) (j := 3) L trivial ha_ hb_ fun first_ second_ => ?_
    show Blk _ _ _ _ _ [some (.im (toD a_)), some (.im (toD b_)), some (.im (toD first_)), some (.im (toD second_)), some (.im (toD times_)), some (.im (toD rest_))] _
    try refine Blk.nx ?_
    exact (hN1 (first_, second_)).weak (.same (.same (.same (.same (.drop (.drop .nil))))))
  · rintro ⟨first_, second_⟩
    show Blk _ _ _ _ _ [some (.im (toD a_)), some (.im (toD b_)), some (.im (toD first_)), some (.im (toD second_)), none, none] ((m_bezout_k3) (first_, second_))
    unfold m_bezout_k3
    try refine Blk.nx ?_
    have ht_ := ((et_test (ev_op (opx_B0 (g := fun i j => decide (i < j))) mild_ok (ev_ixTC (i := 0) (f := fun x => x.a) (ev_var (i := 2) (x := first_) rfl) (fun x => ⟨_, rfl, rfl⟩)) (ev_int (i := 0)))) : EvT K (W0 E) [some (.im (toD a_)), some (.im (toD b_)), some (.im (toD first_)), some (.im (toD second_)), none, none] _ _)
    refine blk_seq (blk_if2 L trivial ht_ ?_ ?_)
    · have hr_ := ((ev_tup (f := (fun y => T3.mk y.1 y.2.1 y.2.2.1)) (ea_cons (ev_un (g := fun i => -i) (ev_ixTC (i := 0) (f := fun x => x.a) (ev_var (i := 2) (x := first_) rfl) (fun x => ⟨_, rfl, rfl⟩))) (ea_cons (ev_un (g := fun i => -i) (ev_ixTC (i := 1) (f := fun x => x.b) (ev_var (i := 2) (x := first_) rfl) (fun x => ⟨_, rfl, rfl⟩))) (ea_cons (ev_un (g := fun i => -i) (ev_ixTC (i := 2) (f := fun x => x.c) (ev_var (i := 2) (x := first_) rfl) (fun x => ⟨_, rfl, rfl⟩))) ea_nil))) (fun _ => rfl) (fun _ => by show 3 ≤ 100000; decide)) : EvX K (W0 E) [some (.im (toD a_)), some (.im (toD b_)), some (.im (toD first_)), some (.im (toD second_)), none, none] _ _)
      exact blk_ret L trivial hr_
    · refine blk_nil ?_
      try refine Blk.nx ?_
      have hr_ := ((ev_var (i := 2) (x := first_) rfl) : EvX K (W0 E) [some (.im (toD a_)), some (.im (toD b_)), some (.im (toD first_)), some (.im (toD second_)), none, none] _ _)
      exact blk_ret L trivial hr_
noncomputable def m_inverse (a_ : Int) (modulus_ : Int) : Res Int :=
  (((((Res.ok a_)).bind fun (t92 : Int) => ((Res.ok modulus_)).bind fun (t93 : Int) => Res.need (0 < t93) (Res.ok (t92 % t93))).bind fun a95 => (((Res.ok modulus_)).bind fun a97 => (Res.ok ()).bind fun a98 => Res.ok (a97, a98)).bind fun a96 => Res.ok (a95, a96)).bind fun p94 => m_bezout p94.1 p94.2.1).bind fun (u99 : (T3 Int Int Int)) =>   (fun (divisor_ : Int) (factor_ : Int) (u__ : Int) => (((Res.ok divisor_)).bind fun (t100 : Int) => ((Res.ok (1 : Int))).bind fun (t101 : Int) => Res.ok (!decide (t100 = t101))).bind fun b => cond b   (Res.exc "NoInverse")   (((Res.ok factor_)).bind fun (t102 : Int) => ((Res.ok modulus_)).bind fun (t103 : Int) => Res.need (0 < t103) (Res.ok (t102 % t103)))) u99.a u99.b u99.c
theorem ok_inverse {P : Program} {w : World} {K : PySem.W.Frag} {mg : Str → Option Value} {base : Heap} (T : Facts K mg) {fd : FuncData} (F : FnP K "inverse" "inverse" s_inverse (He.ga K "inverse") fd) :
    FnOk P w K mg base (L2.CX P w) 2 (He.ga K "inverse") fd ["a", "modulus"] (spM K (fun (p : Int × Int × Unit) => m_inverse p.1 p.2.1)) := by
  obtain ⟨fd_bezout, F_bezout⟩ := T.d_bezout
  have G_bezout := ok_bezout (P := P) (w := w) (base := base) T F_bezout
  have b_bezout : Binds K fd_bezout ["a", "b"] [] := F_bezout.bindsN fun _ _ _ _ _ _ us hl => match us, hl with | [_, _], _ => rfl
  refine fn_ok F sc_inverse (fun y => rfl) (fun cdv A outer s H E hr => ?_)
  refine ⟨_, (pss_cons (ps_asg (pe_callS G_bezout (hr.mono (by decide)) rfl T.g_bezout F_bezout.kp b_bezout (fun σ => passAt (takes_of rfl rfl rfl rfl) σ) (pa_cons (pe_op op_mod (pv 0) (pv 1)) (pa_cons (pv 1) pa_nil))) (pg_tup rfl (pgs_cons (pg_name (i := 2) sc_inverse.nd rfl (Or.inl rfl)) (pgs_cons (pg_name (i := 3) sc_inverse.nd rfl (Or.inl rfl)) (pgs_cons (pg_name (i := 4) sc_inverse.nd rfl (Or.inl rfl)) pgs_nil))))) (pss_cons (ps_if (pt_cmpR op_ne (pv 2) pe_int (nomark _)) (pss_one (ps_raise rfl (takes_of rfl rfl rfl rfl) (pmk_own PySem.F.excBase_ValueError T.x_NoInverse T.g_NoInverse T.k_NoInverse (raises_own T.b_NoInverse T.t_NoInverse) rfl))) pss_nil) (pss_one (ps_ret (pe_op op_mod (pv 3) (pv 1)))))), ?_⟩
  rintro ⟨a_, modulus_, ⟨⟩⟩ F0 H0 Q KP L
  show Blk K F0 H0 KP _ [some (.im (toD a_)), some (.im (toD modulus_)), none, none, none] (m_inverse a_ modulus_)
  unfold m_inverse
  have hs_ := ((ev_call (f := (fun (p : Int × Int × Unit) => m_bezout p.1 p.2.1)) (ea_cons (ev_op (opx_I (C := (fun _ j => 0 < j)) (g := fun i j => i % j)) mild_need (ev_var (i := 0) (x := a_) rfl) (ev_var (i := 1) (x := modulus_) rfl)) (ea_cons (ev_var (i := 1) (x := modulus_) rfl) ea_nil))) : EvX K (W0 E) [some (.im (toD a_)), some (.im (toD modulus_)), none, none, none] _ _)
  refine blk_seq (blk_asg L trivial hs_ (fun _ => (gx_tup (gxs_cons gx_name (gxs_cons gx_name (gxs_cons gx_name gxs_nil))) rfl)) fun u99 => ?_)
  show Blk _ _ _ _ _ [some (.im (toD a_)), some (.im (toD modulus_)), some (.im (toD u99.a)), some (.im (toD u99.b)), some (.im (toD u99.c))] ((fun (divisor_ : Int) (factor_ : Int) (u__ : Int) => _) u99.a u99.b u99.c)
  generalize u99.a = divisor_
  generalize u99.b = factor_
  generalize u99.c = u__
  show Blk _ _ _ _ _ [some (.im (toD a_)), some (.im (toD modulus_)), some (.im (toD divisor_)), some (.im (toD factor_)), some (.im (toD u__))] _
  try refine Blk.nx ?_
  have ht_ := ((et_test (ev_op opx_neI mild_ok (ev_var (i := 2) (x := divisor_) rfl) (ev_int (i := 1)))) : EvT K (W0 E) [some (.im (toD a_)), some (.im (toD modulus_)), some (.im (toD divisor_)), some (.im (toD factor_)), some (.im (toD u__))] _ _)
  refine blk_seq (blk_if2 L trivial ht_ ?_ ?_)
  · exact blk_raise L trivial
  · refine blk_nil ?_
    try refine Blk.nx ?_
    have hr_ := ((ev_op (opx_I (C := (fun _ j => 0 < j)) (g := fun i j => i % j)) mild_need (ev_var (i := 3) (x := factor_) rfl) (ev_var (i := 1) (x := modulus_) rfl)) : EvX K (W0 E) [some (.im (toD a_)), some (.im (toD modulus_)), some (.im (toD divisor_)), some (.im (toD factor_)), some (.im (toD u__))] _ _)
    exact blk_ret L trivial hr_
noncomputable def m_power_k2 (modulus_ : Int) (square_ : Int) (rest_ : Int) (g1 : Int × Int × Int → Res Int) : Int → Res Int := fun result_ =>   ((((Res.ok square_)).bind fun (t114 : Int) => ((Res.ok square_)).bind fun (t115 : Int) => Res.need (CMulX t114 t115) (Res.ok (t114 * t115))).bind fun (t116 : Int) => ((Res.ok modulus_)).bind fun (t117 : Int) => Res.need (0 < t117) (Res.ok (t116 % t117))).bind fun (square_ : Int) =>   (((Res.ok rest_)).bind fun (t118 : Int) => ((Res.ok (1 : Int))).bind fun (t119 : Int) => Res.ok (t118 / 2 ^ t119.toNat)).bind fun (rest_ : Int) =>   g1 (result_, square_, rest_)
noncomputable def m_power_w1 (modulus_ : Int) (k1 : Int × Int × Int → Res Int) : Nat → Int × Int × Int → Res Int
  | 0, _ => Res.stuck
  | n1 + 1, (result_, square_, rest_) => (((Res.ok rest_)).bind fun (t108 : Int) => ((Res.ok (0 : Int))).bind fun (t109 : Int) => Res.ok (decide (t109 < t108))).bind fun b => cond b   (((((Res.ok rest_)).bind fun (t110 : Int) => ((Res.ok (1 : Int))).bind fun (t111 : Int) => Res.ok (Builtin.bitAnd t110 t111)).bind fun (t112 : Int) => ((Res.ok (1 : Int))).bind fun (t113 : Int) => Res.ok (decide (t112 = t113))).bind fun b => cond b   (((((Res.ok result_)).bind fun (t120 : Int) => ((Res.ok square_)).bind fun (t121 : Int) => Res.need (CMulX t120 t121) (Res.ok (t120 * t121))).bind fun (t122 : Int) => ((Res.ok modulus_)).bind fun (t123 : Int) => Res.need (0 < t123) (Res.ok (t122 % t123))).bind fun (result_ : Int) =>   (m_power_k2 modulus_ square_ rest_ (m_power_w1 modulus_ k1 n1)) result_)   ((m_power_k2 modulus_ square_ rest_ (m_power_w1 modulus_ k1 n1)) result_))   (k1 (result_, square_, rest_))
noncomputable def m_power_k3 : Int × Int × Int → Res Int := fun (result_, square_, rest_) =>   (Res.ok result_)
noncomputable def m_power (a_ : Int) (exponent_ : Int) (modulus_ : Int) : Res Int :=
  (((Res.ok (1 : Int))).bind fun (t104 : Int) => ((Res.ok modulus_)).bind fun (t105 : Int) => Res.need (0 < t105) (Res.ok (t104 % t105))).bind fun (result_ : Int) =>   (((Res.ok a_)).bind fun (t106 : Int) => ((Res.ok modulus_)).bind fun (t107 : Int) => Res.need (0 < t107) (Res.ok (t106 % t107))).bind fun (square_ : Int) =>   ((Res.ok exponent_)).bind fun (rest_ : Int) =>   m_power_w1 modulus_ (m_power_k3) (rest_.toNat + 1) (result_, square_, rest_)
theorem ok_power {P : Program} {w : World} {K : PySem.W.Frag} {mg : Str → Option Value} {base : Heap} (T : Facts K mg) {fd : FuncData} (F : FnP K "power" "power" s_power (He.ga K "power") fd) :
    FnOk P w K mg base (L2.CX P w) 1 (He.ga K "power") fd ["a", "exponent", "modulus"] (spM K (fun (p : Int × Int × Int × Unit) => m_power p.1 p.2.1 p.2.2.1)) := by
  refine fn_ok F sc_power (fun y => rfl) (fun cdv A outer s H E hr => ?_)
  refine ⟨_, (pss_cons (ps_set (i := 3) sc_power.nd rfl (Or.inl rfl) (pe_op op_mod pe_int (pv 2))) (pss_cons (ps_set (i := 4) sc_power.nd rfl (Or.inl rfl) (pe_op op_mod (pv 0) (pv 2))) (pss_cons (ps_set (i := 5) sc_power.nd rfl (Or.inl rfl) (pv 1)) (pss_cons (ps_while (passes_of rfl) (pt_cmpR op_gt (pv 5) pe_int (nomark _)) (pss_cons (ps_if (pt_cmpR op_eq (pe_op op_and (pv 5) pe_int) pe_int (nomark _)) (pss_one (ps_set (i := 3) sc_power.nd rfl (Or.inl rfl) (pe_op op_mod (pe_op op_mulX (pv 3) (pv 4)) (pv 2)))) pss_nil) (pss_cons (ps_set (i := 4) sc_power.nd rfl (Or.inl rfl) (pe_op op_mod (pe_op op_mulX (pv 4) (pv 4)) (pv 2))) (pss_one (ps_set (i := 5) sc_power.nd rfl (Or.inl rfl) (pe_op op_shr (pv 5) pe_int)))))) (pss_one (ps_ret (pv 3))))))), ?_⟩
  rintro ⟨a_, exponent_, modulus_, ⟨⟩⟩ F0 H0 Q KP L
  show Blk K F0 H0 KP _ [some (.im (toD a_)), some (.im (toD exponent_)), some (.im (toD modulus_)), none, none, none] (m_power a_ exponent_ modulus_)
  unfold m_power
  have hs_ := ((ev_op (opx_I (C := (fun _ j => 0 < j)) (g := fun i j => i % j)) mild_need (ev_int (i := 1)) (ev_var (i := 2) (x := modulus_) rfl)) : EvX K (W0 E) [some (.im (toD a_)), some (.im (toD exponent_)), some (.im (toD modulus_)), none, none, none] _ _)
  refine blk_seq (blk_set (i := 3) L trivial hs_ fun result_ => ?_)
  show Blk _ _ _ _ _ [some (.im (toD a_)), some (.im (toD exponent_)), some (.im (toD modulus_)), some (.im (toD result_)), none, none] _
  try refine Blk.nx ?_
  have hs_ := ((ev_op (opx_I (C := (fun _ j => 0 < j)) (g := fun i j => i % j)) mild_need (ev_var (i := 0) (x := a_) rfl) (ev_var (i := 2) (x := modulus_) rfl)) : EvX K (W0 E) [some (.im (toD a_)), some (.im (toD exponent_)), some (.im (toD modulus_)), some (.im (toD result_)), none, none] _ _)
  refine blk_seq (blk_set (i := 4) L trivial hs_ fun square_ => ?_)
  show Blk _ _ _ _ _ [some (.im (toD a_)), some (.im (toD exponent_)), some (.im (toD modulus_)), some (.im (toD result_)), some (.im (toD square_)), none] _
  try refine Blk.nx ?_
  have hs_ := ((ev_var (i := 1) (x := exponent_) rfl) : EvX K (W0 E) [some (.im (toD a_)), some (.im (toD exponent_)), some (.im (toD modulus_)), some (.im (toD result_)), some (.im (toD square_)), none] _ _)
  refine blk_seq (blk_set (i := 5) L trivial hs_ fun rest_ => ?_)
  show Blk _ _ _ _ _ [some (.im (toD a_)), some (.im (toD exponent_)), some (.im (toD modulus_)), some (.im (toD result_)), some (.im (toD square_)), some (.im (toD rest_))] _
  try refine Blk.nx ?_
  refine blk_seq (blk_while (S := Int × Int × Int) (m_power_w1 modulus_ (m_power_k3)) (fun (s : Int × Int × Int) => match s with | (result_, square_, rest_) => ((Res.ok rest_)).bind fun (t108 : Int) => ((Res.ok (0 : Int))).bind fun (t109 : Int) => Res.ok (decide (t109 < t108))) (fun n s => match s with | (result_, square_, rest_) => ((((Res.ok rest_)).bind fun (t110 : Int) => ((Res.ok (1 : Int))).bind fun (t111 : Int) => Res.ok (Builtin.bitAnd t110 t111)).bind fun (t112 : Int) => ((Res.ok (1 : Int))).bind fun (t113 : Int) => Res.ok (decide (t112 = t113))).bind fun b => cond b   (((((Res.ok result_)).bind fun (t120 : Int) => ((Res.ok square_)).bind fun (t121 : Int) => Res.need (CMulX t120 t121) (Res.ok (t120 * t121))).bind fun (t122 : Int) => ((Res.ok modulus_)).bind fun (t123 : Int) => Res.need (0 < t123) (Res.ok (t122 % t123))).bind fun (result_ : Int) =>   (m_power_k2 modulus_ square_ rest_ (m_power_w1 modulus_ (m_power_k3) n)) result_)   ((m_power_k2 modulus_ square_ rest_ (m_power_w1 modulus_ (m_power_k3) n)) result_)) (m_power_k3) (fun (result_, square_, rest_) => [some (.im (toD a_)), some (.im (toD exponent_)), some (.im (toD modulus_)), some (.im (toD result_)), some (.im (toD square_)), some (.im (toD rest_))]) (result_, square_, rest_) (rest_.toNat + 1) L ?_ (.same (.same (.same (.same (.same (.same .nil)))))) ?_ (fun ⟨_, _, _⟩ => rfl) (fun _ ⟨_, _, _⟩ => rfl) ?_ ?_)
  · rintro ⟨result_, square_, rest_⟩
    exact trivial
  · rintro ⟨result_, square_, rest_⟩
    exact ((et_test (ev_op (opx_B0 (g := fun i j => decide (j < i))) mild_ok (ev_var (i := 5) (x := rest_) rfl) (ev_int (i := 0)))) : EvT K (W0 E) [some (.im (toD a_)), some (.im (toD exponent_)), some (.im (toD modulus_)), some (.im (toD result_)), some (.im (toD square_)), some (.im (toD rest_))] _ _)
  · intro n1 s_ N_ hN1
    obtain ⟨result_, square_, rest_⟩ := s_
    show Blk _ _ _ _ _ [some (.im (toD a_)), some (.im (toD exponent_)), some (.im (toD modulus_)), some (.im (toD result_)), some (.im (toD square_)), some (.im (toD rest_))] _
    have ht_ := ((et_test (ev_op opx_eqI mild_ok (ev_op (opx_I0 (g := Builtin.bitAnd)) mild_ok (ev_var (i := 5) (x := rest_) rfl) (ev_int (i := 1))) (ev_int (i := 1)))) : EvT K (W0 E) [some (.im (toD a_)), some (.im (toD exponent_)), some (.im (toD modulus_)), some (.im (toD result_)), some (.im (toD square_)), some (.im (toD rest_))] _ _)
    refine blk_seq (blk_ifj (S := Int) (fun result_ => [some (.im (toD a_)), some (.im (toD exponent_)), some (.im (toD modulus_)), some (.im (toD result_)), some (.im (toD square_)), some (.im (toD rest_))]) (m_power_k2 modulus_ square_ rest_ (m_power_w1 modulus_ (m_power_k3) n1)) L trivial ht_ ?_ ?_ ?_)
    · intro result_
      show Blk _ _ _ _ _ [some (.im (toD a_)), some (.im (toD exponent_)), some (.im (toD modulus_)), some (.im (toD result_)), some (.im (toD square_)), some (.im (toD rest_))] ((m_power_k2 modulus_ square_ rest_ (m_power_w1 modulus_ (m_power_k3) n1)) result_)
      unfold m_power_k2
      try refine Blk.nx ?_
      have hs_ := ((ev_op (opx_I (C := (fun _ j => 0 < j)) (g := fun i j => i % j)) mild_need (ev_op (opx_I (C := CMulX) (g := fun i j => i * j)) mild_need (ev_var (i := 4) (x := square_) rfl) (ev_var (i := 4) (x := square_) rfl)) (ev_var (i := 2) (x := modulus_) rfl)) : EvX K (W0 E) [some (.im (toD a_)), some (.im (toD exponent_)), some (.im (toD modulus_)), some (.im (toD result_)), some (.im (toD square_)), some (.im (toD rest_))] _ _)
      refine blk_seq (blk_set (i := 4) L trivial hs_ fun square_ => ?_)
      show Blk _ _ _ _ _ [some (.im (toD a_)), some (.im (toD exponent_)), some (.im (toD modulus_)), some (.im (toD result_)), some (.im (toD square_)), some (.im (toD rest_))] _
      try refine Blk.nx ?_
      have hs_ := ((ev_opI (C := (fun _ j => 0 ≤ j)) (g := fun i j => i / 2 ^ j.toNat) (fun x y _ h => by cases h; (show (0 : Int) ≤ _; decide)) (ev_var (i := 5) (x := rest_) rfl) (ev_int (i := 1))) : EvX K (W0 E) [some (.im (toD a_)), some (.im (toD exponent_)), some (.im (toD modulus_)), some (.im (toD result_)), some (.im (toD square_)), some (.im (toD rest_))] _ _)
      refine blk_set (i := 5) L trivial hs_ fun rest_ => ?_
      show Blk _ _ _ _ _ [some (.im (toD a_)), some (.im (toD exponent_)), some (.im (toD modulus_)), some (.im (toD result_)), some (.im (toD square_)), some (.im (toD rest_))] _
      try refine Blk.nx ?_
      exact (hN1 (result_, square_, rest_)).weak (.same (.same (.same (.same (.same (.same .nil))))))
    · intro hk2
      have hs_ := ((ev_op (opx_I (C := (fun _ j => 0 < j)) (g := fun i j => i % j)) mild_need (ev_op (opx_I (C := CMulX) (g := fun i j => i * j)) mild_need (ev_var (i := 3) (x := result_) rfl) (ev_var (i := 4) (x := square_) rfl)) (ev_var (i := 2) (x := modulus_) rfl)) : EvX K (W0 E) [some (.im (toD a_)), some (.im (toD exponent_)), some (.im (toD modulus_)), some (.im (toD result_)), some (.im (toD square_)), some (.im (toD rest_))] _ _)
      refine blk_set (i := 3) L trivial hs_ fun result_ => ?_
      show Blk _ _ _ _ _ [some (.im (toD a_)), some (.im (toD exponent_)), some (.im (toD modulus_)), some (.im (toD result_)), some (.im (toD square_)), some (.im (toD rest_))] _
      try refine Blk.nx ?_
      exact (hk2 result_).weak (.same (.same (.same (.same (.same (.same .nil))))))
    · intro hk2
      refine blk_nil ?_
      try refine Blk.nx ?_
      exact (hk2 result_).weak (.same (.same (.same (.same (.same (.same .nil))))))
  · rintro ⟨result_, square_, rest_⟩
    show Blk _ _ _ _ _ [some (.im (toD a_)), some (.im (toD exponent_)), some (.im (toD modulus_)), some (.im (toD result_)), some (.im (toD square_)), some (.im (toD rest_))] ((m_power_k3) (result_, square_, rest_))
    unfold m_power_k3
    try refine Blk.nx ?_
    have hr_ := ((ev_var (i := 3) (x := result_) rfl) : EvX K (W0 E) [some (.im (toD a_)), some (.im (toD exponent_)), some (.im (toD modulus_)), some (.im (toD result_)), some (.im (toD square_)), some (.im (toD rest_))] _ _)
    exact blk_ret L trivial hr_
noncomputable def m_square_class (a_ : Int) (prime_ : Int) : Res Int :=
  ((((Res.ok a_)).bind fun (t124 : Int) => ((Res.ok prime_)).bind fun (t125 : Int) => Res.need (0 < t125) (Res.ok (t124 % t125))).bind fun (t126 : Int) => ((Res.ok (0 : Int))).bind fun (t127 : Int) => Res.ok (decide (t126 = t127))).bind fun b => cond b   ((Res.ok (0 : Int)))   ((((((Res.ok a_)).bind fun a133 => (((((Res.ok prime_)).bind fun (t128 : Int) => ((Res.ok (1 : Int))).bind fun (t129 : Int) => Res.ok (t128 - t129)).bind fun (t130 : Int) => ((Res.ok (2 : Int))).bind fun (t131 : Int) => Res.ok (t130 / t131)).bind fun a135 => (((Res.ok prime_)).bind fun a137 => (Res.ok ()).bind fun a138 => Res.ok (a137, a138)).bind fun a136 => Res.ok (a135, a136)).bind fun a134 => Res.ok (a133, a134)).bind fun p132 => m_power p132.1 p132.2.1 p132.2.2.1).bind fun (t139 : Int) => ((Res.ok (1 : Int))).bind fun (t140 : Int) => Res.ok (decide (t139 = t140))).bind fun b => cond b   ((Res.ok (1 : Int)))   (((Res.ok (1 : Int))).bind fun (t141 : Int) => Res.ok (-t141)))
theorem ok_square_class {P : Program} {w : World} {K : PySem.W.Frag} {mg : Str → Option Value} {base : Heap} (T : Facts K mg) {fd : FuncData} (F : FnP K "square_class" "square_class" s_square_class (He.ga K "square_class") fd) :
    FnOk P w K mg base (L2.CX P w) 2 (He.ga K "square_class") fd ["a", "prime"] (spM K (fun (p : Int × Int × Unit) => m_square_class p.1 p.2.1)) := by
  obtain ⟨fd_power, F_power⟩ := T.d_power
  have G_power := ok_power (P := P) (w := w) (base := base) T F_power
  have b_power : Binds K fd_power ["a", "exponent", "modulus"] [] := F_power.bindsN fun _ _ _ _ _ _ us hl => match us, hl with | [_, _, _], _ => rfl
  refine fn_ok F sc_square_class (fun y => rfl) (fun cdv A outer s H E hr => ?_)
  refine ⟨_, (pss_cons (ps_if (pt_cmpR op_eq (pe_op op_mod (pv 0) (pv 1)) pe_int (nomark _)) (pss_one (ps_ret pe_int)) pss_nil) (pss_cons (ps_if (pt_cmpR op_eq (pe_callS G_power (hr.mono (by decide)) rfl T.g_power F_power.kp b_power (fun σ => passAt (takes_of rfl rfl rfl rfl) σ) (pa_cons (pv 0) (pa_cons (pe_op op_fdiv (pe_op op_sub (pv 1) pe_int) pe_int) (pa_cons (pv 1) pa_nil)))) pe_int (nomark _)) (pss_one (ps_ret pe_int)) pss_nil) (pss_one (ps_ret (pe_un un_neg pe_int))))), ?_⟩
  rintro ⟨a_, prime_, ⟨⟩⟩ F0 H0 Q KP L
  show Blk K F0 H0 KP _ [some (.im (toD a_)), some (.im (toD prime_))] (m_square_class a_ prime_)
  unfold m_square_class
  have ht_ := ((et_test (ev_op opx_eqI mild_ok (ev_op (opx_I (C := (fun _ j => 0 < j)) (g := fun i j => i % j)) mild_need (ev_var (i := 0) (x := a_) rfl) (ev_var (i := 1) (x := prime_) rfl)) (ev_int (i := 0)))) : EvT K (W0 E) [some (.im (toD a_)), some (.im (toD prime_))] _ _)
  refine blk_seq (blk_if2 L trivial ht_ ?_ ?_)
  · have hr_ := ((ev_int (i := 0)) : EvX K (W0 E) [some (.im (toD a_)), some (.im (toD prime_))] _ _)
    exact blk_ret L trivial hr_
  · refine blk_nil ?_
    try refine Blk.nx ?_
    have ht_ := ((et_test (ev_op opx_eqI mild_ok (ev_call (f := (fun (p : Int × Int × Int × Unit) => m_power p.1 p.2.1 p.2.2.1)) (ea_cons (ev_var (i := 0) (x := a_) rfl) (ea_cons (ev_opI (C := CDiv) (g := fun i j => i / j) (fun x y _ h => by cases h; exact ⟨by decide, by decide⟩) (ev_op (opx_I0 (g := fun i j => i - j)) mild_ok (ev_var (i := 1) (x := prime_) rfl) (ev_int (i := 1))) (ev_int (i := 2))) (ea_cons (ev_var (i := 1) (x := prime_) rfl) ea_nil)))) (ev_int (i := 1)))) : EvT K (W0 E) [some (.im (toD a_)), some (.im (toD prime_))] _ _)
    refine blk_seq (blk_if2 L trivial ht_ ?_ ?_)
    · have hr_ := ((ev_int (i := 1)) : EvX K (W0 E) [some (.im (toD a_)), some (.im (toD prime_))] _ _)
      exact blk_ret L trivial hr_
    · refine blk_nil ?_
      try refine Blk.nx ?_
      have hr_ := ((ev_un (g := fun i => -i) (ev_int (i := 1))) : EvX K (W0 E) [some (.im (toD a_)), some (.im (toD prime_))] _ _)
      exact blk_ret L trivial hr_
noncomputable def m_split_twos (number_ : Int) : Res (T2 Int Int) :=
  (((((Res.ok number_)).bind fun (t143 : Int) => (((Res.ok number_)).bind fun (t142 : Int) => Res.ok (-t142)).bind fun (t144 : Int) => Res.ok (Builtin.bitAnd t143 t144)).bind fun (t145 : Int) => Res.ok ((Builtin.Int.intBits t145 : Nat) : Int)).bind fun (t146 : Int) => ((Res.ok (1 : Int))).bind fun (t147 : Int) => Res.ok (t146 - t147)).bind fun (twos_ : Int) =>   ((((Res.ok number_)).bind fun (t148 : Int) => ((Res.ok twos_)).bind fun (t149 : Int) => Res.need (0 ≤ t149) (Res.ok (t148 / 2 ^ t149.toNat))).bind fun a151 => (((Res.ok twos_)).bind fun a153 => (Res.ok ()).bind fun a154 => Res.ok (a153, a154)).bind fun a152 => Res.ok (a151, a152)).bind fun p150 => Res.ok (T2.mk p150.1 p150.2.1)
theorem ok_split_twos {P : Program} {w : World} {K : PySem.W.Frag} {mg : Str → Option Value} {base : Heap} (T : Facts K mg) {fd : FuncData} (F : FnP K "split_twos" "split_twos" s_split_twos (He.ga K "split_twos") fd) :
    FnOk P w K mg base (L2.CX P w) 1 (He.ga K "split_twos") fd ["number"] (spM K (fun (p : Int × Unit) => m_split_twos p.1)) := by
  refine fn_ok F sc_split_twos (fun y => rfl) (fun cdv A outer s H E hr => ?_)
  refine ⟨_, (pss_cons (ps_set (i := 1) sc_split_twos.nd rfl (Or.inl rfl) (pe_op op_sub (pe_bits (pe_op op_and (pv 0) (pe_un un_neg (pv 0)))) pe_int)) (pss_one (ps_ret (pe_tup (pa_cons (pe_op op_shr (pv 0) (pv 1)) (pa_cons (pv 1) pa_nil)))))), ?_⟩
  rintro ⟨number_, ⟨⟩⟩ F0 H0 Q KP L
  show Blk K F0 H0 KP _ [some (.im (toD number_)), none] (m_split_twos number_)
  unfold m_split_twos
  have hs_ := ((ev_op (opx_I0 (g := fun i j => i - j)) mild_ok (ev_bits (ev_op (opx_I0 (g := Builtin.bitAnd)) mild_ok (ev_var (i := 0) (x := number_) rfl) (ev_un (g := fun i => -i) (ev_var (i := 0) (x := number_) rfl)))) (ev_int (i := 1))) : EvX K (W0 E) [some (.im (toD number_)), none] _ _)
  refine blk_seq (blk_set (i := 1) L trivial hs_ fun twos_ => ?_)
  show Blk _ _ _ _ _ [some (.im (toD number_)), some (.im (toD twos_))] _
  try refine Blk.nx ?_
  have hr_ := ((ev_tup (f := (fun y => T2.mk y.1 y.2.1)) (ea_cons (ev_op (opx_I (C := (fun _ j => 0 ≤ j)) (g := fun i j => i / 2 ^ j.toNat)) mild_need (ev_var (i := 0) (x := number_) rfl) (ev_var (i := 1) (x := twos_) rfl)) (ea_cons (ev_var (i := 1) (x := twos_) rfl) ea_nil)) (fun _ => rfl) (fun _ => by show 2 ≤ 100000; decide)) : EvX K (W0 E) [some (.im (toD number_)), some (.im (toD twos_))] _ _)
  exact blk_ret L trivial hr_
noncomputable def m_u_non_square_w1 (prime_ : Int) (k1 : Int → Res Int) : Nat → Int → Res Int
  | 0, _ => Res.stuck
  | n1 + 1, number_ => (((((Res.ok number_)).bind fun a156 => (((Res.ok prime_)).bind fun a158 => (Res.ok ()).bind fun a159 => Res.ok (a158, a159)).bind fun a157 => Res.ok (a156, a157)).bind fun p155 => m_square_class p155.1 p155.2.1).bind fun (t161 : Int) => (((Res.ok (1 : Int))).bind fun (t160 : Int) => Res.ok (-t160)).bind fun (t162 : Int) => Res.ok (!decide (t161 = t162))).bind fun b => cond b   (((Res.ok (1 : Int))).bind fun (y163 : Int) => (fun (number_ : Int) => m_u_non_square_w1 prime_ k1 n1 number_) (number_ + y163))   (k1 number_)
noncomputable def m_u_non_square_k2 : Int → Res Int := fun number_ =>   (Res.ok number_)
noncomputable def m_u_non_square (prime_ : Int) : Res Int :=
  ((Res.ok (2 : Int))).bind fun (number_ : Int) =>   m_u_non_square_w1 prime_ (m_u_non_square_k2) (prime_.toNat + 1) number_
theorem ok_u_non_square {P : Program} {w : World} {K : PySem.W.Frag} {mg : Str → Option Value} {base : Heap} (T : Facts K mg) {fd : FuncData} (F : FnP K "_non_square" "_non_square" s_u_non_square (He.ga K "_non_square") fd) :
    FnOk P w K mg base (L2.CX P w) 3 (He.ga K "_non_square") fd ["prime"] (spM K (fun (p : Int × Unit) => m_u_non_square p.1)) := by
  obtain ⟨fd_square_class, F_square_class⟩ := T.d_square_class
  have G_square_class := ok_square_class (P := P) (w := w) (base := base) T F_square_class
  have b_square_class : Binds K fd_square_class ["a", "prime"] [] := F_square_class.bindsN fun _ _ _ _ _ _ us hl => match us, hl with | [_, _], _ => rfl
  refine fn_ok F sc_u_non_square (fun y => rfl) (fun cdv A outer s H E hr => ?_)
  refine ⟨_, (pss_cons (ps_set (i := 1) sc_u_non_square.nd rfl (Or.inl rfl) pe_int) (pss_cons (ps_while (passes_of rfl) (pt_cmpR op_ne (pe_callS G_square_class (hr.mono (by decide)) rfl T.g_square_class F_square_class.kp b_square_class (fun σ => passAt (takes_of rfl rfl rfl rfl) σ) (pa_cons (pv 1) (pa_cons (pv 0) pa_nil))) (pe_un un_neg pe_int) (nomark _)) (pss_one (ps_aug (i := 1) sc_u_non_square.nd rfl (Or.inl rfl) pe_int ip_add))) (pss_one (ps_ret (pv 1))))), ?_⟩
  rintro ⟨prime_, ⟨⟩⟩ F0 H0 Q KP L
  show Blk K F0 H0 KP _ [some (.im (toD prime_)), none] (m_u_non_square prime_)
  unfold m_u_non_square
  have hs_ := ((ev_int (i := 2)) : EvX K (W0 E) [some (.im (toD prime_)), none] _ _)
  refine blk_seq (blk_set (i := 1) L trivial hs_ fun number_ => ?_)
  show Blk _ _ _ _ _ [some (.im (toD prime_)), some (.im (toD number_))] _
  try refine Blk.nx ?_
  refine blk_seq (blk_while (S := Int) (m_u_non_square_w1 prime_ (m_u_non_square_k2)) (fun (s : Int) => match s with | number_ => ((((Res.ok number_)).bind fun a156 => (((Res.ok prime_)).bind fun a158 => (Res.ok ()).bind fun a159 => Res.ok (a158, a159)).bind fun a157 => Res.ok (a156, a157)).bind fun p155 => m_square_class p155.1 p155.2.1).bind fun (t161 : Int) => (((Res.ok (1 : Int))).bind fun (t160 : Int) => Res.ok (-t160)).bind fun (t162 : Int) => Res.ok (!decide (t161 = t162))) (fun n s => match s with | number_ => ((Res.ok (1 : Int))).bind fun (y163 : Int) => (fun (number_ : Int) => m_u_non_square_w1 prime_ (m_u_non_square_k2) n number_) (number_ + y163)) (m_u_non_square_k2) (fun number_ => [some (.im (toD prime_)), some (.im (toD number_))]) number_ (prime_.toNat + 1) L ?_ (.same (.same .nil)) ?_ (fun _ => rfl) (fun _ _ => rfl) ?_ ?_)
  · intro number_
    exact trivial
  · intro number_
    exact ((et_test (ev_op opx_neI mild_ok (ev_call (f := (fun (p : Int × Int × Unit) => m_square_class p.1 p.2.1)) (ea_cons (ev_var (i := 1) (x := number_) rfl) (ea_cons (ev_var (i := 0) (x := prime_) rfl) ea_nil))) (ev_un (g := fun i => -i) (ev_int (i := 1))))) : EvT K (W0 E) [some (.im (toD prime_)), some (.im (toD number_))] _ _)
  · intro n1 s_ N_ hN1
    revert s_; intro number_
    show Blk _ _ _ _ _ [some (.im (toD prime_)), some (.im (toD number_))] _
    have hs_ := ((ev_int (i := 1)) : EvX K (W0 E) [some (.im (toD prime_)), some (.im (toD number_))] _ _)
    refine blk_aug (i := 1) (x := number_) (g := fun i j => i + j) L trivial rfl hs_ fun y164 => ?_
    show Blk _ _ _ _ _ [some (.im (toD prime_)), some (.im (toD (number_ + y164)))] ((fun (number_ : Int) => _) (number_ + y164))
    generalize number_ + y164 = number_
    show Blk _ _ _ _ _ [some (.im (toD prime_)), some (.im (toD number_))] _
    try refine Blk.nx ?_
    exact (hN1 number_).weak (.same (.same .nil))
  · intro number_
    show Blk _ _ _ _ _ [some (.im (toD prime_)), some (.im (toD number_))] ((m_u_non_square_k2) number_)
    unfold m_u_non_square_k2
    try refine Blk.nx ?_
    have hr_ := ((ev_var (i := 1) (x := number_) rfl) : EvX K (W0 E) [some (.im (toD prime_)), some (.im (toD number_))] _ _)
    exact blk_ret L trivial hr_
noncomputable def m_u_root_of_square_k3 (prime_ : Int) (helper_ : Int) (g2 : Int × Int × Int → Res Int) : Int × Int → Res Int := fun (root_, rest_) =>   ((((Res.ok helper_)).bind fun (t219 : Int) => ((Res.ok helper_)).bind fun (t220 : Int) => Res.need (CMulX t219 t220) (Res.ok (t219 * t220))).bind fun (t221 : Int) => ((Res.ok prime_)).bind fun (t222 : Int) => Res.need (0 < t222) (Res.ok (t221 % t222))).bind fun (helper_ : Int) =>   g2 (root_, rest_, helper_)
noncomputable def m_u_root_of_square_l2 (prime_ : Int) (k2 : Int × Int × Int → Res Int) : List Int → Int × Int × Int → Res Int
  | [], s => k2 s
  | x207 :: r2, (root_, rest_, helper_) =>   (fun (level_ : Int) => (((((Res.ok rest_)).bind fun a211 => ((((Res.ok (1 : Int))).bind fun (t208 : Int) => ((Res.ok level_)).bind fun (t209 : Int) => Res.need (CShl t208 t209) (Res.ok (t208 * 2 ^ t209.toNat))).bind fun a213 => (((Res.ok prime_)).bind fun a215 => (Res.ok ()).bind fun a216 => Res.ok (a215, a216)).bind fun a214 => Res.ok (a213, a214)).bind fun a212 => Res.ok (a211, a212)).bind fun p210 => m_power p210.1 p210.2.1 p210.2.2.1).bind fun (t217 : Int) => ((Res.ok (1 : Int))).bind fun (t218 : Int) => Res.ok (!decide (t217 = t218))).bind fun b => cond b   (((((Res.ok root_)).bind fun (t223 : Int) => ((Res.ok helper_)).bind fun (t224 : Int) => Res.need (CMulX t223 t224) (Res.ok (t223 * t224))).bind fun (t225 : Int) => ((Res.ok prime_)).bind fun (t226 : Int) => Res.need (0 < t226) (Res.ok (t225 % t226))).bind fun (root_ : Int) =>   (((((Res.ok rest_)).bind fun (t227 : Int) => ((Res.ok helper_)).bind fun (t228 : Int) => Res.need (CMulX t227 t228) (Res.ok (t227 * t228))).bind fun (t229 : Int) => ((Res.ok helper_)).bind fun (t230 : Int) => Res.need (CMulX t229 t230) (Res.ok (t229 * t230))).bind fun (t231 : Int) => ((Res.ok prime_)).bind fun (t232 : Int) => Res.need (0 < t232) (Res.ok (t231 % t232))).bind fun (rest_ : Int) =>   (m_u_root_of_square_k3 prime_ helper_ (m_u_root_of_square_l2 prime_ k2 r2)) (root_, rest_))   ((m_u_root_of_square_k3 prime_ helper_ (m_u_root_of_square_l2 prime_ k2 r2)) (root_, rest_))) x207
noncomputable def m_u_root_of_square_k4 : Int × Int × Int → Res Int := fun (root_, rest_, helper_) =>   (Res.ok root_)
noncomputable def m_u_root_of_square (a_ : Int) (prime_ : Int) : Res Int :=
  (((((Res.ok prime_)).bind fun (t165 : Int) => ((Res.ok (1 : Int))).bind fun (t166 : Int) => Res.ok (t165 - t166)).bind fun a168 => (Res.ok ()).bind fun a169 => Res.ok (a168, a169)).bind fun p167 => m_split_twos p167.1).bind fun (u170 : (T2 Int Int)) =>   (fun (odd_ : Int) (twos_ : Int) => ((((Res.ok a_)).bind fun a176 => (((((Res.ok odd_)).bind fun (t171 : Int) => ((Res.ok (1 : Int))).bind fun (t172 : Int) => Res.ok (t171 + t172)).bind fun (t173 : Int) => ((Res.ok (2 : Int))).bind fun (t174 : Int) => Res.ok (t173 / t174)).bind fun a178 => (((Res.ok prime_)).bind fun a180 => (Res.ok ()).bind fun a181 => Res.ok (a180, a181)).bind fun a179 => Res.ok (a178, a179)).bind fun a177 => Res.ok (a176, a177)).bind fun p175 => m_power p175.1 p175.2.1 p175.2.2.1).bind fun (root_ : Int) =>   ((((Res.ok a_)).bind fun a183 => (((Res.ok odd_)).bind fun a185 => (((Res.ok prime_)).bind fun a187 => (Res.ok ()).bind fun a188 => Res.ok (a187, a188)).bind fun a186 => Res.ok (a185, a186)).bind fun a184 => Res.ok (a183, a184)).bind fun p182 => m_power p182.1 p182.2.1 p182.2.2.1).bind fun (rest_ : Int) =>   (((Res.ok twos_)).bind fun (t189 : Int) => ((Res.ok (2 : Int))).bind fun (t190 : Int) => Res.ok (decide (t189 < t190))).bind fun b => cond b   ((Res.ok root_))   (((((((Res.ok prime_)).bind fun a192 => (Res.ok ()).bind fun a193 => Res.ok (a192, a193)).bind fun p191 => m_u_non_square p191.1).bind fun a195 => (((Res.ok odd_)).bind fun a197 => (((Res.ok prime_)).bind fun a199 => (Res.ok ()).bind fun a200 => Res.ok (a199, a200)).bind fun a198 => Res.ok (a197, a198)).bind fun a196 => Res.ok (a195, a196)).bind fun p194 => m_power p194.1 p194.2.1 p194.2.2.1).bind fun (helper_ : Int) =>   ((((Res.ok twos_)).bind fun (t201 : Int) => ((Res.ok (2 : Int))).bind fun (t202 : Int) => Res.ok (t201 - t202)).bind fun (t205 : Int) => (((Res.ok (1 : Int))).bind fun (t203 : Int) => Res.ok (-t203)).bind fun (t206 : Int) => Res.need (okRange t205 ∧ okRange t206) (Res.ok (pyDown t205 t206))).bind fun (xs233 : List Int) => m_u_root_of_square_l2 prime_ (m_u_root_of_square_k4) xs233 (root_, rest_, helper_))) u170.a u170.b
theorem ok_u_root_of_square {P : Program} {w : World} {K : PySem.W.Frag} {mg : Str → Option Value} {base : Heap} (T : Facts K mg) {fd : FuncData} (F : FnP K "_root_of_square" "_root_of_square" s_u_root_of_square (He.ga K "_root_of_square") fd) :
    FnOk P w K mg base (L2.CX P w) 4 (He.ga K "_root_of_square") fd ["a", "prime"] (spM K (fun (p : Int × Int × Unit) => m_u_root_of_square p.1 p.2.1)) := by
  obtain ⟨fd_u_non_square, F_u_non_square⟩ := T.d_u_non_square
  have G_u_non_square := ok_u_non_square (P := P) (w := w) (base := base) T F_u_non_square
  have b_u_non_square : Binds K fd_u_non_square ["prime"] [] := F_u_non_square.bindsN fun _ _ _ _ _ _ us hl => match us, hl with | [_], _ => rfl
  obtain ⟨fd_power, F_power⟩ := T.d_power
  have G_power := ok_power (P := P) (w := w) (base := base) T F_power
  have b_power : Binds K fd_power ["a", "exponent", "modulus"] [] := F_power.bindsN fun _ _ _ _ _ _ us hl => match us, hl with | [_, _, _], _ => rfl
  obtain ⟨fd_split_twos, F_split_twos⟩ := T.d_split_twos
  have G_split_twos := ok_split_twos (P := P) (w := w) (base := base) T F_split_twos
  have b_split_twos : Binds K fd_split_twos ["number"] [] := F_split_twos.bindsN fun _ _ _ _ _ _ us hl => match us, hl with | [_], _ => rfl
  refine fn_ok F sc_u_root_of_square (fun y => rfl) (fun cdv A outer s H E hr => ?_)
  refine ⟨_, (pss_cons (ps_asg (pe_callS G_split_twos (hr.mono (by decide)) rfl T.g_split_twos F_split_twos.kp b_split_twos (fun σ => passAt (takes_of rfl rfl rfl rfl) σ) (pa_cons (pe_op op_sub (pv 1) pe_int) pa_nil)) (pg_tup rfl (pgs_cons (pg_name (i := 2) sc_u_root_of_square.nd rfl (Or.inl rfl)) (pgs_cons (pg_name (i := 3) sc_u_root_of_square.nd rfl (Or.inl rfl)) pgs_nil)))) (pss_cons (ps_set (i := 4) sc_u_root_of_square.nd rfl (Or.inl rfl) (pe_callS G_power (hr.mono (by decide)) rfl T.g_power F_power.kp b_power (fun σ => passAt (takes_of rfl rfl rfl rfl) σ) (pa_cons (pv 0) (pa_cons (pe_op op_fdiv (pe_op op_add (pv 2) pe_int) pe_int) (pa_cons (pv 1) pa_nil))))) (pss_cons (ps_set (i := 5) sc_u_root_of_square.nd rfl (Or.inl rfl) (pe_callS G_power (hr.mono (by decide)) rfl T.g_power F_power.kp b_power (fun σ => passAt (takes_of rfl rfl rfl rfl) σ) (pa_cons (pv 0) (pa_cons (pv 2) (pa_cons (pv 1) pa_nil))))) (pss_cons (ps_if (pt_cmpR op_lt (pv 3) pe_int (nomark _)) (pss_one (ps_ret (pv 4))) pss_nil) (pss_cons (ps_set (i := 6) sc_u_root_of_square.nd rfl (Or.inl rfl) (pe_callS G_power (hr.mono (by decide)) rfl T.g_power F_power.kp b_power (fun σ => passAt (takes_of rfl rfl rfl rfl) σ) (pa_cons (pe_callS G_u_non_square (hr.mono (by decide)) rfl T.g_u_non_square F_u_non_square.kp b_u_non_square (fun σ => passAt (takes_of rfl rfl rfl rfl) σ) (pa_cons (pv 1) pa_nil)) (pa_cons (pv 2) (pa_cons (pv 1) pa_nil))))) (pss_cons (ps_for (passes_of rfl) rfl (pi_range3 rfl T.n_range (pa_cons (pe_op op_sub (pv 3) pe_int) (pa_cons (pe_un un_neg pe_int) (pa_cons (pe_un un_neg pe_int) pa_nil)))) (pg_name (i := 7) sc_u_root_of_square.nd rfl (Or.inl rfl)) (pss_cons (ps_if (pt_cmpR op_ne (pe_callS G_power (hr.mono (by decide)) rfl T.g_power F_power.kp b_power (fun σ => passAt (takes_of rfl rfl rfl rfl) σ) (pa_cons (pv 5) (pa_cons (pe_op op_shlW pe_int (pv 7)) (pa_cons (pv 1) pa_nil)))) pe_int (nomark _)) (pss_cons (ps_set (i := 4) sc_u_root_of_square.nd rfl (Or.inl rfl) (pe_op op_mod (pe_op op_mulX (pv 4) (pv 6)) (pv 1))) (pss_one (ps_set (i := 5) sc_u_root_of_square.nd rfl (Or.inl rfl) (pe_op op_mod (pe_op op_mulX (pe_op op_mulX (pv 5) (pv 6)) (pv 6)) (pv 1))))) pss_nil) (pss_one (ps_set (i := 6) sc_u_root_of_square.nd rfl (Or.inl rfl) (pe_op op_mod (pe_op op_mulX (pv 6) (pv 6)) (pv 1)))))) (pss_one (ps_ret (pv 4))))))))), ?_⟩
  rintro ⟨a_, prime_, ⟨⟩⟩ F0 H0 Q KP L
  show Blk K F0 H0 KP _ [some (.im (toD a_)), some (.im (toD prime_)), none, none, none, none, none, none] (m_u_root_of_square a_ prime_)
  unfold m_u_root_of_square
  have hs_ := ((ev_call (f := (fun (p : Int × Unit) => m_split_twos p.1)) (ea_cons (ev_op (opx_I0 (g := fun i j => i - j)) mild_ok (ev_var (i := 1) (x := prime_) rfl) (ev_int (i := 1))) ea_nil)) : EvX K (W0 E) [some (.im (toD a_)), some (.im (toD prime_)), none, none, none, none, none, none] _ _)
  refine blk_seq (blk_asg L trivial hs_ (fun _ => (gx_tup (gxs_cons gx_name (gxs_cons gx_name gxs_nil)) rfl)) fun u170 => ?_)
  show Blk _ _ _ _ _ [some (.im (toD a_)), some (.im (toD prime_)), some (.im (toD u170.a)), some (.im (toD u170.b)), none, none, none, none] ((fun (odd_ : Int) (twos_ : Int) => _) u170.a u170.b)
  generalize u170.a = odd_
  generalize u170.b = twos_
  show Blk _ _ _ _ _ [some (.im (toD a_)), some (.im (toD prime_)), some (.im (toD odd_)), some (.im (toD twos_)), none, none, none, none] _
  try refine Blk.nx ?_
  have hs_ := ((ev_call (f := (fun (p : Int × Int × Int × Unit) => m_power p.1 p.2.1 p.2.2.1)) (ea_cons (ev_var (i := 0) (x := a_) rfl) (ea_cons (ev_opI (C := CDiv) (g := fun i j => i / j) (fun x y _ h => by cases h; exact ⟨by decide, by decide⟩) (ev_op (opx_I0 (g := fun i j => i + j)) mild_ok (ev_var (i := 2) (x := odd_) rfl) (ev_int (i := 1))) (ev_int (i := 2))) (ea_cons (ev_var (i := 1) (x := prime_) rfl) ea_nil)))) : EvX K (W0 E) [some (.im (toD a_)), some (.im (toD prime_)), some (.im (toD odd_)), some (.im (toD twos_)), none, none, none, none] _ _)
  refine blk_seq (blk_set (i := 4) L trivial hs_ fun root_ => ?_)
  show Blk _ _ _ _ _ [some (.im (toD a_)), some (.im (toD prime_)), some (.im (toD odd_)), some (.im (toD twos_)), some (.im (toD root_)), none, none, none] _
  try refine Blk.nx ?_
  have hs_ := ((ev_call (f := (fun (p : Int × Int × Int × Unit) => m_power p.1 p.2.1 p.2.2.1)) (ea_cons (ev_var (i := 0) (x := a_) rfl) (ea_cons (ev_var (i := 2) (x := odd_) rfl) (ea_cons (ev_var (i := 1) (x := prime_) rfl) ea_nil)))) : EvX K (W0 E) [some (.im (toD a_)), some (.im (toD prime_)), some (.im (toD odd_)), some (.im (toD twos_)), some (.im (toD root_)), none, none, none] _ _)
  refine blk_seq (blk_set (i := 5) L trivial hs_ fun rest_ => ?_)
  show Blk _ _ _ _ _ [some (.im (toD a_)), some (.im (toD prime_)), some (.im (toD odd_)), some (.im (toD twos_)), some (.im (toD root_)), some (.im (toD rest_)), none, none] _
  try refine Blk.nx ?_
  have ht_ := ((et_test (ev_op (opx_B0 (g := fun i j => decide (i < j))) mild_ok (ev_var (i := 3) (x := twos_) rfl) (ev_int (i := 2)))) : EvT K (W0 E) [some (.im (toD a_)), some (.im (toD prime_)), some (.im (toD odd_)), some (.im (toD twos_)), some (.im (toD root_)), some (.im (toD rest_)), none, none] _ _)
  refine blk_seq (blk_if2 L trivial ht_ ?_ ?_)
  · have hr_ := ((ev_var (i := 4) (x := root_) rfl) : EvX K (W0 E) [some (.im (toD a_)), some (.im (toD prime_)), some (.im (toD odd_)), some (.im (toD twos_)), some (.im (toD root_)), some (.im (toD rest_)), none, none] _ _)
    exact blk_ret L trivial hr_
  · refine blk_nil ?_
    try refine Blk.nx ?_
    have hs_ := ((ev_call (f := (fun (p : Int × Int × Int × Unit) => m_power p.1 p.2.1 p.2.2.1)) (ea_cons (ev_call (f := (fun (p : Int × Unit) => m_u_non_square p.1)) (ea_cons (ev_var (i := 1) (x := prime_) rfl) ea_nil)) (ea_cons (ev_var (i := 2) (x := odd_) rfl) (ea_cons (ev_var (i := 1) (x := prime_) rfl) ea_nil)))) : EvX K (W0 E) [some (.im (toD a_)), some (.im (toD prime_)), some (.im (toD odd_)), some (.im (toD twos_)), some (.im (toD root_)), some (.im (toD rest_)), none, none] _ _)
    refine blk_seq (blk_set (i := 6) L trivial hs_ fun helper_ => ?_)
    show Blk _ _ _ _ _ [some (.im (toD a_)), some (.im (toD prime_)), some (.im (toD odd_)), some (.im (toD twos_)), some (.im (toD root_)), some (.im (toD rest_)), some (.im (toD helper_)), none] _
    try refine Blk.nx ?_
    have hi_ := ((ei_down (ev_op (opx_I0 (g := fun i j => i - j)) mild_ok (ev_var (i := 3) (x := twos_) rfl) (ev_int (i := 2))) (ev_un (g := fun i => -i) (ev_int (i := 1))) (ev_un (g := fun i => -i) (ev_int (i := 1)))) : EvI K (W0 E) [some (.im (toD a_)), some (.im (toD prime_)), some (.im (toD odd_)), some (.im (toD twos_)), some (.im (toD root_)), some (.im (toD rest_)), some (.im (toD helper_)), none] _ _)
    refine blk_seq (blk_for (S := Int × Int × Int) (m_u_root_of_square_l2 prime_ (m_u_root_of_square_k4)) (m_u_root_of_square_k4) (fun (root_, rest_, helper_) => [some (.im (toD a_)), some (.im (toD prime_)), some (.im (toD odd_)), some (.im (toD twos_)), some (.im (toD root_)), some (.im (toD rest_)), some (.im (toD helper_)), none]) (root_, rest_, helper_) L trivial hi_ (fun _ => gx_name) (.same (.same (.same (.same (.same (.same (.same (.same .nil)))))))) (fun _ => rfl) ?_ ?_)
    · intro F2 L2 hB2 x207 r2 s_ N_ hN2
      obtain ⟨root_, rest_, helper_⟩ := s_
      show Blk _ _ _ _ _ [some (.im (toD a_)), some (.im (toD prime_)), some (.im (toD odd_)), some (.im (toD twos_)), some (.im (toD root_)), some (.im (toD rest_)), some (.im (toD helper_)), some (.im (toD x207))] (m_u_root_of_square_l2 prime_ (m_u_root_of_square_k4) (x207 :: r2) (root_, rest_, helper_))
      rw [m_u_root_of_square_l2]
      show Blk _ _ _ _ _ _ ((fun (level_ : Int) => _) x207)
      generalize x207 = level_
      show Blk _ _ _ _ _ [some (.im (toD a_)), some (.im (toD prime_)), some (.im (toD odd_)), some (.im (toD twos_)), some (.im (toD root_)), some (.im (toD rest_)), some (.im (toD helper_)), some (.im (toD level_))] _
      have ht_ := ((et_test (ev_op opx_neI mild_ok (ev_call (f := (fun (p : Int × Int × Int × Unit) => m_power p.1 p.2.1 p.2.2.1)) (ea_cons (ev_var (i := 5) (x := rest_) rfl) (ea_cons (ev_op (opx_I (C := CShl) (g := fun i j => i * 2 ^ j.toNat)) mild_need (ev_int (i := 1)) (ev_var (i := 7) (x := level_) rfl)) (ea_cons (ev_var (i := 1) (x := prime_) rfl) ea_nil)))) (ev_int (i := 1)))) : EvT K (W0 E) [some (.im (toD a_)), some (.im (toD prime_)), some (.im (toD odd_)), some (.im (toD twos_)), some (.im (toD root_)), some (.im (toD rest_)), some (.im (toD helper_)), some (.im (toD level_))] _ _)
      refine blk_seq (blk_ifj (S := Int × Int) (fun (root_, rest_) => [some (.im (toD a_)), some (.im (toD prime_)), some (.im (toD odd_)), some (.im (toD twos_)), some (.im (toD root_)), some (.im (toD rest_)), some (.im (toD helper_)), some (.im (toD level_))]) (m_u_root_of_square_k3 prime_ helper_ (m_u_root_of_square_l2 prime_ (m_u_root_of_square_k4) r2)) L2 trivial ht_ ?_ ?_ ?_)
      · rintro ⟨root_, rest_⟩
        show Blk _ _ _ _ _ [some (.im (toD a_)), some (.im (toD prime_)), some (.im (toD odd_)), some (.im (toD twos_)), some (.im (toD root_)), some (.im (toD rest_)), some (.im (toD helper_)), some (.im (toD level_))] ((m_u_root_of_square_k3 prime_ helper_ (m_u_root_of_square_l2 prime_ (m_u_root_of_square_k4) r2)) (root_, rest_))
        unfold m_u_root_of_square_k3
        try refine Blk.nx ?_
        have hs_ := ((ev_op (opx_I (C := (fun _ j => 0 < j)) (g := fun i j => i % j)) mild_need (ev_op (opx_I (C := CMulX) (g := fun i j => i * j)) mild_need (ev_var (i := 6) (x := helper_) rfl) (ev_var (i := 6) (x := helper_) rfl)) (ev_var (i := 1) (x := prime_) rfl)) : EvX K (W0 E) [some (.im (toD a_)), some (.im (toD prime_)), some (.im (toD odd_)), some (.im (toD twos_)), some (.im (toD root_)), some (.im (toD rest_)), some (.im (toD helper_)), some (.im (toD level_))] _ _)
        refine blk_set (i := 6) L2 trivial hs_ fun helper_ => ?_
        show Blk _ _ _ _ _ [some (.im (toD a_)), some (.im (toD prime_)), some (.im (toD odd_)), some (.im (toD twos_)), some (.im (toD root_)), some (.im (toD rest_)), some (.im (toD helper_)), some (.im (toD level_))] _
        try refine Blk.nx ?_
        exact (hN2 (root_, rest_, helper_)).weak (.same (.same (.same (.same (.same (.same (.same (.drop .nil))))))))
      · intro hk3
        have hs_ := ((ev_op (opx_I (C := (fun _ j => 0 < j)) (g := fun i j => i % j)) mild_need (ev_op (opx_I (C := CMulX) (g := fun i j => i * j)) mild_need (ev_var (i := 4) (x := root_) rfl) (ev_var (i := 6) (x := helper_) rfl)) (ev_var (i := 1) (x := prime_) rfl)) : EvX K (W0 E) [some (.im (toD a_)), some (.im (toD prime_)), some (.im (toD odd_)), some (.im (toD twos_)), some (.im (toD root_)), some (.im (toD rest_)), some (.im (toD helper_)), some (.im (toD level_))] _ _)
        refine blk_seq (blk_set (i := 4) L2 trivial hs_ fun root_ => ?_)
        show Blk _ _ _ _ _ [some (.im (toD a_)), some (.im (toD prime_)), some (.im (toD odd_)), some (.im (toD twos_)), some (.im (toD root_)), some (.im (toD rest_)), some (.im (toD helper_)), some (.im (toD level_))] _
        try refine Blk.nx ?_
        have hs_ := ((ev_op (opx_I (C := (fun _ j => 0 < j)) (g := fun i j => i % j)) mild_need (ev_op (opx_I (C := CMulX) (g := fun i j => i * j)) mild_need (ev_op (opx_I (C := CMulX) (g := fun i j => i * j)) mild_need (ev_var (i := 5) (x := rest_) rfl) (ev_var (i := 6) (x := helper_) rfl)) (ev_var (i := 6) (x := helper_) rfl)) (ev_var (i := 1) (x := prime_) rfl)) : EvX K (W0 E) [some (.im (toD a_)), some (.im (toD prime_)), some (.im (toD odd_)), some (.im (toD twos_)), some (.im (toD root_)), some (.im (toD rest_)), some (.im (toD helper_)), some (.im (toD level_))] _ _)
        refine blk_set (i := 5) L2 trivial hs_ fun rest_ => ?_
        show Blk _ _ _ _ _ [some (.im (toD a_)), some (.im (toD prime_)), some (.im (toD odd_)), some (.im (toD twos_)), some (.im (toD root_)), some (.im (toD rest_)), some (.im (toD helper_)), some (.im (toD level_))] _
        try refine Blk.nx ?_
        exact (hk3 (root_, rest_)).weak (.same (.same (.same (.same (.same (.same (.same (.same .nil))))))))
      · intro hk3
        refine blk_nil ?_
        try refine Blk.nx ?_
        exact (hk3 (root_, rest_)).weak (.same (.same (.same (.same (.same (.same (.same (.same .nil))))))))
    · rintro ⟨root_, rest_, helper_⟩
      show Blk _ _ _ _ _ [some (.im (toD a_)), some (.im (toD prime_)), some (.im (toD odd_)), some (.im (toD twos_)), some (.im (toD root_)), some (.im (toD rest_)), some (.im (toD helper_)), none] ((m_u_root_of_square_k4) (root_, rest_, helper_))
      unfold m_u_root_of_square_k4
      try refine Blk.nx ?_
      have hr_ := ((ev_var (i := 4) (x := root_) rfl) : EvX K (W0 E) [some (.im (toD a_)), some (.im (toD prime_)), some (.im (toD odd_)), some (.im (toD twos_)), some (.im (toD root_)), some (.im (toD rest_)), some (.im (toD helper_)), none] _ _)
      exact blk_ret L trivial hr_
noncomputable def m_square_root (a_ : Int) (prime_ : Int) : Res (Option Int) :=
  ((((Res.ok a_)).bind fun a235 => (((Res.ok prime_)).bind fun a237 => (Res.ok ()).bind fun a238 => Res.ok (a237, a238)).bind fun a236 => Res.ok (a235, a236)).bind fun p234 => m_square_class p234.1 p234.2.1).bind fun (kind_ : Int) =>   (((Res.ok kind_)).bind fun (t240 : Int) => (((Res.ok (1 : Int))).bind fun (t239 : Int) => Res.ok (-t239)).bind fun (t241 : Int) => Res.ok (decide (t240 = t241))).bind fun b => cond b   ((Res.ok (none : (Option Int))))   ((((Res.ok kind_)).bind fun (t242 : Int) => ((Res.ok (0 : Int))).bind fun (t243 : Int) => Res.ok (decide (t242 = t243))).bind fun b => cond b   (((Res.ok (0 : Int))).bind fun (x : Int) => Res.ok (some x))   (((((Res.ok a_)).bind fun a245 => (((Res.ok prime_)).bind fun a247 => (Res.ok ()).bind fun a248 => Res.ok (a247, a248)).bind fun a246 => Res.ok (a245, a246)).bind fun p244 => m_u_root_of_square p244.1 p244.2.1).bind fun (root_ : Int) =>   ((((Res.ok root_)).bind fun a252 => ((((Res.ok prime_)).bind fun (t249 : Int) => ((Res.ok root_)).bind fun (t250 : Int) => Res.ok (t249 - t250)).bind fun a254 => (Res.ok ()).bind fun a255 => Res.ok (a254, a255)).bind fun a253 => Res.ok (a252, a253)).bind fun p251 => Res.ok (min p251.1 p251.2.1)).bind fun (x : Int) => Res.ok (some x)))
theorem ok_square_root {P : Program} {w : World} {K : PySem.W.Frag} {mg : Str → Option Value} {base : Heap} (T : Facts K mg) {fd : FuncData} (F : FnP K "square_root" "square_root" s_square_root (He.ga K "square_root") fd) :
    FnOk P w K mg base (L2.CX P w) 5 (He.ga K "square_root") fd ["a", "prime"] (spM K (fun (p : Int × Int × Unit) => m_square_root p.1 p.2.1)) := by
  obtain ⟨fd_u_root_of_square, F_u_root_of_square⟩ := T.d_u_root_of_square
  have G_u_root_of_square := ok_u_root_of_square (P := P) (w := w) (base := base) T F_u_root_of_square
  have b_u_root_of_square : Binds K fd_u_root_of_square ["a", "prime"] [] := F_u_root_of_square.bindsN fun _ _ _ _ _ _ us hl => match us, hl with | [_, _], _ => rfl
  obtain ⟨fd_square_class, F_square_class⟩ := T.d_square_class
  have G_square_class := ok_square_class (P := P) (w := w) (base := base) T F_square_class
  have b_square_class : Binds K fd_square_class ["a", "prime"] [] := F_square_class.bindsN fun _ _ _ _ _ _ us hl => match us, hl with | [_, _], _ => rfl
  refine fn_ok F sc_square_root (fun y => rfl) (fun cdv A outer s H E hr => ?_)
  refine ⟨_, (pss_cons (ps_set (i := 2) sc_square_root.nd rfl (Or.inl rfl) (pe_callS G_square_class (hr.mono (by decide)) rfl T.g_square_class F_square_class.kp b_square_class (fun σ => passAt (takes_of rfl rfl rfl rfl) σ) (pa_cons (pv 0) (pa_cons (pv 1) pa_nil)))) (pss_cons (ps_if (pt_cmpR op_eq (pv 2) (pe_un un_neg pe_int) (nomark _)) (pss_one (ps_ret pe_non)) pss_nil) (pss_cons (ps_if (pt_cmpR op_eq (pv 2) pe_int (nomark _)) (pss_one (ps_ret pe_int)) pss_nil) (pss_cons (ps_set (i := 3) sc_square_root.nd rfl (Or.inl rfl) (pe_callS G_u_root_of_square (hr.mono (by decide)) rfl T.g_u_root_of_square F_u_root_of_square.kp b_u_root_of_square (fun σ => passAt (takes_of rfl rfl rfl rfl) σ) (pa_cons (pv 0) (pa_cons (pv 1) pa_nil)))) (pss_one (ps_ret (pe_callB (call_min2 rfl) (by rfl) T.n_min (by decide +kernel) (pa_cons (pv 3) (pa_cons (pe_op op_sub (pv 1) (pv 3)) pa_nil))))))))), ?_⟩
  rintro ⟨a_, prime_, ⟨⟩⟩ F0 H0 Q KP L
  show Blk K F0 H0 KP _ [some (.im (toD a_)), some (.im (toD prime_)), none, none] (m_square_root a_ prime_)
  unfold m_square_root
  have hs_ := ((ev_call (f := (fun (p : Int × Int × Unit) => m_square_class p.1 p.2.1)) (ea_cons (ev_var (i := 0) (x := a_) rfl) (ea_cons (ev_var (i := 1) (x := prime_) rfl) ea_nil))) : EvX K (W0 E) [some (.im (toD a_)), some (.im (toD prime_)), none, none] _ _)
  refine blk_seq (blk_set (i := 2) L trivial hs_ fun kind_ => ?_)
  show Blk _ _ _ _ _ [some (.im (toD a_)), some (.im (toD prime_)), some (.im (toD kind_)), none] _
  try refine Blk.nx ?_
  have ht_ := ((et_test (ev_op opx_eqI mild_ok (ev_var (i := 2) (x := kind_) rfl) (ev_un (g := fun i => -i) (ev_int (i := 1))))) : EvT K (W0 E) [some (.im (toD a_)), some (.im (toD prime_)), some (.im (toD kind_)), none] _ _)
  refine blk_seq (blk_if2 L trivial ht_ ?_ ?_)
  · have hr_ := ((ev_noneO (α := Int)) : EvX K (W0 E) [some (.im (toD a_)), some (.im (toD prime_)), some (.im (toD kind_)), none] _ _)
    exact blk_ret L trivial hr_
  · refine blk_nil ?_
    try refine Blk.nx ?_
    have ht_ := ((et_test (ev_op opx_eqI mild_ok (ev_var (i := 2) (x := kind_) rfl) (ev_int (i := 0)))) : EvT K (W0 E) [some (.im (toD a_)), some (.im (toD prime_)), some (.im (toD kind_)), none] _ _)
    refine blk_seq (blk_if2 L trivial ht_ ?_ ?_)
    · have hr_ := ((ev_as (ev_int (i := 0)) some (fun _ => rfl) rfl) : EvX K (W0 E) [some (.im (toD a_)), some (.im (toD prime_)), some (.im (toD kind_)), none] _ _)
      exact blk_ret L trivial hr_
    · refine blk_nil ?_
      try refine Blk.nx ?_
      have hs_ := ((ev_call (f := (fun (p : Int × Int × Unit) => m_u_root_of_square p.1 p.2.1)) (ea_cons (ev_var (i := 0) (x := a_) rfl) (ea_cons (ev_var (i := 1) (x := prime_) rfl) ea_nil))) : EvX K (W0 E) [some (.im (toD a_)), some (.im (toD prime_)), some (.im (toD kind_)), none] _ _)
      refine blk_seq (blk_set (i := 3) L trivial hs_ fun root_ => ?_)
      show Blk _ _ _ _ _ [some (.im (toD a_)), some (.im (toD prime_)), some (.im (toD kind_)), some (.im (toD root_))] _
      try refine Blk.nx ?_
      have hr_ := ((ev_as (ev_cb cx_min (fun _ _ h => nomatch h) (ea_cons (ev_var (i := 3) (x := root_) rfl) (ea_cons (ev_op (opx_I0 (g := fun i j => i - j)) mild_ok (ev_var (i := 1) (x := prime_) rfl) (ev_var (i := 3) (x := root_) rfl)) ea_nil))) some (fun _ => rfl) rfl) : EvX K (W0 E) [some (.im (toD a_)), some (.im (toD prime_)), some (.im (toD kind_)), some (.im (toD root_))] _ _)
      exact blk_ret L trivial hr_
noncomputable def m_root_with_parity (a_ : Int) (prime_ : Int) (odd_ : Bool) : Res (Option Int) :=
  ((((Res.ok a_)).bind fun a257 => (((Res.ok prime_)).bind fun a259 => (Res.ok ()).bind fun a260 => Res.ok (a259, a260)).bind fun a258 => Res.ok (a257, a258)).bind fun p256 => m_square_root p256.1 p256.2.1).bind fun (root_ : (Option Int)) =>   ((((Res.ok root_)).bind fun (t261 : (Option Int)) => ((Res.ok ())).bind fun (t262 : Unit) => Res.ok (toD t261).isNon).bind fun b270 => cond b270 (Res.ok true) ((((((Res.ok root_)).bind fun (x : (Option Int)) => Res.ok (toD x)).bind D.asInt).bind fun (t263 : Int) => ((Res.ok (2 : Int))).bind fun (t264 : Int) => Res.ok (t263 % t264)).bind fun (t268 : Int) => ((((Res.ok odd_)).bind fun a266 => (Res.ok ()).bind fun a267 => Res.ok (a266, a267)).bind fun p265 => Res.ok (if p265.1 = true then (1 : Int) else 0)).bind fun (t269 : Int) => Res.ok (decide (t268 = t269)))).bind fun b => cond b   ((Res.ok root_))   ((((Res.ok root_)).bind fun (t271 : (Option Int)) => ((Res.ok (0 : Int))).bind fun (t272 : Int) => Res.need ((toD t271).okq = true ∧ (toD t272).okq = true) (Res.ok (!pyEq (toD t271) (toD t272)))).bind fun b275 => cond b275 ((((Res.ok prime_)).bind fun (t273 : Int) => ((((Res.ok root_)).bind fun (x : (Option Int)) => Res.ok (toD x)).bind D.asInt).bind fun (t274 : Int) => Res.ok (t273 - t274)).bind fun (x : Int) => Res.ok (some x)) ((Res.ok (none : (Option Int)))))
theorem ok_root_with_parity {P : Program} {w : World} {K : PySem.W.Frag} {mg : Str → Option Value} {base : Heap} (T : Facts K mg) {fd : FuncData} (F : FnP K "root_with_parity" "root_with_parity" s_root_with_parity (He.ga K "root_with_parity") fd) :
    FnOk P w K mg base (L2.CX P w) 6 (He.ga K "root_with_parity") fd ["a", "prime", "odd"] (spM K (fun (p : Int × Int × Bool × Unit) => m_root_with_parity p.1 p.2.1 p.2.2.1)) := by
  obtain ⟨fd_square_root, F_square_root⟩ := T.d_square_root
  have G_square_root := ok_square_root (P := P) (w := w) (base := base) T F_square_root
  have b_square_root : Binds K fd_square_root ["a", "prime"] [] := F_square_root.bindsN fun _ _ _ _ _ _ us hl => match us, hl with | [_, _], _ => rfl
  refine fn_ok F sc_root_with_parity (fun y => rfl) (fun cdv A outer s H E hr => ?_)
  refine ⟨_, (pss_cons (ps_set (i := 3) sc_root_with_parity.nd rfl (Or.inl rfl) (pe_callS G_square_root (hr.mono (by decide)) rfl T.g_square_root F_square_root.kp b_square_root (fun σ => passAt (takes_of rfl rfl rfl rfl) σ) (pa_cons (pv 0) (pa_cons (pv 1) pa_nil)))) (pss_cons (ps_if (PW.pt (pw_or (pt_cmpR op_isN (pv 3) pe_non (nomark _)) (pw_or1 (pt_cmpR op_eq (pe_op op_mod (pv 3) pe_int) (pe_callTy call_int1 (by rfl) T.n_int (by decide +kernel) (pa_cons (pv 2) pa_nil)) (nomark _))))) (pss_one (ps_ret (pv 3))) pss_nil) (pss_one (ps_ret (pe_ifExp (pt_cmpR (op_neD (Room.units hr)) (pv 3) pe_int (nomark _)) (pe_op op_sub (pv 1) (pv 3)) pe_non))))), ?_⟩
  rintro ⟨a_, prime_, odd_, ⟨⟩⟩ F0 H0 Q KP L
  show Blk K F0 H0 KP _ [some (.im (toD a_)), some (.im (toD prime_)), some (.im (toD odd_)), none] (m_root_with_parity a_ prime_ odd_)
  unfold m_root_with_parity
  have hs_ := ((ev_call (f := (fun (p : Int × Int × Unit) => m_square_root p.1 p.2.1)) (ea_cons (ev_var (i := 0) (x := a_) rfl) (ea_cons (ev_var (i := 1) (x := prime_) rfl) ea_nil))) : EvX K (W0 E) [some (.im (toD a_)), some (.im (toD prime_)), some (.im (toD odd_)), none] _ _)
  refine blk_seq (blk_set (i := 3) L trivial hs_ fun root_ => ?_)
  show Blk _ _ _ _ _ [some (.im (toD a_)), some (.im (toD prime_)), some (.im (toD odd_)), some (.im (toD root_))] _
  try refine Blk.nx ?_
  have ht_ := ((et_or (et_test (ev_op opx_isN mild_ok (ev_var (i := 3) (x := root_) rfl) ev_non)) (et_test (ev_op opx_eqI mild_ok (ev_opI (C := (fun _ j => 0 < j)) (g := fun i j => i % j) (fun x y _ h => by cases h; (show (0 : Int) < _; decide)) (ev_cast (f := D.asInt) asInt_ok asInt_x (ev_as (ev_var (i := 3) (x := root_) rfl) toD (fun _ => rfl) rfl)) (ev_int (i := 2))) (ev_cb cx_intB (fun _ _ h => nomatch h) (ea_cons (ev_var (i := 2) (x := odd_) rfl) ea_nil))))) : EvT K (W0 E) [some (.im (toD a_)), some (.im (toD prime_)), some (.im (toD odd_)), some (.im (toD root_))] _ _)
  refine blk_seq (blk_if2 L trivial ht_ ?_ ?_)
  · have hr_ := ((ev_var (i := 3) (x := root_) rfl) : EvX K (W0 E) [some (.im (toD a_)), some (.im (toD prime_)), some (.im (toD odd_)), some (.im (toD root_))] _ _)
    exact blk_ret L trivial hr_
  · refine blk_nil ?_
    try refine Blk.nx ?_
    have hr_ := ((ev_if (et_test (ev_op opx_neD mild_need (ev_var (i := 3) (x := root_) rfl) (ev_int (i := 0)))) (ev_as (ev_op (opx_I0 (g := fun i j => i - j)) mild_ok (ev_var (i := 1) (x := prime_) rfl) (ev_cast (f := D.asInt) asInt_ok asInt_x (ev_as (ev_var (i := 3) (x := root_) rfl) toD (fun _ => rfl) rfl))) some (fun _ => rfl) rfl) (ev_noneO (α := Int))) : EvX K (W0 E) [some (.im (toD a_)), some (.im (toD prime_)), some (.im (toD odd_)), some (.im (toD root_))] _ _)
    exact blk_ret L trivial hr_
noncomputable def m_to_extended (curve_ : O_EdwardsCurve) (point_ : (T2 Int Int)) : Res (T4 Int Int Int Int) :=
  ((Res.ok point_)).bind fun (u276 : (T2 Int Int)) =>   (fun (x_ : Int) (y_ : Int) => (((Res.ok x_)).bind fun a283 => (((Res.ok y_)).bind fun a285 => (((Res.ok (1 : Int))).bind fun a287 => (((((Res.ok x_)).bind fun (t277 : Int) => ((Res.ok y_)).bind fun (t278 : Int) => Res.need (CMulX t277 t278) (Res.ok (t277 * t278))).bind fun (t280 : Int) => (((Res.ok curve_)).bind fun (t279 : O_EdwardsCurve) => Res.ok t279.f_prime).bind fun (t281 : Int) => Res.need (0 < t281) (Res.ok (t280 % t281))).bind fun a289 => (Res.ok ()).bind fun a290 => Res.ok (a289, a290)).bind fun a288 => Res.ok (a287, a288)).bind fun a286 => Res.ok (a285, a286)).bind fun a284 => Res.ok (a283, a284)).bind fun p282 => Res.ok (T4.mk p282.1 p282.2.1 p282.2.2.1 p282.2.2.2.1)) u276.a u276.b
theorem ok_to_extended {P : Program} {w : World} {K : PySem.W.Frag} {mg : Str → Option Value} {base : Heap} (T : Facts K mg) {fd : FuncData} (F : FnP K "to_extended" "to_extended" s_to_extended (He.ga K "to_extended") fd) :
    FnOk P w K mg base (L2.CX P w) 1 (He.ga K "to_extended") fd ["curve", "point"] (spM K (fun (p : O_EdwardsCurve × (T2 Int Int) × Unit) => m_to_extended p.1 p.2.1)) := by
  refine fn_ok F sc_to_extended (fun y => rfl) (fun cdv A outer s H E hr => ?_)
  refine ⟨_, (pss_cons (ps_asg (pv 1) (pg_tup rfl (pgs_cons (pg_name (i := 2) sc_to_extended.nd rfl (Or.inl rfl)) (pgs_cons (pg_name (i := 3) sc_to_extended.nd rfl (Or.inl rfl)) pgs_nil)))) (pss_one (ps_ret (pe_tup (pa_cons (pv 2) (pa_cons (pv 3) (pa_cons pe_int (pa_cons (pe_op op_mod (pe_op op_mulX (pv 2) (pv 3)) (pe_fld (pv 0) rfl)) pa_nil)))))))), ?_⟩
  rintro ⟨curve_, point_, ⟨⟩⟩ F0 H0 Q KP L
  show Blk K F0 H0 KP _ [some (.im (toD curve_)), some (.im (toD point_)), none, none] (m_to_extended curve_ point_)
  unfold m_to_extended
  have hs_ := ((ev_var (i := 1) (x := point_) rfl) : EvX K (W0 E) [some (.im (toD curve_)), some (.im (toD point_)), none, none] _ _)
  refine blk_seq (blk_asg L trivial hs_ (fun _ => (gx_tup (gxs_cons gx_name (gxs_cons gx_name gxs_nil)) rfl)) fun u276 => ?_)
  show Blk _ _ _ _ _ [some (.im (toD curve_)), some (.im (toD point_)), some (.im (toD u276.a)), some (.im (toD u276.b))] ((fun (x_ : Int) (y_ : Int) => _) u276.a u276.b)
  generalize u276.a = x_
  generalize u276.b = y_
  show Blk _ _ _ _ _ [some (.im (toD curve_)), some (.im (toD point_)), some (.im (toD x_)), some (.im (toD y_))] _
  try refine Blk.nx ?_
  have hr_ := ((ev_tup (f := (fun y => T4.mk y.1 y.2.1 y.2.2.1 y.2.2.2.1)) (ea_cons (ev_var (i := 2) (x := x_) rfl) (ea_cons (ev_var (i := 3) (x := y_) rfl) (ea_cons (ev_int (i := 1)) (ea_cons (ev_op (opx_I (C := (fun _ j => 0 < j)) (g := fun i j => i % j)) mild_need (ev_op (opx_I (C := CMulX) (g := fun i j => i * j)) mild_need (ev_var (i := 2) (x := x_) rfl) (ev_var (i := 3) (x := y_) rfl)) (ev_fld (g := fun (x : O_EdwardsCurve) => x.f_prime) (c := "EdwardsCurve") (ks := ["prime", "a", "d"]) (j := 0) (ev_var (i := 0) (x := curve_) rfl) T.cl_EdwardsCurve T.nf_EdwardsCurve_prime (by decide +kernel) (fun _ => ⟨_, rfl, rfl⟩))) ea_nil)))) (fun _ => rfl) (fun _ => by show 4 ≤ 100000; decide)) : EvX K (W0 E) [some (.im (toD curve_)), some (.im (toD point_)), some (.im (toD x_)), some (.im (toD y_))] _ _)
  exact blk_ret L trivial hr_
noncomputable def m_from_extended (curve_ : O_EdwardsCurve) (four_ : (T4 Int Int Int Int)) : Res (T2 Int Int) :=
  (((((Res.ok four_)).bind fun (t291 : (T4 Int Int Int Int)) => Res.ok t291.c).bind fun a294 => ((((Res.ok curve_)).bind fun (t292 : O_EdwardsCurve) => Res.ok t292.f_prime).bind fun a296 => (Res.ok ()).bind fun a297 => Res.ok (a296, a297)).bind fun a295 => Res.ok (a294, a295)).bind fun p293 => m_inverse p293.1 p293.2.1).bind fun (scale_ : Int) =>   ((((((Res.ok four_)).bind fun (t298 : (T4 Int Int Int Int)) => Res.ok t298.a).bind fun (t299 : Int) => ((Res.ok scale_)).bind fun (t300 : Int) => Res.need (CMulX t299 t300) (Res.ok (t299 * t300))).bind fun (t302 : Int) => (((Res.ok curve_)).bind fun (t301 : O_EdwardsCurve) => Res.ok t301.f_prime).bind fun (t303 : Int) => Res.need (0 < t303) (Res.ok (t302 % t303))).bind fun a311 => ((((((Res.ok four_)).bind fun (t304 : (T4 Int Int Int Int)) => Res.ok t304.b).bind fun (t305 : Int) => ((Res.ok scale_)).bind fun (t306 : Int) => Res.need (CMulX t305 t306) (Res.ok (t305 * t306))).bind fun (t308 : Int) => (((Res.ok curve_)).bind fun (t307 : O_EdwardsCurve) => Res.ok t307.f_prime).bind fun (t309 : Int) => Res.need (0 < t309) (Res.ok (t308 % t309))).bind fun a313 => (Res.ok ()).bind fun a314 => Res.ok (a313, a314)).bind fun a312 => Res.ok (a311, a312)).bind fun p310 => Res.ok (T2.mk p310.1 p310.2.1)
theorem ok_from_extended {P : Program} {w : World} {K : PySem.W.Frag} {mg : Str → Option Value} {base : Heap} (T : Facts K mg) {fd : FuncData} (F : FnP K "from_extended" "from_extended" s_from_extended (He.ga K "from_extended") fd) :
    FnOk P w K mg base (L2.CX P w) 3 (He.ga K "from_extended") fd ["curve", "four"] (spM K (fun (p : O_EdwardsCurve × (T4 Int Int Int Int) × Unit) => m_from_extended p.1 p.2.1)) := by
  obtain ⟨fd_inverse, F_inverse⟩ := T.d_inverse
  have G_inverse := ok_inverse (P := P) (w := w) (base := base) T F_inverse
  have b_inverse : Binds K fd_inverse ["a", "modulus"] [] := F_inverse.bindsN fun _ _ _ _ _ _ us hl => match us, hl with | [_, _], _ => rfl
  refine fn_ok F sc_from_extended (fun y => rfl) (fun cdv A outer s H E hr => ?_)
  refine ⟨_, (pss_cons (ps_set (i := 2) sc_from_extended.nd rfl (Or.inl rfl) (pe_callS G_inverse (hr.mono (by decide)) rfl T.g_inverse F_inverse.kp b_inverse (fun σ => passAt (takes_of rfl rfl rfl rfl) σ) (pa_cons (pe_ix (cr_ixT rfl) (pv 1) pe_int (fun _ _ => rfl)) (pa_cons (pe_fld (pv 0) rfl) pa_nil)))) (pss_one (ps_ret (pe_tup (pa_cons (pe_op op_mod (pe_op op_mulX (pe_ix (cr_ixT rfl) (pv 1) pe_int (fun _ _ => rfl)) (pv 2)) (pe_fld (pv 0) rfl)) (pa_cons (pe_op op_mod (pe_op op_mulX (pe_ix (cr_ixT rfl) (pv 1) pe_int (fun _ _ => rfl)) (pv 2)) (pe_fld (pv 0) rfl)) pa_nil)))))), ?_⟩
  rintro ⟨curve_, four_, ⟨⟩⟩ F0 H0 Q KP L
  show Blk K F0 H0 KP _ [some (.im (toD curve_)), some (.im (toD four_)), none] (m_from_extended curve_ four_)
  unfold m_from_extended
  have hs_ := ((ev_call (f := (fun (p : Int × Int × Unit) => m_inverse p.1 p.2.1)) (ea_cons (ev_ixTC (i := 2) (f := fun x => x.c) (ev_var (i := 1) (x := four_) rfl) (fun x => ⟨_, rfl, rfl⟩)) (ea_cons (ev_fld (g := fun (x : O_EdwardsCurve) => x.f_prime) (c := "EdwardsCurve") (ks := ["prime", "a", "d"]) (j := 0) (ev_var (i := 0) (x := curve_) rfl) T.cl_EdwardsCurve T.nf_EdwardsCurve_prime (by decide +kernel) (fun _ => ⟨_, rfl, rfl⟩)) ea_nil))) : EvX K (W0 E) [some (.im (toD curve_)), some (.im (toD four_)), none] _ _)
  refine blk_seq (blk_set (i := 2) L trivial hs_ fun scale_ => ?_)
  show Blk _ _ _ _ _ [some (.im (toD curve_)), some (.im (toD four_)), some (.im (toD scale_))] _
  try refine Blk.nx ?_
  have hr_ := ((ev_tup (f := (fun y => T2.mk y.1 y.2.1)) (ea_cons (ev_op (opx_I (C := (fun _ j => 0 < j)) (g := fun i j => i % j)) mild_need (ev_op (opx_I (C := CMulX) (g := fun i j => i * j)) mild_need (ev_ixTC (i := 0) (f := fun x => x.a) (ev_var (i := 1) (x := four_) rfl) (fun x => ⟨_, rfl, rfl⟩)) (ev_var (i := 2) (x := scale_) rfl)) (ev_fld (g := fun (x : O_EdwardsCurve) => x.f_prime) (c := "EdwardsCurve") (ks := ["prime", "a", "d"]) (j := 0) (ev_var (i := 0) (x := curve_) rfl) T.cl_EdwardsCurve T.nf_EdwardsCurve_prime (by decide +kernel) (fun _ => ⟨_, rfl, rfl⟩))) (ea_cons (ev_op (opx_I (C := (fun _ j => 0 < j)) (g := fun i j => i % j)) mild_need (ev_op (opx_I (C := CMulX) (g := fun i j => i * j)) mild_need (ev_ixTC (i := 1) (f := fun x => x.b) (ev_var (i := 1) (x := four_) rfl) (fun x => ⟨_, rfl, rfl⟩)) (ev_var (i := 2) (x := scale_) rfl)) (ev_fld (g := fun (x : O_EdwardsCurve) => x.f_prime) (c := "EdwardsCurve") (ks := ["prime", "a", "d"]) (j := 0) (ev_var (i := 0) (x := curve_) rfl) T.cl_EdwardsCurve T.nf_EdwardsCurve_prime (by decide +kernel) (fun _ => ⟨_, rfl, rfl⟩))) ea_nil)) (fun _ => rfl) (fun _ => by show 2 ≤ 100000; decide)) : EvX K (W0 E) [some (.im (toD curve_)), some (.im (toD four_)), some (.im (toD scale_))] _ _)
  exact blk_ret L trivial hr_
noncomputable def m_add_extended (curve_ : O_EdwardsCurve) (first_ : (T4 Int Int Int Int)) (second_ : (T4 Int Int Int Int)) : Res (T4 Int Int Int Int) :=
  ((Res.ok first_)).bind fun (u315 : (T4 Int Int Int Int)) =>   (fun (x1_ : Int) (y1_ : Int) (z1_ : Int) (t1_ : Int) => ((Res.ok second_)).bind fun (u316 : (T4 Int Int Int Int)) =>   (fun (x2_ : Int) (y2_ : Int) (z2_ : Int) (t2_ : Int) => (((Res.ok curve_)).bind fun (t317 : O_EdwardsCurve) => Res.ok t317.f_prime).bind fun (p_ : Int) =>   (((Res.ok z1_)).bind fun (t318 : Int) => ((Res.ok z2_)).bind fun (t319 : Int) => Res.need (CMulX t318 t319) (Res.ok (t318 * t319))).bind fun (zz_ : Int) =>   ((((((Res.ok curve_)).bind fun (t320 : O_EdwardsCurve) => Res.ok t320.f_d).bind fun (t321 : Int) => ((Res.ok t1_)).bind fun (t322 : Int) => Res.need (CMulX t321 t322) (Res.ok (t321 * t322))).bind fun (t323 : Int) => ((Res.ok t2_)).bind fun (t324 : Int) => Res.need (CMulX t323 t324) (Res.ok (t323 * t324))).bind fun (t325 : Int) => ((Res.ok p_)).bind fun (t326 : Int) => Res.need (0 < t326) (Res.ok (t325 % t326))).bind fun (dtt_ : Int) =>   (((((Res.ok x1_)).bind fun (t327 : Int) => ((Res.ok y2_)).bind fun (t328 : Int) => Res.need (CMulX t327 t328) (Res.ok (t327 * t328))).bind fun (t331 : Int) => (((Res.ok y1_)).bind fun (t329 : Int) => ((Res.ok x2_)).bind fun (t330 : Int) => Res.need (CMulX t329 t330) (Res.ok (t329 * t330))).bind fun (t332 : Int) => Res.ok (t331 + t332)).bind fun (t333 : Int) => ((Res.ok p_)).bind fun (t334 : Int) => Res.need (0 < t334) (Res.ok (t333 % t334))).bind fun (e_ : Int) =>   ((((Res.ok zz_)).bind fun (t335 : Int) => ((Res.ok dtt_)).bind fun (t336 : Int) => Res.ok (t335 - t336)).bind fun (t337 : Int) => ((Res.ok p_)).bind fun (t338 : Int) => Res.need (0 < t338) (Res.ok (t337 % t338))).bind fun (f_ : Int) =>   ((((Res.ok zz_)).bind fun (t339 : Int) => ((Res.ok dtt_)).bind fun (t340 : Int) => Res.ok (t339 + t340)).bind fun (t341 : Int) => ((Res.ok p_)).bind fun (t342 : Int) => Res.need (0 < t342) (Res.ok (t341 % t342))).bind fun (g_ : Int) =>   (((((Res.ok y1_)).bind fun (t343 : Int) => ((Res.ok y2_)).bind fun (t344 : Int) => Res.need (CMulX t343 t344) (Res.ok (t343 * t344))).bind fun (t350 : Int) => (((((Res.ok curve_)).bind fun (t345 : O_EdwardsCurve) => Res.ok t345.f_a).bind fun (t346 : Int) => ((Res.ok x1_)).bind fun (t347 : Int) => Res.need (CMulX t346 t347) (Res.ok (t346 * t347))).bind fun (t348 : Int) => ((Res.ok x2_)).bind fun (t349 : Int) => Res.need (CMulX t348 t349) (Res.ok (t348 * t349))).bind fun (t351 : Int) => Res.ok (t350 - t351)).bind fun (t352 : Int) => ((Res.ok p_)).bind fun (t353 : Int) => Res.need (0 < t353) (Res.ok (t352 % t353))).bind fun (h_ : Int) =>   (((((Res.ok e_)).bind fun (t354 : Int) => ((Res.ok f_)).bind fun (t355 : Int) => Res.need (CMulX t354 t355) (Res.ok (t354 * t355))).bind fun (t356 : Int) => ((Res.ok p_)).bind fun (t357 : Int) => Res.need (0 < t357) (Res.ok (t356 % t357))).bind fun a371 => (((((Res.ok g_)).bind fun (t358 : Int) => ((Res.ok h_)).bind fun (t359 : Int) => Res.need (CMulX t358 t359) (Res.ok (t358 * t359))).bind fun (t360 : Int) => ((Res.ok p_)).bind fun (t361 : Int) => Res.need (0 < t361) (Res.ok (t360 % t361))).bind fun a373 => (((((Res.ok f_)).bind fun (t362 : Int) => ((Res.ok g_)).bind fun (t363 : Int) => Res.need (CMulX t362 t363) (Res.ok (t362 * t363))).bind fun (t364 : Int) => ((Res.ok p_)).bind fun (t365 : Int) => Res.need (0 < t365) (Res.ok (t364 % t365))).bind fun a375 => (((((Res.ok e_)).bind fun (t366 : Int) => ((Res.ok h_)).bind fun (t367 : Int) => Res.need (CMulX t366 t367) (Res.ok (t366 * t367))).bind fun (t368 : Int) => ((Res.ok p_)).bind fun (t369 : Int) => Res.need (0 < t369) (Res.ok (t368 % t369))).bind fun a377 => (Res.ok ()).bind fun a378 => Res.ok (a377, a378)).bind fun a376 => Res.ok (a375, a376)).bind fun a374 => Res.ok (a373, a374)).bind fun a372 => Res.ok (a371, a372)).bind fun p370 => Res.ok (T4.mk p370.1 p370.2.1 p370.2.2.1 p370.2.2.2.1)) u316.a u316.b u316.c u316.e) u315.a u315.b u315.c u315.e
theorem ok_add_extended {P : Program} {w : World} {K : PySem.W.Frag} {mg : Str → Option Value} {base : Heap} (T : Facts K mg) {fd : FuncData} (F : FnP K "add_extended" "add_extended" s_add_extended (He.ga K "add_extended") fd) :
    FnOk P w K mg base (L2.CX P w) 1 (He.ga K "add_extended") fd ["curve", "first", "second"] (spM K (fun (p : O_EdwardsCurve × (T4 Int Int Int Int) × (T4 Int Int Int Int) × Unit) => m_add_extended p.1 p.2.1 p.2.2.1)) := by
  refine fn_ok F sc_add_extended (fun y => rfl) (fun cdv A outer s H E hr => ?_)
  refine ⟨_, (pss_cons (ps_asg (pv 1) (pg_tup rfl (pgs_cons (pg_name (i := 3) sc_add_extended.nd rfl (Or.inl rfl)) (pgs_cons (pg_name (i := 4) sc_add_extended.nd rfl (Or.inl rfl)) (pgs_cons (pg_name (i := 5) sc_add_extended.nd rfl (Or.inl rfl)) (pgs_cons (pg_name (i := 6) sc_add_extended.nd rfl (Or.inl rfl)) pgs_nil)))))) (pss_cons (ps_asg (pv 2) (pg_tup rfl (pgs_cons (pg_name (i := 7) sc_add_extended.nd rfl (Or.inl rfl)) (pgs_cons (pg_name (i := 8) sc_add_extended.nd rfl (Or.inl rfl)) (pgs_cons (pg_name (i := 9) sc_add_extended.nd rfl (Or.inl rfl)) (pgs_cons (pg_name (i := 10) sc_add_extended.nd rfl (Or.inl rfl)) pgs_nil)))))) (pss_cons (ps_set (i := 11) sc_add_extended.nd rfl (Or.inl rfl) (pe_fld (pv 0) rfl)) (pss_cons (ps_set (i := 12) sc_add_extended.nd rfl (Or.inl rfl) (pe_op op_mulX (pv 5) (pv 9))) (pss_cons (ps_set (i := 13) sc_add_extended.nd rfl (Or.inl rfl) (pe_op op_mod (pe_op op_mulX (pe_op op_mulX (pe_fld (pv 0) rfl) (pv 6)) (pv 10)) (pv 11))) (pss_cons (ps_set (i := 14) sc_add_extended.nd rfl (Or.inl rfl) (pe_op op_mod (pe_op op_add (pe_op op_mulX (pv 3) (pv 8)) (pe_op op_mulX (pv 4) (pv 7))) (pv 11))) (pss_cons (ps_set (i := 15) sc_add_extended.nd rfl (Or.inl rfl) (pe_op op_mod (pe_op op_sub (pv 12) (pv 13)) (pv 11))) (pss_cons (ps_set (i := 16) sc_add_extended.nd rfl (Or.inl rfl) (pe_op op_mod (pe_op op_add (pv 12) (pv 13)) (pv 11))) (pss_cons (ps_set (i := 17) sc_add_extended.nd rfl (Or.inl rfl) (pe_op op_mod (pe_op op_sub (pe_op op_mulX (pv 4) (pv 8)) (pe_op op_mulX (pe_op op_mulX (pe_fld (pv 0) rfl) (pv 3)) (pv 7))) (pv 11))) (pss_one (ps_ret (pe_tup (pa_cons (pe_op op_mod (pe_op op_mulX (pv 14) (pv 15)) (pv 11)) (pa_cons (pe_op op_mod (pe_op op_mulX (pv 16) (pv 17)) (pv 11)) (pa_cons (pe_op op_mod (pe_op op_mulX (pv 15) (pv 16)) (pv 11)) (pa_cons (pe_op op_mod (pe_op op_mulX (pv 14) (pv 17)) (pv 11)) pa_nil)))))))))))))))), ?_⟩
  rintro ⟨curve_, first_, second_, ⟨⟩⟩ F0 H0 Q KP L
  show Blk K F0 H0 KP _ [some (.im (toD curve_)), some (.im (toD first_)), some (.im (toD second_)), none, none, none, none, none, none, none, none, none, none, none, none, none, none, none] (m_add_extended curve_ first_ second_)
  unfold m_add_extended
  have hs_ := ((ev_var (i := 1) (x := first_) rfl) : EvX K (W0 E) [some (.im (toD curve_)), some (.im (toD first_)), some (.im (toD second_)), none, none, none, none, none, none, none, none, none, none, none, none, none, none, none] _ _)
  refine blk_seq (blk_asg L trivial hs_ (fun _ => (gx_tup (gxs_cons gx_name (gxs_cons gx_name (gxs_cons gx_name (gxs_cons gx_name gxs_nil)))) rfl)) fun u315 => ?_)
  show Blk _ _ _ _ _ [some (.im (toD curve_)), some (.im (toD first_)), some (.im (toD second_)), some (.im (toD u315.a)), some (.im (toD u315.b)), some (.im (toD u315.c)), some (.im (toD u315.e)), none, none, none, none, none, none, none, none, none, none, none] ((fun (x1_ : Int) (y1_ : Int) (z1_ : Int) (t1_ : Int) => _) u315.a u315.b u315.c u315.e)
  generalize u315.a = x1_
  generalize u315.b = y1_
  generalize u315.c = z1_
  generalize u315.e = t1_
  show Blk _ _ _ _ _ [some (.im (toD curve_)), some (.im (toD first_)), some (.im (toD second_)), some (.im (toD x1_)), some (.im (toD y1_)), some (.im (toD z1_)), some (.im (toD t1_)), none, none, none, none, none, none, none, none, none, none, none] _
  try refine Blk.nx ?_
  have hs_ := ((ev_var (i := 2) (x := second_) rfl) : EvX K (W0 E) [some (.im (toD curve_)), some (.im (toD first_)), some (.im (toD second_)), some (.im (toD x1_)), some (.im (toD y1_)), some (.im (toD z1_)), some (.im (toD t1_)), none, none, none, none, none, none, none, none, none, none, none] _ _)
  refine blk_seq (blk_asg L trivial hs_ (fun _ => (gx_tup (gxs_cons gx_name (gxs_cons gx_name (gxs_cons gx_name (gxs_cons gx_name gxs_nil)))) rfl)) fun u316 => ?_)
  show Blk _ _ _ _ _ [some (.im (toD curve_)), some (.im (toD first_)), some (.im (toD second_)), some (.im (toD x1_)), some (.im (toD y1_)), some (.im (toD z1_)), some (.im (toD t1_)), some (.im (toD u316.a)), some (.im (toD u316.b)), some (.im (toD u316.c)), some (.im (toD u316.e)), none, none, none, none, none, none, none] ((fun (x2_ : Int) (y2_ : Int) (z2_ : Int) (t2_ : Int) => _) u316.a u316.b u316.c u316.e)
  generalize u316.a = x2_
  generalize u316.b = y2_
  generalize u316.c = z2_
  generalize u316.e = t2_
  show Blk _ _ _ _ _ [some (.im (toD curve_)), some (.im (toD first_)), some (.im (toD second_)), some (.im (toD x1_)), some (.im (toD y1_)), some (.im (toD z1_)), some (.im (toD t1_)), some (.im (toD x2_)), some (.im (toD y2_)), some (.im (toD z2_)), some (.im (toD t2_)), none, none, none, none, none, none, none] _
  try refine Blk.nx ?_
  have hs_ := ((ev_fld (g := fun (x : O_EdwardsCurve) => x.f_prime) (c := "EdwardsCurve") (ks := ["prime", "a", "d"]) (j := 0) (ev_var (i := 0) (x := curve_) rfl) T.cl_EdwardsCurve T.nf_EdwardsCurve_prime (by decide +kernel) (fun _ => ⟨_, rfl, rfl⟩)) : EvX K (W0 E) [some (.im (toD curve_)), some (.im (toD first_)), some (.im (toD second_)), some (.im (toD x1_)), some (.im (toD y1_)), some (.im (toD z1_)), some (.im (toD t1_)), some (.im (toD x2_)), some (.im (toD y2_)), some (.im (toD z2_)), some (.im (toD t2_)), none, none, none, none, none, none, none] _ _)
  refine blk_seq (blk_set (i := 11) L trivial hs_ fun p_ => ?_)
  show Blk _ _ _ _ _ [some (.im (toD curve_)), some (.im (toD first_)), some (.im (toD second_)), some (.im (toD x1_)), some (.im (toD y1_)), some (.im (toD z1_)), some (.im (toD t1_)), some (.im (toD x2_)), some (.im (toD y2_)), some (.im (toD z2_)), some (.im (toD t2_)), some (.im (toD p_)), none, none, none, none, none, none] _
  try refine Blk.nx ?_
  have hs_ := ((ev_op (opx_I (C := CMulX) (g := fun i j => i * j)) mild_need (ev_var (i := 5) (x := z1_) rfl) (ev_var (i := 9) (x := z2_) rfl)) : EvX K (W0 E) [some (.im (toD curve_)), some (.im (toD first_)), some (.im (toD second_)), some (.im (toD x1_)), some (.im (toD y1_)), some (.im (toD z1_)), some (.im (toD t1_)), some (.im (toD x2_)), some (.im (toD y2_)), some (.im (toD z2_)), some (.im (toD t2_)), some (.im (toD p_)), none, none, none, none, none, none] _ _)
  refine blk_seq (blk_set (i := 12) L trivial hs_ fun zz_ => ?_)
  show Blk _ _ _ _ _ [some (.im (toD curve_)), some (.im (toD first_)), some (.im (toD second_)), some (.im (toD x1_)), some (.im (toD y1_)), some (.im (toD z1_)), some (.im (toD t1_)), some (.im (toD x2_)), some (.im (toD y2_)), some (.im (toD z2_)), some (.im (toD t2_)), some (.im (toD p_)), some (.im (toD zz_)), none, none, none, none, none] _
  try refine Blk.nx ?_
  have hs_ := ((ev_op (opx_I (C := (fun _ j => 0 < j)) (g := fun i j => i % j)) mild_need (ev_op (opx_I (C := CMulX) (g := fun i j => i * j)) mild_need (ev_op (opx_I (C := CMulX) (g := fun i j => i * j)) mild_need (ev_fld (g := fun (x : O_EdwardsCurve) => x.f_d) (c := "EdwardsCurve") (ks := ["prime", "a", "d"]) (j := 2) (ev_var (i := 0) (x := curve_) rfl) T.cl_EdwardsCurve T.nf_EdwardsCurve_d (by decide +kernel) (fun _ => ⟨_, rfl, rfl⟩)) (ev_var (i := 6) (x := t1_) rfl)) (ev_var (i := 10) (x := t2_) rfl)) (ev_var (i := 11) (x := p_) rfl)) : EvX K (W0 E) [some (.im (toD curve_)), some (.im (toD first_)), some (.im (toD second_)), some (.im (toD x1_)), some (.im (toD y1_)), some (.im (toD z1_)), some (.im (toD t1_)), some (.im (toD x2_)), some (.im (toD y2_)), some (.im (toD z2_)), some (.im (toD t2_)), some (.im (toD p_)), some (.im (toD zz_)), none, none, none, none, none] _ _)
  refine blk_seq (blk_set (i := 13) L trivial hs_ fun dtt_ => ?_)
  show Blk _ _ _ _ _ [some (.im (toD curve_)), some (.im (toD first_)), some (.im (toD second_)), some (.im (toD x1_)), some (.im (toD y1_)), some (.im (toD z1_)), some (.im (toD t1_)), some (.im (toD x2_)), some (.im (toD y2_)), some (.im (toD z2_)), some (.im (toD t2_)), some (.im (toD p_)), some (.im (toD zz_)), some (.im (toD dtt_)), none, none, none, none] _
  try refine Blk.nx ?_
  have hs_ := ((ev_op (opx_I (C := (fun _ j => 0 < j)) (g := fun i j => i % j)) mild_need (ev_op (opx_I0 (g := fun i j => i + j)) mild_ok (ev_op (opx_I (C := CMulX) (g := fun i j => i * j)) mild_need (ev_var (i := 3) (x := x1_) rfl) (ev_var (i := 8) (x := y2_) rfl)) (ev_op (opx_I (C := CMulX) (g := fun i j => i * j)) mild_need (ev_var (i := 4) (x := y1_) rfl) (ev_var (i := 7) (x := x2_) rfl))) (ev_var (i := 11) (x := p_) rfl)) : EvX K (W0 E) [some (.im (toD curve_)), some (.im (toD first_)), some (.im (toD second_)), some (.im (toD x1_)), some (.im (toD y1_)), some (.im (toD z1_)), some (.im (toD t1_)), some (.im (toD x2_)), some (.im (toD y2_)), some (.im (toD z2_)), some (.im (toD t2_)), some (.im (toD p_)), some (.im (toD zz_)), some (.im (toD dtt_)), none, none, none, none] _ _)
  refine blk_seq (blk_set (i := 14) L trivial hs_ fun e_ => ?_)
  show Blk _ _ _ _ _ [some (.im (toD curve_)), some (.im (toD first_)), some (.im (toD second_)), some (.im (toD x1_)), some (.im (toD y1_)), some (.im (toD z1_)), some (.im (toD t1_)), some (.im (toD x2_)), some (.im (toD y2_)), some (.im (toD z2_)), some (.im (toD t2_)), some (.im (toD p_)), some (.im (toD zz_)), some (.im (toD dtt_)), some (.im (toD e_)), none, none, none] _
  try refine Blk.nx ?_
  have hs_ := ((ev_op (opx_I (C := (fun _ j => 0 < j)) (g := fun i j => i % j)) mild_need (ev_op (opx_I0 (g := fun i j => i - j)) mild_ok (ev_var (i := 12) (x := zz_) rfl) (ev_var (i := 13) (x := dtt_) rfl)) (ev_var (i := 11) (x := p_) rfl)) : EvX K (W0 E) [some (.im (toD curve_)), some (.im (toD first_)), some (.im (toD second_)), some (.im (toD x1_)), some (.im (toD y1_)), some (.im (toD z1_)), some (.im (toD t1_)), some (.im (toD x2_)), some (.im (toD y2_)), some (.im (toD z2_)), some (.im (toD t2_)), some (.im (toD p_)), some (.im (toD zz_)), some (.im (toD dtt_)), some (.im (toD e_)), none, none, none] _ _)
  refine blk_seq (blk_set (i := 15) L trivial hs_ fun f_ => ?_)
  show Blk _ _ _ _ _ [some (.im (toD curve_)), some (.im (toD first_)), some (.im (toD second_)), some (.im (toD x1_)), some (.im (toD y1_)), some (.im (toD z1_)), some (.im (toD t1_)), some (.im (toD x2_)), some (.im (toD y2_)), some (.im (toD z2_)), some (.im (toD t2_)), some (.im (toD p_)), some (.im (toD zz_)), some (.im (toD dtt_)), some (.im (toD e_)), some (.im (toD f_)), none, none] _
  try refine Blk.nx ?_
  have hs_ := ((ev_op (opx_I (C := (fun _ j => 0 < j)) (g := fun i j => i % j)) mild_need (ev_op (opx_I0 (g := fun i j => i + j)) mild_ok (ev_var (i := 12) (x := zz_) rfl) (ev_var (i := 13) (x := dtt_) rfl)) (ev_var (i := 11) (x := p_) rfl)) : EvX K (W0 E) [some (.im (toD curve_)), some (.im (toD first_)), some (.im (toD second_)), some (.im (toD x1_)), some (.im (toD y1_)), some (.im (toD z1_)), some (.im (toD t1_)), some (.im (toD x2_)), some (.im (toD y2_)), some (.im (toD z2_)), some (.im (toD t2_)), some (.im (toD p_)), some (.im (toD zz_)), some (.im (toD dtt_)), some (.im (toD e_)), some (.im (toD f_)), none, none] _ _)
  refine blk_seq (blk_set (i := 16) L trivial hs_ fun g_ => ?_)
  show Blk _ _ _ _ _ [some (.im (toD curve_)), some (.im (toD first_)), some (.im (toD second_)), some (.im (toD x1_)), some (.im (toD y1_)), some (.im (toD z1_)), some (.im (toD t1_)), some (.im (toD x2_)), some (.im (toD y2_)), some (.im (toD z2_)), some (.im (toD t2_)), some (.im (toD p_)), some (.im (toD zz_)), some (.im (toD dtt_)), some (.im (toD e_)), some (.im (toD f_)), some (.im (toD g_)), none] _
  try refine Blk.nx ?_
  have hs_ := ((ev_op (opx_I (C := (fun _ j => 0 < j)) (g := fun i j => i % j)) mild_need (ev_op (opx_I0 (g := fun i j => i - j)) mild_ok (ev_op (opx_I (C := CMulX) (g := fun i j => i * j)) mild_need (ev_var (i := 4) (x := y1_) rfl) (ev_var (i := 8) (x := y2_) rfl)) (ev_op (opx_I (C := CMulX) (g := fun i j => i * j)) mild_need (ev_op (opx_I (C := CMulX) (g := fun i j => i * j)) mild_need (ev_fld (g := fun (x : O_EdwardsCurve) => x.f_a) (c := "EdwardsCurve") (ks := ["prime", "a", "d"]) (j := 1) (ev_var (i := 0) (x := curve_) rfl) T.cl_EdwardsCurve T.nf_EdwardsCurve_a (by decide +kernel) (fun _ => ⟨_, rfl, rfl⟩)) (ev_var (i := 3) (x := x1_) rfl)) (ev_var (i := 7) (x := x2_) rfl))) (ev_var (i := 11) (x := p_) rfl)) : EvX K (W0 E) [some (.im (toD curve_)), some (.im (toD first_)), some (.im (toD second_)), some (.im (toD x1_)), some (.im (toD y1_)), some (.im (toD z1_)), some (.im (toD t1_)), some (.im (toD x2_)), some (.im (toD y2_)), some (.im (toD z2_)), some (.im (toD t2_)), some (.im (toD p_)), some (.im (toD zz_)), some (.im (toD dtt_)), some (.im (toD e_)), some (.im (toD f_)), some (.im (toD g_)), none] _ _)
  refine blk_seq (blk_set (i := 17) L trivial hs_ fun h_ => ?_)
  show Blk _ _ _ _ _ [some (.im (toD curve_)), some (.im (toD first_)), some (.im (toD second_)), some (.im (toD x1_)), some (.im (toD y1_)), some (.im (toD z1_)), some (.im (toD t1_)), some (.im (toD x2_)), some (.im (toD y2_)), some (.im (toD z2_)), some (.im (toD t2_)), some (.im (toD p_)), some (.im (toD zz_)), some (.im (toD dtt_)), some (.im (toD e_)), some (.im (toD f_)), some (.im (toD g_)), some (.im (toD h_))] _
  try refine Blk.nx ?_
  have hr_ := ((ev_tup (f := (fun y => T4.mk y.1 y.2.1 y.2.2.1 y.2.2.2.1)) (ea_cons (ev_op (opx_I (C := (fun _ j => 0 < j)) (g := fun i j => i % j)) mild_need (ev_op (opx_I (C := CMulX) (g := fun i j => i * j)) mild_need (ev_var (i := 14) (x := e_) rfl) (ev_var (i := 15) (x := f_) rfl)) (ev_var (i := 11) (x := p_) rfl)) (ea_cons (ev_op (opx_I (C := (fun _ j => 0 < j)) (g := fun i j => i % j)) mild_need (ev_op (opx_I (C := CMulX) (g := fun i j => i * j)) mild_need (ev_var (i := 16) (x := g_) rfl) (ev_var (i := 17) (x := h_) rfl)) (ev_var (i := 11) (x := p_) rfl)) (ea_cons (ev_op (opx_I (C := (fun _ j => 0 < j)) (g := fun i j => i % j)) mild_need (ev_op (opx_I (C := CMulX) (g := fun i j => i * j)) mild_need (ev_var (i := 15) (x := f_) rfl) (ev_var (i := 16) (x := g_) rfl)) (ev_var (i := 11) (x := p_) rfl)) (ea_cons (ev_op (opx_I (C := (fun _ j => 0 < j)) (g := fun i j => i % j)) mild_need (ev_op (opx_I (C := CMulX) (g := fun i j => i * j)) mild_need (ev_var (i := 14) (x := e_) rfl) (ev_var (i := 17) (x := h_) rfl)) (ev_var (i := 11) (x := p_) rfl)) ea_nil)))) (fun _ => rfl) (fun _ => by show 4 ≤ 100000; decide)) : EvX K (W0 E) [some (.im (toD curve_)), some (.im (toD first_)), some (.im (toD second_)), some (.im (toD x1_)), some (.im (toD y1_)), some (.im (toD z1_)), some (.im (toD t1_)), some (.im (toD x2_)), some (.im (toD y2_)), some (.im (toD z2_)), some (.im (toD t2_)), some (.im (toD p_)), some (.im (toD zz_)), some (.im (toD dtt_)), some (.im (toD e_)), some (.im (toD f_)), some (.im (toD g_)), some (.im (toD h_))] _ _)
  exact blk_ret L trivial hr_
noncomputable def m_same_extended (curve_ : O_EdwardsCurve) (first_ : (T4 Int Int Int Int)) (second_ : (T4 Int Int Int Int)) : Res Bool :=
  ((((((Res.ok first_)).bind fun (t379 : (T4 Int Int Int Int)) => Res.ok t379.a).bind fun (t381 : Int) => (((Res.ok second_)).bind fun (t380 : (T4 Int Int Int Int)) => Res.ok t380.c).bind fun (t382 : Int) => Res.need (CMulX t381 t382) (Res.ok (t381 * t382))).bind fun (t387 : Int) => ((((Res.ok second_)).bind fun (t383 : (T4 Int Int Int Int)) => Res.ok t383.a).bind fun (t385 : Int) => (((Res.ok first_)).bind fun (t384 : (T4 Int Int Int Int)) => Res.ok t384.c).bind fun (t386 : Int) => Res.need (CMulX t385 t386) (Res.ok (t385 * t386))).bind fun (t388 : Int) => Res.ok (t387 - t388)).bind fun (t390 : Int) => (((Res.ok curve_)).bind fun (t389 : O_EdwardsCurve) => Res.ok t389.f_prime).bind fun (t391 : Int) => Res.need (0 < t391) (Res.ok (t390 % t391))).bind fun (x_differs_ : Int) =>   ((((((Res.ok first_)).bind fun (t392 : (T4 Int Int Int Int)) => Res.ok t392.b).bind fun (t394 : Int) => (((Res.ok second_)).bind fun (t393 : (T4 Int Int Int Int)) => Res.ok t393.c).bind fun (t395 : Int) => Res.need (CMulX t394 t395) (Res.ok (t394 * t395))).bind fun (t400 : Int) => ((((Res.ok second_)).bind fun (t396 : (T4 Int Int Int Int)) => Res.ok t396.b).bind fun (t398 : Int) => (((Res.ok first_)).bind fun (t397 : (T4 Int Int Int Int)) => Res.ok t397.c).bind fun (t399 : Int) => Res.need (CMulX t398 t399) (Res.ok (t398 * t399))).bind fun (t401 : Int) => Res.ok (t400 - t401)).bind fun (t403 : Int) => (((Res.ok curve_)).bind fun (t402 : O_EdwardsCurve) => Res.ok t402.f_prime).bind fun (t404 : Int) => Res.need (0 < t404) (Res.ok (t403 % t404))).bind fun (y_differs_ : Int) =>   (((Res.ok x_differs_)).bind fun (t405 : Int) => ((Res.ok (0 : Int))).bind fun (t406 : Int) => Res.ok (decide (t405 = t406))).bind fun b409 => cond b409 (((Res.ok y_differs_)).bind fun (t407 : Int) => ((Res.ok (0 : Int))).bind fun (t408 : Int) => Res.ok (decide (t407 = t408))) (Res.ok false)
theorem ok_same_extended {P : Program} {w : World} {K : PySem.W.Frag} {mg : Str → Option Value} {base : Heap} (T : Facts K mg) {fd : FuncData} (F : FnP K "same_extended" "same_extended" s_same_extended (He.ga K "same_extended") fd) :
    FnOk P w K mg base (L2.CX P w) 1 (He.ga K "same_extended") fd ["curve", "first", "second"] (spM K (fun (p : O_EdwardsCurve × (T4 Int Int Int Int) × (T4 Int Int Int Int) × Unit) => m_same_extended p.1 p.2.1 p.2.2.1)) := by
  refine fn_ok F sc_same_extended (fun y => rfl) (fun cdv A outer s H E hr => ?_)
  refine ⟨_, (pss_cons (ps_set (i := 3) sc_same_extended.nd rfl (Or.inl rfl) (pe_op op_mod (pe_op op_sub (pe_op op_mulX (pe_ix (cr_ixT rfl) (pv 1) pe_int (fun _ _ => rfl)) (pe_ix (cr_ixT rfl) (pv 2) pe_int (fun _ _ => rfl))) (pe_op op_mulX (pe_ix (cr_ixT rfl) (pv 2) pe_int (fun _ _ => rfl)) (pe_ix (cr_ixT rfl) (pv 1) pe_int (fun _ _ => rfl)))) (pe_fld (pv 0) rfl))) (pss_cons (ps_set (i := 4) sc_same_extended.nd rfl (Or.inl rfl) (pe_op op_mod (pe_op op_sub (pe_op op_mulX (pe_ix (cr_ixT rfl) (pv 1) pe_int (fun _ _ => rfl)) (pe_ix (cr_ixT rfl) (pv 2) pe_int (fun _ _ => rfl))) (pe_op op_mulX (pe_ix (cr_ixT rfl) (pv 2) pe_int (fun _ _ => rfl)) (pe_ix (cr_ixT rfl) (pv 1) pe_int (fun _ _ => rfl)))) (pe_fld (pv 0) rfl))) (pss_one (ps_ret (pe_and (pe_cmpR op_eq (pv 3) pe_int (nomark _)) (pe_one (pe_cmpR op_eq (pv 4) pe_int (nomark _)))))))), ?_⟩
  rintro ⟨curve_, first_, second_, ⟨⟩⟩ F0 H0 Q KP L
  show Blk K F0 H0 KP _ [some (.im (toD curve_)), some (.im (toD first_)), some (.im (toD second_)), none, none] (m_same_extended curve_ first_ second_)
  unfold m_same_extended
  have hs_ := ((ev_op (opx_I (C := (fun _ j => 0 < j)) (g := fun i j => i % j)) mild_need (ev_op (opx_I0 (g := fun i j => i - j)) mild_ok (ev_op (opx_I (C := CMulX) (g := fun i j => i * j)) mild_need (ev_ixTC (i := 0) (f := fun x => x.a) (ev_var (i := 1) (x := first_) rfl) (fun x => ⟨_, rfl, rfl⟩)) (ev_ixTC (i := 2) (f := fun x => x.c) (ev_var (i := 2) (x := second_) rfl) (fun x => ⟨_, rfl, rfl⟩))) (ev_op (opx_I (C := CMulX) (g := fun i j => i * j)) mild_need (ev_ixTC (i := 0) (f := fun x => x.a) (ev_var (i := 2) (x := second_) rfl) (fun x => ⟨_, rfl, rfl⟩)) (ev_ixTC (i := 2) (f := fun x => x.c) (ev_var (i := 1) (x := first_) rfl) (fun x => ⟨_, rfl, rfl⟩)))) (ev_fld (g := fun (x : O_EdwardsCurve) => x.f_prime) (c := "EdwardsCurve") (ks := ["prime", "a", "d"]) (j := 0) (ev_var (i := 0) (x := curve_) rfl) T.cl_EdwardsCurve T.nf_EdwardsCurve_prime (by decide +kernel) (fun _ => ⟨_, rfl, rfl⟩))) : EvX K (W0 E) [some (.im (toD curve_)), some (.im (toD first_)), some (.im (toD second_)), none, none] _ _)
  refine blk_seq (blk_set (i := 3) L trivial hs_ fun x_differs_ => ?_)
  show Blk _ _ _ _ _ [some (.im (toD curve_)), some (.im (toD first_)), some (.im (toD second_)), some (.im (toD x_differs_)), none] _
  try refine Blk.nx ?_
  have hs_ := ((ev_op (opx_I (C := (fun _ j => 0 < j)) (g := fun i j => i % j)) mild_need (ev_op (opx_I0 (g := fun i j => i - j)) mild_ok (ev_op (opx_I (C := CMulX) (g := fun i j => i * j)) mild_need (ev_ixTC (i := 1) (f := fun x => x.b) (ev_var (i := 1) (x := first_) rfl) (fun x => ⟨_, rfl, rfl⟩)) (ev_ixTC (i := 2) (f := fun x => x.c) (ev_var (i := 2) (x := second_) rfl) (fun x => ⟨_, rfl, rfl⟩))) (ev_op (opx_I (C := CMulX) (g := fun i j => i * j)) mild_need (ev_ixTC (i := 1) (f := fun x => x.b) (ev_var (i := 2) (x := second_) rfl) (fun x => ⟨_, rfl, rfl⟩)) (ev_ixTC (i := 2) (f := fun x => x.c) (ev_var (i := 1) (x := first_) rfl) (fun x => ⟨_, rfl, rfl⟩)))) (ev_fld (g := fun (x : O_EdwardsCurve) => x.f_prime) (c := "EdwardsCurve") (ks := ["prime", "a", "d"]) (j := 0) (ev_var (i := 0) (x := curve_) rfl) T.cl_EdwardsCurve T.nf_EdwardsCurve_prime (by decide +kernel) (fun _ => ⟨_, rfl, rfl⟩))) : EvX K (W0 E) [some (.im (toD curve_)), some (.im (toD first_)), some (.im (toD second_)), some (.im (toD x_differs_)), none] _ _)
  refine blk_seq (blk_set (i := 4) L trivial hs_ fun y_differs_ => ?_)
  show Blk _ _ _ _ _ [some (.im (toD curve_)), some (.im (toD first_)), some (.im (toD second_)), some (.im (toD x_differs_)), some (.im (toD y_differs_))] _
  try refine Blk.nx ?_
  have hr_ := ((ev_andV (ev_op opx_eqI mild_ok (ev_var (i := 3) (x := x_differs_) rfl) (ev_int (i := 0))) (ev_op opx_eqI mild_ok (ev_var (i := 4) (x := y_differs_) rfl) (ev_int (i := 0)))) : EvX K (W0 E) [some (.im (toD curve_)), some (.im (toD first_)), some (.im (toD second_)), some (.im (toD x_differs_)), some (.im (toD y_differs_))] _ _)
  exact blk_ret L trivial hr_
noncomputable def m_EdwardsCurve_negate (self_ : O_EdwardsCurve) (point_ : (T2 Int Int)) : Res (T2 Int Int) :=
  ((((((Res.ok point_)).bind fun (t410 : (T2 Int Int)) => Res.ok t410.a).bind fun (t411 : Int) => Res.ok (-t411)).bind fun (t413 : Int) => (((Res.ok self_)).bind fun (t412 : O_EdwardsCurve) => Res.ok t412.f_prime).bind fun (t414 : Int) => Res.need (0 < t414) (Res.ok (t413 % t414))).bind fun a417 => ((((Res.ok point_)).bind fun (t415 : (T2 Int Int)) => Res.ok t415.b).bind fun a419 => (Res.ok ()).bind fun a420 => Res.ok (a419, a420)).bind fun a418 => Res.ok (a417, a418)).bind fun p416 => Res.ok (T2.mk p416.1 p416.2.1)
theorem ok_EdwardsCurve_negate {P : Program} {w : World} {K : PySem.W.Frag} {mg : Str → Option Value} {base : Heap} (T : Facts K mg) {fd : FuncData} (F : FnP K "negate" "EdwardsCurve.negate" s_EdwardsCurve_negate (He.ma K (He.ga K "EdwardsCurve") "negate") fd) :
    FnOk P w K mg base (L2.CX P w) 1 (He.ma K (He.ga K "EdwardsCurve") "negate") fd ["self", "point"] (spM K (fun (p : O_EdwardsCurve × (T2 Int Int) × Unit) => m_EdwardsCurve_negate p.1 p.2.1)) := by
  refine fn_ok F sc_EdwardsCurve_negate (fun y => rfl) (fun cdv A outer s H E hr => ?_)
  refine ⟨_, (pss_one (ps_ret (pe_tup (pa_cons (pe_op op_mod (pe_un un_neg (pe_ix (cr_ixT rfl) (pv 1) pe_int (fun _ _ => rfl))) (pe_fld (pv 0) rfl)) (pa_cons (pe_ix (cr_ixT rfl) (pv 1) pe_int (fun _ _ => rfl)) pa_nil))))), ?_⟩
  rintro ⟨self_, point_, ⟨⟩⟩ F0 H0 Q KP L
  show Blk K F0 H0 KP _ [some (.im (toD self_)), some (.im (toD point_))] (m_EdwardsCurve_negate self_ point_)
  unfold m_EdwardsCurve_negate
  have hr_ := ((ev_tup (f := (fun y => T2.mk y.1 y.2.1)) (ea_cons (ev_op (opx_I (C := (fun _ j => 0 < j)) (g := fun i j => i % j)) mild_need (ev_un (g := fun i => -i) (ev_ixTC (i := 0) (f := fun x => x.a) (ev_var (i := 1) (x := point_) rfl) (fun x => ⟨_, rfl, rfl⟩))) (ev_fld (g := fun (x : O_EdwardsCurve) => x.f_prime) (c := "EdwardsCurve") (ks := ["prime", "a", "d"]) (j := 0) (ev_var (i := 0) (x := self_) rfl) T.cl_EdwardsCurve T.nf_EdwardsCurve_prime (by decide +kernel) (fun _ => ⟨_, rfl, rfl⟩))) (ea_cons (ev_ixTC (i := 1) (f := fun x => x.b) (ev_var (i := 1) (x := point_) rfl) (fun x => ⟨_, rfl, rfl⟩)) ea_nil)) (fun _ => rfl) (fun _ => by show 2 ≤ 100000; decide)) : EvX K (W0 E) [some (.im (toD self_)), some (.im (toD point_))] _ _)
  exact blk_ret L trivial hr_
noncomputable def m_multiply_extended_l1 (curve_ : O_EdwardsCurve) (start_ : (T4 Int Int Int Int)) (k1 : (T4 Int Int Int Int) → Res (T2 Int Int)) : List Int → (T4 Int Int Int Int) → Res (T2 Int Int)
  | [], s => k1 s
  | x439 :: r1, result_ =>   (fun (bit_ : Int) => ((((Res.ok curve_)).bind fun a441 => (((Res.ok result_)).bind fun a443 => (((Res.ok result_)).bind fun a445 => (Res.ok ()).bind fun a446 => Res.ok (a445, a446)).bind fun a444 => Res.ok (a443, a444)).bind fun a442 => Res.ok (a441, a442)).bind fun p440 => m_add_extended p440.1 p440.2.1 p440.2.2.1).bind fun (result_ : (T4 Int Int Int Int)) =>   (((Res.ok bit_)).bind fun (t447 : Int) => ((Res.ok (1 : Int))).bind fun (t448 : Int) => Res.ok (decide (t447 = t448))).bind fun b => cond b   (((((Res.ok curve_)).bind fun a450 => (((Res.ok result_)).bind fun a452 => (((Res.ok start_)).bind fun a454 => (Res.ok ()).bind fun a455 => Res.ok (a454, a455)).bind fun a453 => Res.ok (a452, a453)).bind fun a451 => Res.ok (a450, a451)).bind fun p449 => m_add_extended p449.1 p449.2.1 p449.2.2.1).bind fun (result_ : (T4 Int Int Int Int)) =>   m_multiply_extended_l1 curve_ start_ k1 r1 result_)   (m_multiply_extended_l1 curve_ start_ k1 r1 result_)) x439
noncomputable def m_multiply_extended_k2 (curve_ : O_EdwardsCurve) : (T4 Int Int Int Int) → Res (T2 Int Int) := fun result_ =>   (((Res.ok curve_)).bind fun a457 => (((Res.ok result_)).bind fun a459 => (Res.ok ()).bind fun a460 => Res.ok (a459, a460)).bind fun a458 => Res.ok (a457, a458)).bind fun p456 => m_from_extended p456.1 p456.2.1
noncomputable def m_multiply_extended (curve_ : O_EdwardsCurve) (factor_ : Int) (point_ : (T2 Int Int)) : Res (T2 Int Int) :=
  ((((Res.ok curve_)).bind fun a429 => (((((Res.ok factor_)).bind fun (t421 : Int) => ((Res.ok (0 : Int))).bind fun (t422 : Int) => Res.ok (decide (t421 < t422))).bind fun b427 => cond b427 (((Res.ok curve_)).bind fun (o423 : O_EdwardsCurve) => (((Res.ok point_)).bind fun a425 => (Res.ok ()).bind fun a426 => Res.ok (a425, a426)).bind fun p424 => m_EdwardsCurve_negate o423 p424.1) ((Res.ok point_))).bind fun a431 => (Res.ok ()).bind fun a432 => Res.ok (a431, a432)).bind fun a430 => Res.ok (a429, a430)).bind fun p428 => m_to_extended p428.1 p428.2.1).bind fun (start_ : (T4 Int Int Int Int)) =>   ((Res.ok k_NEUTRAL_FOUR)).bind fun (result_ : (T4 Int Int Int Int)) =>   ((((((Res.ok factor_)).bind fun a434 => (Res.ok ()).bind fun a435 => Res.ok (a434, a435)).bind fun p433 => Res.ok (Int.natAbs p433.1 : Int)).bind fun a437 => (Res.ok ()).bind fun a438 => Res.ok (a437, a438)).bind fun p436 => m_bits_from_top p436.1).bind fun (xs461 : List Int) => m_multiply_extended_l1 curve_ start_ (m_multiply_extended_k2 curve_) xs461 result_
theorem ok_multiply_extended {P : Program} {w : World} {K : PySem.W.Frag} {mg : Str → Option Value} {base : Heap} (T : Facts K mg) {fd : FuncData} (F : FnP K "multiply_extended" "multiply_extended" s_multiply_extended (He.ga K "multiply_extended") fd) :
    FnOk P w K mg base (L2.CX P w) 4 (He.ga K "multiply_extended") fd ["curve", "factor", "point"] (spM K (fun (p : O_EdwardsCurve × Int × (T2 Int Int) × Unit) => m_multiply_extended p.1 p.2.1 p.2.2.1)) := by
  obtain ⟨fd_EdwardsCurve_negate, F_EdwardsCurve_negate⟩ := T.d_EdwardsCurve_negate
  have G_EdwardsCurve_negate := ok_EdwardsCurve_negate (P := P) (w := w) (base := base) T F_EdwardsCurve_negate
  have b_EdwardsCurve_negate : Binds K fd_EdwardsCurve_negate ["self", "point"] [] := F_EdwardsCurve_negate.bindsN fun _ _ _ _ _ _ us hl => match us, hl with | [_, _], _ => rfl
  obtain ⟨fd_add_extended, F_add_extended⟩ := T.d_add_extended
  have G_add_extended := ok_add_extended (P := P) (w := w) (base := base) T F_add_extended
  have b_add_extended : Binds K fd_add_extended ["curve", "first", "second"] [] := F_add_extended.bindsN fun _ _ _ _ _ _ us hl => match us, hl with | [_, _, _], _ => rfl
  obtain ⟨fd_bits_from_top, F_bits_from_top⟩ := T.d_bits_from_top
  have G_bits_from_top := ok_bits_from_top (P := P) (w := w) (base := base) T F_bits_from_top
  have b_bits_from_top : Binds K fd_bits_from_top ["number"] [] := F_bits_from_top.bindsN fun _ _ _ _ _ _ us hl => match us, hl with | [_], _ => rfl
  obtain ⟨fd_from_extended, F_from_extended⟩ := T.d_from_extended
  have G_from_extended := ok_from_extended (P := P) (w := w) (base := base) T F_from_extended
  have b_from_extended : Binds K fd_from_extended ["curve", "four"] [] := F_from_extended.bindsN fun _ _ _ _ _ _ us hl => match us, hl with | [_, _], _ => rfl
  obtain ⟨fd_to_extended, F_to_extended⟩ := T.d_to_extended
  have G_to_extended := ok_to_extended (P := P) (w := w) (base := base) T F_to_extended
  have b_to_extended : Binds K fd_to_extended ["curve", "point"] [] := F_to_extended.bindsN fun _ _ _ _ _ _ us hl => match us, hl with | [_, _], _ => rfl
  refine fn_ok F sc_multiply_extended (fun y => rfl) (fun cdv A outer s H E hr => ?_)
  refine ⟨_, (pss_cons (ps_set (i := 3) sc_multiply_extended.nd rfl (Or.inl rfl) (pe_callS G_to_extended (hr.mono (by decide)) rfl T.g_to_extended F_to_extended.kp b_to_extended (fun σ => passAt (takes_of rfl rfl rfl rfl) σ) (pa_cons (pv 0) (pa_cons (pe_ifExp (pt_cmpR op_lt (pv 1) pe_int (nomark _)) (pe_methQ (pv 0) T.cl_EdwardsCurve T.mt_EdwardsCurve_negate G_EdwardsCurve_negate (hr.mono (by decide)) b_EdwardsCurve_negate (fun σ => passAt (takes_of rfl rfl rfl rfl) σ) (pa_cons (pv 2) pa_nil)) (pv 2)) pa_nil)))) (pss_cons (ps_set (i := 4) sc_multiply_extended.nd rfl (Or.inl rfl) (pe_glob (v := T.c_NEUTRAL_FOUR.v) rfl T.c_NEUTRAL_FOUR.m T.c_NEUTRAL_FOUR.r)) (pss_cons (ps_for (passes_of rfl) rfl (pi_list (pe_callS G_bits_from_top (hr.mono (by decide)) rfl T.g_bits_from_top F_bits_from_top.kp b_bits_from_top (fun σ => passAt (takes_of rfl rfl rfl rfl) σ) (pa_cons (pe_callB call_abs (by rfl) T.n_abs (by decide +kernel) (pa_cons (pv 1) pa_nil)) pa_nil))) (pg_name (i := 5) sc_multiply_extended.nd rfl (Or.inl rfl)) (pss_cons (ps_set (i := 4) sc_multiply_extended.nd rfl (Or.inl rfl) (pe_callS G_add_extended (hr.mono (by decide)) rfl T.g_add_extended F_add_extended.kp b_add_extended (fun σ => passAt (takes_of rfl rfl rfl rfl) σ) (pa_cons (pv 0) (pa_cons (pv 4) (pa_cons (pv 4) pa_nil))))) (pss_one (ps_if (pt_cmpR op_eq (pv 5) pe_int (nomark _)) (pss_one (ps_set (i := 4) sc_multiply_extended.nd rfl (Or.inl rfl) (pe_callS G_add_extended (hr.mono (by decide)) rfl T.g_add_extended F_add_extended.kp b_add_extended (fun σ => passAt (takes_of rfl rfl rfl rfl) σ) (pa_cons (pv 0) (pa_cons (pv 4) (pa_cons (pv 3) pa_nil)))))) pss_nil)))) (pss_one (ps_ret (pe_callS G_from_extended (hr.mono (by decide)) rfl T.g_from_extended F_from_extended.kp b_from_extended (fun σ => passAt (takes_of rfl rfl rfl rfl) σ) (pa_cons (pv 0) (pa_cons (pv 4) pa_nil)))))))), ?_⟩
  rintro ⟨curve_, factor_, point_, ⟨⟩⟩ F0 H0 Q KP L
  show Blk K F0 H0 KP _ [some (.im (toD curve_)), some (.im (toD factor_)), some (.im (toD point_)), none, none, none] (m_multiply_extended curve_ factor_ point_)
  unfold m_multiply_extended
  have hs_ := ((ev_call (f := (fun (p : O_EdwardsCurve × (T2 Int Int) × Unit) => m_to_extended p.1 p.2.1)) (ea_cons (ev_var (i := 0) (x := curve_) rfl) (ea_cons (ev_if (et_test (ev_op (opx_B0 (g := fun i j => decide (i < j))) mild_ok (ev_var (i := 1) (x := factor_) rfl) (ev_int (i := 0)))) (ev_meth (c := "EdwardsCurve") (m := "negate") (ks := ["prime", "a", "d"]) (f := (fun (p : O_EdwardsCurve × (T2 Int Int) × Unit) => m_EdwardsCurve_negate p.1 p.2.1)) (ev_var (i := 0) (x := curve_) rfl) (ea_cons (ev_var (i := 2) (x := point_) rfl) ea_nil) (by decide +kernel) (fun _ => ⟨_, rfl⟩)) (ev_var (i := 2) (x := point_) rfl)) ea_nil))) : EvX K (W0 E) [some (.im (toD curve_)), some (.im (toD factor_)), some (.im (toD point_)), none, none, none] _ _)
  refine blk_seq (blk_set (i := 3) L trivial hs_ fun start_ => ?_)
  show Blk _ _ _ _ _ [some (.im (toD curve_)), some (.im (toD factor_)), some (.im (toD point_)), some (.im (toD start_)), none, none] _
  try refine Blk.nx ?_
  have hs_ := ((ev_con T.c_NEUTRAL_FOUR) : EvX K (W0 E) [some (.im (toD curve_)), some (.im (toD factor_)), some (.im (toD point_)), some (.im (toD start_)), none, none] _ _)
  refine blk_seq (blk_set (i := 4) L trivial hs_ fun result_ => ?_)
  show Blk _ _ _ _ _ [some (.im (toD curve_)), some (.im (toD factor_)), some (.im (toD point_)), some (.im (toD start_)), some (.im (toD result_)), none] _
  try refine Blk.nx ?_
  have hi_ := ((ei_list (ev_call (f := (fun (p : Int × Unit) => m_bits_from_top p.1)) (ea_cons (ev_cb cx_abs (fun _ _ h => nomatch h) (ea_cons (ev_var (i := 1) (x := factor_) rfl) ea_nil)) ea_nil))) : EvI K (W0 E) [some (.im (toD curve_)), some (.im (toD factor_)), some (.im (toD point_)), some (.im (toD start_)), some (.im (toD result_)), none] _ _)
  refine blk_seq (blk_for (S := (T4 Int Int Int Int)) (m_multiply_extended_l1 curve_ start_ (m_multiply_extended_k2 curve_)) (m_multiply_extended_k2 curve_) (fun result_ => [some (.im (toD curve_)), some (.im (toD factor_)), some (.im (toD point_)), some (.im (toD start_)), some (.im (toD result_)), none]) result_ L trivial hi_ (fun _ => gx_name) (.same (.same (.same (.same (.same (.same .nil)))))) (fun _ => rfl) ?_ ?_)
  · intro F1 L1 hB1 x439 r1 s_ N_ hN1
    revert s_; intro result_
    show Blk _ _ _ _ _ [some (.im (toD curve_)), some (.im (toD factor_)), some (.im (toD point_)), some (.im (toD start_)), some (.im (toD result_)), some (.im (toD x439))] (m_multiply_extended_l1 curve_ start_ (m_multiply_extended_k2 curve_) (x439 :: r1) result_)
    rw [m_multiply_extended_l1]
    show Blk _ _ _ _ _ _ ((fun (bit_ : Int) => _) x439)
    generalize x439 = bit_
    show Blk _ _ _ _ _ [some (.im (toD curve_)), some (.im (toD factor_)), some (.im (toD point_)), some (.im (toD start_)), some (.im (toD result_)), some (.im (toD bit_))] _
    have hs_ := ((ev_call (f := (fun (p : O_EdwardsCurve × (T4 Int Int Int Int) × (T4 Int Int Int Int) × Unit) => m_add_extended p.1 p.2.1 p.2.2.1)) (ea_cons (ev_var (i := 0) (x := curve_) rfl) (ea_cons (ev_var (i := 4) (x := result_) rfl) (ea_cons (ev_var (i := 4) (x := result_) rfl) ea_nil)))) : EvX K (W0 E) [some (.im (toD curve_)), some (.im (toD factor_)), some (.im (toD point_)), some (.im (toD start_)), some (.im (toD result_)), some (.im (toD bit_))] _ _)
    refine blk_seq (blk_set (i := 4) L1 trivial hs_ fun result_ => ?_)
    show Blk _ _ _ _ _ [some (.im (toD curve_)), some (.im (toD factor_)), some (.im (toD point_)), some (.im (toD start_)), some (.im (toD result_)), some (.im (toD bit_))] _
    try refine Blk.nx ?_
    have ht_ := ((et_test (ev_op opx_eqI mild_ok (ev_var (i := 5) (x := bit_) rfl) (ev_int (i := 1)))) : EvT K (W0 E) [some (.im (toD curve_)), some (.im (toD factor_)), some (.im (toD point_)), some (.im (toD start_)), some (.im (toD result_)), some (.im (toD bit_))] _ _)
    refine blk_if2 L1 trivial ht_ ?_ ?_
    · have hs_ := ((ev_call (f := (fun (p : O_EdwardsCurve × (T4 Int Int Int Int) × (T4 Int Int Int Int) × Unit) => m_add_extended p.1 p.2.1 p.2.2.1)) (ea_cons (ev_var (i := 0) (x := curve_) rfl) (ea_cons (ev_var (i := 4) (x := result_) rfl) (ea_cons (ev_var (i := 3) (x := start_) rfl) ea_nil)))) : EvX K (W0 E) [some (.im (toD curve_)), some (.im (toD factor_)), some (.im (toD point_)), some (.im (toD start_)), some (.im (toD result_)), some (.im (toD bit_))] _ _)
      refine blk_set (i := 4) L1 trivial hs_ fun result_ => ?_
      show Blk _ _ _ _ _ [some (.im (toD curve_)), some (.im (toD factor_)), some (.im (toD point_)), some (.im (toD start_)), some (.im (toD result_)), some (.im (toD bit_))] _
      try refine Blk.nx ?_
      exact (hN1 result_).weak (.same (.same (.same (.same (.same (.drop .nil))))))
    · refine blk_nil ?_
      try refine Blk.nx ?_
      exact (hN1 result_).weak (.same (.same (.same (.same (.same (.drop .nil))))))
  · intro result_
    show Blk _ _ _ _ _ [some (.im (toD curve_)), some (.im (toD factor_)), some (.im (toD point_)), some (.im (toD start_)), some (.im (toD result_)), none] ((m_multiply_extended_k2 curve_) result_)
    unfold m_multiply_extended_k2
    try refine Blk.nx ?_
    have hr_ := ((ev_call (f := (fun (p : O_EdwardsCurve × (T4 Int Int Int Int) × Unit) => m_from_extended p.1 p.2.1)) (ea_cons (ev_var (i := 0) (x := curve_) rfl) (ea_cons (ev_var (i := 4) (x := result_) rfl) ea_nil))) : EvX K (W0 E) [some (.im (toD curve_)), some (.im (toD factor_)), some (.im (toD point_)), some (.im (toD start_)), some (.im (toD result_)), none] _ _)
    exact blk_ret L trivial hr_
noncomputable def m_EdwardsCurve_init (prime_ : Int) (a_ : Int) (d_ : Int) : Res O_EdwardsCurve :=
  ((((Res.ok prime_)).bind fun (t462 : Int) => ((Res.ok (3 : Int))).bind fun (t463 : Int) => Res.ok (decide (t462 < t463))).bind fun b468 => cond b468 (Res.ok true) ((((Res.ok prime_)).bind fun (t464 : Int) => ((Res.ok (2 : Int))).bind fun (t465 : Int) => Res.ok (t464 % t465)).bind fun (t466 : Int) => ((Res.ok (0 : Int))).bind fun (t467 : Int) => Res.ok (decide (t466 = t467)))).bind fun b => cond b   (Res.exc "OutOfRange")   ((((((Res.ok a_)).bind fun a470 => (((Res.ok prime_)).bind fun a472 => (Res.ok ()).bind fun a473 => Res.ok (a472, a473)).bind fun a471 => Res.ok (a470, a471)).bind fun p469 => m_square_class p469.1 p469.2.1).bind fun (t474 : Int) => ((Res.ok (1 : Int))).bind fun (t475 : Int) => Res.ok (!decide (t474 = t475))).bind fun b => cond b   (Res.exc "Refused")   ((((((Res.ok d_)).bind fun a477 => (((Res.ok prime_)).bind fun a479 => (Res.ok ()).bind fun a480 => Res.ok (a479, a480)).bind fun a478 => Res.ok (a477, a478)).bind fun p476 => m_square_class p476.1 p476.2.1).bind fun (t482 : Int) => (((Res.ok (1 : Int))).bind fun (t481 : Int) => Res.ok (-t481)).bind fun (t483 : Int) => Res.ok (!decide (t482 = t483))).bind fun b => cond b   (Res.exc "Refused")   (((Res.ok prime_)).bind fun (sf_prime : Int) =>   (((Res.ok a_)).bind fun (t484 : Int) => ((Res.ok prime_)).bind fun (t485 : Int) => Res.need (0 < t485) (Res.ok (t484 % t485))).bind fun (sf_a : Int) =>   (((Res.ok d_)).bind fun (t486 : Int) => ((Res.ok prime_)).bind fun (t487 : Int) => Res.need (0 < t487) (Res.ok (t486 % t487))).bind fun (sf_d : Int) =>   Res.ok (O_EdwardsCurve.mk sf_prime sf_a sf_d))))
theorem ok_EdwardsCurve_init {P : Program} {w : World} {K : PySem.W.Frag} {mg : Str → Option Value} {base : Heap} (T : Facts K mg) {fd : FuncData} (F : FnP K "__init__" "EdwardsCurve.__init__" s_EdwardsCurve_init (He.ma K (He.ga K "EdwardsCurve") "__init__") fd) :
    FnOk P w K mg base (L2.CX P w) 3 (He.ma K (He.ga K "EdwardsCurve") "__init__") fd ["self", "prime", "a", "d"] (spI K "EdwardsCurve" (fun (p : Int × Int × Int × Unit) => m_EdwardsCurve_init p.1 p.2.1 p.2.2.1)) := by
  obtain ⟨fd_square_class, F_square_class⟩ := T.d_square_class
  have G_square_class := ok_square_class (P := P) (w := w) (base := base) T F_square_class
  have b_square_class : Binds K fd_square_class ["a", "prime"] [] := F_square_class.bindsN fun _ _ _ _ _ _ us hl => match us, hl with | [_, _], _ => rfl
  refine fn_okI (c := "EdwardsCurve") F sc_EdwardsCurve_init (fun y => rfl) (fun cdv A outer s H E hr => ?_)
  refine ⟨_, (pss_cons (ps_if (PW.pt (pw_or (pt_cmpR op_lt (pv 1) pe_int (nomark _)) (pw_or1 (pt_cmpR op_eq (pe_op op_mod (pv 1) pe_int) pe_int (nomark _))))) (pss_one (ps_raise rfl (takes_of rfl rfl rfl rfl) (pmk_own PySem.F.excBase_ValueError T.x_OutOfRange T.g_OutOfRange T.k_OutOfRange (raises_own T.b_OutOfRange T.t_OutOfRange) rfl))) pss_nil) (pss_cons (ps_if (pt_cmpR op_ne (pe_callS G_square_class (hr.mono (by decide)) rfl T.g_square_class F_square_class.kp b_square_class (fun σ => passAt (takes_of rfl rfl rfl rfl) σ) (pa_cons (pv 2) (pa_cons (pv 1) pa_nil))) pe_int (nomark _)) (pss_one (ps_raise rfl (takes_of rfl rfl rfl rfl) (pmk_own PySem.F.excBase_ValueError T.x_Refused T.g_Refused T.k_Refused (raises_own T.b_Refused T.t_Refused) rfl))) pss_nil) (pss_cons (ps_if (pt_cmpR op_ne (pe_callS G_square_class (hr.mono (by decide)) rfl T.g_square_class F_square_class.kp b_square_class (fun σ => passAt (takes_of rfl rfl rfl rfl) σ) (pa_cons (pv 3) (pa_cons (pv 1) pa_nil))) (pe_un un_neg pe_int) (nomark _)) (pss_one (ps_raise rfl (takes_of rfl rfl rfl rfl) (pmk_own PySem.F.excBase_ValueError T.x_Refused T.g_Refused T.k_Refused (raises_own T.b_Refused T.t_Refused) rfl))) pss_nil) (pss_cons (ps_fld (pv 0) (pv 1) rfl) (pss_cons (ps_fld (pv 0) (pe_op op_mod (pv 2) (pv 1)) rfl) (pss_one (ps_fld (pv 0) (pe_op op_mod (pv 3) (pv 1)) rfl))))))), ?_⟩
  rintro ⟨prime_, a_, d_, ⟨⟩⟩ p_ F0 H0 Q KP L
  show Blk K F0 H0 KP _ [some (.oi (some p_) "EdwardsCurve" [] []), some (.im (toD prime_)), some (.im (toD a_)), some (.im (toD d_))] (m_EdwardsCurve_init prime_ a_ d_)
  unfold m_EdwardsCurve_init
  have ht_ := ((et_or (et_test (ev_op (opx_B0 (g := fun i j => decide (i < j))) mild_ok (ev_var (i := 1) (x := prime_) rfl) (ev_int (i := 3)))) (et_test (ev_op opx_eqI mild_ok (ev_opI (C := (fun _ j => 0 < j)) (g := fun i j => i % j) (fun x y _ h => by cases h; (show (0 : Int) < _; decide)) (ev_var (i := 1) (x := prime_) rfl) (ev_int (i := 2))) (ev_int (i := 0))))) : EvT K (W0 E) [some (.oi (some p_) "EdwardsCurve" [] []), some (.im (toD prime_)), some (.im (toD a_)), some (.im (toD d_))] _ _)
  refine blk_seq (blk_if2 L trivial ht_ ?_ ?_)
  · exact blk_raise L trivial
  · refine blk_nil ?_
    try refine Blk.nx ?_
    have ht_ := ((et_test (ev_op opx_neI mild_ok (ev_call (f := (fun (p : Int × Int × Unit) => m_square_class p.1 p.2.1)) (ea_cons (ev_var (i := 2) (x := a_) rfl) (ea_cons (ev_var (i := 1) (x := prime_) rfl) ea_nil))) (ev_int (i := 1)))) : EvT K (W0 E) [some (.oi (some p_) "EdwardsCurve" [] []), some (.im (toD prime_)), some (.im (toD a_)), some (.im (toD d_))] _ _)
    refine blk_seq (blk_if2 L trivial ht_ ?_ ?_)
    · exact blk_raise L trivial
    · refine blk_nil ?_
      try refine Blk.nx ?_
      have ht_ := ((et_test (ev_op opx_neI mild_ok (ev_call (f := (fun (p : Int × Int × Unit) => m_square_class p.1 p.2.1)) (ea_cons (ev_var (i := 3) (x := d_) rfl) (ea_cons (ev_var (i := 1) (x := prime_) rfl) ea_nil))) (ev_un (g := fun i => -i) (ev_int (i := 1))))) : EvT K (W0 E) [some (.oi (some p_) "EdwardsCurve" [] []), some (.im (toD prime_)), some (.im (toD a_)), some (.im (toD d_))] _ _)
      refine blk_seq (blk_if2 L trivial ht_ ?_ ?_)
      · exact blk_raise L trivial
      · refine blk_nil ?_
        try refine Blk.nx ?_
        have hs_ := ((ev_var (i := 1) (x := prime_) rfl) : EvX K (W0 E) [some (.oi (some p_) "EdwardsCurve" [] []), some (.im (toD prime_)), some (.im (toD a_)), some (.im (toD d_))] _ _)
        refine blk_seq (blk_fldN (i := 0) L trivial hs_ rfl T.cl_EdwardsCurve T.nf_EdwardsCurve_prime (by decide +kernel) (by decide) fun sf_prime => ?_)
        show Blk _ _ _ _ _ [some (.oi (some p_) "EdwardsCurve" ["prime"] [toD sf_prime]), some (.im (toD prime_)), some (.im (toD a_)), some (.im (toD d_))] _
        try refine Blk.nx ?_
        have hs_ := ((ev_op (opx_I (C := (fun _ j => 0 < j)) (g := fun i j => i % j)) mild_need (ev_var (i := 2) (x := a_) rfl) (ev_var (i := 1) (x := prime_) rfl)) : EvX K (W0 E) [some (.oi (some p_) "EdwardsCurve" ["prime"] [toD sf_prime]), some (.im (toD prime_)), some (.im (toD a_)), some (.im (toD d_))] _ _)
        refine blk_seq (blk_fldN (i := 0) L trivial hs_ rfl T.cl_EdwardsCurve T.nf_EdwardsCurve_a (by decide +kernel) (by decide) fun sf_a => ?_)
        show Blk _ _ _ _ _ [some (.oi (some p_) "EdwardsCurve" ["prime", "a"] [toD sf_prime, toD sf_a]), some (.im (toD prime_)), some (.im (toD a_)), some (.im (toD d_))] _
        try refine Blk.nx ?_
        have hs_ := ((ev_op (opx_I (C := (fun _ j => 0 < j)) (g := fun i j => i % j)) mild_need (ev_var (i := 3) (x := d_) rfl) (ev_var (i := 1) (x := prime_) rfl)) : EvX K (W0 E) [some (.oi (some p_) "EdwardsCurve" ["prime", "a"] [toD sf_prime, toD sf_a]), some (.im (toD prime_)), some (.im (toD a_)), some (.im (toD d_))] _ _)
        refine blk_fldN (i := 0) L trivial hs_ rfl T.cl_EdwardsCurve T.nf_EdwardsCurve_d (by decide +kernel) (by decide) fun sf_d => ?_
        show Blk _ _ _ _ _ [some (.oi (some p_) "EdwardsCurve" ["prime", "a", "d"] [toD sf_prime, toD sf_a, toD sf_d]), some (.im (toD prime_)), some (.im (toD a_)), some (.im (toD d_))] _
        try refine Blk.nx ?_
        exact blk_finI (i := 0) L rfl rfl
noncomputable def m_EdwardsCurve_lift (self_ : O_EdwardsCurve) (y_ : Int) (odd_ : Bool) : Res (Option (T2 Int Int)) :=
  ((((((Res.ok y_)).bind fun (x : Int) => Res.ok (toD x)).bind fun a490 => ((((Res.ok self_)).bind fun (t488 : O_EdwardsCurve) => Res.ok t488.f_prime).bind fun a492 => (Res.ok ()).bind fun a493 => Res.ok (a492, a493)).bind fun a491 => Res.ok (a490, a491)).bind fun p489 => m_is_residue p489.1 p489.2.1).bind fun (t494 : Bool) => Res.ok (!t494)).bind fun b => cond b   ((Res.ok (none : (Option (T2 Int Int)))))   ((((((Res.ok self_)).bind fun (t495 : O_EdwardsCurve) => Res.ok t495.f_d).bind fun (t498 : Int) => (((Res.ok y_)).bind fun (t496 : Int) => ((Res.ok (2 : Int))).bind fun (t497 : Int) => Res.need (CPowX t496 t497) (Res.ok (t496 ^ t497.toNat))).bind fun (t499 : Int) => Res.need (CMulX t498 t499) (Res.ok (t498 * t499))).bind fun (t501 : Int) => (((Res.ok self_)).bind fun (t500 : O_EdwardsCurve) => Res.ok t500.f_a).bind fun (t502 : Int) => Res.ok (t501 - t502)).bind fun (divisor_ : Int) =>   (((((Res.ok y_)).bind fun (t503 : Int) => ((Res.ok (2 : Int))).bind fun (t504 : Int) => Res.need (CPowX t503 t504) (Res.ok (t503 ^ t504.toNat))).bind fun (t505 : Int) => ((Res.ok (1 : Int))).bind fun (t506 : Int) => Res.ok (t505 - t506)).bind fun (t513 : Int) => ((((Res.ok divisor_)).bind fun a509 => ((((Res.ok self_)).bind fun (t507 : O_EdwardsCurve) => Res.ok t507.f_prime).bind fun a511 => (Res.ok ()).bind fun a512 => Res.ok (a511, a512)).bind fun a510 => Res.ok (a509, a510)).bind fun p508 => m_inverse p508.1 p508.2.1).bind fun (t514 : Int) => Res.need (CMulX t513 t514) (Res.ok (t513 * t514))).bind fun (x_square_ : Int) =>   ((((Res.ok x_square_)).bind fun a517 => ((((Res.ok self_)).bind fun (t515 : O_EdwardsCurve) => Res.ok t515.f_prime).bind fun a519 => (((Res.ok odd_)).bind fun a521 => (Res.ok ()).bind fun a522 => Res.ok (a521, a522)).bind fun a520 => Res.ok (a519, a520)).bind fun a518 => Res.ok (a517, a518)).bind fun p516 => m_root_with_parity p516.1 p516.2.1 p516.2.2.1).bind fun (x_ : (Option Int)) =>   (((Res.ok x_)).bind fun (t523 : (Option Int)) => ((Res.ok ())).bind fun (t524 : Unit) => Res.ok (toD t523).isNon).bind fun b530 => cond b530 ((Res.ok (none : (Option (T2 Int Int))))) ((((((Res.ok x_)).bind optGet).bind fun a526 => (((Res.ok y_)).bind fun a528 => (Res.ok ()).bind fun a529 => Res.ok (a528, a529)).bind fun a527 => Res.ok (a526, a527)).bind fun p525 => Res.ok (T2.mk p525.1 p525.2.1)).bind fun (x : (T2 Int Int)) => Res.ok (some x)))
theorem ok_EdwardsCurve_lift {P : Program} {w : World} {K : PySem.W.Frag} {mg : Str → Option Value} {base : Heap} (T : Facts K mg) {fd : FuncData} (F : FnP K "lift" "EdwardsCurve.lift" s_EdwardsCurve_lift (He.ma K (He.ga K "EdwardsCurve") "lift") fd) :
    FnOk P w K mg base (L2.CX P w) 7 (He.ma K (He.ga K "EdwardsCurve") "lift") fd ["self", "y", "odd"] (spM K (fun (p : O_EdwardsCurve × Int × Bool × Unit) => m_EdwardsCurve_lift p.1 p.2.1 p.2.2.1)) := by
  obtain ⟨fd_inverse, F_inverse⟩ := T.d_inverse
  have G_inverse := ok_inverse (P := P) (w := w) (base := base) T F_inverse
  have b_inverse : Binds K fd_inverse ["a", "modulus"] [] := F_inverse.bindsN fun _ _ _ _ _ _ us hl => match us, hl with | [_, _], _ => rfl
  obtain ⟨fd_is_residue, F_is_residue⟩ := T.d_is_residue
  have G_is_residue := ok_is_residue (P := P) (w := w) (base := base) T F_is_residue
  have b_is_residue : Binds K fd_is_residue ["value", "modulus"] [] := F_is_residue.bindsN fun _ _ _ _ _ _ us hl => match us, hl with | [_, _], _ => rfl
  obtain ⟨fd_root_with_parity, F_root_with_parity⟩ := T.d_root_with_parity
  have G_root_with_parity := ok_root_with_parity (P := P) (w := w) (base := base) T F_root_with_parity
  have b_root_with_parity : Binds K fd_root_with_parity ["a", "prime", "odd"] [] := F_root_with_parity.bindsN fun _ _ _ _ _ _ us hl => match us, hl with | [_, _, _], _ => rfl
  refine fn_ok F sc_EdwardsCurve_lift (fun y => rfl) (fun cdv A outer s H E hr => ?_)
  refine ⟨_, (pss_cons (ps_if (pt_not (pt_val (pe_callS G_is_residue (hr.mono (by decide)) rfl T.g_is_residue F_is_residue.kp b_is_residue (fun σ => passAt (takes_of rfl rfl rfl rfl) σ) (pa_cons (pv 1) (pa_cons (pe_fld (pv 0) rfl) pa_nil))))) (pss_one (ps_ret pe_non)) pss_nil) (pss_cons (ps_set (i := 3) sc_EdwardsCurve_lift.nd rfl (Or.inl rfl) (pe_op op_sub (pe_op op_mulX (pe_fld (pv 0) rfl) (pe_op op_powX (pv 1) pe_int)) (pe_fld (pv 0) rfl))) (pss_cons (ps_set (i := 4) sc_EdwardsCurve_lift.nd rfl (Or.inl rfl) (pe_op op_mulX (pe_op op_sub (pe_op op_powX (pv 1) pe_int) pe_int) (pe_callS G_inverse (hr.mono (by decide)) rfl T.g_inverse F_inverse.kp b_inverse (fun σ => passAt (takes_of rfl rfl rfl rfl) σ) (pa_cons (pv 3) (pa_cons (pe_fld (pv 0) rfl) pa_nil))))) (pss_cons (ps_set (i := 5) sc_EdwardsCurve_lift.nd rfl (Or.inl rfl) (pe_callS G_root_with_parity (hr.mono (by decide)) rfl T.g_root_with_parity F_root_with_parity.kp b_root_with_parity (fun σ => passAt (takes_of rfl rfl rfl rfl) σ) (pa_cons (pv 4) (pa_cons (pe_fld (pv 0) rfl) (pa_cons (pv 2) pa_nil))))) (pss_one (ps_ret (pe_ifExp (pt_cmpR op_isN (pv 5) pe_non (nomark _)) pe_non (pe_tup (pa_cons (pv 5) (pa_cons (pv 1) pa_nil)))))))))), ?_⟩
  rintro ⟨self_, y_, odd_, ⟨⟩⟩ F0 H0 Q KP L
  show Blk K F0 H0 KP _ [some (.im (toD self_)), some (.im (toD y_)), some (.im (toD odd_)), none, none, none] (m_EdwardsCurve_lift self_ y_ odd_)
  unfold m_EdwardsCurve_lift
  have ht_ := ((et_not (et_B (ev_call (f := (fun (p : D × Int × Unit) => m_is_residue p.1 p.2.1)) (ea_cons (ev_as (ev_var (i := 1) (x := y_) rfl) toD (fun _ => rfl) rfl) (ea_cons (ev_fld (g := fun (x : O_EdwardsCurve) => x.f_prime) (c := "EdwardsCurve") (ks := ["prime", "a", "d"]) (j := 0) (ev_var (i := 0) (x := self_) rfl) T.cl_EdwardsCurve T.nf_EdwardsCurve_prime (by decide +kernel) (fun _ => ⟨_, rfl, rfl⟩)) ea_nil))))) : EvT K (W0 E) [some (.im (toD self_)), some (.im (toD y_)), some (.im (toD odd_)), none, none, none] _ _)
  refine blk_seq (blk_if2 L trivial ht_ ?_ ?_)
  · have hr_ := ((ev_noneO (α := (T2 Int Int))) : EvX K (W0 E) [some (.im (toD self_)), some (.im (toD y_)), some (.im (toD odd_)), none, none, none] _ _)
    exact blk_ret L trivial hr_
  · refine blk_nil ?_
    try refine Blk.nx ?_
    have hs_ := ((ev_op (opx_I0 (g := fun i j => i - j)) mild_ok (ev_op (opx_I (C := CMulX) (g := fun i j => i * j)) mild_need (ev_fld (g := fun (x : O_EdwardsCurve) => x.f_d) (c := "EdwardsCurve") (ks := ["prime", "a", "d"]) (j := 2) (ev_var (i := 0) (x := self_) rfl) T.cl_EdwardsCurve T.nf_EdwardsCurve_d (by decide +kernel) (fun _ => ⟨_, rfl, rfl⟩)) (ev_op (opx_I (C := CPowX) (g := fun i j => i ^ j.toNat)) mild_need (ev_var (i := 1) (x := y_) rfl) (ev_int (i := 2)))) (ev_fld (g := fun (x : O_EdwardsCurve) => x.f_a) (c := "EdwardsCurve") (ks := ["prime", "a", "d"]) (j := 1) (ev_var (i := 0) (x := self_) rfl) T.cl_EdwardsCurve T.nf_EdwardsCurve_a (by decide +kernel) (fun _ => ⟨_, rfl, rfl⟩))) : EvX K (W0 E) [some (.im (toD self_)), some (.im (toD y_)), some (.im (toD odd_)), none, none, none] _ _)
    refine blk_seq (blk_set (i := 3) L trivial hs_ fun divisor_ => ?_)
    show Blk _ _ _ _ _ [some (.im (toD self_)), some (.im (toD y_)), some (.im (toD odd_)), some (.im (toD divisor_)), none, none] _
    try refine Blk.nx ?_
    have hs_ := ((ev_op (opx_I (C := CMulX) (g := fun i j => i * j)) mild_need (ev_op (opx_I0 (g := fun i j => i - j)) mild_ok (ev_op (opx_I (C := CPowX) (g := fun i j => i ^ j.toNat)) mild_need (ev_var (i := 1) (x := y_) rfl) (ev_int (i := 2))) (ev_int (i := 1))) (ev_call (f := (fun (p : Int × Int × Unit) => m_inverse p.1 p.2.1)) (ea_cons (ev_var (i := 3) (x := divisor_) rfl) (ea_cons (ev_fld (g := fun (x : O_EdwardsCurve) => x.f_prime) (c := "EdwardsCurve") (ks := ["prime", "a", "d"]) (j := 0) (ev_var (i := 0) (x := self_) rfl) T.cl_EdwardsCurve T.nf_EdwardsCurve_prime (by decide +kernel) (fun _ => ⟨_, rfl, rfl⟩)) ea_nil)))) : EvX K (W0 E) [some (.im (toD self_)), some (.im (toD y_)), some (.im (toD odd_)), some (.im (toD divisor_)), none, none] _ _)
    refine blk_seq (blk_set (i := 4) L trivial hs_ fun x_square_ => ?_)
    show Blk _ _ _ _ _ [some (.im (toD self_)), some (.im (toD y_)), some (.im (toD odd_)), some (.im (toD divisor_)), some (.im (toD x_square_)), none] _
    try refine Blk.nx ?_
    have hs_ := ((ev_call (f := (fun (p : Int × Int × Bool × Unit) => m_root_with_parity p.1 p.2.1 p.2.2.1)) (ea_cons (ev_var (i := 4) (x := x_square_) rfl) (ea_cons (ev_fld (g := fun (x : O_EdwardsCurve) => x.f_prime) (c := "EdwardsCurve") (ks := ["prime", "a", "d"]) (j := 0) (ev_var (i := 0) (x := self_) rfl) T.cl_EdwardsCurve T.nf_EdwardsCurve_prime (by decide +kernel) (fun _ => ⟨_, rfl, rfl⟩)) (ea_cons (ev_var (i := 2) (x := odd_) rfl) ea_nil)))) : EvX K (W0 E) [some (.im (toD self_)), some (.im (toD y_)), some (.im (toD odd_)), some (.im (toD divisor_)), some (.im (toD x_square_)), none] _ _)
    refine blk_seq (blk_set (i := 5) L trivial hs_ fun x_ => ?_)
    show Blk _ _ _ _ _ [some (.im (toD self_)), some (.im (toD y_)), some (.im (toD odd_)), some (.im (toD divisor_)), some (.im (toD x_square_)), some (.im (toD x_))] _
    try refine Blk.nx ?_
    have hr_ := ((ev_if (et_test (ev_op opx_isN mild_ok (ev_var (i := 5) (x := x_) rfl) ev_non)) (ev_noneO (α := (T2 Int Int))) (ev_as (ev_tup (f := (fun y => T2.mk y.1 y.2.1)) (ea_cons (ev_castG (f := optGet) optGet_ok optGet_x (ev_var (i := 5) (x := x_) rfl)) (ea_cons (ev_var (i := 1) (x := y_) rfl) ea_nil)) (fun _ => rfl) (fun _ => by show 2 ≤ 100000; decide)) some (fun _ => rfl) rfl)) : EvX K (W0 E) [some (.im (toD self_)), some (.im (toD y_)), some (.im (toD odd_)), some (.im (toD divisor_)), some (.im (toD x_square_)), some (.im (toD x_))] _ _)
    exact blk_ret L trivial hr_
noncomputable def m_u_law_cell (script_ : (List Int)) (k_ : Int) : Res Int :=
  (((Res.ok k_)).bind fun (t534 : Int) => ((((Res.ok script_)).bind fun a532 => (Res.ok ()).bind fun a533 => Res.ok (a532, a533)).bind fun p531 => Res.ok ((p531.1).length : Int)).bind fun (t535 : Int) => Res.ok (decide (t534 < t535))).bind fun b => cond b   (((((Res.ok script_)).bind fun (t536 : (List Int)) => ((Res.ok k_)).bind fun (t537 : Int) => idx t536 t537).bind fun a539 => (Res.ok ()).bind fun a540 => Res.ok (a539, a540)).bind fun p538 => Res.ok p538.1)   ((Res.ok (0 : Int)))
theorem ok_u_law_cell {P : Program} {w : World} {K : PySem.W.Frag} {mg : Str → Option Value} {base : Heap} (T : Facts K mg) {fd : FuncData} (F : FnP K "_law_cell" "_law_cell" s_u_law_cell (He.ga K "_law_cell") fd) :
    FnOk P w K mg base (L2.CX P w) 1 (He.ga K "_law_cell") fd ["script", "k"] (spM K (fun (p : (List Int) × Int × Unit) => m_u_law_cell p.1 p.2.1)) := by
  refine fn_ok F sc_u_law_cell (fun y => rfl) (fun cdv A outer s H E hr => ?_)
  refine ⟨_, (pss_cons (ps_if (pt_cmpR op_lt (pv 1) (pe_callB (cr_len rfl) (by rfl) T.n_len (by decide +kernel) (pa_cons (pv 0) pa_nil)) (nomark _)) (pss_one (ps_ret (pe_callTy call_int1 (by rfl) T.n_int (by decide +kernel) (pa_cons (pe_ix (cr_ixL rfl) (pv 0) (pv 1) (fun _ _ => rfl)) pa_nil)))) pss_nil) (pss_one (ps_ret pe_int))), ?_⟩
  rintro ⟨script_, k_, ⟨⟩⟩ F0 H0 Q KP L
  show Blk K F0 H0 KP _ [some (.im (toD script_)), some (.im (toD k_))] (m_u_law_cell script_ k_)
  unfold m_u_law_cell
  have ht_ := ((et_test (ev_op (opx_B0 (g := fun i j => decide (i < j))) mild_ok (ev_var (i := 1) (x := k_) rfl) (ev_cb cx_len (fun _ _ h => nomatch h) (ea_cons (ev_var (i := 0) (x := script_) rfl) ea_nil)))) : EvT K (W0 E) [some (.im (toD script_)), some (.im (toD k_))] _ _)
  refine blk_seq (blk_if2 L trivial ht_ ?_ ?_)
  · have hr_ := ((ev_cb cx_int (fun _ _ h => nomatch h) (ea_cons (ev_op opx_ixL (fun x y => idx_mild x y) (ev_var (i := 0) (x := script_) rfl) (ev_var (i := 1) (x := k_) rfl)) ea_nil)) : EvX K (W0 E) [some (.im (toD script_)), some (.im (toD k_))] _ _)
    exact blk_ret L trivial hr_
  · refine blk_nil ?_
    try refine Blk.nx ?_
    have hr_ := ((ev_int (i := 0)) : EvX K (W0 E) [some (.im (toD script_)), some (.im (toD k_))] _ _)
    exact blk_ret L trivial hr_
noncomputable def m_u_law_is_integer (actual_ : D) : Res Bool :=
  (((Res.ok actual_)).bind fun (t541 : D) => Res.need ((toD t541).plain = true) (Res.ok (isI "int" (toD t541)))).bind fun b544 => cond b544 ((((Res.ok actual_)).bind fun (t542 : D) => Res.need ((toD t542).plain = true) (Res.ok (isI "bool" (toD t542)))).bind fun (t543 : Bool) => Res.ok (!t543)) (Res.ok false)
theorem ok_u_law_is_integer {P : Program} {w : World} {K : PySem.W.Frag} {mg : Str → Option Value} {base : Heap} (T : Facts K mg) {fd : FuncData} (F : FnP K "_law_is_integer" "_law_is_integer" s_u_law_is_integer (He.ga K "_law_is_integer") fd) :
    FnOk P w K mg base (L2.CX P w) 1 (He.ga K "_law_is_integer") fd ["actual"] (spM K (fun (p : D × Unit) => m_u_law_is_integer p.1)) := by
  refine fn_ok F sc_u_law_is_integer (fun y => rfl) (fun cdv A outer s H E hr => ?_)
  refine ⟨_, (pss_one (ps_ret (pe_and (pe_callB call_isi (by rfl) T.n_isinstance (by decide +kernel) (pa_cons (pv 0) (pa_cons (pe_bltn (v := .ty "int") (by rfl) T.n_int (by decide +kernel) rfl) pa_nil))) (pe_one (pe_not (pe_callB call_isi (by rfl) T.n_isinstance (by decide +kernel) (pa_cons (pv 0) (pa_cons (pe_bltn (v := .ty "bool") (by rfl) T.n_bool (by decide +kernel) rfl) pa_nil)))))))), ?_⟩
  rintro ⟨actual_, ⟨⟩⟩ F0 H0 Q KP L
  show Blk K F0 H0 KP _ [some (.im (toD actual_))] (m_u_law_is_integer actual_)
  unfold m_u_law_is_integer
  have hr_ := ((ev_andV (ev_isi isi_int (ev_var (i := 0) (x := actual_) rfl)) (ev_notV (ev_isi isi_bool (ev_var (i := 0) (x := actual_) rfl)))) : EvX K (W0 E) [some (.im (toD actual_))] _ _)
  exact blk_ret L trivial hr_
noncomputable def m_u_law_is_prime_l2 (n_ : Int) (k2 : Int → Res Bool) : List Int → Int → Res Bool
  | [], s => k2 s
  | x555 :: r2, divisor_ =>   (fun (k_ : Int) => ((((Res.ok divisor_)).bind fun (t556 : Int) => ((Res.ok divisor_)).bind fun (t557 : Int) => Res.need (CMulX t556 t557) (Res.ok (t556 * t557))).bind fun (t558 : Int) => ((Res.ok n_)).bind fun (t559 : Int) => Res.ok (decide (t559 < t558))).bind fun b => cond b   ((Res.ok true))   (((((Res.ok n_)).bind fun (t560 : Int) => ((Res.ok divisor_)).bind fun (t561 : Int) => Res.need (0 < t561) (Res.ok (t560 % t561))).bind fun (t562 : Int) => ((Res.ok (0 : Int))).bind fun (t563 : Int) => Res.ok (decide (t562 = t563))).bind fun b => cond b   ((Res.ok false))   ((((Res.ok divisor_)).bind fun (t564 : Int) => ((Res.ok (2 : Int))).bind fun (t565 : Int) => Res.ok (t564 + t565)).bind fun (divisor_ : Int) =>   m_u_law_is_prime_l2 n_ k2 r2 divisor_))) x555
noncomputable def m_u_law_is_prime_k5 : Int → Res Bool := fun divisor_ =>   (Res.ok true)
noncomputable def m_u_law_is_prime (n_ : Int) : Res Bool :=
  ((Res.ok (3 : Int))).bind fun (divisor_ : Int) =>   (((((Res.ok n_)).bind fun (t545 : Int) => ((Res.ok (2 : Int))).bind fun (t546 : Int) => Res.ok (t545 % t546)).bind fun (t547 : Int) => ((Res.ok (0 : Int))).bind fun (t548 : Int) => Res.ok (decide (t547 = t548))).bind fun b551 => cond b551 (Res.ok true) (((Res.ok n_)).bind fun (t549 : Int) => ((Res.ok (3 : Int))).bind fun (t550 : Int) => Res.ok (decide (t549 < t550)))).bind fun b => cond b   (((Res.ok n_)).bind fun (t552 : Int) => ((Res.ok (2 : Int))).bind fun (t553 : Int) => Res.ok (decide (t552 = t553)))   ((((Res.ok (1024 : Int))).bind fun (t554 : Int) => Res.need (okRange t554) (Res.ok (pyRange 0 t554))).bind fun (xs566 : List Int) => m_u_law_is_prime_l2 n_ (m_u_law_is_prime_k5) xs566 divisor_)
theorem ok_u_law_is_prime {P : Program} {w : World} {K : PySem.W.Frag} {mg : Str → Option Value} {base : Heap} (T : Facts K mg) {fd : FuncData} (F : FnP K "_law_is_prime" "_law_is_prime" s_u_law_is_prime (He.ga K "_law_is_prime") fd) :
    FnOk P w K mg base (L2.CX P w) 1 (He.ga K "_law_is_prime") fd ["n"] (spM K (fun (p : Int × Unit) => m_u_law_is_prime p.1)) := by
  refine fn_ok F sc_u_law_is_prime (fun y => rfl) (fun cdv A outer s H E hr => ?_)
  refine ⟨_, (pss_cons (ps_set (i := 1) sc_u_law_is_prime.nd rfl (Or.inl rfl) pe_int) (pss_cons (ps_if (PW.pt (pw_or (pt_cmpR op_eq (pe_op op_mod (pv 0) pe_int) pe_int (nomark _)) (pw_or1 (pt_cmpR op_lt (pv 0) pe_int (nomark _))))) (pss_one (ps_ret (pe_cmpR op_eq (pv 0) pe_int (nomark _)))) pss_nil) (pss_cons (ps_for (passes_of rfl) rfl (pi_range1 rfl T.n_range (pa_cons pe_int pa_nil)) (pg_name (i := 2) sc_u_law_is_prime.nd rfl (Or.inl rfl)) (pss_cons (ps_if (pt_cmpR op_gt (pe_op op_mulX (pv 1) (pv 1)) (pv 0) (nomark _)) (pss_one (ps_ret pe_bl)) pss_nil) (pss_cons (ps_if (pt_cmpR op_eq (pe_op op_mod (pv 0) (pv 1)) pe_int (nomark _)) (pss_one (ps_ret pe_bl)) pss_nil) (pss_one (ps_set (i := 1) sc_u_law_is_prime.nd rfl (Or.inl rfl) (pe_op op_add (pv 1) pe_int)))))) (pss_one (ps_ret pe_bl))))), ?_⟩
  rintro ⟨n_, ⟨⟩⟩ F0 H0 Q KP L
  show Blk K F0 H0 KP _ [some (.im (toD n_)), none, none] (m_u_law_is_prime n_)
  unfold m_u_law_is_prime
  have hs_ := ((ev_int (i := 3)) : EvX K (W0 E) [some (.im (toD n_)), none, none] _ _)
  refine blk_seq (blk_set (i := 1) L trivial hs_ fun divisor_ => ?_)
  show Blk _ _ _ _ _ [some (.im (toD n_)), some (.im (toD divisor_)), none] _
  try refine Blk.nx ?_
  have ht_ := ((et_or (et_test (ev_op opx_eqI mild_ok (ev_opI (C := (fun _ j => 0 < j)) (g := fun i j => i % j) (fun x y _ h => by cases h; (show (0 : Int) < _; decide)) (ev_var (i := 0) (x := n_) rfl) (ev_int (i := 2))) (ev_int (i := 0)))) (et_test (ev_op (opx_B0 (g := fun i j => decide (i < j))) mild_ok (ev_var (i := 0) (x := n_) rfl) (ev_int (i := 3))))) : EvT K (W0 E) [some (.im (toD n_)), some (.im (toD divisor_)), none] _ _)
  refine blk_seq (blk_if2 L trivial ht_ ?_ ?_)
  · have hr_ := ((ev_op opx_eqI mild_ok (ev_var (i := 0) (x := n_) rfl) (ev_int (i := 2))) : EvX K (W0 E) [some (.im (toD n_)), some (.im (toD divisor_)), none] _ _)
    exact blk_ret L trivial hr_
  · refine blk_nil ?_
    try refine Blk.nx ?_
    have hi_ := ((ei_range1 (ev_int (i := 1024))) : EvI K (W0 E) [some (.im (toD n_)), some (.im (toD divisor_)), none] _ _)
    refine blk_seq (blk_for (S := Int) (m_u_law_is_prime_l2 n_ (m_u_law_is_prime_k5)) (m_u_law_is_prime_k5) (fun divisor_ => [some (.im (toD n_)), some (.im (toD divisor_)), none]) divisor_ L trivial hi_ (fun _ => gx_name) (.same (.same (.same .nil))) (fun _ => rfl) ?_ ?_)
    · intro F2 L2 hB2 x555 r2 s_ N_ hN2
      revert s_; intro divisor_
      show Blk _ _ _ _ _ [some (.im (toD n_)), some (.im (toD divisor_)), some (.im (toD x555))] (m_u_law_is_prime_l2 n_ (m_u_law_is_prime_k5) (x555 :: r2) divisor_)
      rw [m_u_law_is_prime_l2]
      show Blk _ _ _ _ _ _ ((fun (k_ : Int) => _) x555)
      generalize x555 = k_
      show Blk _ _ _ _ _ [some (.im (toD n_)), some (.im (toD divisor_)), some (.im (toD k_))] _
      have ht_ := ((et_test (ev_op (opx_B0 (g := fun i j => decide (j < i))) mild_ok (ev_op (opx_I (C := CMulX) (g := fun i j => i * j)) mild_need (ev_var (i := 1) (x := divisor_) rfl) (ev_var (i := 1) (x := divisor_) rfl)) (ev_var (i := 0) (x := n_) rfl))) : EvT K (W0 E) [some (.im (toD n_)), some (.im (toD divisor_)), some (.im (toD k_))] _ _)
      refine blk_seq (blk_if2 L2 trivial ht_ ?_ ?_)
      · have hr_ := ((ev_bl (b := true)) : EvX K (W0 E) [some (.im (toD n_)), some (.im (toD divisor_)), some (.im (toD k_))] _ _)
        exact blk_ret L2 trivial hr_
      · refine blk_nil ?_
        try refine Blk.nx ?_
        have ht_ := ((et_test (ev_op opx_eqI mild_ok (ev_op (opx_I (C := (fun _ j => 0 < j)) (g := fun i j => i % j)) mild_need (ev_var (i := 0) (x := n_) rfl) (ev_var (i := 1) (x := divisor_) rfl)) (ev_int (i := 0)))) : EvT K (W0 E) [some (.im (toD n_)), some (.im (toD divisor_)), some (.im (toD k_))] _ _)
        refine blk_seq (blk_if2 L2 trivial ht_ ?_ ?_)
        · have hr_ := ((ev_bl (b := false)) : EvX K (W0 E) [some (.im (toD n_)), some (.im (toD divisor_)), some (.im (toD k_))] _ _)
          exact blk_ret L2 trivial hr_
        · refine blk_nil ?_
          try refine Blk.nx ?_
          have hs_ := ((ev_op (opx_I0 (g := fun i j => i + j)) mild_ok (ev_var (i := 1) (x := divisor_) rfl) (ev_int (i := 2))) : EvX K (W0 E) [some (.im (toD n_)), some (.im (toD divisor_)), some (.im (toD k_))] _ _)
          refine blk_set (i := 1) L2 trivial hs_ fun divisor_ => ?_
          show Blk _ _ _ _ _ [some (.im (toD n_)), some (.im (toD divisor_)), some (.im (toD k_))] _
          try refine Blk.nx ?_
          exact (hN2 divisor_).weak (.same (.same (.drop .nil)))
    · intro divisor_
      show Blk _ _ _ _ _ [some (.im (toD n_)), some (.im (toD divisor_)), none] ((m_u_law_is_prime_k5) divisor_)
      unfold m_u_law_is_prime_k5
      try refine Blk.nx ?_
      have hr_ := ((ev_bl (b := true)) : EvX K (W0 E) [some (.im (toD n_)), some (.im (toD divisor_)), none] _ _)
      exact blk_ret L trivial hr_
noncomputable def m_u_law_prime_l3 (k3 : Int → Res Int) : List Int → Int → Res Int
  | [], s => k3 s
  | x660 :: r3, number_ =>   (fun (k_ : Int) => ((((Res.ok number_)).bind fun a662 => (Res.ok ()).bind fun a663 => Res.ok (a662, a663)).bind fun p661 => m_u_law_is_prime p661.1).bind fun b => cond b   ((Res.ok number_))   ((((Res.ok number_)).bind fun (t664 : Int) => ((Res.ok (1 : Int))).bind fun (t665 : Int) => Res.ok (t664 + t665)).bind fun (number_ : Int) =>   m_u_law_prime_l3 k3 r3 number_)) x660
noncomputable def m_u_law_prime_k5 : Int → Res Int := fun number_ =>   (Res.ok (65537 : Int))
noncomputable def m_u_law_prime (cell_ : Int) (least_ : Int) : Res Int :=
  ((((Res.ok cell_)).bind fun a568 => (Res.ok ()).bind fun a569 => Res.ok (a568, a569)).bind fun p567 => Res.ok (Int.natAbs p567.1 : Int)).bind fun (rest_ : Int) =>   ((((Res.ok rest_)).bind fun (t570 : Int) => ((Res.ok (5 : Int))).bind fun (t571 : Int) => Res.ok (t570 % t571)).bind fun (t572 : Int) => ((Res.ok (1 : Int))).bind fun (t573 : Int) => Res.ok (decide (t572 = t573))).bind fun b => cond b   (((((Res.ok (5 : Int))).bind fun a575 => (((Res.ok (7 : Int))).bind fun a577 => (((Res.ok (11 : Int))).bind fun a579 => (((Res.ok (13 : Int))).bind fun a581 => (((Res.ok (17 : Int))).bind fun a583 => (((Res.ok (19 : Int))).bind fun a585 => (((Res.ok (23 : Int))).bind fun a587 => (((Res.ok (29 : Int))).bind fun a589 => (((Res.ok (31 : Int))).bind fun a591 => (((Res.ok (37 : Int))).bind fun a593 => (((Res.ok (41 : Int))).bind fun a595 => (((Res.ok (43 : Int))).bind fun a597 => (Res.ok ()).bind fun a598 => Res.ok (a597, a598)).bind fun a596 => Res.ok (a595, a596)).bind fun a594 => Res.ok (a593, a594)).bind fun a592 => Res.ok (a591, a592)).bind fun a590 => Res.ok (a589, a590)).bind fun a588 => Res.ok (a587, a588)).bind fun a586 => Res.ok (a585, a586)).bind fun a584 => Res.ok (a583, a584)).bind fun a582 => Res.ok (a581, a582)).bind fun a580 => Res.ok (a579, a580)).bind fun a578 => Res.ok (a577, a578)).bind fun a576 => Res.ok (a575, a576)).bind fun p574 => Res.ok ([p574.1, p574.2.1, p574.2.2.1, p574.2.2.2.1, p574.2.2.2.2.1, p574.2.2.2.2.2.1, p574.2.2.2.2.2.2.1, p574.2.2.2.2.2.2.2.1, p574.2.2.2.2.2.2.2.2.1, p574.2.2.2.2.2.2.2.2.2.1, p574.2.2.2.2.2.2.2.2.2.2.1, p574.2.2.2.2.2.2.2.2.2.2.2.1] : List Int)).bind fun (t603 : (List Int)) => ((((Res.ok rest_)).bind fun (t599 : Int) => ((Res.ok (5 : Int))).bind fun (t600 : Int) => Res.ok (t599 / t600)).bind fun (t601 : Int) => ((Res.ok (12 : Int))).bind fun (t602 : Int) => Res.ok (t601 % t602)).bind fun (t604 : Int) => idx t603 t604)   (((((Res.ok rest_)).bind fun (t605 : Int) => ((Res.ok (5 : Int))).bind fun (t606 : Int) => Res.ok (t605 % t606)).bind fun (t607 : Int) => ((Res.ok (2 : Int))).bind fun (t608 : Int) => Res.ok (decide (t607 = t608))).bind fun b => cond b   (((((Res.ok (97 : Int))).bind fun a610 => (((Res.ok (193 : Int))).bind fun a612 => (((Res.ok (257 : Int))).bind fun a614 => (((Res.ok (7681 : Int))).bind fun a616 => (((Res.ok (12289 : Int))).bind fun a618 => (((Res.ok (65537 : Int))).bind fun a620 => (((Res.ok (786433 : Int))).bind fun a622 => (((Res.ok (65521 : Int))).bind fun a624 => (((Res.ok (8191 : Int))).bind fun a626 => (((Res.ok (131071 : Int))).bind fun a628 => (((Res.ok (524287 : Int))).bind fun a630 => (((Res.ok (241 : Int))).bind fun a632 => (Res.ok ()).bind fun a633 => Res.ok (a632, a633)).bind fun a631 => Res.ok (a630, a631)).bind fun a629 => Res.ok (a628, a629)).bind fun a627 => Res.ok (a626, a627)).bind fun a625 => Res.ok (a624, a625)).bind fun a623 => Res.ok (a622, a623)).bind fun a621 => Res.ok (a620, a621)).bind fun a619 => Res.ok (a618, a619)).bind fun a617 => Res.ok (a616, a617)).bind fun a615 => Res.ok (a614, a615)).bind fun a613 => Res.ok (a612, a613)).bind fun a611 => Res.ok (a610, a611)).bind fun p609 => Res.ok ([p609.1, p609.2.1, p609.2.2.1, p609.2.2.2.1, p609.2.2.2.2.1, p609.2.2.2.2.2.1, p609.2.2.2.2.2.2.1, p609.2.2.2.2.2.2.2.1, p609.2.2.2.2.2.2.2.2.1, p609.2.2.2.2.2.2.2.2.2.1, p609.2.2.2.2.2.2.2.2.2.2.1, p609.2.2.2.2.2.2.2.2.2.2.2.1] : List Int)).bind fun (t638 : (List Int)) => ((((Res.ok rest_)).bind fun (t634 : Int) => ((Res.ok (5 : Int))).bind fun (t635 : Int) => Res.ok (t634 / t635)).bind fun (t636 : Int) => ((Res.ok (12 : Int))).bind fun (t637 : Int) => Res.ok (t636 % t637)).bind fun (t639 : Int) => idx t638 t639)   ((((Res.ok least_)).bind fun (t657 : Int) => ((((Res.ok rest_)).bind fun (t640 : Int) => ((Res.ok (5 : Int))).bind fun (t641 : Int) => Res.ok (t640 / t641)).bind fun (t655 : Int) => (((((Res.ok (60 : Int))).bind fun a643 => (((Res.ok (1000 : Int))).bind fun a645 => (((Res.ok (1000000 : Int))).bind fun a647 => (Res.ok ()).bind fun a648 => Res.ok (a647, a648)).bind fun a646 => Res.ok (a645, a646)).bind fun a644 => Res.ok (a643, a644)).bind fun p642 => Res.ok ([p642.1, p642.2.1, p642.2.2.1] : List Int)).bind fun (t653 : (List Int)) => ((((Res.ok rest_)).bind fun (t649 : Int) => ((Res.ok (15 : Int))).bind fun (t650 : Int) => Res.ok (t649 / t650)).bind fun (t651 : Int) => ((Res.ok (3 : Int))).bind fun (t652 : Int) => Res.ok (t651 % t652)).bind fun (t654 : Int) => idx t653 t654).bind fun (t656 : Int) => Res.need (0 < t656) (Res.ok (t655 % t656))).bind fun (t658 : Int) => Res.ok (t657 + t658)).bind fun (number_ : Int) =>   (((Res.ok (400 : Int))).bind fun (t659 : Int) => Res.need (okRange t659) (Res.ok (pyRange 0 t659))).bind fun (xs666 : List Int) => m_u_law_prime_l3 (m_u_law_prime_k5) xs666 number_))
theorem ok_u_law_prime {P : Program} {w : World} {K : PySem.W.Frag} {mg : Str → Option Value} {base : Heap} (T : Facts K mg) {fd : FuncData} (F : FnP K "_law_prime" "_law_prime" s_u_law_prime (He.ga K "_law_prime") fd) :
    FnOk P w K mg base (L2.CX P w) 2 (He.ga K "_law_prime") fd ["cell", "least"] (spM K (fun (p : Int × Int × Unit) => m_u_law_prime p.1 p.2.1)) := by
  obtain ⟨fd_u_law_is_prime, F_u_law_is_prime⟩ := T.d_u_law_is_prime
  have G_u_law_is_prime := ok_u_law_is_prime (P := P) (w := w) (base := base) T F_u_law_is_prime
  have b_u_law_is_prime : Binds K fd_u_law_is_prime ["n"] [] := F_u_law_is_prime.bindsN fun _ _ _ _ _ _ us hl => match us, hl with | [_], _ => rfl
  refine fn_ok F sc_u_law_prime (fun y => rfl) (fun cdv A outer s H E hr => ?_)
  refine ⟨_, (pss_cons (ps_set (i := 2) sc_u_law_prime.nd rfl (Or.inl rfl) (pe_callB call_abs (by rfl) T.n_abs (by decide +kernel) (pa_cons (pv 0) pa_nil))) (pss_cons (ps_if (pt_cmpR op_eq (pe_op op_mod (pv 2) pe_int) pe_int (nomark _)) (pss_one (ps_ret (pe_ix (cr_ixL rfl) (pe_lst (pa_cons pe_int (pa_cons pe_int (pa_cons pe_int (pa_cons pe_int (pa_cons pe_int (pa_cons pe_int (pa_cons pe_int (pa_cons pe_int (pa_cons pe_int (pa_cons pe_int (pa_cons pe_int (pa_cons pe_int pa_nil))))))))))))) (pe_op op_mod (pe_op op_fdiv (pv 2) pe_int) pe_int) (fun _ _ => rfl)))) pss_nil) (pss_cons (ps_if (pt_cmpR op_eq (pe_op op_mod (pv 2) pe_int) pe_int (nomark _)) (pss_one (ps_ret (pe_ix (cr_ixL rfl) (pe_lst (pa_cons pe_int (pa_cons pe_int (pa_cons pe_int (pa_cons pe_int (pa_cons pe_int (pa_cons pe_int (pa_cons pe_int (pa_cons pe_int (pa_cons pe_int (pa_cons pe_int (pa_cons pe_int (pa_cons pe_int pa_nil))))))))))))) (pe_op op_mod (pe_op op_fdiv (pv 2) pe_int) pe_int) (fun _ _ => rfl)))) pss_nil) (pss_cons (ps_set (i := 3) sc_u_law_prime.nd rfl (Or.inl rfl) (pe_op op_add (pv 1) (pe_op op_mod (pe_op op_fdiv (pv 2) pe_int) (pe_ix (cr_ixL rfl) (pe_lst (pa_cons pe_int (pa_cons pe_int (pa_cons pe_int pa_nil)))) (pe_op op_mod (pe_op op_fdiv (pv 2) pe_int) pe_int) (fun _ _ => rfl))))) (pss_cons (ps_for (passes_of rfl) rfl (pi_range1 rfl T.n_range (pa_cons pe_int pa_nil)) (pg_name (i := 4) sc_u_law_prime.nd rfl (Or.inl rfl)) (pss_cons (ps_if (pt_val (pe_callS G_u_law_is_prime (hr.mono (by decide)) rfl T.g_u_law_is_prime F_u_law_is_prime.kp b_u_law_is_prime (fun σ => passAt (takes_of rfl rfl rfl rfl) σ) (pa_cons (pv 3) pa_nil))) (pss_one (ps_ret (pv 3))) pss_nil) (pss_one (ps_set (i := 3) sc_u_law_prime.nd rfl (Or.inl rfl) (pe_op op_add (pv 3) pe_int))))) (pss_one (ps_ret pe_int))))))), ?_⟩
  rintro ⟨cell_, least_, ⟨⟩⟩ F0 H0 Q KP L
  show Blk K F0 H0 KP _ [some (.im (toD cell_)), some (.im (toD least_)), none, none, none] (m_u_law_prime cell_ least_)
  unfold m_u_law_prime
  have hs_ := ((ev_cb cx_abs (fun _ _ h => nomatch h) (ea_cons (ev_var (i := 0) (x := cell_) rfl) ea_nil)) : EvX K (W0 E) [some (.im (toD cell_)), some (.im (toD least_)), none, none, none] _ _)
  refine blk_seq (blk_set (i := 2) L trivial hs_ fun rest_ => ?_)
  show Blk _ _ _ _ _ [some (.im (toD cell_)), some (.im (toD least_)), some (.im (toD rest_)), none, none] _
  try refine Blk.nx ?_
  have ht_ := ((et_test (ev_op opx_eqI mild_ok (ev_opI (C := (fun _ j => 0 < j)) (g := fun i j => i % j) (fun x y _ h => by cases h; (show (0 : Int) < _; decide)) (ev_var (i := 2) (x := rest_) rfl) (ev_int (i := 5))) (ev_int (i := 1)))) : EvT K (W0 E) [some (.im (toD cell_)), some (.im (toD least_)), some (.im (toD rest_)), none, none] _ _)
  refine blk_seq (blk_if2 L trivial ht_ ?_ ?_)
  · have hr_ := ((ev_op opx_ixL (fun x y => idx_mild x y) (ev_ofN (en_lst (f := (fun y => ([y.1, y.2.1, y.2.2.1, y.2.2.2.1, y.2.2.2.2.1, y.2.2.2.2.2.1, y.2.2.2.2.2.2.1, y.2.2.2.2.2.2.2.1, y.2.2.2.2.2.2.2.2.1, y.2.2.2.2.2.2.2.2.2.1, y.2.2.2.2.2.2.2.2.2.2.1, y.2.2.2.2.2.2.2.2.2.2.2.1] : List Int))) (ea_cons (ev_int (i := 5)) (ea_cons (ev_int (i := 7)) (ea_cons (ev_int (i := 11)) (ea_cons (ev_int (i := 13)) (ea_cons (ev_int (i := 17)) (ea_cons (ev_int (i := 19)) (ea_cons (ev_int (i := 23)) (ea_cons (ev_int (i := 29)) (ea_cons (ev_int (i := 31)) (ea_cons (ev_int (i := 37)) (ea_cons (ev_int (i := 41)) (ea_cons (ev_int (i := 43)) ea_nil)))))))))))) (fun _ => rfl) (fun _ => by show 12 ≤ 100000; decide))) (ev_opI (C := (fun _ j => 0 < j)) (g := fun i j => i % j) (fun x y _ h => by cases h; (show (0 : Int) < _; decide)) (ev_opI (C := CDiv) (g := fun i j => i / j) (fun x y _ h => by cases h; exact ⟨by decide, by decide⟩) (ev_var (i := 2) (x := rest_) rfl) (ev_int (i := 5))) (ev_int (i := 12)))) : EvX K (W0 E) [some (.im (toD cell_)), some (.im (toD least_)), some (.im (toD rest_)), none, none] _ _)
    exact blk_ret L trivial hr_
  · refine blk_nil ?_
    try refine Blk.nx ?_
    have ht_ := ((et_test (ev_op opx_eqI mild_ok (ev_opI (C := (fun _ j => 0 < j)) (g := fun i j => i % j) (fun x y _ h => by cases h; (show (0 : Int) < _; decide)) (ev_var (i := 2) (x := rest_) rfl) (ev_int (i := 5))) (ev_int (i := 2)))) : EvT K (W0 E) [some (.im (toD cell_)), some (.im (toD least_)), some (.im (toD rest_)), none, none] _ _)
    refine blk_seq (blk_if2 L trivial ht_ ?_ ?_)
    · have hr_ := ((ev_op opx_ixL (fun x y => idx_mild x y) (ev_ofN (en_lst (f := (fun y => ([y.1, y.2.1, y.2.2.1, y.2.2.2.1, y.2.2.2.2.1, y.2.2.2.2.2.1, y.2.2.2.2.2.2.1, y.2.2.2.2.2.2.2.1, y.2.2.2.2.2.2.2.2.1, y.2.2.2.2.2.2.2.2.2.1, y.2.2.2.2.2.2.2.2.2.2.1, y.2.2.2.2.2.2.2.2.2.2.2.1] : List Int))) (ea_cons (ev_int (i := 97)) (ea_cons (ev_int (i := 193)) (ea_cons (ev_int (i := 257)) (ea_cons (ev_int (i := 7681)) (ea_cons (ev_int (i := 12289)) (ea_cons (ev_int (i := 65537)) (ea_cons (ev_int (i := 786433)) (ea_cons (ev_int (i := 65521)) (ea_cons (ev_int (i := 8191)) (ea_cons (ev_int (i := 131071)) (ea_cons (ev_int (i := 524287)) (ea_cons (ev_int (i := 241)) ea_nil)))))))))))) (fun _ => rfl) (fun _ => by show 12 ≤ 100000; decide))) (ev_opI (C := (fun _ j => 0 < j)) (g := fun i j => i % j) (fun x y _ h => by cases h; (show (0 : Int) < _; decide)) (ev_opI (C := CDiv) (g := fun i j => i / j) (fun x y _ h => by cases h; exact ⟨by decide, by decide⟩) (ev_var (i := 2) (x := rest_) rfl) (ev_int (i := 5))) (ev_int (i := 12)))) : EvX K (W0 E) [some (.im (toD cell_)), some (.im (toD least_)), some (.im (toD rest_)), none, none] _ _)
      exact blk_ret L trivial hr_
    · refine blk_nil ?_
      try refine Blk.nx ?_
      have hs_ := ((ev_op (opx_I0 (g := fun i j => i + j)) mild_ok (ev_var (i := 1) (x := least_) rfl) (ev_op (opx_I (C := (fun _ j => 0 < j)) (g := fun i j => i % j)) mild_need (ev_opI (C := CDiv) (g := fun i j => i / j) (fun x y _ h => by cases h; exact ⟨by decide, by decide⟩) (ev_var (i := 2) (x := rest_) rfl) (ev_int (i := 5))) (ev_op opx_ixL (fun x y => idx_mild x y) (ev_ofN (en_lst (f := (fun y => ([y.1, y.2.1, y.2.2.1] : List Int))) (ea_cons (ev_int (i := 60)) (ea_cons (ev_int (i := 1000)) (ea_cons (ev_int (i := 1000000)) ea_nil))) (fun _ => rfl) (fun _ => by show 3 ≤ 100000; decide))) (ev_opI (C := (fun _ j => 0 < j)) (g := fun i j => i % j) (fun x y _ h => by cases h; (show (0 : Int) < _; decide)) (ev_opI (C := CDiv) (g := fun i j => i / j) (fun x y _ h => by cases h; exact ⟨by decide, by decide⟩) (ev_var (i := 2) (x := rest_) rfl) (ev_int (i := 15))) (ev_int (i := 3)))))) : EvX K (W0 E) [some (.im (toD cell_)), some (.im (toD least_)), some (.im (toD rest_)), none, none] _ _)
      refine blk_seq (blk_set (i := 3) L trivial hs_ fun number_ => ?_)
      show Blk _ _ _ _ _ [some (.im (toD cell_)), some (.im (toD least_)), some (.im (toD rest_)), some (.im (toD number_)), none] _
      try refine Blk.nx ?_
      have hi_ := ((ei_range1 (ev_int (i := 400))) : EvI K (W0 E) [some (.im (toD cell_)), some (.im (toD least_)), some (.im (toD rest_)), some (.im (toD number_)), none] _ _)
      refine blk_seq (blk_for (S := Int) (m_u_law_prime_l3 (m_u_law_prime_k5)) (m_u_law_prime_k5) (fun number_ => [some (.im (toD cell_)), some (.im (toD least_)), some (.im (toD rest_)), some (.im (toD number_)), none]) number_ L trivial hi_ (fun _ => gx_name) (.same (.same (.same (.same (.same .nil))))) (fun _ => rfl) ?_ ?_)
      · intro F3 L3 hB3 x660 r3 s_ N_ hN3
        revert s_; intro number_
        show Blk _ _ _ _ _ [some (.im (toD cell_)), some (.im (toD least_)), some (.im (toD rest_)), some (.im (toD number_)), some (.im (toD x660))] (m_u_law_prime_l3 (m_u_law_prime_k5) (x660 :: r3) number_)
        rw [m_u_law_prime_l3]
        show Blk _ _ _ _ _ _ ((fun (k_ : Int) => _) x660)
        generalize x660 = k_
        show Blk _ _ _ _ _ [some (.im (toD cell_)), some (.im (toD least_)), some (.im (toD rest_)), some (.im (toD number_)), some (.im (toD k_))] _
        have ht_ := ((et_B (ev_call (f := (fun (p : Int × Unit) => m_u_law_is_prime p.1)) (ea_cons (ev_var (i := 3) (x := number_) rfl) ea_nil))) : EvT K (W0 E) [some (.im (toD cell_)), some (.im (toD least_)), some (.im (toD rest_)), some (.im (toD number_)), some (.im (toD k_))] _ _)
        refine blk_seq (blk_if2 L3 trivial ht_ ?_ ?_)
        · have hr_ := ((ev_var (i := 3) (x := number_) rfl) : EvX K (W0 E) [some (.im (toD cell_)), some (.im (toD least_)), some (.im (toD rest_)), some (.im (toD number_)), some (.im (toD k_))] _ _)
          exact blk_ret L3 trivial hr_
        · refine blk_nil ?_
          try refine Blk.nx ?_
          have hs_ := ((ev_op (opx_I0 (g := fun i j => i + j)) mild_ok (ev_var (i := 3) (x := number_) rfl) (ev_int (i := 1))) : EvX K (W0 E) [some (.im (toD cell_)), some (.im (toD least_)), some (.im (toD rest_)), some (.im (toD number_)), some (.im (toD k_))] _ _)
          refine blk_set (i := 3) L3 trivial hs_ fun number_ => ?_
          show Blk _ _ _ _ _ [some (.im (toD cell_)), some (.im (toD least_)), some (.im (toD rest_)), some (.im (toD number_)), some (.im (toD k_))] _
          try refine Blk.nx ?_
          exact (hN3 number_).weak (.same (.same (.same (.same (.drop .nil)))))
      · intro number_
        show Blk _ _ _ _ _ [some (.im (toD cell_)), some (.im (toD least_)), some (.im (toD rest_)), some (.im (toD number_)), none] ((m_u_law_prime_k5) number_)
        unfold m_u_law_prime_k5
        try refine Blk.nx ?_
        have hr_ := ((ev_int (i := 65537)) : EvX K (W0 E) [some (.im (toD cell_)), some (.im (toD least_)), some (.im (toD rest_)), some (.im (toD number_)), none] _ _)
        exact blk_ret L trivial hr_
noncomputable def m_u_law_power_k3 (exponent_ : Int) (modulus_ : Int) (square_ : Int) (g1 : Int × Int × Int → Res Int) : Int → Res Int := fun result_ =>   ((((Res.ok square_)).bind fun (t677 : Int) => ((Res.ok square_)).bind fun (t678 : Int) => Res.need (CMulX t677 t678) (Res.ok (t677 * t678))).bind fun (t679 : Int) => ((Res.ok modulus_)).bind fun (t680 : Int) => Res.need (0 < t680) (Res.ok (t679 % t680))).bind fun (square_ : Int) =>   (((Res.ok exponent_)).bind fun (t681 : Int) => ((Res.ok (2 : Int))).bind fun (t682 : Int) => Res.ok (t681 / t682)).bind fun (exponent_ : Int) =>   g1 (exponent_, result_, square_)
noncomputable def m_u_law_power_l1 (modulus_ : Int) (k1 : Int × Int × Int → Res Int) : List Int → Int × Int × Int → Res Int
  | [], s => k1 s
  | x670 :: r1, (exponent_, result_, square_) =>   (fun (k_ : Int) => (((Res.ok exponent_)).bind fun (t671 : Int) => ((Res.ok (0 : Int))).bind fun (t672 : Int) => Res.ok (decide (t671 = t672))).bind fun b => cond b   (k1 (exponent_, result_, square_))   (((((Res.ok exponent_)).bind fun (t673 : Int) => ((Res.ok (2 : Int))).bind fun (t674 : Int) => Res.ok (t673 % t674)).bind fun (t675 : Int) => ((Res.ok (1 : Int))).bind fun (t676 : Int) => Res.ok (decide (t675 = t676))).bind fun b => cond b   (((((Res.ok result_)).bind fun (t683 : Int) => ((Res.ok square_)).bind fun (t684 : Int) => Res.need (CMulX t683 t684) (Res.ok (t683 * t684))).bind fun (t685 : Int) => ((Res.ok modulus_)).bind fun (t686 : Int) => Res.need (0 < t686) (Res.ok (t685 % t686))).bind fun (result_ : Int) =>   (m_u_law_power_k3 exponent_ modulus_ square_ (m_u_law_power_l1 modulus_ k1 r1)) result_)   ((m_u_law_power_k3 exponent_ modulus_ square_ (m_u_law_power_l1 modulus_ k1 r1)) result_))) x670
noncomputable def m_u_law_power_k4 : Int × Int × Int → Res Int := fun (exponent_, result_, square_) =>   (Res.ok result_)
noncomputable def m_u_law_power (a_ : Int) (exponent_ : Int) (modulus_ : Int) : Res Int :=
  ((Res.ok (1 : Int))).bind fun (result_ : Int) =>   (((Res.ok a_)).bind fun (t667 : Int) => ((Res.ok modulus_)).bind fun (t668 : Int) => Res.need (0 < t668) (Res.ok (t667 % t668))).bind fun (square_ : Int) =>   (((Res.ok (260 : Int))).bind fun (t669 : Int) => Res.need (okRange t669) (Res.ok (pyRange 0 t669))).bind fun (xs687 : List Int) => m_u_law_power_l1 modulus_ (m_u_law_power_k4) xs687 (exponent_, result_, square_)
theorem ok_u_law_power {P : Program} {w : World} {K : PySem.W.Frag} {mg : Str → Option Value} {base : Heap} (T : Facts K mg) {fd : FuncData} (F : FnP K "_law_power" "_law_power" s_u_law_power (He.ga K "_law_power") fd) :
    FnOk P w K mg base (L2.CX P w) 1 (He.ga K "_law_power") fd ["a", "exponent", "modulus"] (spM K (fun (p : Int × Int × Int × Unit) => m_u_law_power p.1 p.2.1 p.2.2.1)) := by
  refine fn_ok F sc_u_law_power (fun y => rfl) (fun cdv A outer s H E hr => ?_)
  refine ⟨_, (pss_cons (ps_set (i := 3) sc_u_law_power.nd rfl (Or.inl rfl) pe_int) (pss_cons (ps_set (i := 4) sc_u_law_power.nd rfl (Or.inl rfl) (pe_op op_mod (pv 0) (pv 2))) (pss_cons (ps_for (passes_of rfl) rfl (pi_range1 rfl T.n_range (pa_cons pe_int pa_nil)) (pg_name (i := 5) sc_u_law_power.nd rfl (Or.inl rfl)) (pss_cons (ps_if (pt_cmpR op_eq (pv 1) pe_int (nomark _)) (pss_one ps_break) pss_nil) (pss_cons (ps_if (pt_cmpR op_eq (pe_op op_mod (pv 1) pe_int) pe_int (nomark _)) (pss_one (ps_set (i := 3) sc_u_law_power.nd rfl (Or.inl rfl) (pe_op op_mod (pe_op op_mulX (pv 3) (pv 4)) (pv 2)))) pss_nil) (pss_cons (ps_set (i := 4) sc_u_law_power.nd rfl (Or.inl rfl) (pe_op op_mod (pe_op op_mulX (pv 4) (pv 4)) (pv 2))) (pss_one (ps_set (i := 1) sc_u_law_power.nd rfl (Or.inl rfl) (pe_op op_fdiv (pv 1) pe_int))))))) (pss_one (ps_ret (pv 3)))))), ?_⟩
  rintro ⟨a_, exponent_, modulus_, ⟨⟩⟩ F0 H0 Q KP L
  show Blk K F0 H0 KP _ [some (.im (toD a_)), some (.im (toD exponent_)), some (.im (toD modulus_)), none, none, none] (m_u_law_power a_ exponent_ modulus_)
  unfold m_u_law_power
  have hs_ := ((ev_int (i := 1)) : EvX K (W0 E) [some (.im (toD a_)), some (.im (toD exponent_)), some (.im (toD modulus_)), none, none, none] _ _)
  refine blk_seq (blk_set (i := 3) L trivial hs_ fun result_ => ?_)
  show Blk _ _ _ _ _ [some (.im (toD a_)), some (.im (toD exponent_)), some (.im (toD modulus_)), some (.im (toD result_)), none, none] _
  try refine Blk.nx ?_
  have hs_ := ((ev_op (opx_I (C := (fun _ j => 0 < j)) (g := fun i j => i % j)) mild_need (ev_var (i := 0) (x := a_) rfl) (ev_var (i := 2) (x := modulus_) rfl)) : EvX K (W0 E) [some (.im (toD a_)), some (.im (toD exponent_)), some (.im (toD modulus_)), some (.im (toD result_)), none, none] _ _)
  refine blk_seq (blk_set (i := 4) L trivial hs_ fun square_ => ?_)
  show Blk _ _ _ _ _ [some (.im (toD a_)), some (.im (toD exponent_)), some (.im (toD modulus_)), some (.im (toD result_)), some (.im (toD square_)), none] _
  try refine Blk.nx ?_
  have hi_ := ((ei_range1 (ev_int (i := 260))) : EvI K (W0 E) [some (.im (toD a_)), some (.im (toD exponent_)), some (.im (toD modulus_)), some (.im (toD result_)), some (.im (toD square_)), none] _ _)
  refine blk_seq (blk_for (S := Int × Int × Int) (m_u_law_power_l1 modulus_ (m_u_law_power_k4)) (m_u_law_power_k4) (fun (exponent_, result_, square_) => [some (.im (toD a_)), some (.im (toD exponent_)), some (.im (toD modulus_)), some (.im (toD result_)), some (.im (toD square_)), none]) (exponent_, result_, square_) L trivial hi_ (fun _ => gx_name) (.same (.same (.same (.same (.same (.same .nil)))))) (fun _ => rfl) ?_ ?_)
  · intro F1 L1 hB1 x670 r1 s_ N_ hN1
    obtain ⟨exponent_, result_, square_⟩ := s_
    show Blk _ _ _ _ _ [some (.im (toD a_)), some (.im (toD exponent_)), some (.im (toD modulus_)), some (.im (toD result_)), some (.im (toD square_)), some (.im (toD x670))] (m_u_law_power_l1 modulus_ (m_u_law_power_k4) (x670 :: r1) (exponent_, result_, square_))
    rw [m_u_law_power_l1]
    show Blk _ _ _ _ _ _ ((fun (k_ : Int) => _) x670)
    generalize x670 = k_
    show Blk _ _ _ _ _ [some (.im (toD a_)), some (.im (toD exponent_)), some (.im (toD modulus_)), some (.im (toD result_)), some (.im (toD square_)), some (.im (toD k_))] _
    have ht_ := ((et_test (ev_op opx_eqI mild_ok (ev_var (i := 1) (x := exponent_) rfl) (ev_int (i := 0)))) : EvT K (W0 E) [some (.im (toD a_)), some (.im (toD exponent_)), some (.im (toD modulus_)), some (.im (toD result_)), some (.im (toD square_)), some (.im (toD k_))] _ _)
    refine blk_seq (blk_if2 L1 trivial ht_ ?_ ?_)
    · exact (hB1 (exponent_, result_, square_)).weak (.same (.same (.same (.same (.same (.drop .nil))))))
    · refine blk_nil ?_
      try refine Blk.nx ?_
      have ht_ := ((et_test (ev_op opx_eqI mild_ok (ev_opI (C := (fun _ j => 0 < j)) (g := fun i j => i % j) (fun x y _ h => by cases h; (show (0 : Int) < _; decide)) (ev_var (i := 1) (x := exponent_) rfl) (ev_int (i := 2))) (ev_int (i := 1)))) : EvT K (W0 E) [some (.im (toD a_)), some (.im (toD exponent_)), some (.im (toD modulus_)), some (.im (toD result_)), some (.im (toD square_)), some (.im (toD k_))] _ _)
      refine blk_seq (blk_ifj (S := Int) (fun result_ => [some (.im (toD a_)), some (.im (toD exponent_)), some (.im (toD modulus_)), some (.im (toD result_)), some (.im (toD square_)), some (.im (toD k_))]) (m_u_law_power_k3 exponent_ modulus_ square_ (m_u_law_power_l1 modulus_ (m_u_law_power_k4) r1)) L1 trivial ht_ ?_ ?_ ?_)
      · intro result_
        show Blk _ _ _ _ _ [some (.im (toD a_)), some (.im (toD exponent_)), some (.im (toD modulus_)), some (.im (toD result_)), some (.im (toD square_)), some (.im (toD k_))] ((m_u_law_power_k3 exponent_ modulus_ square_ (m_u_law_power_l1 modulus_ (m_u_law_power_k4) r1)) result_)
        unfold m_u_law_power_k3
        try refine Blk.nx ?_
        have hs_ := ((ev_op (opx_I (C := (fun _ j => 0 < j)) (g := fun i j => i % j)) mild_need (ev_op (opx_I (C := CMulX) (g := fun i j => i * j)) mild_need (ev_var (i := 4) (x := square_) rfl) (ev_var (i := 4) (x := square_) rfl)) (ev_var (i := 2) (x := modulus_) rfl)) : EvX K (W0 E) [some (.im (toD a_)), some (.im (toD exponent_)), some (.im (toD modulus_)), some (.im (toD result_)), some (.im (toD square_)), some (.im (toD k_))] _ _)
        refine blk_seq (blk_set (i := 4) L1 trivial hs_ fun square_ => ?_)
        show Blk _ _ _ _ _ [some (.im (toD a_)), some (.im (toD exponent_)), some (.im (toD modulus_)), some (.im (toD result_)), some (.im (toD square_)), some (.im (toD k_))] _
        try refine Blk.nx ?_
        have hs_ := ((ev_opI (C := CDiv) (g := fun i j => i / j) (fun x y _ h => by cases h; exact ⟨by decide, by decide⟩) (ev_var (i := 1) (x := exponent_) rfl) (ev_int (i := 2))) : EvX K (W0 E) [some (.im (toD a_)), some (.im (toD exponent_)), some (.im (toD modulus_)), some (.im (toD result_)), some (.im (toD square_)), some (.im (toD k_))] _ _)
        refine blk_set (i := 1) L1 trivial hs_ fun exponent_ => ?_
        show Blk _ _ _ _ _ [some (.im (toD a_)), some (.im (toD exponent_)), some (.im (toD modulus_)), some (.im (toD result_)), some (.im (toD square_)), some (.im (toD k_))] _
        try refine Blk.nx ?_
        exact (hN1 (exponent_, result_, square_)).weak (.same (.same (.same (.same (.same (.drop .nil))))))
      · intro hk3
        have hs_ := ((ev_op (opx_I (C := (fun _ j => 0 < j)) (g := fun i j => i % j)) mild_need (ev_op (opx_I (C := CMulX) (g := fun i j => i * j)) mild_need (ev_var (i := 3) (x := result_) rfl) (ev_var (i := 4) (x := square_) rfl)) (ev_var (i := 2) (x := modulus_) rfl)) : EvX K (W0 E) [some (.im (toD a_)), some (.im (toD exponent_)), some (.im (toD modulus_)), some (.im (toD result_)), some (.im (toD square_)), some (.im (toD k_))] _ _)
        refine blk_set (i := 3) L1 trivial hs_ fun result_ => ?_
        show Blk _ _ _ _ _ [some (.im (toD a_)), some (.im (toD exponent_)), some (.im (toD modulus_)), some (.im (toD result_)), some (.im (toD square_)), some (.im (toD k_))] _
        try refine Blk.nx ?_
        exact (hk3 result_).weak (.same (.same (.same (.same (.same (.same .nil))))))
      · intro hk3
        refine blk_nil ?_
        try refine Blk.nx ?_
        exact (hk3 result_).weak (.same (.same (.same (.same (.same (.same .nil))))))
  · rintro ⟨exponent_, result_, square_⟩
    show Blk _ _ _ _ _ [some (.im (toD a_)), some (.im (toD exponent_)), some (.im (toD modulus_)), some (.im (toD result_)), some (.im (toD square_)), none] ((m_u_law_power_k4) (exponent_, result_, square_))
    unfold m_u_law_power_k4
    try refine Blk.nx ?_
    have hr_ := ((ev_var (i := 3) (x := result_) rfl) : EvX K (W0 E) [some (.im (toD a_)), some (.im (toD exponent_)), some (.im (toD modulus_)), some (.im (toD result_)), some (.im (toD square_)), none] _ _)
    exact blk_ret L trivial hr_
noncomputable def m_u_law_inverse (a_ : Int) (prime_ : Int) : Res Int :=
  (((Res.ok a_)).bind fun a691 => ((((Res.ok prime_)).bind fun (t688 : Int) => ((Res.ok (2 : Int))).bind fun (t689 : Int) => Res.ok (t688 - t689)).bind fun a693 => (((Res.ok prime_)).bind fun a695 => (Res.ok ()).bind fun a696 => Res.ok (a695, a696)).bind fun a694 => Res.ok (a693, a694)).bind fun a692 => Res.ok (a691, a692)).bind fun p690 => m_u_law_power p690.1 p690.2.1 p690.2.2.1
theorem ok_u_law_inverse {P : Program} {w : World} {K : PySem.W.Frag} {mg : Str → Option Value} {base : Heap} (T : Facts K mg) {fd : FuncData} (F : FnP K "_law_inverse" "_law_inverse" s_u_law_inverse (He.ga K "_law_inverse") fd) :
    FnOk P w K mg base (L2.CX P w) 2 (He.ga K "_law_inverse") fd ["a", "prime"] (spM K (fun (p : Int × Int × Unit) => m_u_law_inverse p.1 p.2.1)) := by
  obtain ⟨fd_u_law_power, F_u_law_power⟩ := T.d_u_law_power
  have G_u_law_power := ok_u_law_power (P := P) (w := w) (base := base) T F_u_law_power
  have b_u_law_power : Binds K fd_u_law_power ["a", "exponent", "modulus"] [] := F_u_law_power.bindsN fun _ _ _ _ _ _ us hl => match us, hl with | [_, _, _], _ => rfl
  refine fn_ok F sc_u_law_inverse (fun y => rfl) (fun cdv A outer s H E hr => ?_)
  refine ⟨_, (pss_one (ps_ret (pe_callS G_u_law_power (hr.mono (by decide)) rfl T.g_u_law_power F_u_law_power.kp b_u_law_power (fun σ => passAt (takes_of rfl rfl rfl rfl) σ) (pa_cons (pv 0) (pa_cons (pe_op op_sub (pv 1) pe_int) (pa_cons (pv 1) pa_nil)))))), ?_⟩
  rintro ⟨a_, prime_, ⟨⟩⟩ F0 H0 Q KP L
  show Blk K F0 H0 KP _ [some (.im (toD a_)), some (.im (toD prime_))] (m_u_law_inverse a_ prime_)
  unfold m_u_law_inverse
  have hr_ := ((ev_call (f := (fun (p : Int × Int × Int × Unit) => m_u_law_power p.1 p.2.1 p.2.2.1)) (ea_cons (ev_var (i := 0) (x := a_) rfl) (ea_cons (ev_op (opx_I0 (g := fun i j => i - j)) mild_ok (ev_var (i := 1) (x := prime_) rfl) (ev_int (i := 2))) (ea_cons (ev_var (i := 1) (x := prime_) rfl) ea_nil)))) : EvX K (W0 E) [some (.im (toD a_)), some (.im (toD prime_))] _ _)
  exact blk_ret L trivial hr_
noncomputable def m_u_law_residue (cell_ : Int) (prime_ : Int) : Res Int :=
  ((((Res.ok cell_)).bind fun a698 => (Res.ok ()).bind fun a699 => Res.ok (a698, a699)).bind fun p697 => Res.ok (Int.natAbs p697.1 : Int)).bind fun (rest_ : Int) =>   (((Res.ok rest_)).bind fun (t702 : Int) => (((Res.ok (10 : Int))).bind fun (t700 : Int) => ((Res.ok (18 : Int))).bind fun (t701 : Int) => Res.ok (t700 ^ t701.toNat)).bind fun (t703 : Int) => Res.ok (decide (t703 ≤ t702))).bind fun b => cond b   (((Res.ok rest_)).bind fun (t704 : Int) => ((Res.ok prime_)).bind fun (t705 : Int) => Res.need (0 < t705) (Res.ok (t704 % t705)))   (((((Res.ok rest_)).bind fun (t706 : Int) => ((Res.ok (3 : Int))).bind fun (t707 : Int) => Res.ok (t706 % t707)).bind fun (t708 : Int) => ((Res.ok (1 : Int))).bind fun (t709 : Int) => Res.ok (decide (t708 = t709))).bind fun b => cond b   ((((((Res.ok (0 : Int))).bind fun a715 => (((Res.ok (1 : Int))).bind fun a717 => (((Res.ok (2 : Int))).bind fun a719 => ((((Res.ok prime_)).bind fun (t710 : Int) => ((Res.ok (1 : Int))).bind fun (t711 : Int) => Res.ok (t710 - t711)).bind fun a721 => ((((Res.ok prime_)).bind fun (t712 : Int) => ((Res.ok (2 : Int))).bind fun (t713 : Int) => Res.ok (t712 - t713)).bind fun a723 => (((Res.ok (3 : Int))).bind fun a725 => (Res.ok ()).bind fun a726 => Res.ok (a725, a726)).bind fun a724 => Res.ok (a723, a724)).bind fun a722 => Res.ok (a721, a722)).bind fun a720 => Res.ok (a719, a720)).bind fun a718 => Res.ok (a717, a718)).bind fun a716 => Res.ok (a715, a716)).bind fun p714 => Res.ok ([p714.1, p714.2.1, p714.2.2.1, p714.2.2.2.1, p714.2.2.2.2.1, p714.2.2.2.2.2.1] : List Int)).bind fun (t731 : (List Int)) => ((((Res.ok rest_)).bind fun (t727 : Int) => ((Res.ok (3 : Int))).bind fun (t728 : Int) => Res.ok (t727 / t728)).bind fun (t729 : Int) => ((Res.ok (6 : Int))).bind fun (t730 : Int) => Res.ok (t729 % t730)).bind fun (t732 : Int) => idx t731 t732).bind fun (t733 : Int) => ((Res.ok prime_)).bind fun (t734 : Int) => Res.need (0 < t734) (Res.ok (t733 % t734)))   (((((((Res.ok rest_)).bind fun (t735 : Int) => ((Res.ok (48271 : Int))).bind fun (t736 : Int) => Res.ok (t735 * t736)).bind fun (t737 : Int) => ((Res.ok (69621 : Int))).bind fun (t738 : Int) => Res.ok (t737 * t738)).bind fun (t743 : Int) => ((((Res.ok (7919 : Int))).bind fun (t739 : Int) => ((Res.ok rest_)).bind fun (t740 : Int) => Res.ok (t739 * t740)).bind fun (t741 : Int) => ((Res.ok rest_)).bind fun (t742 : Int) => Res.need (CMulX t741 t742) (Res.ok (t741 * t742))).bind fun (t744 : Int) => Res.ok (t743 + t744)).bind fun (t745 : Int) => ((Res.ok (5 : Int))).bind fun (t746 : Int) => Res.ok (t745 + t746)).bind fun (t747 : Int) => ((Res.ok prime_)).bind fun (t748 : Int) => Res.need (0 < t748) (Res.ok (t747 % t748))))
theorem ok_u_law_residue {P : Program} {w : World} {K : PySem.W.Frag} {mg : Str → Option Value} {base : Heap} (T : Facts K mg) {fd : FuncData} (F : FnP K "_law_residue" "_law_residue" s_u_law_residue (He.ga K "_law_residue") fd) :
    FnOk P w K mg base (L2.CX P w) 1 (He.ga K "_law_residue") fd ["cell", "prime"] (spM K (fun (p : Int × Int × Unit) => m_u_law_residue p.1 p.2.1)) := by
  refine fn_ok F sc_u_law_residue (fun y => rfl) (fun cdv A outer s H E hr => ?_)
  refine ⟨_, (pss_cons (ps_set (i := 2) sc_u_law_residue.nd rfl (Or.inl rfl) (pe_callB call_abs (by rfl) T.n_abs (by decide +kernel) (pa_cons (pv 0) pa_nil))) (pss_cons (ps_if (pt_cmpR op_ge (pv 2) (pe_op op_pow pe_int pe_int) (nomark _)) (pss_one (ps_ret (pe_op op_mod (pv 2) (pv 1)))) pss_nil) (pss_cons (ps_if (pt_cmpR op_eq (pe_op op_mod (pv 2) pe_int) pe_int (nomark _)) (pss_one (ps_ret (pe_op op_mod (pe_ix (cr_ixL rfl) (pe_lst (pa_cons pe_int (pa_cons pe_int (pa_cons pe_int (pa_cons (pe_op op_sub (pv 1) pe_int) (pa_cons (pe_op op_sub (pv 1) pe_int) (pa_cons pe_int pa_nil))))))) (pe_op op_mod (pe_op op_fdiv (pv 2) pe_int) pe_int) (fun _ _ => rfl)) (pv 1)))) pss_nil) (pss_one (ps_ret (pe_op op_mod (pe_op op_add (pe_op op_add (pe_op op_mul (pe_op op_mul (pv 2) pe_int) pe_int) (pe_op op_mulX (pe_op op_mul pe_int (pv 2)) (pv 2))) pe_int) (pv 1))))))), ?_⟩
  rintro ⟨cell_, prime_, ⟨⟩⟩ F0 H0 Q KP L
  show Blk K F0 H0 KP _ [some (.im (toD cell_)), some (.im (toD prime_)), none] (m_u_law_residue cell_ prime_)
  unfold m_u_law_residue
  have hs_ := ((ev_cb cx_abs (fun _ _ h => nomatch h) (ea_cons (ev_var (i := 0) (x := cell_) rfl) ea_nil)) : EvX K (W0 E) [some (.im (toD cell_)), some (.im (toD prime_)), none] _ _)
  refine blk_seq (blk_set (i := 2) L trivial hs_ fun rest_ => ?_)
  show Blk _ _ _ _ _ [some (.im (toD cell_)), some (.im (toD prime_)), some (.im (toD rest_))] _
  try refine Blk.nx ?_
  have ht_ := ((et_test (ev_op (opx_B0 (g := fun i j => decide (j ≤ i))) mild_ok (ev_var (i := 2) (x := rest_) rfl) (ev_opI (C := CPow) (g := fun i j => i ^ j.toNat) (fun x y h1 h2 => by cases h1; cases h2; exact ⟨by decide, by decide, by decide⟩) (ev_int (i := 10)) (ev_int (i := 18))))) : EvT K (W0 E) [some (.im (toD cell_)), some (.im (toD prime_)), some (.im (toD rest_))] _ _)
  refine blk_seq (blk_if2 L trivial ht_ ?_ ?_)
  · have hr_ := ((ev_op (opx_I (C := (fun _ j => 0 < j)) (g := fun i j => i % j)) mild_need (ev_var (i := 2) (x := rest_) rfl) (ev_var (i := 1) (x := prime_) rfl)) : EvX K (W0 E) [some (.im (toD cell_)), some (.im (toD prime_)), some (.im (toD rest_))] _ _)
    exact blk_ret L trivial hr_
  · refine blk_nil ?_
    try refine Blk.nx ?_
    have ht_ := ((et_test (ev_op opx_eqI mild_ok (ev_opI (C := (fun _ j => 0 < j)) (g := fun i j => i % j) (fun x y _ h => by cases h; (show (0 : Int) < _; decide)) (ev_var (i := 2) (x := rest_) rfl) (ev_int (i := 3))) (ev_int (i := 1)))) : EvT K (W0 E) [some (.im (toD cell_)), some (.im (toD prime_)), some (.im (toD rest_))] _ _)
    refine blk_seq (blk_if2 L trivial ht_ ?_ ?_)
    · have hr_ := ((ev_op (opx_I (C := (fun _ j => 0 < j)) (g := fun i j => i % j)) mild_need (ev_op opx_ixL (fun x y => idx_mild x y) (ev_ofN (en_lst (f := (fun y => ([y.1, y.2.1, y.2.2.1, y.2.2.2.1, y.2.2.2.2.1, y.2.2.2.2.2.1] : List Int))) (ea_cons (ev_int (i := 0)) (ea_cons (ev_int (i := 1)) (ea_cons (ev_int (i := 2)) (ea_cons (ev_op (opx_I0 (g := fun i j => i - j)) mild_ok (ev_var (i := 1) (x := prime_) rfl) (ev_int (i := 1))) (ea_cons (ev_op (opx_I0 (g := fun i j => i - j)) mild_ok (ev_var (i := 1) (x := prime_) rfl) (ev_int (i := 2))) (ea_cons (ev_int (i := 3)) ea_nil)))))) (fun _ => rfl) (fun _ => by show 6 ≤ 100000; decide))) (ev_opI (C := (fun _ j => 0 < j)) (g := fun i j => i % j) (fun x y _ h => by cases h; (show (0 : Int) < _; decide)) (ev_opI (C := CDiv) (g := fun i j => i / j) (fun x y _ h => by cases h; exact ⟨by decide, by decide⟩) (ev_var (i := 2) (x := rest_) rfl) (ev_int (i := 3))) (ev_int (i := 6)))) (ev_var (i := 1) (x := prime_) rfl)) : EvX K (W0 E) [some (.im (toD cell_)), some (.im (toD prime_)), some (.im (toD rest_))] _ _)
      exact blk_ret L trivial hr_
    · refine blk_nil ?_
      try refine Blk.nx ?_
      have hr_ := ((ev_op (opx_I (C := (fun _ j => 0 < j)) (g := fun i j => i % j)) mild_need (ev_op (opx_I0 (g := fun i j => i + j)) mild_ok (ev_op (opx_I0 (g := fun i j => i + j)) mild_ok (ev_opI (C := CMul) (g := fun i j => i * j) (fun x y _ h => by cases h; exact .inr (by decide)) (ev_opI (C := CMul) (g := fun i j => i * j) (fun x y _ h => by cases h; exact .inr (by decide)) (ev_var (i := 2) (x := rest_) rfl) (ev_int (i := 48271))) (ev_int (i := 69621))) (ev_op (opx_I (C := CMulX) (g := fun i j => i * j)) mild_need (ev_opI (C := CMul) (g := fun i j => i * j) (fun x y h _ => by cases h; exact .inl (by decide)) (ev_int (i := 7919)) (ev_var (i := 2) (x := rest_) rfl)) (ev_var (i := 2) (x := rest_) rfl))) (ev_int (i := 5))) (ev_var (i := 1) (x := prime_) rfl)) : EvX K (W0 E) [some (.im (toD cell_)), some (.im (toD prime_)), some (.im (toD rest_))] _ _)
      exact blk_ret L trivial hr_
noncomputable def m_u_law_class (a_ : Int) (prime_ : Int) : Res Int :=
  ((((Res.ok a_)).bind fun a754 => (((((Res.ok prime_)).bind fun (t749 : Int) => ((Res.ok (1 : Int))).bind fun (t750 : Int) => Res.ok (t749 - t750)).bind fun (t751 : Int) => ((Res.ok (2 : Int))).bind fun (t752 : Int) => Res.ok (t751 / t752)).bind fun a756 => (((Res.ok prime_)).bind fun a758 => (Res.ok ()).bind fun a759 => Res.ok (a758, a759)).bind fun a757 => Res.ok (a756, a757)).bind fun a755 => Res.ok (a754, a755)).bind fun p753 => m_u_law_power p753.1 p753.2.1 p753.2.2.1).bind fun (value_ : Int) =>   (((Res.ok value_)).bind fun (t762 : Int) => (((Res.ok prime_)).bind fun (t760 : Int) => ((Res.ok (1 : Int))).bind fun (t761 : Int) => Res.ok (t760 - t761)).bind fun (t763 : Int) => Res.ok (decide (t762 = t763))).bind fun b => cond b   (((Res.ok (1 : Int))).bind fun (t764 : Int) => Res.ok (-t764))   ((Res.ok value_))
theorem ok_u_law_class {P : Program} {w : World} {K : PySem.W.Frag} {mg : Str → Option Value} {base : Heap} (T : Facts K mg) {fd : FuncData} (F : FnP K "_law_class" "_law_class" s_u_law_class (He.ga K "_law_class") fd) :
    FnOk P w K mg base (L2.CX P w) 2 (He.ga K "_law_class") fd ["a", "prime"] (spM K (fun (p : Int × Int × Unit) => m_u_law_class p.1 p.2.1)) := by
  obtain ⟨fd_u_law_power, F_u_law_power⟩ := T.d_u_law_power
  have G_u_law_power := ok_u_law_power (P := P) (w := w) (base := base) T F_u_law_power
  have b_u_law_power : Binds K fd_u_law_power ["a", "exponent", "modulus"] [] := F_u_law_power.bindsN fun _ _ _ _ _ _ us hl => match us, hl with | [_, _, _], _ => rfl
  refine fn_ok F sc_u_law_class (fun y => rfl) (fun cdv A outer s H E hr => ?_)
  refine ⟨_, (pss_cons (ps_set (i := 2) sc_u_law_class.nd rfl (Or.inl rfl) (pe_callS G_u_law_power (hr.mono (by decide)) rfl T.g_u_law_power F_u_law_power.kp b_u_law_power (fun σ => passAt (takes_of rfl rfl rfl rfl) σ) (pa_cons (pv 0) (pa_cons (pe_op op_fdiv (pe_op op_sub (pv 1) pe_int) pe_int) (pa_cons (pv 1) pa_nil))))) (pss_cons (ps_if (pt_cmpR op_eq (pv 2) (pe_op op_sub (pv 1) pe_int) (nomark _)) (pss_one (ps_ret (pe_un un_neg pe_int))) pss_nil) (pss_one (ps_ret (pv 2))))), ?_⟩
  rintro ⟨a_, prime_, ⟨⟩⟩ F0 H0 Q KP L
  show Blk K F0 H0 KP _ [some (.im (toD a_)), some (.im (toD prime_)), none] (m_u_law_class a_ prime_)
  unfold m_u_law_class
  have hs_ := ((ev_call (f := (fun (p : Int × Int × Int × Unit) => m_u_law_power p.1 p.2.1 p.2.2.1)) (ea_cons (ev_var (i := 0) (x := a_) rfl) (ea_cons (ev_opI (C := CDiv) (g := fun i j => i / j) (fun x y _ h => by cases h; exact ⟨by decide, by decide⟩) (ev_op (opx_I0 (g := fun i j => i - j)) mild_ok (ev_var (i := 1) (x := prime_) rfl) (ev_int (i := 1))) (ev_int (i := 2))) (ea_cons (ev_var (i := 1) (x := prime_) rfl) ea_nil)))) : EvX K (W0 E) [some (.im (toD a_)), some (.im (toD prime_)), none] _ _)
  refine blk_seq (blk_set (i := 2) L trivial hs_ fun value_ => ?_)
  show Blk _ _ _ _ _ [some (.im (toD a_)), some (.im (toD prime_)), some (.im (toD value_))] _
  try refine Blk.nx ?_
  have ht_ := ((et_test (ev_op opx_eqI mild_ok (ev_var (i := 2) (x := value_) rfl) (ev_op (opx_I0 (g := fun i j => i - j)) mild_ok (ev_var (i := 1) (x := prime_) rfl) (ev_int (i := 1))))) : EvT K (W0 E) [some (.im (toD a_)), some (.im (toD prime_)), some (.im (toD value_))] _ _)
  refine blk_seq (blk_if2 L trivial ht_ ?_ ?_)
  · have hr_ := ((ev_un (g := fun i => -i) (ev_int (i := 1))) : EvX K (W0 E) [some (.im (toD a_)), some (.im (toD prime_)), some (.im (toD value_))] _ _)
    exact blk_ret L trivial hr_
  · refine blk_nil ?_
    try refine Blk.nx ?_
    have hr_ := ((ev_var (i := 2) (x := value_) rfl) : EvX K (W0 E) [some (.im (toD a_)), some (.im (toD prime_)), some (.im (toD value_))] _ _)
    exact blk_ret L trivial hr_
noncomputable def m_u_law_edwards_prime (cell_ : Int) : Res Int :=
  ((((((Res.ok cell_)).bind fun a766 => (Res.ok ()).bind fun a767 => Res.ok (a766, a767)).bind fun p765 => Res.ok (Int.natAbs p765.1 : Int)).bind fun (t768 : Int) => ((Res.ok (7 : Int))).bind fun (t769 : Int) => Res.ok (t768 % t769)).bind fun (t770 : Int) => ((Res.ok (3 : Int))).bind fun (t771 : Int) => Res.ok (decide (t770 = t771))).bind fun b => cond b   ((((((Res.ok (2 : Int))).bind fun (t772 : Int) => ((Res.ok (64 : Int))).bind fun (t773 : Int) => Res.ok (t772 ^ t773.toNat)).bind fun (t776 : Int) => (((Res.ok (2 : Int))).bind fun (t774 : Int) => ((Res.ok (64 : Int))).bind fun (t775 : Int) => Res.ok (t774 ^ t775.toNat)).bind fun (t777 : Int) => Res.need (CMulX t776 t777) (Res.ok (t776 * t777))).bind fun (t780 : Int) => (((Res.ok (2 : Int))).bind fun (t778 : Int) => ((Res.ok (64 : Int))).bind fun (t779 : Int) => Res.ok (t778 ^ t779.toNat)).bind fun (t781 : Int) => Res.need (CMulX t780 t781) (Res.ok (t780 * t781))).bind fun (high_ : Int) =>   ((((((Res.ok high_)).bind fun (t784 : Int) => (((Res.ok (2 : Int))).bind fun (t782 : Int) => ((Res.ok (63 : Int))).bind fun (t783 : Int) => Res.ok (t782 ^ t783.toNat)).bind fun (t785 : Int) => Res.need (CMulX t784 t785) (Res.ok (t784 * t785))).bind fun (t786 : Int) => ((Res.ok (19 : Int))).bind fun (t787 : Int) => Res.ok (t786 - t787)).bind fun a807 => ((((((Res.ok high_)).bind fun (t790 : Int) => (((Res.ok (2 : Int))).bind fun (t788 : Int) => ((Res.ok (64 : Int))).bind fun (t789 : Int) => Res.ok (t788 ^ t789.toNat)).bind fun (t791 : Int) => Res.need (CMulX t790 t791) (Res.ok (t790 * t791))).bind fun (t794 : Int) => (((Res.ok (2 : Int))).bind fun (t792 : Int) => ((Res.ok (32 : Int))).bind fun (t793 : Int) => Res.ok (t792 ^ t793.toNat)).bind fun (t795 : Int) => Res.ok (t794 - t795)).bind fun (t796 : Int) => ((Res.ok (977 : Int))).bind fun (t797 : Int) => Res.ok (t796 - t797)).bind fun a809 => (((((Res.ok (2 : Int))).bind fun (t798 : Int) => ((Res.ok (61 : Int))).bind fun (t799 : Int) => Res.ok (t798 ^ t799.toNat)).bind fun (t800 : Int) => ((Res.ok (1 : Int))).bind fun (t801 : Int) => Res.ok (t800 - t801)).bind fun a811 => (((((Res.ok (2 : Int))).bind fun (t802 : Int) => ((Res.ok (31 : Int))).bind fun (t803 : Int) => Res.ok (t802 ^ t803.toNat)).bind fun (t804 : Int) => ((Res.ok (1 : Int))).bind fun (t805 : Int) => Res.ok (t804 - t805)).bind fun a813 => (Res.ok ()).bind fun a814 => Res.ok (a813, a814)).bind fun a812 => Res.ok (a811, a812)).bind fun a810 => Res.ok (a809, a810)).bind fun a808 => Res.ok (a807, a808)).bind fun p806 => Res.ok ([p806.1, p806.2.1, p806.2.2.1, p806.2.2.2.1] : List Int)).bind fun (t822 : (List Int)) => ((((((Res.ok cell_)).bind fun a816 => (Res.ok ()).bind fun a817 => Res.ok (a816, a817)).bind fun p815 => Res.ok (Int.natAbs p815.1 : Int)).bind fun (t818 : Int) => ((Res.ok (7 : Int))).bind fun (t819 : Int) => Res.ok (t818 / t819)).bind fun (t820 : Int) => ((Res.ok (4 : Int))).bind fun (t821 : Int) => Res.ok (t820 % t821)).bind fun (t823 : Int) => idx t822 t823)   (((((Res.ok cell_)).bind fun (t824 : Int) => ((Res.ok (7 : Int))).bind fun (t825 : Int) => Res.ok (t824 / t825)).bind fun a827 => (((Res.ok (5 : Int))).bind fun a829 => (Res.ok ()).bind fun a830 => Res.ok (a829, a830)).bind fun a828 => Res.ok (a827, a828)).bind fun p826 => m_u_law_prime p826.1 p826.2.1)
theorem ok_u_law_edwards_prime {P : Program} {w : World} {K : PySem.W.Frag} {mg : Str → Option Value} {base : Heap} (T : Facts K mg) {fd : FuncData} (F : FnP K "_law_edwards_prime" "_law_edwards_prime" s_u_law_edwards_prime (He.ga K "_law_edwards_prime") fd) :
    FnOk P w K mg base (L2.CX P w) 3 (He.ga K "_law_edwards_prime") fd ["cell"] (spM K (fun (p : Int × Unit) => m_u_law_edwards_prime p.1)) := by
  obtain ⟨fd_u_law_prime, F_u_law_prime⟩ := T.d_u_law_prime
  have G_u_law_prime := ok_u_law_prime (P := P) (w := w) (base := base) T F_u_law_prime
  have b_u_law_prime : Binds K fd_u_law_prime ["cell", "least"] [] := F_u_law_prime.bindsN fun _ _ _ _ _ _ us hl => match us, hl with | [_, _], _ => rfl
  refine fn_ok F sc_u_law_edwards_prime (fun y => rfl) (fun cdv A outer s H E hr => ?_)
  refine ⟨_, (pss_cons (ps_if (pt_cmpR op_eq (pe_op op_mod (pe_callB call_abs (by rfl) T.n_abs (by decide +kernel) (pa_cons (pv 0) pa_nil)) pe_int) pe_int (nomark _)) (pss_cons (ps_set (i := 1) sc_u_law_edwards_prime.nd rfl (Or.inl rfl) (pe_op op_mulX (pe_op op_mulX (pe_op op_pow pe_int pe_int) (pe_op op_pow pe_int pe_int)) (pe_op op_pow pe_int pe_int))) (pss_one (ps_ret (pe_ix (cr_ixL rfl) (pe_lst (pa_cons (pe_op op_sub (pe_op op_mulX (pv 1) (pe_op op_pow pe_int pe_int)) pe_int) (pa_cons (pe_op op_sub (pe_op op_sub (pe_op op_mulX (pv 1) (pe_op op_pow pe_int pe_int)) (pe_op op_pow pe_int pe_int)) pe_int) (pa_cons (pe_op op_sub (pe_op op_pow pe_int pe_int) pe_int) (pa_cons (pe_op op_sub (pe_op op_pow pe_int pe_int) pe_int) pa_nil))))) (pe_op op_mod (pe_op op_fdiv (pe_callB call_abs (by rfl) T.n_abs (by decide +kernel) (pa_cons (pv 0) pa_nil)) pe_int) pe_int) (fun _ _ => rfl))))) pss_nil) (pss_one (ps_ret (pe_callS G_u_law_prime (hr.mono (by decide)) rfl T.g_u_law_prime F_u_law_prime.kp b_u_law_prime (fun σ => passAt (takes_of rfl rfl rfl rfl) σ) (pa_cons (pe_op op_fdiv (pv 0) pe_int) (pa_cons pe_int pa_nil)))))), ?_⟩
  rintro ⟨cell_, ⟨⟩⟩ F0 H0 Q KP L
  show Blk K F0 H0 KP _ [some (.im (toD cell_)), none] (m_u_law_edwards_prime cell_)
  unfold m_u_law_edwards_prime
  have ht_ := ((et_test (ev_op opx_eqI mild_ok (ev_opI (C := (fun _ j => 0 < j)) (g := fun i j => i % j) (fun x y _ h => by cases h; (show (0 : Int) < _; decide)) (ev_cb cx_abs (fun _ _ h => nomatch h) (ea_cons (ev_var (i := 0) (x := cell_) rfl) ea_nil)) (ev_int (i := 7))) (ev_int (i := 3)))) : EvT K (W0 E) [some (.im (toD cell_)), none] _ _)
  refine blk_seq (blk_if2 L trivial ht_ ?_ ?_)
  · have hs_ := ((ev_op (opx_I (C := CMulX) (g := fun i j => i * j)) mild_need (ev_op (opx_I (C := CMulX) (g := fun i j => i * j)) mild_need (ev_opI (C := CPow) (g := fun i j => i ^ j.toNat) (fun x y h1 h2 => by cases h1; cases h2; exact ⟨by decide, by decide, by decide⟩) (ev_int (i := 2)) (ev_int (i := 64))) (ev_opI (C := CPow) (g := fun i j => i ^ j.toNat) (fun x y h1 h2 => by cases h1; cases h2; exact ⟨by decide, by decide, by decide⟩) (ev_int (i := 2)) (ev_int (i := 64)))) (ev_opI (C := CPow) (g := fun i j => i ^ j.toNat) (fun x y h1 h2 => by cases h1; cases h2; exact ⟨by decide, by decide, by decide⟩) (ev_int (i := 2)) (ev_int (i := 64)))) : EvX K (W0 E) [some (.im (toD cell_)), none] _ _)
    refine blk_seq (blk_set (i := 1) L trivial hs_ fun high_ => ?_)
    show Blk _ _ _ _ _ [some (.im (toD cell_)), some (.im (toD high_))] _
    try refine Blk.nx ?_
    have hr_ := ((ev_op opx_ixL (fun x y => idx_mild x y) (ev_ofN (en_lst (f := (fun y => ([y.1, y.2.1, y.2.2.1, y.2.2.2.1] : List Int))) (ea_cons (ev_op (opx_I0 (g := fun i j => i - j)) mild_ok (ev_op (opx_I (C := CMulX) (g := fun i j => i * j)) mild_need (ev_var (i := 1) (x := high_) rfl) (ev_opI (C := CPow) (g := fun i j => i ^ j.toNat) (fun x y h1 h2 => by cases h1; cases h2; exact ⟨by decide, by decide, by decide⟩) (ev_int (i := 2)) (ev_int (i := 63)))) (ev_int (i := 19))) (ea_cons (ev_op (opx_I0 (g := fun i j => i - j)) mild_ok (ev_op (opx_I0 (g := fun i j => i - j)) mild_ok (ev_op (opx_I (C := CMulX) (g := fun i j => i * j)) mild_need (ev_var (i := 1) (x := high_) rfl) (ev_opI (C := CPow) (g := fun i j => i ^ j.toNat) (fun x y h1 h2 => by cases h1; cases h2; exact ⟨by decide, by decide, by decide⟩) (ev_int (i := 2)) (ev_int (i := 64)))) (ev_opI (C := CPow) (g := fun i j => i ^ j.toNat) (fun x y h1 h2 => by cases h1; cases h2; exact ⟨by decide, by decide, by decide⟩) (ev_int (i := 2)) (ev_int (i := 32)))) (ev_int (i := 977))) (ea_cons (ev_op (opx_I0 (g := fun i j => i - j)) mild_ok (ev_opI (C := CPow) (g := fun i j => i ^ j.toNat) (fun x y h1 h2 => by cases h1; cases h2; exact ⟨by decide, by decide, by decide⟩) (ev_int (i := 2)) (ev_int (i := 61))) (ev_int (i := 1))) (ea_cons (ev_op (opx_I0 (g := fun i j => i - j)) mild_ok (ev_opI (C := CPow) (g := fun i j => i ^ j.toNat) (fun x y h1 h2 => by cases h1; cases h2; exact ⟨by decide, by decide, by decide⟩) (ev_int (i := 2)) (ev_int (i := 31))) (ev_int (i := 1))) ea_nil)))) (fun _ => rfl) (fun _ => by show 4 ≤ 100000; decide))) (ev_opI (C := (fun _ j => 0 < j)) (g := fun i j => i % j) (fun x y _ h => by cases h; (show (0 : Int) < _; decide)) (ev_opI (C := CDiv) (g := fun i j => i / j) (fun x y _ h => by cases h; exact ⟨by decide, by decide⟩) (ev_cb cx_abs (fun _ _ h => nomatch h) (ea_cons (ev_var (i := 0) (x := cell_) rfl) ea_nil)) (ev_int (i := 7))) (ev_int (i := 4)))) : EvX K (W0 E) [some (.im (toD cell_)), some (.im (toD high_))] _ _)
    exact blk_ret L trivial hr_
  · refine blk_nil ?_
    try refine Blk.nx ?_
    have hr_ := ((ev_call (f := (fun (p : Int × Int × Unit) => m_u_law_prime p.1 p.2.1)) (ea_cons (ev_opI (C := CDiv) (g := fun i j => i / j) (fun x y _ h => by cases h; exact ⟨by decide, by decide⟩) (ev_var (i := 0) (x := cell_) rfl) (ev_int (i := 7))) (ea_cons (ev_int (i := 5)) ea_nil))) : EvX K (W0 E) [some (.im (toD cell_)), none] _ _)
    exact blk_ret L trivial hr_
noncomputable def m_u_law_numbers_l1 (prime_ : Int) (k1 : Int → Res (T2 Int Int)) : List Int → Int → Res (T2 Int Int)
  | [], s => k1 s
  | x862 :: r1, lowest_ =>   (fun (k_ : Int) => (((((Res.ok lowest_)).bind fun a864 => (((Res.ok prime_)).bind fun a866 => (Res.ok ()).bind fun a867 => Res.ok (a866, a867)).bind fun a865 => Res.ok (a864, a865)).bind fun p863 => m_u_law_class p863.1 p863.2.1).bind fun (t869 : Int) => (((Res.ok (1 : Int))).bind fun (t868 : Int) => Res.ok (-t868)).bind fun (t870 : Int) => Res.ok (decide (t869 = t870))).bind fun b => cond b   (k1 lowest_)   ((((Res.ok lowest_)).bind fun (t871 : Int) => ((Res.ok (1 : Int))).bind fun (t872 : Int) => Res.ok (t871 + t872)).bind fun (lowest_ : Int) =>   m_u_law_numbers_l1 prime_ k1 r1 lowest_)) x862
noncomputable def m_u_law_numbers_k3 (prime_ : Int) (root_ : Int) (other_ : Int) : Int → Res (T2 Int Int) := fun lowest_ =>   (((((Res.ok root_)).bind fun (t873 : Int) => ((Res.ok root_)).bind fun (t874 : Int) => Res.need (CMulX t873 t874) (Res.ok (t873 * t874))).bind fun (t875 : Int) => ((Res.ok prime_)).bind fun (t876 : Int) => Res.need (0 < t876) (Res.ok (t875 % t876))).bind fun a884 => ((((((Res.ok lowest_)).bind fun (t877 : Int) => ((Res.ok other_)).bind fun (t878 : Int) => Res.need (CMulX t877 t878) (Res.ok (t877 * t878))).bind fun (t879 : Int) => ((Res.ok other_)).bind fun (t880 : Int) => Res.need (CMulX t879 t880) (Res.ok (t879 * t880))).bind fun (t881 : Int) => ((Res.ok prime_)).bind fun (t882 : Int) => Res.need (0 < t882) (Res.ok (t881 % t882))).bind fun a886 => (Res.ok ()).bind fun a887 => Res.ok (a886, a887)).bind fun a885 => Res.ok (a884, a885)).bind fun p883 => Res.ok (T2.mk p883.1 p883.2.1)
noncomputable def m_u_law_numbers (script_ : (List Int)) (at_ : Int) (prime_ : Int) : Res (T2 Int Int) :=
  (((Res.ok (1 : Int))).bind fun (t843 : Int) => ((((((Res.ok script_)).bind fun a832 => (((Res.ok at_)).bind fun a834 => (Res.ok ()).bind fun a835 => Res.ok (a834, a835)).bind fun a833 => Res.ok (a832, a833)).bind fun p831 => m_u_law_cell p831.1 p831.2.1).bind fun a839 => ((((Res.ok prime_)).bind fun (t836 : Int) => ((Res.ok (1 : Int))).bind fun (t837 : Int) => Res.ok (t836 - t837)).bind fun a841 => (Res.ok ()).bind fun a842 => Res.ok (a841, a842)).bind fun a840 => Res.ok (a839, a840)).bind fun p838 => m_u_law_residue p838.1 p838.2.1).bind fun (t844 : Int) => Res.ok (t843 + t844)).bind fun (root_ : Int) =>   (((Res.ok (1 : Int))).bind fun (t859 : Int) => ((((((Res.ok script_)).bind fun a848 => ((((Res.ok at_)).bind fun (t845 : Int) => ((Res.ok (1 : Int))).bind fun (t846 : Int) => Res.ok (t845 + t846)).bind fun a850 => (Res.ok ()).bind fun a851 => Res.ok (a850, a851)).bind fun a849 => Res.ok (a848, a849)).bind fun p847 => m_u_law_cell p847.1 p847.2.1).bind fun a855 => ((((Res.ok prime_)).bind fun (t852 : Int) => ((Res.ok (1 : Int))).bind fun (t853 : Int) => Res.ok (t852 - t853)).bind fun a857 => (Res.ok ()).bind fun a858 => Res.ok (a857, a858)).bind fun a856 => Res.ok (a855, a856)).bind fun p854 => m_u_law_residue p854.1 p854.2.1).bind fun (t860 : Int) => Res.ok (t859 + t860)).bind fun (other_ : Int) =>   ((Res.ok (2 : Int))).bind fun (lowest_ : Int) =>   (((Res.ok (100 : Int))).bind fun (t861 : Int) => Res.need (okRange t861) (Res.ok (pyRange 0 t861))).bind fun (xs888 : List Int) => m_u_law_numbers_l1 prime_ (m_u_law_numbers_k3 prime_ root_ other_) xs888 lowest_
theorem ok_u_law_numbers {P : Program} {w : World} {K : PySem.W.Frag} {mg : Str → Option Value} {base : Heap} (T : Facts K mg) {fd : FuncData} (F : FnP K "_law_numbers" "_law_numbers" s_u_law_numbers (He.ga K "_law_numbers") fd) :
    FnOk P w K mg base (L2.CX P w) 3 (He.ga K "_law_numbers") fd ["script", "at", "prime"] (spM K (fun (p : (List Int) × Int × Int × Unit) => m_u_law_numbers p.1 p.2.1 p.2.2.1)) := by
  obtain ⟨fd_u_law_cell, F_u_law_cell⟩ := T.d_u_law_cell
  have G_u_law_cell := ok_u_law_cell (P := P) (w := w) (base := base) T F_u_law_cell
  have b_u_law_cell : Binds K fd_u_law_cell ["script", "k"] [] := F_u_law_cell.bindsN fun _ _ _ _ _ _ us hl => match us, hl with | [_, _], _ => rfl
  obtain ⟨fd_u_law_class, F_u_law_class⟩ := T.d_u_law_class
  have G_u_law_class := ok_u_law_class (P := P) (w := w) (base := base) T F_u_law_class
  have b_u_law_class : Binds K fd_u_law_class ["a", "prime"] [] := F_u_law_class.bindsN fun _ _ _ _ _ _ us hl => match us, hl with | [_, _], _ => rfl
  obtain ⟨fd_u_law_residue, F_u_law_residue⟩ := T.d_u_law_residue
  have G_u_law_residue := ok_u_law_residue (P := P) (w := w) (base := base) T F_u_law_residue
  have b_u_law_residue : Binds K fd_u_law_residue ["cell", "prime"] [] := F_u_law_residue.bindsN fun _ _ _ _ _ _ us hl => match us, hl with | [_, _], _ => rfl
  refine fn_ok F sc_u_law_numbers (fun y => rfl) (fun cdv A outer s H E hr => ?_)
  refine ⟨_, (pss_cons (ps_set (i := 3) sc_u_law_numbers.nd rfl (Or.inl rfl) (pe_op op_add pe_int (pe_callS G_u_law_residue (hr.mono (by decide)) rfl T.g_u_law_residue F_u_law_residue.kp b_u_law_residue (fun σ => passAt (takes_of rfl rfl rfl rfl) σ) (pa_cons (pe_callS G_u_law_cell (hr.mono (by decide)) rfl T.g_u_law_cell F_u_law_cell.kp b_u_law_cell (fun σ => passAt (takes_of rfl rfl rfl rfl) σ) (pa_cons (pv 0) (pa_cons (pv 1) pa_nil))) (pa_cons (pe_op op_sub (pv 2) pe_int) pa_nil))))) (pss_cons (ps_set (i := 4) sc_u_law_numbers.nd rfl (Or.inl rfl) (pe_op op_add pe_int (pe_callS G_u_law_residue (hr.mono (by decide)) rfl T.g_u_law_residue F_u_law_residue.kp b_u_law_residue (fun σ => passAt (takes_of rfl rfl rfl rfl) σ) (pa_cons (pe_callS G_u_law_cell (hr.mono (by decide)) rfl T.g_u_law_cell F_u_law_cell.kp b_u_law_cell (fun σ => passAt (takes_of rfl rfl rfl rfl) σ) (pa_cons (pv 0) (pa_cons (pe_op op_add (pv 1) pe_int) pa_nil))) (pa_cons (pe_op op_sub (pv 2) pe_int) pa_nil))))) (pss_cons (ps_set (i := 5) sc_u_law_numbers.nd rfl (Or.inl rfl) pe_int) (pss_cons (ps_for (passes_of rfl) rfl (pi_range1 rfl T.n_range (pa_cons pe_int pa_nil)) (pg_name (i := 6) sc_u_law_numbers.nd rfl (Or.inl rfl)) (pss_cons (ps_if (pt_cmpR op_eq (pe_callS G_u_law_class (hr.mono (by decide)) rfl T.g_u_law_class F_u_law_class.kp b_u_law_class (fun σ => passAt (takes_of rfl rfl rfl rfl) σ) (pa_cons (pv 5) (pa_cons (pv 2) pa_nil))) (pe_un un_neg pe_int) (nomark _)) (pss_one ps_break) pss_nil) (pss_one (ps_set (i := 5) sc_u_law_numbers.nd rfl (Or.inl rfl) (pe_op op_add (pv 5) pe_int))))) (pss_one (ps_ret (pe_tup (pa_cons (pe_op op_mod (pe_op op_mulX (pv 3) (pv 3)) (pv 2)) (pa_cons (pe_op op_mod (pe_op op_mulX (pe_op op_mulX (pv 5) (pv 4)) (pv 4)) (pv 2)) pa_nil))))))))), ?_⟩
  rintro ⟨script_, at_, prime_, ⟨⟩⟩ F0 H0 Q KP L
  show Blk K F0 H0 KP _ [some (.im (toD script_)), some (.im (toD at_)), some (.im (toD prime_)), none, none, none, none] (m_u_law_numbers script_ at_ prime_)
  unfold m_u_law_numbers
  have hs_ := ((ev_op (opx_I0 (g := fun i j => i + j)) mild_ok (ev_int (i := 1)) (ev_call (f := (fun (p : Int × Int × Unit) => m_u_law_residue p.1 p.2.1)) (ea_cons (ev_call (f := (fun (p : (List Int) × Int × Unit) => m_u_law_cell p.1 p.2.1)) (ea_cons (ev_var (i := 0) (x := script_) rfl) (ea_cons (ev_var (i := 1) (x := at_) rfl) ea_nil))) (ea_cons (ev_op (opx_I0 (g := fun i j => i - j)) mild_ok (ev_var (i := 2) (x := prime_) rfl) (ev_int (i := 1))) ea_nil)))) : EvX K (W0 E) [some (.im (toD script_)), some (.im (toD at_)), some (.im (toD prime_)), none, none, none, none] _ _)
  refine blk_seq (blk_set (i := 3) L trivial hs_ fun root_ => ?_)
  show Blk _ _ _ _ _ [some (.im (toD script_)), some (.im (toD at_)), some (.im (toD prime_)), some (.im (toD root_)), none, none, none] _
  try refine Blk.nx ?_
  have hs_ := ((ev_op (opx_I0 (g := fun i j => i + j)) mild_ok (ev_int (i := 1)) (ev_call (f := (fun (p : Int × Int × Unit) => m_u_law_residue p.1 p.2.1)) (ea_cons (ev_call (f := (fun (p : (List Int) × Int × Unit) => m_u_law_cell p.1 p.2.1)) (ea_cons (ev_var (i := 0) (x := script_) rfl) (ea_cons (ev_op (opx_I0 (g := fun i j => i + j)) mild_ok (ev_var (i := 1) (x := at_) rfl) (ev_int (i := 1))) ea_nil))) (ea_cons (ev_op (opx_I0 (g := fun i j => i - j)) mild_ok (ev_var (i := 2) (x := prime_) rfl) (ev_int (i := 1))) ea_nil)))) : EvX K (W0 E) [some (.im (toD script_)), some (.im (toD at_)), some (.im (toD prime_)), some (.im (toD root_)), none, none, none] _ _)
  refine blk_seq (blk_set (i := 4) L trivial hs_ fun other_ => ?_)
  show Blk _ _ _ _ _ [some (.im (toD script_)), some (.im (toD at_)), some (.im (toD prime_)), some (.im (toD root_)), some (.im (toD other_)), none, none] _
  try refine Blk.nx ?_
  have hs_ := ((ev_int (i := 2)) : EvX K (W0 E) [some (.im (toD script_)), some (.im (toD at_)), some (.im (toD prime_)), some (.im (toD root_)), some (.im (toD other_)), none, none] _ _)
  refine blk_seq (blk_set (i := 5) L trivial hs_ fun lowest_ => ?_)
  show Blk _ _ _ _ _ [some (.im (toD script_)), some (.im (toD at_)), some (.im (toD prime_)), some (.im (toD root_)), some (.im (toD other_)), some (.im (toD lowest_)), none] _
  try refine Blk.nx ?_
  have hi_ := ((ei_range1 (ev_int (i := 100))) : EvI K (W0 E) [some (.im (toD script_)), some (.im (toD at_)), some (.im (toD prime_)), some (.im (toD root_)), some (.im (toD other_)), some (.im (toD lowest_)), none] _ _)
  refine blk_seq (blk_for (S := Int) (m_u_law_numbers_l1 prime_ (m_u_law_numbers_k3 prime_ root_ other_)) (m_u_law_numbers_k3 prime_ root_ other_) (fun lowest_ => [some (.im (toD script_)), some (.im (toD at_)), some (.im (toD prime_)), some (.im (toD root_)), some (.im (toD other_)), some (.im (toD lowest_)), none]) lowest_ L trivial hi_ (fun _ => gx_name) (.same (.same (.same (.same (.same (.same (.same .nil))))))) (fun _ => rfl) ?_ ?_)
  · intro F1 L1 hB1 x862 r1 s_ N_ hN1
    revert s_; intro lowest_
    show Blk _ _ _ _ _ [some (.im (toD script_)), some (.im (toD at_)), some (.im (toD prime_)), some (.im (toD root_)), some (.im (toD other_)), some (.im (toD lowest_)), some (.im (toD x862))] (m_u_law_numbers_l1 prime_ (m_u_law_numbers_k3 prime_ root_ other_) (x862 :: r1) lowest_)
    rw [m_u_law_numbers_l1]
    show Blk _ _ _ _ _ _ ((fun (k_ : Int) => _) x862)
    generalize x862 = k_
    show Blk _ _ _ _ _ [some (.im (toD script_)), some (.im (toD at_)), some (.im (toD prime_)), some (.im (toD root_)), some (.im (toD other_)), some (.im (toD lowest_)), some (.im (toD k_))] _
    have ht_ := ((et_test (ev_op opx_eqI mild_ok (ev_call (f := (fun (p : Int × Int × Unit) => m_u_law_class p.1 p.2.1)) (ea_cons (ev_var (i := 5) (x := lowest_) rfl) (ea_cons (ev_var (i := 2) (x := prime_) rfl) ea_nil))) (ev_un (g := fun i => -i) (ev_int (i := 1))))) : EvT K (W0 E) [some (.im (toD script_)), some (.im (toD at_)), some (.im (toD prime_)), some (.im (toD root_)), some (.im (toD other_)), some (.im (toD lowest_)), some (.im (toD k_))] _ _)
    refine blk_seq (blk_if2 L1 trivial ht_ ?_ ?_)
    · exact (hB1 lowest_).weak (.same (.same (.same (.same (.same (.same (.drop .nil)))))))
    · refine blk_nil ?_
      try refine Blk.nx ?_
      have hs_ := ((ev_op (opx_I0 (g := fun i j => i + j)) mild_ok (ev_var (i := 5) (x := lowest_) rfl) (ev_int (i := 1))) : EvX K (W0 E) [some (.im (toD script_)), some (.im (toD at_)), some (.im (toD prime_)), some (.im (toD root_)), some (.im (toD other_)), some (.im (toD lowest_)), some (.im (toD k_))] _ _)
      refine blk_set (i := 5) L1 trivial hs_ fun lowest_ => ?_
      show Blk _ _ _ _ _ [some (.im (toD script_)), some (.im (toD at_)), some (.im (toD prime_)), some (.im (toD root_)), some (.im (toD other_)), some (.im (toD lowest_)), some (.im (toD k_))] _
      try refine Blk.nx ?_
      exact (hN1 lowest_).weak (.same (.same (.same (.same (.same (.same (.drop .nil)))))))
  · intro lowest_
    show Blk _ _ _ _ _ [some (.im (toD script_)), some (.im (toD at_)), some (.im (toD prime_)), some (.im (toD root_)), some (.im (toD other_)), some (.im (toD lowest_)), none] ((m_u_law_numbers_k3 prime_ root_ other_) lowest_)
    unfold m_u_law_numbers_k3
    try refine Blk.nx ?_
    have hr_ := ((ev_tup (f := (fun y => T2.mk y.1 y.2.1)) (ea_cons (ev_op (opx_I (C := (fun _ j => 0 < j)) (g := fun i j => i % j)) mild_need (ev_op (opx_I (C := CMulX) (g := fun i j => i * j)) mild_need (ev_var (i := 3) (x := root_) rfl) (ev_var (i := 3) (x := root_) rfl)) (ev_var (i := 2) (x := prime_) rfl)) (ea_cons (ev_op (opx_I (C := (fun _ j => 0 < j)) (g := fun i j => i % j)) mild_need (ev_op (opx_I (C := CMulX) (g := fun i j => i * j)) mild_need (ev_op (opx_I (C := CMulX) (g := fun i j => i * j)) mild_need (ev_var (i := 5) (x := lowest_) rfl) (ev_var (i := 4) (x := other_) rfl)) (ev_var (i := 4) (x := other_) rfl)) (ev_var (i := 2) (x := prime_) rfl)) ea_nil)) (fun _ => rfl) (fun _ => by show 2 ≤ 100000; decide)) : EvX K (W0 E) [some (.im (toD script_)), some (.im (toD at_)), some (.im (toD prime_)), some (.im (toD root_)), some (.im (toD other_)), some (.im (toD lowest_)), none] _ _)
    exact blk_ret L trivial hr_
noncomputable def m_u_law_on (prime_ : Int) (a_ : Int) (d_ : Int) (point_ : D) : Res Bool :=
  (((((Res.ok point_)).bind fun (t889 : D) => Res.need ((toD t889).plain = true) (Res.ok (isI "tuple" (toD t889)))).bind fun (t890 : Bool) => Res.ok (!t890)).bind fun b894 => cond b894 (Res.ok true) ((((Res.ok point_)).bind fun (t891 : D) => D.lenR t891).bind fun (t892 : Int) => ((Res.ok (2 : Int))).bind fun (t893 : Int) => Res.ok (!decide (t892 = t893)))).bind fun b => cond b   ((Res.ok false))   ((((Res.ok point_)).bind D.asT2).bind fun (u895 : (T2 D D)) =>   (fun (x_ : D) (y_ : D) => ((((((Res.ok x_)).bind fun a897 => (Res.ok ()).bind fun a898 => Res.ok (a897, a898)).bind fun p896 => m_u_law_is_integer p896.1).bind fun (t899 : Bool) => Res.ok (!t899)).bind fun b916 => cond b916 (Res.ok true) ((((((Res.ok y_)).bind fun a901 => (Res.ok ()).bind fun a902 => Res.ok (a901, a902)).bind fun p900 => m_u_law_is_integer p900.1).bind fun (t903 : Bool) => Res.ok (!t903)).bind fun b915 => cond b915 (Res.ok true) (((((Res.ok (0 : Int))).bind fun (t904 : Int) => (((Res.ok x_)).bind D.asInt).bind fun (t905 : Int) => (Res.ok (decide (t904 ≤ t905))).bind fun b907 => cond b907 (((Res.ok prime_)).bind fun (t906 : Int) => Res.ok (decide (t905 < t906))) (Res.ok false)).bind fun (t908 : Bool) => Res.ok (!t908)).bind fun b914 => cond b914 (Res.ok true) ((((Res.ok (0 : Int))).bind fun (t909 : Int) => (((Res.ok y_)).bind D.asInt).bind fun (t910 : Int) => (Res.ok (decide (t909 ≤ t910))).bind fun b912 => cond b912 (((Res.ok prime_)).bind fun (t911 : Int) => Res.ok (decide (t910 < t911))) (Res.ok false)).bind fun (t913 : Bool) => Res.ok (!t913))))).bind fun b => cond b   ((Res.ok false))   (((((((((Res.ok a_)).bind fun (t917 : Int) => (((Res.ok x_)).bind D.asInt).bind fun (t918 : Int) => Res.need (CMulX t917 t918) (Res.ok (t917 * t918))).bind fun (t919 : Int) => (((Res.ok x_)).bind D.asInt).bind fun (t920 : Int) => Res.need (CMulX t919 t920) (Res.ok (t919 * t920))).bind fun (t923 : Int) => ((((Res.ok y_)).bind D.asInt).bind fun (t921 : Int) => (((Res.ok y_)).bind D.asInt).bind fun (t922 : Int) => Res.need (CMulX t921 t922) (Res.ok (t921 * t922))).bind fun (t924 : Int) => Res.ok (t923 + t924)).bind fun (t925 : Int) => ((Res.ok (1 : Int))).bind fun (t926 : Int) => Res.ok (t925 - t926)).bind fun (t935 : Int) => ((((((Res.ok d_)).bind fun (t927 : Int) => (((Res.ok x_)).bind D.asInt).bind fun (t928 : Int) => Res.need (CMulX t927 t928) (Res.ok (t927 * t928))).bind fun (t929 : Int) => (((Res.ok x_)).bind D.asInt).bind fun (t930 : Int) => Res.need (CMulX t929 t930) (Res.ok (t929 * t930))).bind fun (t931 : Int) => (((Res.ok y_)).bind D.asInt).bind fun (t932 : Int) => Res.need (CMulX t931 t932) (Res.ok (t931 * t932))).bind fun (t933 : Int) => (((Res.ok y_)).bind D.asInt).bind fun (t934 : Int) => Res.need (CMulX t933 t934) (Res.ok (t933 * t934))).bind fun (t936 : Int) => Res.ok (t935 - t936)).bind fun (t937 : Int) => ((Res.ok prime_)).bind fun (t938 : Int) => Res.need (0 < t938) (Res.ok (t937 % t938))).bind fun (t939 : Int) => ((Res.ok (0 : Int))).bind fun (t940 : Int) => Res.ok (decide (t939 = t940)))) u895.a u895.b)
theorem ok_u_law_on {P : Program} {w : World} {K : PySem.W.Frag} {mg : Str → Option Value} {base : Heap} (T : Facts K mg) {fd : FuncData} (F : FnP K "_law_on" "_law_on" s_u_law_on (He.ga K "_law_on") fd) :
    FnOk P w K mg base (L2.CX P w) 2 (He.ga K "_law_on") fd ["prime", "a", "d", "point"] (spM K (fun (p : Int × Int × Int × D × Unit) => m_u_law_on p.1 p.2.1 p.2.2.1 p.2.2.2.1)) := by
  obtain ⟨fd_u_law_is_integer, F_u_law_is_integer⟩ := T.d_u_law_is_integer
  have G_u_law_is_integer := ok_u_law_is_integer (P := P) (w := w) (base := base) T F_u_law_is_integer
  have b_u_law_is_integer : Binds K fd_u_law_is_integer ["actual"] [] := F_u_law_is_integer.bindsN fun _ _ _ _ _ _ us hl => match us, hl with | [_], _ => rfl
  refine fn_ok F sc_u_law_on (fun y => rfl) (fun cdv A outer s H E hr => ?_)
  refine ⟨_, (pss_cons (ps_if (PW.pt (pw_or (pt_not (pt_val (pe_callB call_isi (by rfl) T.n_isinstance (by decide +kernel) (pa_cons (pv 3) (pa_cons (pe_bltn (v := .ty "tuple") (by rfl) T.n_tuple (by decide +kernel) rfl) pa_nil))))) (pw_or1 (pt_cmpR op_ne (pe_callB (cr_len rfl) (by rfl) T.n_len (by decide +kernel) (pa_cons (pv 3) pa_nil)) pe_int (nomark _))))) (pss_one (ps_ret pe_bl)) pss_nil) (pss_cons (ps_asg (pv 3) (pg_tup rfl (pgs_cons (pg_name (i := 4) sc_u_law_on.nd rfl (Or.inl rfl)) (pgs_cons (pg_name (i := 5) sc_u_law_on.nd rfl (Or.inl rfl)) pgs_nil)))) (pss_cons (ps_if (PW.pt (pw_or (pt_not (pt_val (pe_callS G_u_law_is_integer (hr.mono (by decide)) rfl T.g_u_law_is_integer F_u_law_is_integer.kp b_u_law_is_integer (fun σ => passAt (takes_of rfl rfl rfl rfl) σ) (pa_cons (pv 4) pa_nil)))) (pw_or (pt_not (pt_val (pe_callS G_u_law_is_integer (hr.mono (by decide)) rfl T.g_u_law_is_integer F_u_law_is_integer.kp b_u_law_is_integer (fun σ => passAt (takes_of rfl rfl rfl rfl) σ) (pa_cons (pv 5) pa_nil)))) (pw_or (pt_not (pt_chain op_le op_lt pe_int (pv 4) (pv 0))) (pw_or1 (pt_not (pt_chain op_le op_lt pe_int (pv 5) (pv 0)))))))) (pss_one (ps_ret pe_bl)) pss_nil) (pss_one (ps_ret (pe_cmpR op_eq (pe_op op_mod (pe_op op_sub (pe_op op_sub (pe_op op_add (pe_op op_mulX (pe_op op_mulX (pv 1) (pv 4)) (pv 4)) (pe_op op_mulX (pv 5) (pv 5))) pe_int) (pe_op op_mulX (pe_op op_mulX (pe_op op_mulX (pe_op op_mulX (pv 2) (pv 4)) (pv 4)) (pv 5)) (pv 5))) (pv 0)) pe_int (nomark _))))))), ?_⟩
  rintro ⟨prime_, a_, d_, point_, ⟨⟩⟩ F0 H0 Q KP L
  show Blk K F0 H0 KP _ [some (.im (toD prime_)), some (.im (toD a_)), some (.im (toD d_)), some (.im (toD point_)), none, none] (m_u_law_on prime_ a_ d_ point_)
  unfold m_u_law_on
  have ht_ := ((et_or (et_not (et_B (ev_isi isi_tuple (ev_var (i := 3) (x := point_) rfl)))) (et_test (ev_op opx_neI mild_ok (ev_lenD (ev_var (i := 3) (x := point_) rfl)) (ev_int (i := 2))))) : EvT K (W0 E) [some (.im (toD prime_)), some (.im (toD a_)), some (.im (toD d_)), some (.im (toD point_)), none, none] _ _)
  refine blk_seq (blk_if2 L trivial ht_ ?_ ?_)
  · have hr_ := ((ev_bl (b := false)) : EvX K (W0 E) [some (.im (toD prime_)), some (.im (toD a_)), some (.im (toD d_)), some (.im (toD point_)), none, none] _ _)
    exact blk_ret L trivial hr_
  · refine blk_nil ?_
    try refine Blk.nx ?_
    have hs_ := ((ev_cast (f := D.asT2) asT2_ok asT2_x (ev_var (i := 3) (x := point_) rfl)) : EvX K (W0 E) [some (.im (toD prime_)), some (.im (toD a_)), some (.im (toD d_)), some (.im (toD point_)), none, none] _ _)
    refine blk_seq (blk_asg L trivial hs_ (fun _ => (gx_tup (gxs_cons gx_name (gxs_cons gx_name gxs_nil)) rfl)) fun u895 => ?_)
    show Blk _ _ _ _ _ [some (.im (toD prime_)), some (.im (toD a_)), some (.im (toD d_)), some (.im (toD point_)), some (.im (toD u895.a)), some (.im (toD u895.b))] ((fun (x_ : D) (y_ : D) => _) u895.a u895.b)
    generalize u895.a = x_
    generalize u895.b = y_
    show Blk _ _ _ _ _ [some (.im (toD prime_)), some (.im (toD a_)), some (.im (toD d_)), some (.im (toD point_)), some (.im (toD x_)), some (.im (toD y_))] _
    try refine Blk.nx ?_
    have ht_ := ((et_or (et_not (et_B (ev_call (f := (fun (p : D × Unit) => m_u_law_is_integer p.1)) (ea_cons (ev_var (i := 4) (x := x_) rfl) ea_nil)))) (et_or (et_not (et_B (ev_call (f := (fun (p : D × Unit) => m_u_law_is_integer p.1)) (ea_cons (ev_var (i := 5) (x := y_) rfl) ea_nil)))) (et_or (et_not (et_test (ev_chain (opx_B0 (g := fun i j => decide (i ≤ j))) mild_ok (opx_B0 (g := fun i j => decide (i < j))) mild_ok (ev_int (i := 0)) (ev_cast (f := D.asInt) asInt_ok asInt_x (ev_var (i := 4) (x := x_) rfl)) (ev_var (i := 0) (x := prime_) rfl)))) (et_not (et_test (ev_chain (opx_B0 (g := fun i j => decide (i ≤ j))) mild_ok (opx_B0 (g := fun i j => decide (i < j))) mild_ok (ev_int (i := 0)) (ev_cast (f := D.asInt) asInt_ok asInt_x (ev_var (i := 5) (x := y_) rfl)) (ev_var (i := 0) (x := prime_) rfl))))))) : EvT K (W0 E) [some (.im (toD prime_)), some (.im (toD a_)), some (.im (toD d_)), some (.im (toD point_)), some (.im (toD x_)), some (.im (toD y_))] _ _)
    refine blk_seq (blk_if2 L trivial ht_ ?_ ?_)
    · have hr_ := ((ev_bl (b := false)) : EvX K (W0 E) [some (.im (toD prime_)), some (.im (toD a_)), some (.im (toD d_)), some (.im (toD point_)), some (.im (toD x_)), some (.im (toD y_))] _ _)
      exact blk_ret L trivial hr_
    · refine blk_nil ?_
      try refine Blk.nx ?_
      have hr_ := ((ev_op opx_eqI mild_ok (ev_op (opx_I (C := (fun _ j => 0 < j)) (g := fun i j => i % j)) mild_need (ev_op (opx_I0 (g := fun i j => i - j)) mild_ok (ev_op (opx_I0 (g := fun i j => i - j)) mild_ok (ev_op (opx_I0 (g := fun i j => i + j)) mild_ok (ev_op (opx_I (C := CMulX) (g := fun i j => i * j)) mild_need (ev_op (opx_I (C := CMulX) (g := fun i j => i * j)) mild_need (ev_var (i := 1) (x := a_) rfl) (ev_cast (f := D.asInt) asInt_ok asInt_x (ev_var (i := 4) (x := x_) rfl))) (ev_cast (f := D.asInt) asInt_ok asInt_x (ev_var (i := 4) (x := x_) rfl))) (ev_op (opx_I (C := CMulX) (g := fun i j => i * j)) mild_need (ev_cast (f := D.asInt) asInt_ok asInt_x (ev_var (i := 5) (x := y_) rfl)) (ev_cast (f := D.asInt) asInt_ok asInt_x (ev_var (i := 5) (x := y_) rfl)))) (ev_int (i := 1))) (ev_op (opx_I (C := CMulX) (g := fun i j => i * j)) mild_need (ev_op (opx_I (C := CMulX) (g := fun i j => i * j)) mild_need (ev_op (opx_I (C := CMulX) (g := fun i j => i * j)) mild_need (ev_op (opx_I (C := CMulX) (g := fun i j => i * j)) mild_need (ev_var (i := 2) (x := d_) rfl) (ev_cast (f := D.asInt) asInt_ok asInt_x (ev_var (i := 4) (x := x_) rfl))) (ev_cast (f := D.asInt) asInt_ok asInt_x (ev_var (i := 4) (x := x_) rfl))) (ev_cast (f := D.asInt) asInt_ok asInt_x (ev_var (i := 5) (x := y_) rfl))) (ev_cast (f := D.asInt) asInt_ok asInt_x (ev_var (i := 5) (x := y_) rfl)))) (ev_var (i := 0) (x := prime_) rfl)) (ev_int (i := 0))) : EvX K (W0 E) [some (.im (toD prime_)), some (.im (toD a_)), some (.im (toD d_)), some (.im (toD point_)), some (.im (toD x_)), some (.im (toD y_))] _ _)
      exact blk_ret L trivial hr_
noncomputable def m_u_law_lifted_l1 (curve_ : O_EdwardsCurve) (prime_ : Int) (a_ : Int) (d_ : Int) (cell_ : Int) (y_ : Int) (k1 : Unit → Res (T2 Int Int)) : List Int → Unit → Res (T2 Int Int)
  | [], s => k1 s
  | x947 :: r1, _ =>   (fun (k_ : Int) => (((Res.ok curve_)).bind fun (o961 : O_EdwardsCurve) => (((((Res.ok y_)).bind fun (t948 : Int) => ((Res.ok k_)).bind fun (t949 : Int) => Res.ok (t948 + t949)).bind fun (t950 : Int) => ((Res.ok prime_)).bind fun (t951 : Int) => Res.need (0 < t951) (Res.ok (t950 % t951))).bind fun a963 => ((((((((Res.ok cell_)).bind fun a953 => (Res.ok ()).bind fun a954 => Res.ok (a953, a954)).bind fun p952 => Res.ok (Int.natAbs p952.1 : Int)).bind fun (t955 : Int) => ((Res.ok (2 : Int))).bind fun (t956 : Int) => Res.ok (t955 / t956)).bind fun (t957 : Int) => ((Res.ok (2 : Int))).bind fun (t958 : Int) => Res.ok (t957 % t958)).bind fun (t959 : Int) => ((Res.ok (1 : Int))).bind fun (t960 : Int) => Res.ok (decide (t959 = t960))).bind fun a965 => (Res.ok ()).bind fun a966 => Res.ok (a965, a966)).bind fun a964 => Res.ok (a963, a964)).bind fun p962 => m_EdwardsCurve_lift o961 p962.1 p962.2.1).bind fun (point_ : (Option (T2 Int Int))) =>   ((((Res.ok point_)).bind fun (t967 : (Option (T2 Int Int))) => ((Res.ok ())).bind fun (t968 : Unit) => Res.ok (!(toD t967).isNon)).bind fun b978 => cond b978 ((((Res.ok prime_)).bind fun a970 => (((Res.ok a_)).bind fun a972 => (((Res.ok d_)).bind fun a974 => ((((Res.ok point_)).bind fun (x : (Option (T2 Int Int))) => Res.ok (toD x)).bind fun a976 => (Res.ok ()).bind fun a977 => Res.ok (a976, a977)).bind fun a975 => Res.ok (a974, a975)).bind fun a973 => Res.ok (a972, a973)).bind fun a971 => Res.ok (a970, a971)).bind fun p969 => m_u_law_on p969.1 p969.2.1 p969.2.2.1 p969.2.2.2.1) (Res.ok false)).bind fun b => cond b   (((Res.ok point_)).bind optGet)   (m_u_law_lifted_l1 curve_ prime_ a_ d_ cell_ y_ k1 r1 ())) x947
noncomputable def m_u_law_lifted_k2 (prime_ : Int) : Unit → Res (T2 Int Int) := fun _ =>   (((Res.ok (0 : Int))).bind fun a982 => ((((Res.ok prime_)).bind fun (t979 : Int) => ((Res.ok (1 : Int))).bind fun (t980 : Int) => Res.ok (t979 - t980)).bind fun a984 => (Res.ok ()).bind fun a985 => Res.ok (a984, a985)).bind fun a983 => Res.ok (a982, a983)).bind fun p981 => Res.ok (T2.mk p981.1 p981.2.1)
noncomputable def m_u_law_lifted (curve_ : O_EdwardsCurve) (prime_ : Int) (a_ : Int) (d_ : Int) (cell_ : Int) : Res (T2 Int Int) :=
  ((((Res.ok cell_)).bind fun a942 => (((Res.ok prime_)).bind fun a944 => (Res.ok ()).bind fun a945 => Res.ok (a944, a945)).bind fun a943 => Res.ok (a942, a943)).bind fun p941 => m_u_law_residue p941.1 p941.2.1).bind fun (y_ : Int) =>   (((Res.ok (10 : Int))).bind fun (t946 : Int) => Res.need (okRange t946) (Res.ok (pyRange 0 t946))).bind fun (xs986 : List Int) => m_u_law_lifted_l1 curve_ prime_ a_ d_ cell_ y_ (m_u_law_lifted_k2 prime_) xs986 ()
theorem ok_u_law_lifted {P : Program} {w : World} {K : PySem.W.Frag} {mg : Str → Option Value} {base : Heap} (T : Facts K mg) {fd : FuncData} (F : FnP K "_law_lifted" "_law_lifted" s_u_law_lifted (He.ga K "_law_lifted") fd) :
    FnOk P w K mg base (L2.CX P w) 8 (He.ga K "_law_lifted") fd ["curve", "prime", "a", "d", "cell"] (spM K (fun (p : O_EdwardsCurve × Int × Int × Int × Int × Unit) => m_u_law_lifted p.1 p.2.1 p.2.2.1 p.2.2.2.1 p.2.2.2.2.1)) := by
  obtain ⟨fd_EdwardsCurve_lift, F_EdwardsCurve_lift⟩ := T.d_EdwardsCurve_lift
  have G_EdwardsCurve_lift := ok_EdwardsCurve_lift (P := P) (w := w) (base := base) T F_EdwardsCurve_lift
  have b_EdwardsCurve_lift : Binds K fd_EdwardsCurve_lift ["self", "y", "odd"] [] := F_EdwardsCurve_lift.bindsN fun _ _ _ _ _ _ us hl => match us, hl with | [_, _, _], _ => rfl
  obtain ⟨fd_u_law_on, F_u_law_on⟩ := T.d_u_law_on
  have G_u_law_on := ok_u_law_on (P := P) (w := w) (base := base) T F_u_law_on
  have b_u_law_on : Binds K fd_u_law_on ["prime", "a", "d", "point"] [] := F_u_law_on.bindsN fun _ _ _ _ _ _ us hl => match us, hl with | [_, _, _, _], _ => rfl
  obtain ⟨fd_u_law_residue, F_u_law_residue⟩ := T.d_u_law_residue
  have G_u_law_residue := ok_u_law_residue (P := P) (w := w) (base := base) T F_u_law_residue
  have b_u_law_residue : Binds K fd_u_law_residue ["cell", "prime"] [] := F_u_law_residue.bindsN fun _ _ _ _ _ _ us hl => match us, hl with | [_, _], _ => rfl
  refine fn_ok F sc_u_law_lifted (fun y => rfl) (fun cdv A outer s H E hr => ?_)
  refine ⟨_, (pss_cons (ps_set (i := 5) sc_u_law_lifted.nd rfl (Or.inl rfl) (pe_callS G_u_law_residue (hr.mono (by decide)) rfl T.g_u_law_residue F_u_law_residue.kp b_u_law_residue (fun σ => passAt (takes_of rfl rfl rfl rfl) σ) (pa_cons (pv 4) (pa_cons (pv 1) pa_nil)))) (pss_cons (ps_for (passes_of rfl) rfl (pi_range1 rfl T.n_range (pa_cons pe_int pa_nil)) (pg_name (i := 6) sc_u_law_lifted.nd rfl (Or.inl rfl)) (pss_cons (ps_set (i := 7) sc_u_law_lifted.nd rfl (Or.inl rfl) (pe_methQ (pv 0) T.cl_EdwardsCurve T.mt_EdwardsCurve_lift G_EdwardsCurve_lift (hr.mono (by decide)) b_EdwardsCurve_lift (fun σ => passAt (takes_of rfl rfl rfl rfl) σ) (pa_cons (pe_op op_mod (pe_op op_add (pv 5) (pv 6)) (pv 1)) (pa_cons (pe_cmpR op_eq (pe_op op_mod (pe_op op_fdiv (pe_callB call_abs (by rfl) T.n_abs (by decide +kernel) (pa_cons (pv 4) pa_nil)) pe_int) pe_int) pe_int (nomark _)) pa_nil)))) (pss_one (ps_if (PW.pt (pw_and (pt_cmpR op_notN (pv 7) pe_non (nomark _)) (pw_and1 (pt_val (pe_callS G_u_law_on (hr.mono (by decide)) rfl T.g_u_law_on F_u_law_on.kp b_u_law_on (fun σ => passAt (takes_of rfl rfl rfl rfl) σ) (pa_cons (pv 1) (pa_cons (pv 2) (pa_cons (pv 3) (pa_cons (pv 7) pa_nil))))))))) (pss_one (ps_ret (pv 7))) pss_nil)))) (pss_one (ps_ret (pe_tup (pa_cons pe_int (pa_cons (pe_op op_sub (pv 1) pe_int) pa_nil))))))), ?_⟩
  rintro ⟨curve_, prime_, a_, d_, cell_, ⟨⟩⟩ F0 H0 Q KP L
  show Blk K F0 H0 KP _ [some (.im (toD curve_)), some (.im (toD prime_)), some (.im (toD a_)), some (.im (toD d_)), some (.im (toD cell_)), none, none, none] (m_u_law_lifted curve_ prime_ a_ d_ cell_)
  unfold m_u_law_lifted
  have hs_ := ((ev_call (f := (fun (p : Int × Int × Unit) => m_u_law_residue p.1 p.2.1)) (ea_cons (ev_var (i := 4) (x := cell_) rfl) (ea_cons (ev_var (i := 1) (x := prime_) rfl) ea_nil))) : EvX K (W0 E) [some (.im (toD curve_)), some (.im (toD prime_)), some (.im (toD a_)), some (.im (toD d_)), some (.im (toD cell_)), none, none, none] _ _)
  refine blk_seq (blk_set (i := 5) L trivial hs_ fun y_ => ?_)
  show Blk _ _ _ _ _ [some (.im (toD curve_)), some (.im (toD prime_)), some (.im (toD a_)), some (.im (toD d_)), some (.im (toD cell_)), some (.im (toD y_)), none, none] _
  try refine Blk.nx ?_
  have hi_ := ((ei_range1 (ev_int (i := 10))) : EvI K (W0 E) [some (.im (toD curve_)), some (.im (toD prime_)), some (.im (toD a_)), some (.im (toD d_)), some (.im (toD cell_)), some (.im (toD y_)), none, none] _ _)
  refine blk_seq (blk_for (S := Unit) (m_u_law_lifted_l1 curve_ prime_ a_ d_ cell_ y_ (m_u_law_lifted_k2 prime_)) (m_u_law_lifted_k2 prime_) (fun _ => [some (.im (toD curve_)), some (.im (toD prime_)), some (.im (toD a_)), some (.im (toD d_)), some (.im (toD cell_)), some (.im (toD y_)), none, none]) () L trivial hi_ (fun _ => gx_name) (.same (.same (.same (.same (.same (.same (.same (.same .nil)))))))) (fun _ => rfl) ?_ ?_)
  · intro F1 L1 hB1 x947 r1 s_ N_ hN1
    obtain ⟨⟩ := s_
    show Blk _ _ _ _ _ [some (.im (toD curve_)), some (.im (toD prime_)), some (.im (toD a_)), some (.im (toD d_)), some (.im (toD cell_)), some (.im (toD y_)), some (.im (toD x947)), none] (m_u_law_lifted_l1 curve_ prime_ a_ d_ cell_ y_ (m_u_law_lifted_k2 prime_) (x947 :: r1) ())
    rw [m_u_law_lifted_l1]
    show Blk _ _ _ _ _ _ ((fun (k_ : Int) => _) x947)
    generalize x947 = k_
    show Blk _ _ _ _ _ [some (.im (toD curve_)), some (.im (toD prime_)), some (.im (toD a_)), some (.im (toD d_)), some (.im (toD cell_)), some (.im (toD y_)), some (.im (toD k_)), none] _
    have hs_ := ((ev_meth (c := "EdwardsCurve") (m := "lift") (ks := ["prime", "a", "d"]) (f := (fun (p : O_EdwardsCurve × Int × Bool × Unit) => m_EdwardsCurve_lift p.1 p.2.1 p.2.2.1)) (ev_var (i := 0) (x := curve_) rfl) (ea_cons (ev_op (opx_I (C := (fun _ j => 0 < j)) (g := fun i j => i % j)) mild_need (ev_op (opx_I0 (g := fun i j => i + j)) mild_ok (ev_var (i := 5) (x := y_) rfl) (ev_var (i := 6) (x := k_) rfl)) (ev_var (i := 1) (x := prime_) rfl)) (ea_cons (ev_op opx_eqI mild_ok (ev_opI (C := (fun _ j => 0 < j)) (g := fun i j => i % j) (fun x y _ h => by cases h; (show (0 : Int) < _; decide)) (ev_opI (C := CDiv) (g := fun i j => i / j) (fun x y _ h => by cases h; exact ⟨by decide, by decide⟩) (ev_cb cx_abs (fun _ _ h => nomatch h) (ea_cons (ev_var (i := 4) (x := cell_) rfl) ea_nil)) (ev_int (i := 2))) (ev_int (i := 2))) (ev_int (i := 1))) ea_nil)) (by decide +kernel) (fun _ => ⟨_, rfl⟩)) : EvX K (W0 E) [some (.im (toD curve_)), some (.im (toD prime_)), some (.im (toD a_)), some (.im (toD d_)), some (.im (toD cell_)), some (.im (toD y_)), some (.im (toD k_)), none] _ _)
    refine blk_seq (blk_set (i := 7) L1 trivial hs_ fun point_ => ?_)
    show Blk _ _ _ _ _ [some (.im (toD curve_)), some (.im (toD prime_)), some (.im (toD a_)), some (.im (toD d_)), some (.im (toD cell_)), some (.im (toD y_)), some (.im (toD k_)), some (.im (toD point_))] _
    try refine Blk.nx ?_
    have ht_ := ((et_and (et_test (ev_op opx_notN mild_ok (ev_var (i := 7) (x := point_) rfl) ev_non)) (et_B (ev_call (f := (fun (p : Int × Int × Int × D × Unit) => m_u_law_on p.1 p.2.1 p.2.2.1 p.2.2.2.1)) (ea_cons (ev_var (i := 1) (x := prime_) rfl) (ea_cons (ev_var (i := 2) (x := a_) rfl) (ea_cons (ev_var (i := 3) (x := d_) rfl) (ea_cons (ev_as (ev_var (i := 7) (x := point_) rfl) toD (fun _ => rfl) rfl) ea_nil))))))) : EvT K (W0 E) [some (.im (toD curve_)), some (.im (toD prime_)), some (.im (toD a_)), some (.im (toD d_)), some (.im (toD cell_)), some (.im (toD y_)), some (.im (toD k_)), some (.im (toD point_))] _ _)
    refine blk_if2 L1 trivial ht_ ?_ ?_
    · have hr_ := ((ev_castG (f := optGet) optGet_ok optGet_x (ev_var (i := 7) (x := point_) rfl)) : EvX K (W0 E) [some (.im (toD curve_)), some (.im (toD prime_)), some (.im (toD a_)), some (.im (toD d_)), some (.im (toD cell_)), some (.im (toD y_)), some (.im (toD k_)), some (.im (toD point_))] _ _)
      exact blk_ret L1 trivial hr_
    · refine blk_nil ?_
      try refine Blk.nx ?_
      exact (hN1 ()).weak (.same (.same (.same (.same (.same (.same (.drop (.drop .nil))))))))
  · intro _
    show Blk _ _ _ _ _ [some (.im (toD curve_)), some (.im (toD prime_)), some (.im (toD a_)), some (.im (toD d_)), some (.im (toD cell_)), some (.im (toD y_)), none, none] ((m_u_law_lifted_k2 prime_) ())
    unfold m_u_law_lifted_k2
    try refine Blk.nx ?_
    have hr_ := ((ev_tup (f := (fun y => T2.mk y.1 y.2.1)) (ea_cons (ev_int (i := 0)) (ea_cons (ev_op (opx_I0 (g := fun i j => i - j)) mild_ok (ev_var (i := 1) (x := prime_) rfl) (ev_int (i := 1))) ea_nil)) (fun _ => rfl) (fun _ => by show 2 ≤ 100000; decide)) : EvX K (W0 E) [some (.im (toD curve_)), some (.im (toD prime_)), some (.im (toD a_)), some (.im (toD d_)), some (.im (toD cell_)), some (.im (toD y_)), none, none] _ _)
    exact blk_ret L trivial hr_
noncomputable def m_u_law_add (prime_ : Int) (a_ : Int) (d_ : Int) (first_ : (T2 Int Int)) (second_ : (T2 Int Int)) : Res (T2 Int Int) :=
  ((Res.ok first_)).bind fun (u987 : (T2 Int Int)) =>   (fun (x1_ : Int) (y1_ : Int) => ((Res.ok second_)).bind fun (u988 : (T2 Int Int)) =>   (fun (x2_ : Int) (y2_ : Int) => (((((((Res.ok d_)).bind fun (t989 : Int) => ((Res.ok x1_)).bind fun (t990 : Int) => Res.need (CMulX t989 t990) (Res.ok (t989 * t990))).bind fun (t991 : Int) => ((Res.ok x2_)).bind fun (t992 : Int) => Res.need (CMulX t991 t992) (Res.ok (t991 * t992))).bind fun (t993 : Int) => ((Res.ok y1_)).bind fun (t994 : Int) => Res.need (CMulX t993 t994) (Res.ok (t993 * t994))).bind fun (t995 : Int) => ((Res.ok y2_)).bind fun (t996 : Int) => Res.need (CMulX t995 t996) (Res.ok (t995 * t996))).bind fun (t997 : Int) => ((Res.ok prime_)).bind fun (t998 : Int) => Res.need (0 < t998) (Res.ok (t997 % t998))).bind fun (t_ : Int) =>   (((((Res.ok x1_)).bind fun (t999 : Int) => ((Res.ok y2_)).bind fun (t1000 : Int) => Res.need (CMulX t999 t1000) (Res.ok (t999 * t1000))).bind fun (t1003 : Int) => (((Res.ok y1_)).bind fun (t1001 : Int) => ((Res.ok x2_)).bind fun (t1002 : Int) => Res.need (CMulX t1001 t1002) (Res.ok (t1001 * t1002))).bind fun (t1004 : Int) => Res.ok (t1003 + t1004)).bind fun (t1012 : Int) => (((((Res.ok (1 : Int))).bind fun (t1005 : Int) => ((Res.ok t_)).bind fun (t1006 : Int) => Res.ok (t1005 + t1006)).bind fun a1008 => (((Res.ok prime_)).bind fun a1010 => (Res.ok ()).bind fun a1011 => Res.ok (a1010, a1011)).bind fun a1009 => Res.ok (a1008, a1009)).bind fun p1007 => m_u_law_inverse p1007.1 p1007.2.1).bind fun (t1013 : Int) => Res.need (CMulX t1012 t1013) (Res.ok (t1012 * t1013))).bind fun (x3_ : Int) =>   (((((Res.ok y1_)).bind fun (t1014 : Int) => ((Res.ok y2_)).bind fun (t1015 : Int) => Res.need (CMulX t1014 t1015) (Res.ok (t1014 * t1015))).bind fun (t1020 : Int) => ((((Res.ok a_)).bind fun (t1016 : Int) => ((Res.ok x1_)).bind fun (t1017 : Int) => Res.need (CMulX t1016 t1017) (Res.ok (t1016 * t1017))).bind fun (t1018 : Int) => ((Res.ok x2_)).bind fun (t1019 : Int) => Res.need (CMulX t1018 t1019) (Res.ok (t1018 * t1019))).bind fun (t1021 : Int) => Res.ok (t1020 - t1021)).bind fun (t1029 : Int) => (((((Res.ok (1 : Int))).bind fun (t1022 : Int) => ((Res.ok t_)).bind fun (t1023 : Int) => Res.ok (t1022 - t1023)).bind fun a1025 => (((Res.ok prime_)).bind fun a1027 => (Res.ok ()).bind fun a1028 => Res.ok (a1027, a1028)).bind fun a1026 => Res.ok (a1025, a1026)).bind fun p1024 => m_u_law_inverse p1024.1 p1024.2.1).bind fun (t1030 : Int) => Res.need (CMulX t1029 t1030) (Res.ok (t1029 * t1030))).bind fun (y3_ : Int) =>   ((((Res.ok x3_)).bind fun (t1031 : Int) => ((Res.ok prime_)).bind fun (t1032 : Int) => Res.need (0 < t1032) (Res.ok (t1031 % t1032))).bind fun a1036 => ((((Res.ok y3_)).bind fun (t1033 : Int) => ((Res.ok prime_)).bind fun (t1034 : Int) => Res.need (0 < t1034) (Res.ok (t1033 % t1034))).bind fun a1038 => (Res.ok ()).bind fun a1039 => Res.ok (a1038, a1039)).bind fun a1037 => Res.ok (a1036, a1037)).bind fun p1035 => Res.ok (T2.mk p1035.1 p1035.2.1)) u988.a u988.b) u987.a u987.b
theorem ok_u_law_add {P : Program} {w : World} {K : PySem.W.Frag} {mg : Str → Option Value} {base : Heap} (T : Facts K mg) {fd : FuncData} (F : FnP K "_law_add" "_law_add" s_u_law_add (He.ga K "_law_add") fd) :
    FnOk P w K mg base (L2.CX P w) 3 (He.ga K "_law_add") fd ["prime", "a", "d", "first", "second"] (spM K (fun (p : Int × Int × Int × (T2 Int Int) × (T2 Int Int) × Unit) => m_u_law_add p.1 p.2.1 p.2.2.1 p.2.2.2.1 p.2.2.2.2.1)) := by
  obtain ⟨fd_u_law_inverse, F_u_law_inverse⟩ := T.d_u_law_inverse
  have G_u_law_inverse := ok_u_law_inverse (P := P) (w := w) (base := base) T F_u_law_inverse
  have b_u_law_inverse : Binds K fd_u_law_inverse ["a", "prime"] [] := F_u_law_inverse.bindsN fun _ _ _ _ _ _ us hl => match us, hl with | [_, _], _ => rfl
  refine fn_ok F sc_u_law_add (fun y => rfl) (fun cdv A outer s H E hr => ?_)
  refine ⟨_, (pss_cons (ps_asg (pv 3) (pg_tup rfl (pgs_cons (pg_name (i := 5) sc_u_law_add.nd rfl (Or.inl rfl)) (pgs_cons (pg_name (i := 6) sc_u_law_add.nd rfl (Or.inl rfl)) pgs_nil)))) (pss_cons (ps_asg (pv 4) (pg_tup rfl (pgs_cons (pg_name (i := 7) sc_u_law_add.nd rfl (Or.inl rfl)) (pgs_cons (pg_name (i := 8) sc_u_law_add.nd rfl (Or.inl rfl)) pgs_nil)))) (pss_cons (ps_set (i := 9) sc_u_law_add.nd rfl (Or.inl rfl) (pe_op op_mod (pe_op op_mulX (pe_op op_mulX (pe_op op_mulX (pe_op op_mulX (pv 2) (pv 5)) (pv 7)) (pv 6)) (pv 8)) (pv 0))) (pss_cons (ps_set (i := 10) sc_u_law_add.nd rfl (Or.inl rfl) (pe_op op_mulX (pe_op op_add (pe_op op_mulX (pv 5) (pv 8)) (pe_op op_mulX (pv 6) (pv 7))) (pe_callS G_u_law_inverse (hr.mono (by decide)) rfl T.g_u_law_inverse F_u_law_inverse.kp b_u_law_inverse (fun σ => passAt (takes_of rfl rfl rfl rfl) σ) (pa_cons (pe_op op_add pe_int (pv 9)) (pa_cons (pv 0) pa_nil))))) (pss_cons (ps_set (i := 11) sc_u_law_add.nd rfl (Or.inl rfl) (pe_op op_mulX (pe_op op_sub (pe_op op_mulX (pv 6) (pv 8)) (pe_op op_mulX (pe_op op_mulX (pv 1) (pv 5)) (pv 7))) (pe_callS G_u_law_inverse (hr.mono (by decide)) rfl T.g_u_law_inverse F_u_law_inverse.kp b_u_law_inverse (fun σ => passAt (takes_of rfl rfl rfl rfl) σ) (pa_cons (pe_op op_sub pe_int (pv 9)) (pa_cons (pv 0) pa_nil))))) (pss_one (ps_ret (pe_tup (pa_cons (pe_op op_mod (pv 10) (pv 0)) (pa_cons (pe_op op_mod (pv 11) (pv 0)) pa_nil)))))))))), ?_⟩
  rintro ⟨prime_, a_, d_, first_, second_, ⟨⟩⟩ F0 H0 Q KP L
  show Blk K F0 H0 KP _ [some (.im (toD prime_)), some (.im (toD a_)), some (.im (toD d_)), some (.im (toD first_)), some (.im (toD second_)), none, none, none, none, none, none, none] (m_u_law_add prime_ a_ d_ first_ second_)
  unfold m_u_law_add
  have hs_ := ((ev_var (i := 3) (x := first_) rfl) : EvX K (W0 E) [some (.im (toD prime_)), some (.im (toD a_)), some (.im (toD d_)), some (.im (toD first_)), some (.im (toD second_)), none, none, none, none, none, none, none] _ _)
  refine blk_seq (blk_asg L trivial hs_ (fun _ => (gx_tup (gxs_cons gx_name (gxs_cons gx_name gxs_nil)) rfl)) fun u987 => ?_)
  show Blk _ _ _ _ _ [some (.im (toD prime_)), some (.im (toD a_)), some (.im (toD d_)), some (.im (toD first_)), some (.im (toD second_)), some (.im (toD u987.a)), some (.im (toD u987.b)), none, none, none, none, none] ((fun (x1_ : Int) (y1_ : Int) => _) u987.a u987.b)
  generalize u987.a = x1_
  generalize u987.b = y1_
  show Blk _ _ _ _ _ [some (.im (toD prime_)), some (.im (toD a_)), some (.im (toD d_)), some (.im (toD first_)), some (.im (toD second_)), some (.im (toD x1_)), some (.im (toD y1_)), none, none, none, none, none] _
  try refine Blk.nx ?_
  have hs_ := ((ev_var (i := 4) (x := second_) rfl) : EvX K (W0 E) [some (.im (toD prime_)), some (.im (toD a_)), some (.im (toD d_)), some (.im (toD first_)), some (.im (toD second_)), some (.im (toD x1_)), some (.im (toD y1_)), none, none, none, none, none] _ _)
  refine blk_seq (blk_asg L trivial hs_ (fun _ => (gx_tup (gxs_cons gx_name (gxs_cons gx_name gxs_nil)) rfl)) fun u988 => ?_)
  show Blk _ _ _ _ _ [some (.im (toD prime_)), some (.im (toD a_)), some (.im (toD d_)), some (.im (toD first_)), some (.im (toD second_)), some (.im (toD x1_)), some (.im (toD y1_)), some (.im (toD u988.a)), some (.im (toD u988.b)), none, none, none] ((fun (x2_ : Int) (y2_ : Int) => _) u988.a u988.b)
  generalize u988.a = x2_
  generalize u988.b = y2_
  show Blk _ _ _ _ _ [some (.im (toD prime_)), some (.im (toD a_)), some (.im (toD d_)), some (.im (toD first_)), some (.im (toD second_)), some (.im (toD x1_)), some (.im (toD y1_)), some (.im (toD x2_)), some (.im (toD y2_)), none, none, none] _
  try refine Blk.nx ?_
  have hs_ := ((ev_op (opx_I (C := (fun _ j => 0 < j)) (g := fun i j => i % j)) mild_need (ev_op (opx_I (C := CMulX) (g := fun i j => i * j)) mild_need (ev_op (opx_I (C := CMulX) (g := fun i j => i * j)) mild_need (ev_op (opx_I (C := CMulX) (g := fun i j => i * j)) mild_need (ev_op (opx_I (C := CMulX) (g := fun i j => i * j)) mild_need (ev_var (i := 2) (x := d_) rfl) (ev_var (i := 5) (x := x1_) rfl)) (ev_var (i := 7) (x := x2_) rfl)) (ev_var (i := 6) (x := y1_) rfl)) (ev_var (i := 8) (x := y2_) rfl)) (ev_var (i := 0) (x := prime_) rfl)) : EvX K (W0 E) [some (.im (toD prime_)), some (.im (toD a_)), some (.im (toD d_)), some (.im (toD first_)), some (.im (toD second_)), some (.im (toD x1_)), some (.im (toD y1_)), some (.im (toD x2_)), some (.im (toD y2_)), none, none, none] _ _)
  refine blk_seq (blk_set (i := 9) L trivial hs_ fun t_ => ?_)
  show Blk _ _ _ _ _ [some (.im (toD prime_)), some (.im (toD a_)), some (.im (toD d_)), some (.im (toD first_)), some (.im (toD second_)), some (.im (toD x1_)), some (.im (toD y1_)), some (.im (toD x2_)), some (.im (toD y2_)), some (.im (toD t_)), none, none] _
  try refine Blk.nx ?_
  have hs_ := ((ev_op (opx_I (C := CMulX) (g := fun i j => i * j)) mild_need (ev_op (opx_I0 (g := fun i j => i + j)) mild_ok (ev_op (opx_I (C := CMulX) (g := fun i j => i * j)) mild_need (ev_var (i := 5) (x := x1_) rfl) (ev_var (i := 8) (x := y2_) rfl)) (ev_op (opx_I (C := CMulX) (g := fun i j => i * j)) mild_need (ev_var (i := 6) (x := y1_) rfl) (ev_var (i := 7) (x := x2_) rfl))) (ev_call (f := (fun (p : Int × Int × Unit) => m_u_law_inverse p.1 p.2.1)) (ea_cons (ev_op (opx_I0 (g := fun i j => i + j)) mild_ok (ev_int (i := 1)) (ev_var (i := 9) (x := t_) rfl)) (ea_cons (ev_var (i := 0) (x := prime_) rfl) ea_nil)))) : EvX K (W0 E) [some (.im (toD prime_)), some (.im (toD a_)), some (.im (toD d_)), some (.im (toD first_)), some (.im (toD second_)), some (.im (toD x1_)), some (.im (toD y1_)), some (.im (toD x2_)), some (.im (toD y2_)), some (.im (toD t_)), none, none] _ _)
  refine blk_seq (blk_set (i := 10) L trivial hs_ fun x3_ => ?_)
  show Blk _ _ _ _ _ [some (.im (toD prime_)), some (.im (toD a_)), some (.im (toD d_)), some (.im (toD first_)), some (.im (toD second_)), some (.im (toD x1_)), some (.im (toD y1_)), some (.im (toD x2_)), some (.im (toD y2_)), some (.im (toD t_)), some (.im (toD x3_)), none] _
  try refine Blk.nx ?_
  have hs_ := ((ev_op (opx_I (C := CMulX) (g := fun i j => i * j)) mild_need (ev_op (opx_I0 (g := fun i j => i - j)) mild_ok (ev_op (opx_I (C := CMulX) (g := fun i j => i * j)) mild_need (ev_var (i := 6) (x := y1_) rfl) (ev_var (i := 8) (x := y2_) rfl)) (ev_op (opx_I (C := CMulX) (g := fun i j => i * j)) mild_need (ev_op (opx_I (C := CMulX) (g := fun i j => i * j)) mild_need (ev_var (i := 1) (x := a_) rfl) (ev_var (i := 5) (x := x1_) rfl)) (ev_var (i := 7) (x := x2_) rfl))) (ev_call (f := (fun (p : Int × Int × Unit) => m_u_law_inverse p.1 p.2.1)) (ea_cons (ev_op (opx_I0 (g := fun i j => i - j)) mild_ok (ev_int (i := 1)) (ev_var (i := 9) (x := t_) rfl)) (ea_cons (ev_var (i := 0) (x := prime_) rfl) ea_nil)))) : EvX K (W0 E) [some (.im (toD prime_)), some (.im (toD a_)), some (.im (toD d_)), some (.im (toD first_)), some (.im (toD second_)), some (.im (toD x1_)), some (.im (toD y1_)), some (.im (toD x2_)), some (.im (toD y2_)), some (.im (toD t_)), some (.im (toD x3_)), none] _ _)
  refine blk_seq (blk_set (i := 11) L trivial hs_ fun y3_ => ?_)
  show Blk _ _ _ _ _ [some (.im (toD prime_)), some (.im (toD a_)), some (.im (toD d_)), some (.im (toD first_)), some (.im (toD second_)), some (.im (toD x1_)), some (.im (toD y1_)), some (.im (toD x2_)), some (.im (toD y2_)), some (.im (toD t_)), some (.im (toD x3_)), some (.im (toD y3_))] _
  try refine Blk.nx ?_
  have hr_ := ((ev_tup (f := (fun y => T2.mk y.1 y.2.1)) (ea_cons (ev_op (opx_I (C := (fun _ j => 0 < j)) (g := fun i j => i % j)) mild_need (ev_var (i := 10) (x := x3_) rfl) (ev_var (i := 0) (x := prime_) rfl)) (ea_cons (ev_op (opx_I (C := (fun _ j => 0 < j)) (g := fun i j => i % j)) mild_need (ev_var (i := 11) (x := y3_) rfl) (ev_var (i := 0) (x := prime_) rfl)) ea_nil)) (fun _ => rfl) (fun _ => by show 2 ≤ 100000; decide)) : EvX K (W0 E) [some (.im (toD prime_)), some (.im (toD a_)), some (.im (toD d_)), some (.im (toD first_)), some (.im (toD second_)), some (.im (toD x1_)), some (.im (toD y1_)), some (.im (toD x2_)), some (.im (toD y2_)), some (.im (toD t_)), some (.im (toD x3_)), some (.im (toD y3_))] _ _)
  exact blk_ret L trivial hr_
noncomputable def m_u_law_tuple (point_ : (T2 Int Int)) (scale_ : Int) (prime_ : Int) : Res (T4 Int Int Int Int) :=
  ((Res.ok point_)).bind fun (u1040 : (T2 Int Int)) =>   (fun (x_ : Int) (y_ : Int) => (((((Res.ok x_)).bind fun (t1041 : Int) => ((Res.ok scale_)).bind fun (t1042 : Int) => Res.need (CMulX t1041 t1042) (Res.ok (t1041 * t1042))).bind fun (t1043 : Int) => ((Res.ok prime_)).bind fun (t1044 : Int) => Res.need (0 < t1044) (Res.ok (t1043 % t1044))).bind fun a1056 => (((((Res.ok y_)).bind fun (t1045 : Int) => ((Res.ok scale_)).bind fun (t1046 : Int) => Res.need (CMulX t1045 t1046) (Res.ok (t1045 * t1046))).bind fun (t1047 : Int) => ((Res.ok prime_)).bind fun (t1048 : Int) => Res.need (0 < t1048) (Res.ok (t1047 % t1048))).bind fun a1058 => (((Res.ok scale_)).bind fun a1060 => ((((((Res.ok x_)).bind fun (t1049 : Int) => ((Res.ok y_)).bind fun (t1050 : Int) => Res.need (CMulX t1049 t1050) (Res.ok (t1049 * t1050))).bind fun (t1051 : Int) => ((Res.ok scale_)).bind fun (t1052 : Int) => Res.need (CMulX t1051 t1052) (Res.ok (t1051 * t1052))).bind fun (t1053 : Int) => ((Res.ok prime_)).bind fun (t1054 : Int) => Res.need (0 < t1054) (Res.ok (t1053 % t1054))).bind fun a1062 => (Res.ok ()).bind fun a1063 => Res.ok (a1062, a1063)).bind fun a1061 => Res.ok (a1060, a1061)).bind fun a1059 => Res.ok (a1058, a1059)).bind fun a1057 => Res.ok (a1056, a1057)).bind fun p1055 => Res.ok (T4.mk p1055.1 p1055.2.1 p1055.2.2.1 p1055.2.2.2.1)) u1040.a u1040.b
theorem ok_u_law_tuple {P : Program} {w : World} {K : PySem.W.Frag} {mg : Str → Option Value} {base : Heap} (T : Facts K mg) {fd : FuncData} (F : FnP K "_law_tuple" "_law_tuple" s_u_law_tuple (He.ga K "_law_tuple") fd) :
    FnOk P w K mg base (L2.CX P w) 1 (He.ga K "_law_tuple") fd ["point", "scale", "prime"] (spM K (fun (p : (T2 Int Int) × Int × Int × Unit) => m_u_law_tuple p.1 p.2.1 p.2.2.1)) := by
  refine fn_ok F sc_u_law_tuple (fun y => rfl) (fun cdv A outer s H E hr => ?_)
  refine ⟨_, (pss_cons (ps_asg (pv 0) (pg_tup rfl (pgs_cons (pg_name (i := 3) sc_u_law_tuple.nd rfl (Or.inl rfl)) (pgs_cons (pg_name (i := 4) sc_u_law_tuple.nd rfl (Or.inl rfl)) pgs_nil)))) (pss_one (ps_ret (pe_tup (pa_cons (pe_op op_mod (pe_op op_mulX (pv 3) (pv 1)) (pv 2)) (pa_cons (pe_op op_mod (pe_op op_mulX (pv 4) (pv 1)) (pv 2)) (pa_cons (pv 1) (pa_cons (pe_op op_mod (pe_op op_mulX (pe_op op_mulX (pv 3) (pv 4)) (pv 1)) (pv 2)) pa_nil)))))))), ?_⟩
  rintro ⟨point_, scale_, prime_, ⟨⟩⟩ F0 H0 Q KP L
  show Blk K F0 H0 KP _ [some (.im (toD point_)), some (.im (toD scale_)), some (.im (toD prime_)), none, none] (m_u_law_tuple point_ scale_ prime_)
  unfold m_u_law_tuple
  have hs_ := ((ev_var (i := 0) (x := point_) rfl) : EvX K (W0 E) [some (.im (toD point_)), some (.im (toD scale_)), some (.im (toD prime_)), none, none] _ _)
  refine blk_seq (blk_asg L trivial hs_ (fun _ => (gx_tup (gxs_cons gx_name (gxs_cons gx_name gxs_nil)) rfl)) fun u1040 => ?_)
  show Blk _ _ _ _ _ [some (.im (toD point_)), some (.im (toD scale_)), some (.im (toD prime_)), some (.im (toD u1040.a)), some (.im (toD u1040.b))] ((fun (x_ : Int) (y_ : Int) => _) u1040.a u1040.b)
  generalize u1040.a = x_
  generalize u1040.b = y_
  show Blk _ _ _ _ _ [some (.im (toD point_)), some (.im (toD scale_)), some (.im (toD prime_)), some (.im (toD x_)), some (.im (toD y_))] _
  try refine Blk.nx ?_
  have hr_ := ((ev_tup (f := (fun y => T4.mk y.1 y.2.1 y.2.2.1 y.2.2.2.1)) (ea_cons (ev_op (opx_I (C := (fun _ j => 0 < j)) (g := fun i j => i % j)) mild_need (ev_op (opx_I (C := CMulX) (g := fun i j => i * j)) mild_need (ev_var (i := 3) (x := x_) rfl) (ev_var (i := 1) (x := scale_) rfl)) (ev_var (i := 2) (x := prime_) rfl)) (ea_cons (ev_op (opx_I (C := (fun _ j => 0 < j)) (g := fun i j => i % j)) mild_need (ev_op (opx_I (C := CMulX) (g := fun i j => i * j)) mild_need (ev_var (i := 4) (x := y_) rfl) (ev_var (i := 1) (x := scale_) rfl)) (ev_var (i := 2) (x := prime_) rfl)) (ea_cons (ev_var (i := 1) (x := scale_) rfl) (ea_cons (ev_op (opx_I (C := (fun _ j => 0 < j)) (g := fun i j => i % j)) mild_need (ev_op (opx_I (C := CMulX) (g := fun i j => i * j)) mild_need (ev_op (opx_I (C := CMulX) (g := fun i j => i * j)) mild_need (ev_var (i := 3) (x := x_) rfl) (ev_var (i := 4) (x := y_) rfl)) (ev_var (i := 1) (x := scale_) rfl)) (ev_var (i := 2) (x := prime_) rfl)) ea_nil)))) (fun _ => rfl) (fun _ => by show 4 ≤ 100000; decide)) : EvX K (W0 E) [some (.im (toD point_)), some (.im (toD scale_)), some (.im (toD prime_)), some (.im (toD x_)), some (.im (toD y_))] _ _)
  exact blk_ret L trivial hr_
noncomputable def m_u_law_sum (prime_ : Int) (a_ : Int) (d_ : Int) (first_ : (T4 Int Int Int Int)) (second_ : (T4 Int Int Int Int)) : Res (T4 Int Int Int Int) :=
  ((Res.ok first_)).bind fun (u1064 : (T4 Int Int Int Int)) =>   (fun (x1_ : Int) (y1_ : Int) (z1_ : Int) (t1_ : Int) => ((Res.ok second_)).bind fun (u1065 : (T4 Int Int Int Int)) =>   (fun (x2_ : Int) (y2_ : Int) (z2_ : Int) (t2_ : Int) => ((((Res.ok x1_)).bind fun (t1066 : Int) => ((Res.ok y2_)).bind fun (t1067 : Int) => Res.need (CMulX t1066 t1067) (Res.ok (t1066 * t1067))).bind fun (t1070 : Int) => (((Res.ok y1_)).bind fun (t1068 : Int) => ((Res.ok x2_)).bind fun (t1069 : Int) => Res.need (CMulX t1068 t1069) (Res.ok (t1068 * t1069))).bind fun (t1071 : Int) => Res.ok (t1070 + t1071)).bind fun (e_ : Int) =>   ((((Res.ok z1_)).bind fun (t1072 : Int) => ((Res.ok z2_)).bind fun (t1073 : Int) => Res.need (CMulX t1072 t1073) (Res.ok (t1072 * t1073))).bind fun (t1078 : Int) => ((((Res.ok d_)).bind fun (t1074 : Int) => ((Res.ok t1_)).bind fun (t1075 : Int) => Res.need (CMulX t1074 t1075) (Res.ok (t1074 * t1075))).bind fun (t1076 : Int) => ((Res.ok t2_)).bind fun (t1077 : Int) => Res.need (CMulX t1076 t1077) (Res.ok (t1076 * t1077))).bind fun (t1079 : Int) => Res.ok (t1078 - t1079)).bind fun (f_ : Int) =>   ((((Res.ok z1_)).bind fun (t1080 : Int) => ((Res.ok z2_)).bind fun (t1081 : Int) => Res.need (CMulX t1080 t1081) (Res.ok (t1080 * t1081))).bind fun (t1086 : Int) => ((((Res.ok d_)).bind fun (t1082 : Int) => ((Res.ok t1_)).bind fun (t1083 : Int) => Res.need (CMulX t1082 t1083) (Res.ok (t1082 * t1083))).bind fun (t1084 : Int) => ((Res.ok t2_)).bind fun (t1085 : Int) => Res.need (CMulX t1084 t1085) (Res.ok (t1084 * t1085))).bind fun (t1087 : Int) => Res.ok (t1086 + t1087)).bind fun (g_ : Int) =>   ((((Res.ok y1_)).bind fun (t1088 : Int) => ((Res.ok y2_)).bind fun (t1089 : Int) => Res.need (CMulX t1088 t1089) (Res.ok (t1088 * t1089))).bind fun (t1094 : Int) => ((((Res.ok a_)).bind fun (t1090 : Int) => ((Res.ok x1_)).bind fun (t1091 : Int) => Res.need (CMulX t1090 t1091) (Res.ok (t1090 * t1091))).bind fun (t1092 : Int) => ((Res.ok x2_)).bind fun (t1093 : Int) => Res.need (CMulX t1092 t1093) (Res.ok (t1092 * t1093))).bind fun (t1095 : Int) => Res.ok (t1094 - t1095)).bind fun (h_ : Int) =>   (((((Res.ok e_)).bind fun (t1096 : Int) => ((Res.ok f_)).bind fun (t1097 : Int) => Res.need (CMulX t1096 t1097) (Res.ok (t1096 * t1097))).bind fun (t1098 : Int) => ((Res.ok prime_)).bind fun (t1099 : Int) => Res.need (0 < t1099) (Res.ok (t1098 % t1099))).bind fun a1113 => (((((Res.ok g_)).bind fun (t1100 : Int) => ((Res.ok h_)).bind fun (t1101 : Int) => Res.need (CMulX t1100 t1101) (Res.ok (t1100 * t1101))).bind fun (t1102 : Int) => ((Res.ok prime_)).bind fun (t1103 : Int) => Res.need (0 < t1103) (Res.ok (t1102 % t1103))).bind fun a1115 => (((((Res.ok f_)).bind fun (t1104 : Int) => ((Res.ok g_)).bind fun (t1105 : Int) => Res.need (CMulX t1104 t1105) (Res.ok (t1104 * t1105))).bind fun (t1106 : Int) => ((Res.ok prime_)).bind fun (t1107 : Int) => Res.need (0 < t1107) (Res.ok (t1106 % t1107))).bind fun a1117 => (((((Res.ok e_)).bind fun (t1108 : Int) => ((Res.ok h_)).bind fun (t1109 : Int) => Res.need (CMulX t1108 t1109) (Res.ok (t1108 * t1109))).bind fun (t1110 : Int) => ((Res.ok prime_)).bind fun (t1111 : Int) => Res.need (0 < t1111) (Res.ok (t1110 % t1111))).bind fun a1119 => (Res.ok ()).bind fun a1120 => Res.ok (a1119, a1120)).bind fun a1118 => Res.ok (a1117, a1118)).bind fun a1116 => Res.ok (a1115, a1116)).bind fun a1114 => Res.ok (a1113, a1114)).bind fun p1112 => Res.ok (T4.mk p1112.1 p1112.2.1 p1112.2.2.1 p1112.2.2.2.1)) u1065.a u1065.b u1065.c u1065.e) u1064.a u1064.b u1064.c u1064.e
theorem ok_u_law_sum {P : Program} {w : World} {K : PySem.W.Frag} {mg : Str → Option Value} {base : Heap} (T : Facts K mg) {fd : FuncData} (F : FnP K "_law_sum" "_law_sum" s_u_law_sum (He.ga K "_law_sum") fd) :
    FnOk P w K mg base (L2.CX P w) 1 (He.ga K "_law_sum") fd ["prime", "a", "d", "first", "second"] (spM K (fun (p : Int × Int × Int × (T4 Int Int Int Int) × (T4 Int Int Int Int) × Unit) => m_u_law_sum p.1 p.2.1 p.2.2.1 p.2.2.2.1 p.2.2.2.2.1)) := by
  refine fn_ok F sc_u_law_sum (fun y => rfl) (fun cdv A outer s H E hr => ?_)
  refine ⟨_, (pss_cons (ps_asg (pv 3) (pg_tup rfl (pgs_cons (pg_name (i := 5) sc_u_law_sum.nd rfl (Or.inl rfl)) (pgs_cons (pg_name (i := 6) sc_u_law_sum.nd rfl (Or.inl rfl)) (pgs_cons (pg_name (i := 7) sc_u_law_sum.nd rfl (Or.inl rfl)) (pgs_cons (pg_name (i := 8) sc_u_law_sum.nd rfl (Or.inl rfl)) pgs_nil)))))) (pss_cons (ps_asg (pv 4) (pg_tup rfl (pgs_cons (pg_name (i := 9) sc_u_law_sum.nd rfl (Or.inl rfl)) (pgs_cons (pg_name (i := 10) sc_u_law_sum.nd rfl (Or.inl rfl)) (pgs_cons (pg_name (i := 11) sc_u_law_sum.nd rfl (Or.inl rfl)) (pgs_cons (pg_name (i := 12) sc_u_law_sum.nd rfl (Or.inl rfl)) pgs_nil)))))) (pss_cons (ps_set (i := 13) sc_u_law_sum.nd rfl (Or.inl rfl) (pe_op op_add (pe_op op_mulX (pv 5) (pv 10)) (pe_op op_mulX (pv 6) (pv 9)))) (pss_cons (ps_set (i := 14) sc_u_law_sum.nd rfl (Or.inl rfl) (pe_op op_sub (pe_op op_mulX (pv 7) (pv 11)) (pe_op op_mulX (pe_op op_mulX (pv 2) (pv 8)) (pv 12)))) (pss_cons (ps_set (i := 15) sc_u_law_sum.nd rfl (Or.inl rfl) (pe_op op_add (pe_op op_mulX (pv 7) (pv 11)) (pe_op op_mulX (pe_op op_mulX (pv 2) (pv 8)) (pv 12)))) (pss_cons (ps_set (i := 16) sc_u_law_sum.nd rfl (Or.inl rfl) (pe_op op_sub (pe_op op_mulX (pv 6) (pv 10)) (pe_op op_mulX (pe_op op_mulX (pv 1) (pv 5)) (pv 9)))) (pss_one (ps_ret (pe_tup (pa_cons (pe_op op_mod (pe_op op_mulX (pv 13) (pv 14)) (pv 0)) (pa_cons (pe_op op_mod (pe_op op_mulX (pv 15) (pv 16)) (pv 0)) (pa_cons (pe_op op_mod (pe_op op_mulX (pv 14) (pv 15)) (pv 0)) (pa_cons (pe_op op_mod (pe_op op_mulX (pv 13) (pv 16)) (pv 0)) pa_nil))))))))))))), ?_⟩
  rintro ⟨prime_, a_, d_, first_, second_, ⟨⟩⟩ F0 H0 Q KP L
  show Blk K F0 H0 KP _ [some (.im (toD prime_)), some (.im (toD a_)), some (.im (toD d_)), some (.im (toD first_)), some (.im (toD second_)), none, none, none, none, none, none, none, none, none, none, none, none] (m_u_law_sum prime_ a_ d_ first_ second_)
  unfold m_u_law_sum
  have hs_ := ((ev_var (i := 3) (x := first_) rfl) : EvX K (W0 E) [some (.im (toD prime_)), some (.im (toD a_)), some (.im (toD d_)), some (.im (toD first_)), some (.im (toD second_)), none, none, none, none, none, none, none, none, none, none, none, none] _ _)
  refine blk_seq (blk_asg L trivial hs_ (fun _ => (gx_tup (gxs_cons gx_name (gxs_cons gx_name (gxs_cons gx_name (gxs_cons gx_name gxs_nil)))) rfl)) fun u1064 => ?_)
  show Blk _ _ _ _ _ [some (.im (toD prime_)), some (.im (toD a_)), some (.im (toD d_)), some (.im (toD first_)), some (.im (toD second_)), some (.im (toD u1064.a)), some (.im (toD u1064.b)), some (.im (toD u1064.c)), some (.im (toD u1064.e)), none, none, none, none, none, none, none, none] ((fun (x1_ : Int) (y1_ : Int) (z1_ : Int) (t1_ : Int) => _) u1064.a u1064.b u1064.c u1064.e)
  generalize u1064.a = x1_
  generalize u1064.b = y1_
  generalize u1064.c = z1_
  generalize u1064.e = t1_
  show Blk _ _ _ _ _ [some (.im (toD prime_)), some (.im (toD a_)), some (.im (toD d_)), some (.im (toD first_)), some (.im (toD second_)), some (.im (toD x1_)), some (.im (toD y1_)), some (.im (toD z1_)), some (.im (toD t1_)), none, none, none, none, none, none, none, none] _
  try refine Blk.nx ?_
  have hs_ := ((ev_var (i := 4) (x := second_) rfl) : EvX K (W0 E) [some (.im (toD prime_)), some (.im (toD a_)), some (.im (toD d_)), some (.im (toD first_)), some (.im (toD second_)), some (.im (toD x1_)), some (.im (toD y1_)), some (.im (toD z1_)), some (.im (toD t1_)), none, none, none, none, none, none, none, none] _ _)
  refine blk_seq (blk_asg L trivial hs_ (fun _ => (gx_tup (gxs_cons gx_name (gxs_cons gx_name (gxs_cons gx_name (gxs_cons gx_name gxs_nil)))) rfl)) fun u1065 => ?_)
  show Blk _ _ _ _ _ [some (.im (toD prime_)), some (.im (toD a_)), some (.im (toD d_)), some (.im (toD first_)), some (.im (toD second_)), some (.im (toD x1_)), some (.im (toD y1_)), some (.im (toD z1_)), some (.im (toD t1_)), some (.im (toD u1065.a)), some (.im (toD u1065.b)), some (.im (toD u1065.c)), some (.im (toD u1065.e)), none, none, none, none] ((fun (x2_ : Int) (y2_ : Int) (z2_ : Int) (t2_ : Int) => _) u1065.a u1065.b u1065.c u1065.e)
  generalize u1065.a = x2_
  generalize u1065.b = y2_
  generalize u1065.c = z2_
  generalize u1065.e = t2_
  show Blk _ _ _ _ _ [some (.im (toD prime_)), some (.im (toD a_)), some (.im (toD d_)), some (.im (toD first_)), some (.im (toD second_)), some (.im (toD x1_)), some (.im (toD y1_)), some (.im (toD z1_)), some (.im (toD t1_)), some (.im (toD x2_)), some (.im (toD y2_)), some (.im (toD z2_)), some (.im (toD t2_)), none, none, none, none] _
  try refine Blk.nx ?_
  have hs_ := ((ev_op (opx_I0 (g := fun i j => i + j)) mild_ok (ev_op (opx_I (C := CMulX) (g := fun i j => i * j)) mild_need (ev_var (i := 5) (x := x1_) rfl) (ev_var (i := 10) (x := y2_) rfl)) (ev_op (opx_I (C := CMulX) (g := fun i j => i * j)) mild_need (ev_var (i := 6) (x := y1_) rfl) (ev_var (i := 9) (x := x2_) rfl))) : EvX K (W0 E) [some (.im (toD prime_)), some (.im (toD a_)), some (.im (toD d_)), some (.im (toD first_)), some (.im (toD second_)), some (.im (toD x1_)), some (.im (toD y1_)), some (.im (toD z1_)), some (.im (toD t1_)), some (.im (toD x2_)), some (.im (toD y2_)), some (.im (toD z2_)), some (.im (toD t2_)), none, none, none, none] _ _)
  refine blk_seq (blk_set (i := 13) L trivial hs_ fun e_ => ?_)
  show Blk _ _ _ _ _ [some (.im (toD prime_)), some (.im (toD a_)), some (.im (toD d_)), some (.im (toD first_)), some (.im (toD second_)), some (.im (toD x1_)), some (.im (toD y1_)), some (.im (toD z1_)), some (.im (toD t1_)), some (.im (toD x2_)), some (.im (toD y2_)), some (.im (toD z2_)), some (.im (toD t2_)), some (.im (toD e_)), none, none, none] _
  try refine Blk.nx ?_
  have hs_ := ((ev_op (opx_I0 (g := fun i j => i - j)) mild_ok (ev_op (opx_I (C := CMulX) (g := fun i j => i * j)) mild_need (ev_var (i := 7) (x := z1_) rfl) (ev_var (i := 11) (x := z2_) rfl)) (ev_op (opx_I (C := CMulX) (g := fun i j => i * j)) mild_need (ev_op (opx_I (C := CMulX) (g := fun i j => i * j)) mild_need (ev_var (i := 2) (x := d_) rfl) (ev_var (i := 8) (x := t1_) rfl)) (ev_var (i := 12) (x := t2_) rfl))) : EvX K (W0 E) [some (.im (toD prime_)), some (.im (toD a_)), some (.im (toD d_)), some (.im (toD first_)), some (.im (toD second_)), some (.im (toD x1_)), some (.im (toD y1_)), some (.im (toD z1_)), some (.im (toD t1_)), some (.im (toD x2_)), some (.im (toD y2_)), some (.im (toD z2_)), some (.im (toD t2_)), some (.im (toD e_)), none, none, none] _ _)
  refine blk_seq (blk_set (i := 14) L trivial hs_ fun f_ => ?_)
  show Blk _ _ _ _ _ [some (.im (toD prime_)), some (.im (toD a_)), some (.im (toD d_)), some (.im (toD first_)), some (.im (toD second_)), some (.im (toD x1_)), some (.im (toD y1_)), some (.im (toD z1_)), some (.im (toD t1_)), some (.im (toD x2_)), some (.im (toD y2_)), some (.im (toD z2_)), some (.im (toD t2_)), some (.im (toD e_)), some (.im (toD f_)), none, none] _
  try refine Blk.nx ?_
  have hs_ := ((ev_op (opx_I0 (g := fun i j => i + j)) mild_ok (ev_op (opx_I (C := CMulX) (g := fun i j => i * j)) mild_need (ev_var (i := 7) (x := z1_) rfl) (ev_var (i := 11) (x := z2_) rfl)) (ev_op (opx_I (C := CMulX) (g := fun i j => i * j)) mild_need (ev_op (opx_I (C := CMulX) (g := fun i j => i * j)) mild_need (ev_var (i := 2) (x := d_) rfl) (ev_var (i := 8) (x := t1_) rfl)) (ev_var (i := 12) (x := t2_) rfl))) : EvX K (W0 E) [some (.im (toD prime_)), some (.im (toD a_)), some (.im (toD d_)), some (.im (toD first_)), some (.im (toD second_)), some (.im (toD x1_)), some (.im (toD y1_)), some (.im (toD z1_)), some (.im (toD t1_)), some (.im (toD x2_)), some (.im (toD y2_)), some (.im (toD z2_)), some (.im (toD t2_)), some (.im (toD e_)), some (.im (toD f_)), none, none] _ _)
  refine blk_seq (blk_set (i := 15) L trivial hs_ fun g_ => ?_)
  show Blk _ _ _ _ _ [some (.im (toD prime_)), some (.im (toD a_)), some (.im (toD d_)), some (.im (toD first_)), some (.im (toD second_)), some (.im (toD x1_)), some (.im (toD y1_)), some (.im (toD z1_)), some (.im (toD t1_)), some (.im (toD x2_)), some (.im (toD y2_)), some (.im (toD z2_)), some (.im (toD t2_)), some (.im (toD e_)), some (.im (toD f_)), some (.im (toD g_)), none] _
  try refine Blk.nx ?_
  have hs_ := ((ev_op (opx_I0 (g := fun i j => i - j)) mild_ok (ev_op (opx_I (C := CMulX) (g := fun i j => i * j)) mild_need (ev_var (i := 6) (x := y1_) rfl) (ev_var (i := 10) (x := y2_) rfl)) (ev_op (opx_I (C := CMulX) (g := fun i j => i * j)) mild_need (ev_op (opx_I (C := CMulX) (g := fun i j => i * j)) mild_need (ev_var (i := 1) (x := a_) rfl) (ev_var (i := 5) (x := x1_) rfl)) (ev_var (i := 9) (x := x2_) rfl))) : EvX K (W0 E) [some (.im (toD prime_)), some (.im (toD a_)), some (.im (toD d_)), some (.im (toD first_)), some (.im (toD second_)), some (.im (toD x1_)), some (.im (toD y1_)), some (.im (toD z1_)), some (.im (toD t1_)), some (.im (toD x2_)), some (.im (toD y2_)), some (.im (toD z2_)), some (.im (toD t2_)), some (.im (toD e_)), some (.im (toD f_)), some (.im (toD g_)), none] _ _)
  refine blk_seq (blk_set (i := 16) L trivial hs_ fun h_ => ?_)
  show Blk _ _ _ _ _ [some (.im (toD prime_)), some (.im (toD a_)), some (.im (toD d_)), some (.im (toD first_)), some (.im (toD second_)), some (.im (toD x1_)), some (.im (toD y1_)), some (.im (toD z1_)), some (.im (toD t1_)), some (.im (toD x2_)), some (.im (toD y2_)), some (.im (toD z2_)), some (.im (toD t2_)), some (.im (toD e_)), some (.im (toD f_)), some (.im (toD g_)), some (.im (toD h_))] _
  try refine Blk.nx ?_
  have hr_ := ((ev_tup (f := (fun y => T4.mk y.1 y.2.1 y.2.2.1 y.2.2.2.1)) (ea_cons (ev_op (opx_I (C := (fun _ j => 0 < j)) (g := fun i j => i % j)) mild_need (ev_op (opx_I (C := CMulX) (g := fun i j => i * j)) mild_need (ev_var (i := 13) (x := e_) rfl) (ev_var (i := 14) (x := f_) rfl)) (ev_var (i := 0) (x := prime_) rfl)) (ea_cons (ev_op (opx_I (C := (fun _ j => 0 < j)) (g := fun i j => i % j)) mild_need (ev_op (opx_I (C := CMulX) (g := fun i j => i * j)) mild_need (ev_var (i := 15) (x := g_) rfl) (ev_var (i := 16) (x := h_) rfl)) (ev_var (i := 0) (x := prime_) rfl)) (ea_cons (ev_op (opx_I (C := (fun _ j => 0 < j)) (g := fun i j => i % j)) mild_need (ev_op (opx_I (C := CMulX) (g := fun i j => i * j)) mild_need (ev_var (i := 14) (x := f_) rfl) (ev_var (i := 15) (x := g_) rfl)) (ev_var (i := 0) (x := prime_) rfl)) (ea_cons (ev_op (opx_I (C := (fun _ j => 0 < j)) (g := fun i j => i % j)) mild_need (ev_op (opx_I (C := CMulX) (g := fun i j => i * j)) mild_need (ev_var (i := 13) (x := e_) rfl) (ev_var (i := 16) (x := h_) rfl)) (ev_var (i := 0) (x := prime_) rfl)) ea_nil)))) (fun _ => rfl) (fun _ => by show 4 ≤ 100000; decide)) : EvX K (W0 E) [some (.im (toD prime_)), some (.im (toD a_)), some (.im (toD d_)), some (.im (toD first_)), some (.im (toD second_)), some (.im (toD x1_)), some (.im (toD y1_)), some (.im (toD z1_)), some (.im (toD t1_)), some (.im (toD x2_)), some (.im (toD y2_)), some (.im (toD z2_)), some (.im (toD t2_)), some (.im (toD e_)), some (.im (toD f_)), some (.im (toD g_)), some (.im (toD h_))] _ _)
  exact blk_ret L trivial hr_
noncomputable def m_law_k12 (prime_ : Int) (a_ : Int) (d_ : Int) (double_ : (T2 Int Int)) (rest_ : Int) (g10 : (T2 Int Int) × (T2 Int Int) × Int → Res Bool) : (T2 Int Int) → Res Bool := fun result_ =>   ((((Res.ok prime_)).bind fun a1421 => (((Res.ok a_)).bind fun a1423 => (((Res.ok d_)).bind fun a1425 => (((Res.ok double_)).bind fun a1427 => (((Res.ok double_)).bind fun a1429 => (Res.ok ()).bind fun a1430 => Res.ok (a1429, a1430)).bind fun a1428 => Res.ok (a1427, a1428)).bind fun a1426 => Res.ok (a1425, a1426)).bind fun a1424 => Res.ok (a1423, a1424)).bind fun a1422 => Res.ok (a1421, a1422)).bind fun p1420 => m_u_law_add p1420.1 p1420.2.1 p1420.2.2.1 p1420.2.2.2.1 p1420.2.2.2.2.1).bind fun (double_ : (T2 Int Int)) =>   (((Res.ok rest_)).bind fun (t1431 : Int) => ((Res.ok (2 : Int))).bind fun (t1432 : Int) => Res.ok (t1431 / t1432)).bind fun (rest_ : Int) =>   g10 (result_, double_, rest_)
noncomputable def m_law_l10 (prime_ : Int) (a_ : Int) (d_ : Int) (k10 : (T2 Int Int) × (T2 Int Int) × Int → Res Bool) : List Int → (T2 Int Int) × (T2 Int Int) × Int → Res Bool
  | [], s => k10 s
  | x1413 :: r10, (result_, double_, rest_) =>   (fun (k_ : Int) => (((Res.ok rest_)).bind fun (t1414 : Int) => ((Res.ok (0 : Int))).bind fun (t1415 : Int) => Res.ok (decide (t1414 = t1415))).bind fun b => cond b   (k10 (result_, double_, rest_))   (((((Res.ok rest_)).bind fun (t1416 : Int) => ((Res.ok (2 : Int))).bind fun (t1417 : Int) => Res.ok (t1416 % t1417)).bind fun (t1418 : Int) => ((Res.ok (1 : Int))).bind fun (t1419 : Int) => Res.ok (decide (t1418 = t1419))).bind fun b => cond b   (((((Res.ok prime_)).bind fun a1434 => (((Res.ok a_)).bind fun a1436 => (((Res.ok d_)).bind fun a1438 => (((Res.ok result_)).bind fun a1440 => (((Res.ok double_)).bind fun a1442 => (Res.ok ()).bind fun a1443 => Res.ok (a1442, a1443)).bind fun a1441 => Res.ok (a1440, a1441)).bind fun a1439 => Res.ok (a1438, a1439)).bind fun a1437 => Res.ok (a1436, a1437)).bind fun a1435 => Res.ok (a1434, a1435)).bind fun p1433 => m_u_law_add p1433.1 p1433.2.1 p1433.2.2.1 p1433.2.2.2.1 p1433.2.2.2.2.1).bind fun (result_ : (T2 Int Int)) =>   (m_law_k12 prime_ a_ d_ double_ rest_ (m_law_l10 prime_ a_ d_ k10 r10)) result_)   ((m_law_k12 prime_ a_ d_ double_ rest_ (m_law_l10 prime_ a_ d_ k10 r10)) result_))) x1413
noncomputable def m_law_k13 (curve_ : O_EdwardsCurve) (first_ : (T2 Int Int)) (factor_ : Int) (point_ : (T2 Int Int)) : (T2 Int Int) × (T2 Int Int) × Int → Res Bool := fun (result_, double_, rest_) =>   (((Res.ok point_)).bind fun (t1444 : (T2 Int Int)) => ((Res.ok result_)).bind fun (t1445 : (T2 Int Int)) => Res.need ((toD t1444).okq = true ∧ (toD t1445).okq = true) (Res.ok (pyEq (toD t1444) (toD t1445)))).bind fun b1460 => cond b1460 (((((Res.ok curve_)).bind fun a1448 => ((((Res.ok factor_)).bind fun (t1446 : Int) => Res.ok (-t1446)).bind fun a1450 => (((Res.ok first_)).bind fun a1452 => (Res.ok ()).bind fun a1453 => Res.ok (a1452, a1453)).bind fun a1451 => Res.ok (a1450, a1451)).bind fun a1449 => Res.ok (a1448, a1449)).bind fun p1447 => m_multiply_extended p1447.1 p1447.2.1 p1447.2.2.1).bind fun (t1458 : (T2 Int Int)) => (((Res.ok curve_)).bind fun (o1454 : O_EdwardsCurve) => (((Res.ok result_)).bind fun a1456 => (Res.ok ()).bind fun a1457 => Res.ok (a1456, a1457)).bind fun p1455 => m_EdwardsCurve_negate o1454 p1455.1).bind fun (t1459 : (T2 Int Int)) => Res.need ((toD t1458).okq = true ∧ (toD t1459).okq = true) (Res.ok (pyEq (toD t1458) (toD t1459)))) (Res.ok false)
noncomputable def m_law_k9 (prime_ : Int) (a_ : Int) (d_ : Int) (curve_ : O_EdwardsCurve) (first_ : (T2 Int Int)) : Int → Res Bool := fun factor_ =>   ((((Res.ok curve_)).bind fun a1401 => (((Res.ok factor_)).bind fun a1403 => (((Res.ok first_)).bind fun a1405 => (Res.ok ()).bind fun a1406 => Res.ok (a1405, a1406)).bind fun a1404 => Res.ok (a1403, a1404)).bind fun a1402 => Res.ok (a1401, a1402)).bind fun p1400 => m_multiply_extended p1400.1 p1400.2.1 p1400.2.2.1).bind fun (point_ : (T2 Int Int)) =>   ((((Res.ok (0 : Int))).bind fun a1408 => (((Res.ok (1 : Int))).bind fun a1410 => (Res.ok ()).bind fun a1411 => Res.ok (a1410, a1411)).bind fun a1409 => Res.ok (a1408, a1409)).bind fun p1407 => Res.ok (T2.mk p1407.1 p1407.2.1)).bind fun (result_ : (T2 Int Int)) =>   ((Res.ok first_)).bind fun (double_ : (T2 Int Int)) =>   ((Res.ok factor_)).bind fun (rest_ : Int) =>   (((Res.ok (70 : Int))).bind fun (t1412 : Int) => Res.need (okRange t1412) (Res.ok (pyRange 0 t1412))).bind fun (xs1461 : List Int) => m_law_l10 prime_ a_ d_ (m_law_k13 curve_ first_ factor_ point_) xs1461 (result_, double_, rest_)
noncomputable def m_law_k3 (script_ : (List Int)) (prime_ : Int) (a_ : Int) (d_ : Int) (curve_ : O_EdwardsCurve) (first_ : (T2 Int Int)) : (T2 Int Int) → Res Bool := fun second_ =>   ((((Res.ok first_)).bind fun a1207 => ((((Res.ok (1 : Int))).bind fun (t1204 : Int) => ((((((Res.ok script_)).bind fun a1193 => (((Res.ok (6 : Int))).bind fun a1195 => (Res.ok ()).bind fun a1196 => Res.ok (a1195, a1196)).bind fun a1194 => Res.ok (a1193, a1194)).bind fun p1192 => m_u_law_cell p1192.1 p1192.2.1).bind fun a1200 => ((((Res.ok prime_)).bind fun (t1197 : Int) => ((Res.ok (1 : Int))).bind fun (t1198 : Int) => Res.ok (t1197 - t1198)).bind fun a1202 => (Res.ok ()).bind fun a1203 => Res.ok (a1202, a1203)).bind fun a1201 => Res.ok (a1200, a1201)).bind fun p1199 => m_u_law_residue p1199.1 p1199.2.1).bind fun (t1205 : Int) => Res.ok (t1204 + t1205)).bind fun a1209 => (((Res.ok prime_)).bind fun a1211 => (Res.ok ()).bind fun a1212 => Res.ok (a1211, a1212)).bind fun a1210 => Res.ok (a1209, a1210)).bind fun a1208 => Res.ok (a1207, a1208)).bind fun p1206 => m_u_law_tuple p1206.1 p1206.2.1 p1206.2.2.1).bind fun (left_ : (T4 Int Int Int Int)) =>   ((((Res.ok second_)).bind fun a1228 => ((((Res.ok (1 : Int))).bind fun (t1225 : Int) => ((((((Res.ok script_)).bind fun a1214 => (((Res.ok (7 : Int))).bind fun a1216 => (Res.ok ()).bind fun a1217 => Res.ok (a1216, a1217)).bind fun a1215 => Res.ok (a1214, a1215)).bind fun p1213 => m_u_law_cell p1213.1 p1213.2.1).bind fun a1221 => ((((Res.ok prime_)).bind fun (t1218 : Int) => ((Res.ok (1 : Int))).bind fun (t1219 : Int) => Res.ok (t1218 - t1219)).bind fun a1223 => (Res.ok ()).bind fun a1224 => Res.ok (a1223, a1224)).bind fun a1222 => Res.ok (a1221, a1222)).bind fun p1220 => m_u_law_residue p1220.1 p1220.2.1).bind fun (t1226 : Int) => Res.ok (t1225 + t1226)).bind fun a1230 => (((Res.ok prime_)).bind fun a1232 => (Res.ok ()).bind fun a1233 => Res.ok (a1232, a1233)).bind fun a1231 => Res.ok (a1230, a1231)).bind fun a1229 => Res.ok (a1228, a1229)).bind fun p1227 => m_u_law_tuple p1227.1 p1227.2.1 p1227.2.2.1).bind fun (right_ : (T4 Int Int Int Int)) =>   ((((((Res.ok curve_)).bind fun a1235 => (((Res.ok first_)).bind fun a1237 => (Res.ok ()).bind fun a1238 => Res.ok (a1237, a1238)).bind fun a1236 => Res.ok (a1235, a1236)).bind fun p1234 => m_to_extended p1234.1 p1234.2.1).bind fun (t1246 : (T4 Int Int Int Int)) => ((((Res.ok first_)).bind fun a1240 => (((Res.ok (1 : Int))).bind fun a1242 => (((Res.ok prime_)).bind fun a1244 => (Res.ok ()).bind fun a1245 => Res.ok (a1244, a1245)).bind fun a1243 => Res.ok (a1242, a1243)).bind fun a1241 => Res.ok (a1240, a1241)).bind fun p1239 => m_u_law_tuple p1239.1 p1239.2.1 p1239.2.2.1).bind fun (t1247 : (T4 Int Int Int Int)) => Res.need ((toD t1246).okq = true ∧ (toD t1247).okq = true) (Res.ok (!pyEq (toD t1246) (toD t1247)))).bind fun b1255 => cond b1255 (Res.ok true) (((((Res.ok curve_)).bind fun a1249 => (((Res.ok left_)).bind fun a1251 => (Res.ok ()).bind fun a1252 => Res.ok (a1251, a1252)).bind fun a1250 => Res.ok (a1249, a1250)).bind fun p1248 => m_from_extended p1248.1 p1248.2.1).bind fun (t1253 : (T2 Int Int)) => ((Res.ok first_)).bind fun (t1254 : (T2 Int Int)) => Res.need ((toD t1253).okq = true ∧ (toD t1254).okq = true) (Res.ok (!pyEq (toD t1253) (toD t1254))))).bind fun b => cond b   ((Res.ok false))   (((((Res.ok curve_)).bind fun a1257 => (((Res.ok left_)).bind fun a1259 => (((Res.ok right_)).bind fun a1261 => (Res.ok ()).bind fun a1262 => Res.ok (a1261, a1262)).bind fun a1260 => Res.ok (a1259, a1260)).bind fun a1258 => Res.ok (a1257, a1258)).bind fun p1256 => m_add_extended p1256.1 p1256.2.1 p1256.2.2.1).bind fun (total_ : (T4 Int Int Int Int)) =>   (((((Res.ok total_)).bind fun (t1263 : (T4 Int Int Int Int)) => Res.need ((toD t1263).plain = true) (Res.ok (isI "tuple" (toD t1263)))).bind fun (t1264 : Bool) => Res.ok (!t1264)).bind fun b1282 => cond b1282 (Res.ok true) ((((Res.ok total_)).bind fun (t1276 : (T4 Int Int Int Int)) => ((((Res.ok prime_)).bind fun a1266 => (((Res.ok a_)).bind fun a1268 => (((Res.ok d_)).bind fun a1270 => (((Res.ok left_)).bind fun a1272 => (((Res.ok right_)).bind fun a1274 => (Res.ok ()).bind fun a1275 => Res.ok (a1274, a1275)).bind fun a1273 => Res.ok (a1272, a1273)).bind fun a1271 => Res.ok (a1270, a1271)).bind fun a1269 => Res.ok (a1268, a1269)).bind fun a1267 => Res.ok (a1266, a1267)).bind fun p1265 => m_u_law_sum p1265.1 p1265.2.1 p1265.2.2.1 p1265.2.2.2.1 p1265.2.2.2.2.1).bind fun (t1277 : (T4 Int Int Int Int)) => Res.need ((toD t1276).okq = true ∧ (toD t1277).okq = true) (Res.ok (!pyEq (toD t1276) (toD t1277)))).bind fun b1281 => cond b1281 (Res.ok true) ((((Res.ok total_)).bind fun (t1278 : (T4 Int Int Int Int)) => Res.ok t1278.c).bind fun (t1279 : Int) => ((Res.ok (0 : Int))).bind fun (t1280 : Int) => Res.ok (decide (t1279 = t1280))))).bind fun b => cond b   ((Res.ok false))   ((((((((Res.ok total_)).bind fun (t1283 : (T4 Int Int Int Int)) => Res.ok t1283.a).bind fun (t1285 : Int) => (((Res.ok total_)).bind fun (t1284 : (T4 Int Int Int Int)) => Res.ok t1284.b).bind fun (t1286 : Int) => Res.need (CMulX t1285 t1286) (Res.ok (t1285 * t1286))).bind fun (t1291 : Int) => ((((Res.ok total_)).bind fun (t1287 : (T4 Int Int Int Int)) => Res.ok t1287.c).bind fun (t1289 : Int) => (((Res.ok total_)).bind fun (t1288 : (T4 Int Int Int Int)) => Res.ok t1288.e).bind fun (t1290 : Int) => Res.need (CMulX t1289 t1290) (Res.ok (t1289 * t1290))).bind fun (t1292 : Int) => Res.ok (t1291 - t1292)).bind fun (t1293 : Int) => ((Res.ok prime_)).bind fun (t1294 : Int) => Res.need (0 < t1294) (Res.ok (t1293 % t1294))).bind fun (t1295 : Int) => ((Res.ok (0 : Int))).bind fun (t1296 : Int) => Res.ok (!decide (t1295 = t1296))).bind fun b => cond b   ((Res.ok false))   (((((Res.ok prime_)).bind fun a1298 => (((Res.ok a_)).bind fun a1300 => (((Res.ok d_)).bind fun a1302 => (((Res.ok first_)).bind fun a1304 => (((Res.ok second_)).bind fun a1306 => (Res.ok ()).bind fun a1307 => Res.ok (a1306, a1307)).bind fun a1305 => Res.ok (a1304, a1305)).bind fun a1303 => Res.ok (a1302, a1303)).bind fun a1301 => Res.ok (a1300, a1301)).bind fun a1299 => Res.ok (a1298, a1299)).bind fun p1297 => m_u_law_add p1297.1 p1297.2.1 p1297.2.2.1 p1297.2.2.2.1 p1297.2.2.2.2.1).bind fun (due_ : (T2 Int Int)) =>   ((((((Res.ok curve_)).bind fun a1309 => (((Res.ok total_)).bind fun a1311 => (Res.ok ()).bind fun a1312 => Res.ok (a1311, a1312)).bind fun a1310 => Res.ok (a1309, a1310)).bind fun p1308 => m_from_extended p1308.1 p1308.2.1).bind fun (t1313 : (T2 Int Int)) => ((Res.ok due_)).bind fun (t1314 : (T2 Int Int)) => Res.need ((toD t1313).okq = true ∧ (toD t1314).okq = true) (Res.ok (!pyEq (toD t1313) (toD t1314)))).bind fun b1340 => cond b1340 (Res.ok true) (((((Res.ok curve_)).bind fun a1323 => (((((Res.ok curve_)).bind fun a1316 => (((Res.ok left_)).bind fun a1318 => (((Res.ok left_)).bind fun a1320 => (Res.ok ()).bind fun a1321 => Res.ok (a1320, a1321)).bind fun a1319 => Res.ok (a1318, a1319)).bind fun a1317 => Res.ok (a1316, a1317)).bind fun p1315 => m_add_extended p1315.1 p1315.2.1 p1315.2.2.1).bind fun a1325 => (Res.ok ()).bind fun a1326 => Res.ok (a1325, a1326)).bind fun a1324 => Res.ok (a1323, a1324)).bind fun p1322 => m_from_extended p1322.1 p1322.2.1).bind fun (t1338 : (T2 Int Int)) => ((((Res.ok prime_)).bind fun a1328 => (((Res.ok a_)).bind fun a1330 => (((Res.ok d_)).bind fun a1332 => (((Res.ok first_)).bind fun a1334 => (((Res.ok first_)).bind fun a1336 => (Res.ok ()).bind fun a1337 => Res.ok (a1336, a1337)).bind fun a1335 => Res.ok (a1334, a1335)).bind fun a1333 => Res.ok (a1332, a1333)).bind fun a1331 => Res.ok (a1330, a1331)).bind fun a1329 => Res.ok (a1328, a1329)).bind fun p1327 => m_u_law_add p1327.1 p1327.2.1 p1327.2.2.1 p1327.2.2.2.1 p1327.2.2.2.2.1).bind fun (t1339 : (T2 Int Int)) => Res.need ((toD t1338).okq = true ∧ (toD t1339).okq = true) (Res.ok (!pyEq (toD t1338) (toD t1339))))).bind fun b => cond b   ((Res.ok false))   (((((Res.ok curve_)).bind fun a1342 => (((Res.ok left_)).bind fun a1344 => (((Res.ok right_)).bind fun a1346 => (Res.ok ()).bind fun a1347 => Res.ok (a1346, a1347)).bind fun a1345 => Res.ok (a1344, a1345)).bind fun a1343 => Res.ok (a1342, a1343)).bind fun p1341 => m_same_extended p1341.1 p1341.2.1 p1341.2.2.1).bind fun (same_ : Bool) =>   (((((Res.ok same_)).bind fun (t1348 : Bool) => Res.need ((toD t1348).plain = true) (Res.ok (isI "bool" (toD t1348)))).bind fun (t1349 : Bool) => Res.ok (!t1349)).bind fun b1369 => cond b1369 (Res.ok true) ((((Res.ok same_)).bind fun (t1352 : Bool) => (((Res.ok first_)).bind fun (t1350 : (T2 Int Int)) => ((Res.ok second_)).bind fun (t1351 : (T2 Int Int)) => Res.need ((toD t1350).okq = true ∧ (toD t1351).okq = true) (Res.ok (pyEq (toD t1350) (toD t1351)))).bind fun (t1353 : Bool) => Res.ok (!(t1352 == t1353))).bind fun b1368 => cond b1368 (Res.ok true) (((((Res.ok curve_)).bind fun a1360 => (((Res.ok total_)).bind fun a1362 => (((((Res.ok curve_)).bind fun a1355 => (((Res.ok due_)).bind fun a1357 => (Res.ok ()).bind fun a1358 => Res.ok (a1357, a1358)).bind fun a1356 => Res.ok (a1355, a1356)).bind fun p1354 => m_to_extended p1354.1 p1354.2.1).bind fun a1364 => (Res.ok ()).bind fun a1365 => Res.ok (a1364, a1365)).bind fun a1363 => Res.ok (a1362, a1363)).bind fun a1361 => Res.ok (a1360, a1361)).bind fun p1359 => m_same_extended p1359.1 p1359.2.1 p1359.2.2.1).bind fun (t1366 : Bool) => ((Res.ok true)).bind fun (t1367 : Bool) => Res.ok (!decide (t1366 = t1367))))).bind fun b => cond b   ((Res.ok false))   (((((((((Res.ok script_)).bind fun a1371 => (((Res.ok (8 : Int))).bind fun a1373 => (Res.ok ()).bind fun a1374 => Res.ok (a1373, a1374)).bind fun a1372 => Res.ok (a1371, a1372)).bind fun p1370 => m_u_law_cell p1370.1 p1370.2.1).bind fun a1376 => (Res.ok ()).bind fun a1377 => Res.ok (a1376, a1377)).bind fun p1375 => Res.ok (Int.natAbs p1375.1 : Int)).bind fun (t1378 : Int) => ((Res.ok (48271 : Int))).bind fun (t1379 : Int) => Res.ok (t1378 * t1379)).bind fun (t1386 : Int) => ((((Res.ok (2 : Int))).bind fun (t1380 : Int) => ((Res.ok (60 : Int))).bind fun (t1381 : Int) => Res.ok (t1380 ^ t1381.toNat)).bind fun (t1384 : Int) => (((Res.ok (2 : Int))).bind fun (t1382 : Int) => ((Res.ok (10 : Int))).bind fun (t1383 : Int) => Res.ok (t1382 ^ t1383.toNat)).bind fun (t1385 : Int) => Res.need (CMulX t1384 t1385) (Res.ok (t1384 * t1385))).bind fun (t1387 : Int) => Res.need (0 < t1387) (Res.ok (t1386 % t1387))).bind fun (factor_ : Int) =>   ((((((((Res.ok script_)).bind fun a1389 => (((Res.ok (8 : Int))).bind fun a1391 => (Res.ok ()).bind fun a1392 => Res.ok (a1391, a1392)).bind fun a1390 => Res.ok (a1389, a1390)).bind fun p1388 => m_u_law_cell p1388.1 p1388.2.1).bind fun a1394 => (Res.ok ()).bind fun a1395 => Res.ok (a1394, a1395)).bind fun p1393 => Res.ok (Int.natAbs p1393.1 : Int)).bind fun (t1396 : Int) => ((Res.ok (3 : Int))).bind fun (t1397 : Int) => Res.ok (t1396 % t1397)).bind fun (t1398 : Int) => ((Res.ok (1 : Int))).bind fun (t1399 : Int) => Res.ok (decide (t1398 = t1399))).bind fun b => cond b   (((((((((Res.ok script_)).bind fun a1463 => (((Res.ok (8 : Int))).bind fun a1465 => (Res.ok ()).bind fun a1466 => Res.ok (a1465, a1466)).bind fun a1464 => Res.ok (a1463, a1464)).bind fun p1462 => m_u_law_cell p1462.1 p1462.2.1).bind fun a1468 => (Res.ok ()).bind fun a1469 => Res.ok (a1468, a1469)).bind fun p1467 => Res.ok (Int.natAbs p1467.1 : Int)).bind fun (t1470 : Int) => ((Res.ok (3 : Int))).bind fun (t1471 : Int) => Res.ok (t1470 / t1471)).bind fun (t1472 : Int) => ((Res.ok (20 : Int))).bind fun (t1473 : Int) => Res.ok (t1472 % t1473)).bind fun (factor_ : Int) =>   (m_law_k9 prime_ a_ d_ curve_ first_) factor_)   ((m_law_k9 prime_ a_ d_ curve_ first_) factor_))))))
noncomputable def m_law_k2 (script_ : (List Int)) (prime_ : Int) (a_ : Int) (d_ : Int) (curve_ : O_EdwardsCurve) (first_ : (T2 Int Int)) (kind_ : Int) : (T2 Int Int) → Res Bool := fun second_ =>   (((Res.ok kind_)).bind fun (t1190 : Int) => ((Res.ok (3 : Int))).bind fun (t1191 : Int) => Res.ok (decide (t1190 = t1191))).bind fun b => cond b   (((((Res.ok (0 : Int))).bind fun a1475 => (((Res.ok (1 : Int))).bind fun a1477 => (Res.ok ()).bind fun a1478 => Res.ok (a1477, a1478)).bind fun a1476 => Res.ok (a1475, a1476)).bind fun p1474 => Res.ok (T2.mk p1474.1 p1474.2.1)).bind fun (second_ : (T2 Int Int)) =>   (m_law_k3 script_ prime_ a_ d_ curve_ first_) second_)   ((m_law_k3 script_ prime_ a_ d_ curve_ first_) second_)
noncomputable def m_law_k1 (script_ : (List Int)) (prime_ : Int) (a_ : Int) (d_ : Int) (curve_ : O_EdwardsCurve) (first_ : (T2 Int Int)) (kind_ : Int) : (T2 Int Int) → Res Bool := fun second_ =>   (((Res.ok kind_)).bind fun (t1188 : Int) => ((Res.ok (2 : Int))).bind fun (t1189 : Int) => Res.ok (decide (t1188 = t1189))).bind fun b => cond b   ((((((((Res.ok first_)).bind fun (t1479 : (T2 Int Int)) => Res.ok t1479.a).bind fun (t1480 : Int) => Res.ok (-t1480)).bind fun (t1481 : Int) => ((Res.ok prime_)).bind fun (t1482 : Int) => Res.need (0 < t1482) (Res.ok (t1481 % t1482))).bind fun a1485 => ((((Res.ok first_)).bind fun (t1483 : (T2 Int Int)) => Res.ok t1483.b).bind fun a1487 => (Res.ok ()).bind fun a1488 => Res.ok (a1487, a1488)).bind fun a1486 => Res.ok (a1485, a1486)).bind fun p1484 => Res.ok (T2.mk p1484.1 p1484.2.1)).bind fun (second_ : (T2 Int Int)) =>   (m_law_k2 script_ prime_ a_ d_ curve_ first_ kind_) second_)   ((m_law_k2 script_ prime_ a_ d_ curve_ first_ kind_) second_)
noncomputable def m_law (script_ : (List Int)) : Res Bool :=
  ((((((Res.ok script_)).bind fun a1122 => (((Res.ok (0 : Int))).bind fun a1124 => (Res.ok ()).bind fun a1125 => Res.ok (a1124, a1125)).bind fun a1123 => Res.ok (a1122, a1123)).bind fun p1121 => m_u_law_cell p1121.1 p1121.2.1).bind fun a1127 => (Res.ok ()).bind fun a1128 => Res.ok (a1127, a1128)).bind fun p1126 => m_u_law_edwards_prime p1126.1).bind fun (prime_ : Int) =>   ((((Res.ok script_)).bind fun a1130 => (((Res.ok (1 : Int))).bind fun a1132 => (((Res.ok prime_)).bind fun a1134 => (Res.ok ()).bind fun a1135 => Res.ok (a1134, a1135)).bind fun a1133 => Res.ok (a1132, a1133)).bind fun a1131 => Res.ok (a1130, a1131)).bind fun p1129 => m_u_law_numbers p1129.1 p1129.2.1 p1129.2.2.1).bind fun (u1136 : (T2 Int Int)) =>   (fun (a_ : Int) (d_ : Int) => ((((Res.ok prime_)).bind fun a1138 => (((Res.ok a_)).bind fun a1140 => (((Res.ok d_)).bind fun a1142 => (Res.ok ()).bind fun a1143 => Res.ok (a1142, a1143)).bind fun a1141 => Res.ok (a1140, a1141)).bind fun a1139 => Res.ok (a1138, a1139)).bind fun p1137 => m_EdwardsCurve_init p1137.1 p1137.2.1 p1137.2.2.1).bind fun (curve_ : O_EdwardsCurve) =>   ((((Res.ok curve_)).bind fun a1150 => (((Res.ok prime_)).bind fun a1152 => (((Res.ok a_)).bind fun a1154 => (((Res.ok d_)).bind fun a1156 => (((((Res.ok script_)).bind fun a1145 => (((Res.ok (3 : Int))).bind fun a1147 => (Res.ok ()).bind fun a1148 => Res.ok (a1147, a1148)).bind fun a1146 => Res.ok (a1145, a1146)).bind fun p1144 => m_u_law_cell p1144.1 p1144.2.1).bind fun a1158 => (Res.ok ()).bind fun a1159 => Res.ok (a1158, a1159)).bind fun a1157 => Res.ok (a1156, a1157)).bind fun a1155 => Res.ok (a1154, a1155)).bind fun a1153 => Res.ok (a1152, a1153)).bind fun a1151 => Res.ok (a1150, a1151)).bind fun p1149 => m_u_law_lifted p1149.1 p1149.2.1 p1149.2.2.1 p1149.2.2.2.1 p1149.2.2.2.2.1).bind fun (first_ : (T2 Int Int)) =>   ((((Res.ok curve_)).bind fun a1166 => (((Res.ok prime_)).bind fun a1168 => (((Res.ok a_)).bind fun a1170 => (((Res.ok d_)).bind fun a1172 => (((((Res.ok script_)).bind fun a1161 => (((Res.ok (4 : Int))).bind fun a1163 => (Res.ok ()).bind fun a1164 => Res.ok (a1163, a1164)).bind fun a1162 => Res.ok (a1161, a1162)).bind fun p1160 => m_u_law_cell p1160.1 p1160.2.1).bind fun a1174 => (Res.ok ()).bind fun a1175 => Res.ok (a1174, a1175)).bind fun a1173 => Res.ok (a1172, a1173)).bind fun a1171 => Res.ok (a1170, a1171)).bind fun a1169 => Res.ok (a1168, a1169)).bind fun a1167 => Res.ok (a1166, a1167)).bind fun p1165 => m_u_law_lifted p1165.1 p1165.2.1 p1165.2.2.1 p1165.2.2.2.1 p1165.2.2.2.2.1).bind fun (second_ : (T2 Int Int)) =>   (((((((Res.ok script_)).bind fun a1177 => (((Res.ok (5 : Int))).bind fun a1179 => (Res.ok ()).bind fun a1180 => Res.ok (a1179, a1180)).bind fun a1178 => Res.ok (a1177, a1178)).bind fun p1176 => m_u_law_cell p1176.1 p1176.2.1).bind fun a1182 => (Res.ok ()).bind fun a1183 => Res.ok (a1182, a1183)).bind fun p1181 => Res.ok (Int.natAbs p1181.1 : Int)).bind fun (t1184 : Int) => ((Res.ok (5 : Int))).bind fun (t1185 : Int) => Res.ok (t1184 % t1185)).bind fun (kind_ : Int) =>   (((Res.ok kind_)).bind fun (t1186 : Int) => ((Res.ok (1 : Int))).bind fun (t1187 : Int) => Res.ok (decide (t1186 = t1187))).bind fun b => cond b   (((Res.ok first_)).bind fun (second_ : (T2 Int Int)) =>   (m_law_k1 script_ prime_ a_ d_ curve_ first_ kind_) second_)   ((m_law_k1 script_ prime_ a_ d_ curve_ first_ kind_) second_)) u1136.a u1136.b
theorem ok_law {P : Program} {w : World} {K : PySem.W.Frag} {mg : Str → Option Value} {base : Heap} (T : Facts K mg) {fd : FuncData} (F : FnP K "law" "law" s_law (He.ga K "law") fd) :
    FnOk P w K mg base (L2.CX P w) 9 (He.ga K "law") fd ["script"] (spM K (fun (p : (List Int) × Unit) => m_law p.1)) := by
  obtain ⟨fd_EdwardsCurve_init, F_EdwardsCurve_init⟩ := T.d_EdwardsCurve_init
  have G_EdwardsCurve_init := ok_EdwardsCurve_init (P := P) (w := w) (base := base) T F_EdwardsCurve_init
  have b_EdwardsCurve_init : Binds K fd_EdwardsCurve_init ["self", "prime", "a", "d"] [] := F_EdwardsCurve_init.bindsN fun _ _ _ _ _ _ us hl => match us, hl with | [_, _, _, _], _ => rfl
  obtain ⟨fd_EdwardsCurve_negate, F_EdwardsCurve_negate⟩ := T.d_EdwardsCurve_negate
  have G_EdwardsCurve_negate := ok_EdwardsCurve_negate (P := P) (w := w) (base := base) T F_EdwardsCurve_negate
  have b_EdwardsCurve_negate : Binds K fd_EdwardsCurve_negate ["self", "point"] [] := F_EdwardsCurve_negate.bindsN fun _ _ _ _ _ _ us hl => match us, hl with | [_, _], _ => rfl
  obtain ⟨fd_u_law_add, F_u_law_add⟩ := T.d_u_law_add
  have G_u_law_add := ok_u_law_add (P := P) (w := w) (base := base) T F_u_law_add
  have b_u_law_add : Binds K fd_u_law_add ["prime", "a", "d", "first", "second"] [] := F_u_law_add.bindsN fun _ _ _ _ _ _ us hl => match us, hl with | [_, _, _, _, _], _ => rfl
  obtain ⟨fd_u_law_cell, F_u_law_cell⟩ := T.d_u_law_cell
  have G_u_law_cell := ok_u_law_cell (P := P) (w := w) (base := base) T F_u_law_cell
  have b_u_law_cell : Binds K fd_u_law_cell ["script", "k"] [] := F_u_law_cell.bindsN fun _ _ _ _ _ _ us hl => match us, hl with | [_, _], _ => rfl
  obtain ⟨fd_u_law_edwards_prime, F_u_law_edwards_prime⟩ := T.d_u_law_edwards_prime
  have G_u_law_edwards_prime := ok_u_law_edwards_prime (P := P) (w := w) (base := base) T F_u_law_edwards_prime
  have b_u_law_edwards_prime : Binds K fd_u_law_edwards_prime ["cell"] [] := F_u_law_edwards_prime.bindsN fun _ _ _ _ _ _ us hl => match us, hl with | [_], _ => rfl
  obtain ⟨fd_u_law_lifted, F_u_law_lifted⟩ := T.d_u_law_lifted
  have G_u_law_lifted := ok_u_law_lifted (P := P) (w := w) (base := base) T F_u_law_lifted
  have b_u_law_lifted : Binds K fd_u_law_lifted ["curve", "prime", "a", "d", "cell"] [] := F_u_law_lifted.bindsN fun _ _ _ _ _ _ us hl => match us, hl with | [_, _, _, _, _], _ => rfl
  obtain ⟨fd_u_law_numbers, F_u_law_numbers⟩ := T.d_u_law_numbers
  have G_u_law_numbers := ok_u_law_numbers (P := P) (w := w) (base := base) T F_u_law_numbers
  have b_u_law_numbers : Binds K fd_u_law_numbers ["script", "at", "prime"] [] := F_u_law_numbers.bindsN fun _ _ _ _ _ _ us hl => match us, hl with | [_, _, _], _ => rfl
  obtain ⟨fd_u_law_residue, F_u_law_residue⟩ := T.d_u_law_residue
  have G_u_law_residue := ok_u_law_residue (P := P) (w := w) (base := base) T F_u_law_residue
  have b_u_law_residue : Binds K fd_u_law_residue ["cell", "prime"] [] := F_u_law_residue.bindsN fun _ _ _ _ _ _ us hl => match us, hl with | [_, _], _ => rfl
  obtain ⟨fd_u_law_sum, F_u_law_sum⟩ := T.d_u_law_sum
  have G_u_law_sum := ok_u_law_sum (P := P) (w := w) (base := base) T F_u_law_sum
  have b_u_law_sum : Binds K fd_u_law_sum ["prime", "a", "d", "first", "second"] [] := F_u_law_sum.bindsN fun _ _ _ _ _ _ us hl => match us, hl with | [_, _, _, _, _], _ => rfl
  obtain ⟨fd_u_law_tuple, F_u_law_tuple⟩ := T.d_u_law_tuple
  have G_u_law_tuple := ok_u_law_tuple (P := P) (w := w) (base := base) T F_u_law_tuple
  have b_u_law_tuple : Binds K fd_u_law_tuple ["point", "scale", "prime"] [] := F_u_law_tuple.bindsN fun _ _ _ _ _ _ us hl => match us, hl with | [_, _, _], _ => rfl
  obtain ⟨fd_add_extended, F_add_extended⟩ := T.d_add_extended
  have G_add_extended := ok_add_extended (P := P) (w := w) (base := base) T F_add_extended
  have b_add_extended : Binds K fd_add_extended ["curve", "first", "second"] [] := F_add_extended.bindsN fun _ _ _ _ _ _ us hl => match us, hl with | [_, _, _], _ => rfl
  obtain ⟨fd_from_extended, F_from_extended⟩ := T.d_from_extended
  have G_from_extended := ok_from_extended (P := P) (w := w) (base := base) T F_from_extended
  have b_from_extended : Binds K fd_from_extended ["curve", "four"] [] := F_from_extended.bindsN fun _ _ _ _ _ _ us hl => match us, hl with | [_, _], _ => rfl
  obtain ⟨fd_multiply_extended, F_multiply_extended⟩ := T.d_multiply_extended
  have G_multiply_extended := ok_multiply_extended (P := P) (w := w) (base := base) T F_multiply_extended
  have b_multiply_extended : Binds K fd_multiply_extended ["curve", "factor", "point"] [] := F_multiply_extended.bindsN fun _ _ _ _ _ _ us hl => match us, hl with | [_, _, _], _ => rfl
  obtain ⟨fd_same_extended, F_same_extended⟩ := T.d_same_extended
  have G_same_extended := ok_same_extended (P := P) (w := w) (base := base) T F_same_extended
  have b_same_extended : Binds K fd_same_extended ["curve", "first", "second"] [] := F_same_extended.bindsN fun _ _ _ _ _ _ us hl => match us, hl with | [_, _, _], _ => rfl
  obtain ⟨fd_to_extended, F_to_extended⟩ := T.d_to_extended
  have G_to_extended := ok_to_extended (P := P) (w := w) (base := base) T F_to_extended
  have b_to_extended : Binds K fd_to_extended ["curve", "point"] [] := F_to_extended.bindsN fun _ _ _ _ _ _ us hl => match us, hl with | [_, _], _ => rfl
  refine fn_ok F sc_law (fun y => rfl) (fun cdv A outer s H E hr => ?_)
  refine ⟨_, (pss_cons (ps_set (i := 1) sc_law.nd rfl (Or.inl rfl) (pe_callS G_u_law_edwards_prime (hr.mono (by decide)) rfl T.g_u_law_edwards_prime F_u_law_edwards_prime.kp b_u_law_edwards_prime (fun σ => passAt (takes_of rfl rfl rfl rfl) σ) (pa_cons (pe_callS G_u_law_cell (hr.mono (by decide)) rfl T.g_u_law_cell F_u_law_cell.kp b_u_law_cell (fun σ => passAt (takes_of rfl rfl rfl rfl) σ) (pa_cons (pv 0) (pa_cons pe_int pa_nil))) pa_nil))) (pss_cons (ps_asg (pe_callS G_u_law_numbers (hr.mono (by decide)) rfl T.g_u_law_numbers F_u_law_numbers.kp b_u_law_numbers (fun σ => passAt (takes_of rfl rfl rfl rfl) σ) (pa_cons (pv 0) (pa_cons pe_int (pa_cons (pv 1) pa_nil)))) (pg_tup rfl (pgs_cons (pg_name (i := 2) sc_law.nd rfl (Or.inl rfl)) (pgs_cons (pg_name (i := 3) sc_law.nd rfl (Or.inl rfl)) pgs_nil)))) (pss_cons (ps_set (i := 4) sc_law.nd rfl (Or.inl rfl) (pe_makeQ T.mk_EdwardsCurve G_EdwardsCurve_init (hr.mono (by decide)) rfl T.g_EdwardsCurve b_EdwardsCurve_init (fun σ => passAt (takes_of rfl rfl rfl rfl) σ) (pa_cons (pv 1) (pa_cons (pv 2) (pa_cons (pv 3) pa_nil))))) (pss_cons (ps_set (i := 5) sc_law.nd rfl (Or.inl rfl) (pe_callS G_u_law_lifted (hr.mono (by decide)) rfl T.g_u_law_lifted F_u_law_lifted.kp b_u_law_lifted (fun σ => passAt (takes_of rfl rfl rfl rfl) σ) (pa_cons (pv 4) (pa_cons (pv 1) (pa_cons (pv 2) (pa_cons (pv 3) (pa_cons (pe_callS G_u_law_cell (hr.mono (by decide)) rfl T.g_u_law_cell F_u_law_cell.kp b_u_law_cell (fun σ => passAt (takes_of rfl rfl rfl rfl) σ) (pa_cons (pv 0) (pa_cons pe_int pa_nil))) pa_nil))))))) (pss_cons (ps_set (i := 6) sc_law.nd rfl (Or.inl rfl) (pe_callS G_u_law_lifted (hr.mono (by decide)) rfl T.g_u_law_lifted F_u_law_lifted.kp b_u_law_lifted (fun σ => passAt (takes_of rfl rfl rfl rfl) σ) (pa_cons (pv 4) (pa_cons (pv 1) (pa_cons (pv 2) (pa_cons (pv 3) (pa_cons (pe_callS G_u_law_cell (hr.mono (by decide)) rfl T.g_u_law_cell F_u_law_cell.kp b_u_law_cell (fun σ => passAt (takes_of rfl rfl rfl rfl) σ) (pa_cons (pv 0) (pa_cons pe_int pa_nil))) pa_nil))))))) (pss_cons (ps_set (i := 7) sc_law.nd rfl (Or.inl rfl) (pe_op op_mod (pe_callB call_abs (by rfl) T.n_abs (by decide +kernel) (pa_cons (pe_callS G_u_law_cell (hr.mono (by decide)) rfl T.g_u_law_cell F_u_law_cell.kp b_u_law_cell (fun σ => passAt (takes_of rfl rfl rfl rfl) σ) (pa_cons (pv 0) (pa_cons pe_int pa_nil))) pa_nil)) pe_int)) (pss_cons (ps_if (pt_cmpR op_eq (pv 7) pe_int (nomark _)) (pss_one (ps_set (i := 6) sc_law.nd rfl (Or.inl rfl) (pv 5))) pss_nil) (pss_cons (ps_if (pt_cmpR op_eq (pv 7) pe_int (nomark _)) (pss_one (ps_set (i := 6) sc_law.nd rfl (Or.inl rfl) (pe_tup (pa_cons (pe_op op_mod (pe_un un_neg (pe_ix (cr_ixT rfl) (pv 5) pe_int (fun _ _ => rfl))) (pv 1)) (pa_cons (pe_ix (cr_ixT rfl) (pv 5) pe_int (fun _ _ => rfl)) pa_nil))))) pss_nil) (pss_cons (ps_if (pt_cmpR op_eq (pv 7) pe_int (nomark _)) (pss_one (ps_set (i := 6) sc_law.nd rfl (Or.inl rfl) (pe_tup (pa_cons pe_int (pa_cons pe_int pa_nil))))) pss_nil) (pss_cons (ps_set (i := 8) sc_law.nd rfl (Or.inl rfl) (pe_callS G_u_law_tuple (hr.mono (by decide)) rfl T.g_u_law_tuple F_u_law_tuple.kp b_u_law_tuple (fun σ => passAt (takes_of rfl rfl rfl rfl) σ) (pa_cons (pv 5) (pa_cons (pe_op op_add pe_int (pe_callS G_u_law_residue (hr.mono (by decide)) rfl T.g_u_law_residue F_u_law_residue.kp b_u_law_residue (fun σ => passAt (takes_of rfl rfl rfl rfl) σ) (pa_cons (pe_callS G_u_law_cell (hr.mono (by decide)) rfl T.g_u_law_cell F_u_law_cell.kp b_u_law_cell (fun σ => passAt (takes_of rfl rfl rfl rfl) σ) (pa_cons (pv 0) (pa_cons pe_int pa_nil))) (pa_cons (pe_op op_sub (pv 1) pe_int) pa_nil)))) (pa_cons (pv 1) pa_nil))))) (pss_cons (ps_set (i := 9) sc_law.nd rfl (Or.inl rfl) (pe_callS G_u_law_tuple (hr.mono (by decide)) rfl T.g_u_law_tuple F_u_law_tuple.kp b_u_law_tuple (fun σ => passAt (takes_of rfl rfl rfl rfl) σ) (pa_cons (pv 6) (pa_cons (pe_op op_add pe_int (pe_callS G_u_law_residue (hr.mono (by decide)) rfl T.g_u_law_residue F_u_law_residue.kp b_u_law_residue (fun σ => passAt (takes_of rfl rfl rfl rfl) σ) (pa_cons (pe_callS G_u_law_cell (hr.mono (by decide)) rfl T.g_u_law_cell F_u_law_cell.kp b_u_law_cell (fun σ => passAt (takes_of rfl rfl rfl rfl) σ) (pa_cons (pv 0) (pa_cons pe_int pa_nil))) (pa_cons (pe_op op_sub (pv 1) pe_int) pa_nil)))) (pa_cons (pv 1) pa_nil))))) (pss_cons (ps_if (PW.pt (pw_or (pt_cmpR (op_neD (Room.units hr)) (pe_callS G_to_extended (hr.mono (by decide)) rfl T.g_to_extended F_to_extended.kp b_to_extended (fun σ => passAt (takes_of rfl rfl rfl rfl) σ) (pa_cons (pv 4) (pa_cons (pv 5) pa_nil))) (pe_callS G_u_law_tuple (hr.mono (by decide)) rfl T.g_u_law_tuple F_u_law_tuple.kp b_u_law_tuple (fun σ => passAt (takes_of rfl rfl rfl rfl) σ) (pa_cons (pv 5) (pa_cons pe_int (pa_cons (pv 1) pa_nil)))) (nomark _)) (pw_or1 (pt_cmpR (op_neD (Room.units hr)) (pe_callS G_from_extended (hr.mono (by decide)) rfl T.g_from_extended F_from_extended.kp b_from_extended (fun σ => passAt (takes_of rfl rfl rfl rfl) σ) (pa_cons (pv 4) (pa_cons (pv 8) pa_nil))) (pv 5) (nomark _))))) (pss_one (ps_ret pe_bl)) pss_nil) (pss_cons (ps_set (i := 10) sc_law.nd rfl (Or.inl rfl) (pe_callS G_add_extended (hr.mono (by decide)) rfl T.g_add_extended F_add_extended.kp b_add_extended (fun σ => passAt (takes_of rfl rfl rfl rfl) σ) (pa_cons (pv 4) (pa_cons (pv 8) (pa_cons (pv 9) pa_nil))))) (pss_cons (ps_if (PW.pt (pw_or (pt_not (pt_val (pe_callB call_isi (by rfl) T.n_isinstance (by decide +kernel) (pa_cons (pv 10) (pa_cons (pe_bltn (v := .ty "tuple") (by rfl) T.n_tuple (by decide +kernel) rfl) pa_nil))))) (pw_or (pt_cmpR (op_neD (Room.units hr)) (pv 10) (pe_callS G_u_law_sum (hr.mono (by decide)) rfl T.g_u_law_sum F_u_law_sum.kp b_u_law_sum (fun σ => passAt (takes_of rfl rfl rfl rfl) σ) (pa_cons (pv 1) (pa_cons (pv 2) (pa_cons (pv 3) (pa_cons (pv 8) (pa_cons (pv 9) pa_nil)))))) (nomark _)) (pw_or1 (pt_cmpR op_eq (pe_ix (cr_ixT rfl) (pv 10) pe_int (fun _ _ => rfl)) pe_int (nomark _)))))) (pss_one (ps_ret pe_bl)) pss_nil) (pss_cons (ps_if (pt_cmpR op_ne (pe_op op_mod (pe_op op_sub (pe_op op_mulX (pe_ix (cr_ixT rfl) (pv 10) pe_int (fun _ _ => rfl)) (pe_ix (cr_ixT rfl) (pv 10) pe_int (fun _ _ => rfl))) (pe_op op_mulX (pe_ix (cr_ixT rfl) (pv 10) pe_int (fun _ _ => rfl)) (pe_ix (cr_ixT rfl) (pv 10) pe_int (fun _ _ => rfl)))) (pv 1)) pe_int (nomark _)) (pss_one (ps_ret pe_bl)) pss_nil) (pss_cons (ps_set (i := 11) sc_law.nd rfl (Or.inl rfl) (pe_callS G_u_law_add (hr.mono (by decide)) rfl T.g_u_law_add F_u_law_add.kp b_u_law_add (fun σ => passAt (takes_of rfl rfl rfl rfl) σ) (pa_cons (pv 1) (pa_cons (pv 2) (pa_cons (pv 3) (pa_cons (pv 5) (pa_cons (pv 6) pa_nil))))))) (pss_cons (ps_if (PW.pt (pw_or (pt_cmpR (op_neD (Room.units hr)) (pe_callS G_from_extended (hr.mono (by decide)) rfl T.g_from_extended F_from_extended.kp b_from_extended (fun σ => passAt (takes_of rfl rfl rfl rfl) σ) (pa_cons (pv 4) (pa_cons (pv 10) pa_nil))) (pv 11) (nomark _)) (pw_or1 (pt_cmpR (op_neD (Room.units hr)) (pe_callS G_from_extended (hr.mono (by decide)) rfl T.g_from_extended F_from_extended.kp b_from_extended (fun σ => passAt (takes_of rfl rfl rfl rfl) σ) (pa_cons (pv 4) (pa_cons (pe_callS G_add_extended (hr.mono (by decide)) rfl T.g_add_extended F_add_extended.kp b_add_extended (fun σ => passAt (takes_of rfl rfl rfl rfl) σ) (pa_cons (pv 4) (pa_cons (pv 8) (pa_cons (pv 8) pa_nil)))) pa_nil))) (pe_callS G_u_law_add (hr.mono (by decide)) rfl T.g_u_law_add F_u_law_add.kp b_u_law_add (fun σ => passAt (takes_of rfl rfl rfl rfl) σ) (pa_cons (pv 1) (pa_cons (pv 2) (pa_cons (pv 3) (pa_cons (pv 5) (pa_cons (pv 5) pa_nil)))))) (nomark _))))) (pss_one (ps_ret pe_bl)) pss_nil) (pss_cons (ps_set (i := 12) sc_law.nd rfl (Or.inl rfl) (pe_callS G_same_extended (hr.mono (by decide)) rfl T.g_same_extended F_same_extended.kp b_same_extended (fun σ => passAt (takes_of rfl rfl rfl rfl) σ) (pa_cons (pv 4) (pa_cons (pv 8) (pa_cons (pv 9) pa_nil))))) (pss_cons (ps_if (PW.pt (pw_or (pt_not (pt_val (pe_callB call_isi (by rfl) T.n_isinstance (by decide +kernel) (pa_cons (pv 12) (pa_cons (pe_bltn (v := .ty "bool") (by rfl) T.n_bool (by decide +kernel) rfl) pa_nil))))) (pw_or (pt_cmpR op_ne (pv 12) (pe_cmpR (op_eqD (Room.units hr)) (pv 5) (pv 6) (nomark _)) (nomark _)) (pw_or1 (pt_cmpR op_notBl (pe_callS G_same_extended (hr.mono (by decide)) rfl T.g_same_extended F_same_extended.kp b_same_extended (fun σ => passAt (takes_of rfl rfl rfl rfl) σ) (pa_cons (pv 4) (pa_cons (pv 10) (pa_cons (pe_callS G_to_extended (hr.mono (by decide)) rfl T.g_to_extended F_to_extended.kp b_to_extended (fun σ => passAt (takes_of rfl rfl rfl rfl) σ) (pa_cons (pv 4) (pa_cons (pv 11) pa_nil))) pa_nil)))) pe_bl (nomark _)))))) (pss_one (ps_ret pe_bl)) pss_nil) (pss_cons (ps_set (i := 13) sc_law.nd rfl (Or.inl rfl) (pe_op op_mod (pe_op op_mul (pe_callB call_abs (by rfl) T.n_abs (by decide +kernel) (pa_cons (pe_callS G_u_law_cell (hr.mono (by decide)) rfl T.g_u_law_cell F_u_law_cell.kp b_u_law_cell (fun σ => passAt (takes_of rfl rfl rfl rfl) σ) (pa_cons (pv 0) (pa_cons pe_int pa_nil))) pa_nil)) pe_int) (pe_op op_mulX (pe_op op_pow pe_int pe_int) (pe_op op_pow pe_int pe_int)))) (pss_cons (ps_if (pt_cmpR op_eq (pe_op op_mod (pe_callB call_abs (by rfl) T.n_abs (by decide +kernel) (pa_cons (pe_callS G_u_law_cell (hr.mono (by decide)) rfl T.g_u_law_cell F_u_law_cell.kp b_u_law_cell (fun σ => passAt (takes_of rfl rfl rfl rfl) σ) (pa_cons (pv 0) (pa_cons pe_int pa_nil))) pa_nil)) pe_int) pe_int (nomark _)) (pss_one (ps_set (i := 13) sc_law.nd rfl (Or.inl rfl) (pe_op op_mod (pe_op op_fdiv (pe_callB call_abs (by rfl) T.n_abs (by decide +kernel) (pa_cons (pe_callS G_u_law_cell (hr.mono (by decide)) rfl T.g_u_law_cell F_u_law_cell.kp b_u_law_cell (fun σ => passAt (takes_of rfl rfl rfl rfl) σ) (pa_cons (pv 0) (pa_cons pe_int pa_nil))) pa_nil)) pe_int) pe_int))) pss_nil) (pss_cons (ps_set (i := 14) sc_law.nd rfl (Or.inl rfl) (pe_callS G_multiply_extended (hr.mono (by decide)) rfl T.g_multiply_extended F_multiply_extended.kp b_multiply_extended (fun σ => passAt (takes_of rfl rfl rfl rfl) σ) (pa_cons (pv 4) (pa_cons (pv 13) (pa_cons (pv 5) pa_nil))))) (pss_cons (ps_set (i := 15) sc_law.nd rfl (Or.inl rfl) (pe_tup (pa_cons pe_int (pa_cons pe_int pa_nil)))) (pss_cons (ps_set (i := 16) sc_law.nd rfl (Or.inl rfl) (pv 5)) (pss_cons (ps_set (i := 17) sc_law.nd rfl (Or.inl rfl) (pv 13)) (pss_cons (ps_for (passes_of rfl) rfl (pi_range1 rfl T.n_range (pa_cons pe_int pa_nil)) (pg_name (i := 18) sc_law.nd rfl (Or.inl rfl)) (pss_cons (ps_if (pt_cmpR op_eq (pv 17) pe_int (nomark _)) (pss_one ps_break) pss_nil) (pss_cons (ps_if (pt_cmpR op_eq (pe_op op_mod (pv 17) pe_int) pe_int (nomark _)) (pss_one (ps_set (i := 15) sc_law.nd rfl (Or.inl rfl) (pe_callS G_u_law_add (hr.mono (by decide)) rfl T.g_u_law_add F_u_law_add.kp b_u_law_add (fun σ => passAt (takes_of rfl rfl rfl rfl) σ) (pa_cons (pv 1) (pa_cons (pv 2) (pa_cons (pv 3) (pa_cons (pv 15) (pa_cons (pv 16) pa_nil)))))))) pss_nil) (pss_cons (ps_set (i := 16) sc_law.nd rfl (Or.inl rfl) (pe_callS G_u_law_add (hr.mono (by decide)) rfl T.g_u_law_add F_u_law_add.kp b_u_law_add (fun σ => passAt (takes_of rfl rfl rfl rfl) σ) (pa_cons (pv 1) (pa_cons (pv 2) (pa_cons (pv 3) (pa_cons (pv 16) (pa_cons (pv 16) pa_nil))))))) (pss_one (ps_set (i := 17) sc_law.nd rfl (Or.inl rfl) (pe_op op_fdiv (pv 17) pe_int))))))) (pss_one (ps_ret (pe_and (pe_cmpR (op_eqD (Room.units hr)) (pv 14) (pv 15) (nomark _)) (pe_one (pe_cmpR (op_eqD (Room.units hr)) (pe_callS G_multiply_extended (hr.mono (by decide)) rfl T.g_multiply_extended F_multiply_extended.kp b_multiply_extended (fun σ => passAt (takes_of rfl rfl rfl rfl) σ) (pa_cons (pv 4) (pa_cons (pe_un un_neg (pv 13)) (pa_cons (pv 5) pa_nil)))) (pe_methQ (pv 4) T.cl_EdwardsCurve T.mt_EdwardsCurve_negate G_EdwardsCurve_negate (hr.mono (by decide)) b_EdwardsCurve_negate (fun σ => passAt (takes_of rfl rfl rfl rfl) σ) (pa_cons (pv 15) pa_nil)) (nomark _)))))))))))))))))))))))))))))))), ?_⟩
  rintro ⟨script_, ⟨⟩⟩ F0 H0 Q KP L
  show Blk K F0 H0 KP _ [some (.im (toD script_)), none, none, none, none, none, none, none, none, none, none, none, none, none, none, none, none, none, none] (m_law script_)
  unfold m_law
  have hs_ := ((ev_call (f := (fun (p : Int × Unit) => m_u_law_edwards_prime p.1)) (ea_cons (ev_call (f := (fun (p : (List Int) × Int × Unit) => m_u_law_cell p.1 p.2.1)) (ea_cons (ev_var (i := 0) (x := script_) rfl) (ea_cons (ev_int (i := 0)) ea_nil))) ea_nil)) : EvX K (W0 E) [some (.im (toD script_)), none, none, none, none, none, none, none, none, none, none, none, none, none, none, none, none, none, none] _ _)
  refine blk_seq (blk_set (i := 1) L trivial hs_ fun prime_ => ?_)
  show Blk _ _ _ _ _ [some (.im (toD script_)), some (.im (toD prime_)), none, none, none, none, none, none, none, none, none, none, none, none, none, none, none, none, none] _
  try refine Blk.nx ?_
  have hs_ := ((ev_call (f := (fun (p : (List Int) × Int × Int × Unit) => m_u_law_numbers p.1 p.2.1 p.2.2.1)) (ea_cons (ev_var (i := 0) (x := script_) rfl) (ea_cons (ev_int (i := 1)) (ea_cons (ev_var (i := 1) (x := prime_) rfl) ea_nil)))) : EvX K (W0 E) [some (.im (toD script_)), some (.im (toD prime_)), none, none, none, none, none, none, none, none, none, none, none, none, none, none, none, none, none] _ _)
  refine blk_seq (blk_asg L trivial hs_ (fun _ => (gx_tup (gxs_cons gx_name (gxs_cons gx_name gxs_nil)) rfl)) fun u1136 => ?_)
  show Blk _ _ _ _ _ [some (.im (toD script_)), some (.im (toD prime_)), some (.im (toD u1136.a)), some (.im (toD u1136.b)), none, none, none, none, none, none, none, none, none, none, none, none, none, none, none] ((fun (a_ : Int) (d_ : Int) => _) u1136.a u1136.b)
  generalize u1136.a = a_
  generalize u1136.b = d_
  show Blk _ _ _ _ _ [some (.im (toD script_)), some (.im (toD prime_)), some (.im (toD a_)), some (.im (toD d_)), none, none, none, none, none, none, none, none, none, none, none, none, none, none, none] _
  try refine Blk.nx ?_
  have hs_ := ((ev_make (c := "EdwardsCurve") (f := (fun (p : Int × Int × Int × Unit) => m_EdwardsCurve_init p.1 p.2.1 p.2.2.1)) (ea_cons (ev_var (i := 1) (x := prime_) rfl) (ea_cons (ev_var (i := 2) (x := a_) rfl) (ea_cons (ev_var (i := 3) (x := d_) rfl) ea_nil)))) : EvX K (W0 E) [some (.im (toD script_)), some (.im (toD prime_)), some (.im (toD a_)), some (.im (toD d_)), none, none, none, none, none, none, none, none, none, none, none, none, none, none, none] _ _)
  refine blk_seq (blk_set (i := 4) L trivial hs_ fun curve_ => ?_)
  show Blk _ _ _ _ _ [some (.im (toD script_)), some (.im (toD prime_)), some (.im (toD a_)), some (.im (toD d_)), some (.im (toD curve_)), none, none, none, none, none, none, none, none, none, none, none, none, none, none] _
  try refine Blk.nx ?_
  have hs_ := ((ev_call (f := (fun (p : O_EdwardsCurve × Int × Int × Int × Int × Unit) => m_u_law_lifted p.1 p.2.1 p.2.2.1 p.2.2.2.1 p.2.2.2.2.1)) (ea_cons (ev_var (i := 4) (x := curve_) rfl) (ea_cons (ev_var (i := 1) (x := prime_) rfl) (ea_cons (ev_var (i := 2) (x := a_) rfl) (ea_cons (ev_var (i := 3) (x := d_) rfl) (ea_cons (ev_call (f := (fun (p : (List Int) × Int × Unit) => m_u_law_cell p.1 p.2.1)) (ea_cons (ev_var (i := 0) (x := script_) rfl) (ea_cons (ev_int (i := 3)) ea_nil))) ea_nil)))))) : EvX K (W0 E) [some (.im (toD script_)), some (.im (toD prime_)), some (.im (toD a_)), some (.im (toD d_)), some (.im (toD curve_)), none, none, none, none, none, none, none, none, none, none, none, none, none, none] _ _)
  refine blk_seq (blk_set (i := 5) L trivial hs_ fun first_ => ?_)
  show Blk _ _ _ _ _ [some (.im (toD script_)), some (.im (toD prime_)), some (.im (toD a_)), some (.im (toD d_)), some (.im (toD curve_)), some (.im (toD first_)), none, none, none, none, none, none, none, none, none, none, none, none, none] _
  try refine Blk.nx ?_
  have hs_ := ((ev_call (f := (fun (p : O_EdwardsCurve × Int × Int × Int × Int × Unit) => m_u_law_lifted p.1 p.2.1 p.2.2.1 p.2.2.2.1 p.2.2.2.2.1)) (ea_cons (ev_var (i := 4) (x := curve_) rfl) (ea_cons (ev_var (i := 1) (x := prime_) rfl) (ea_cons (ev_var (i := 2) (x := a_) rfl) (ea_cons (ev_var (i := 3) (x := d_) rfl) (ea_cons (ev_call (f := (fun (p : (List Int) × Int × Unit) => m_u_law_cell p.1 p.2.1)) (ea_cons (ev_var (i := 0) (x := script_) rfl) (ea_cons (ev_int (i := 4)) ea_nil))) ea_nil)))))) : EvX K (W0 E) [some (.im (toD script_)), some (.im (toD prime_)), some (.im (toD a_)), some (.im (toD d_)), some (.im (toD curve_)), some (.im (toD first_)), none, none, none, none, none, none, none, none, none, none, none, none, none] _ _)
  refine blk_seq (blk_set (i := 6) L trivial hs_ fun second_ => ?_)
  show Blk _ _ _ _ _ [some (.im (toD script_)), some (.im (toD prime_)), some (.im (toD a_)), some (.im (toD d_)), some (.im (toD curve_)), some (.im (toD first_)), some (.im (toD second_)), none, none, none, none, none, none, none, none, none, none, none, none] _
  try refine Blk.nx ?_
  have hs_ := ((ev_opI (C := (fun _ j => 0 < j)) (g := fun i j => i % j) (fun x y _ h => by cases h; (show (0 : Int) < _; decide)) (ev_cb cx_abs (fun _ _ h => nomatch h) (ea_cons (ev_call (f := (fun (p : (List Int) × Int × Unit) => m_u_law_cell p.1 p.2.1)) (ea_cons (ev_var (i := 0) (x := script_) rfl) (ea_cons (ev_int (i := 5)) ea_nil))) ea_nil)) (ev_int (i := 5))) : EvX K (W0 E) [some (.im (toD script_)), some (.im (toD prime_)), some (.im (toD a_)), some (.im (toD d_)), some (.im (toD curve_)), some (.im (toD first_)), some (.im (toD second_)), none, none, none, none, none, none, none, none, none, none, none, none] _ _)
  refine blk_seq (blk_set (i := 7) L trivial hs_ fun kind_ => ?_)
  show Blk _ _ _ _ _ [some (.im (toD script_)), some (.im (toD prime_)), some (.im (toD a_)), some (.im (toD d_)), some (.im (toD curve_)), some (.im (toD first_)), some (.im (toD second_)), some (.im (toD kind_)), none, none, none, none, none, none, none, none, none, none, none] _
  try refine Blk.nx ?_
  have ht_ := ((et_test (ev_op opx_eqI mild_ok (ev_var (i := 7) (x := kind_) rfl) (ev_int (i := 1)))) : EvT K (W0 E) [some (.im (toD script_)), some (.im (toD prime_)), some (.im (toD a_)), some (.im (toD d_)), some (.im (toD curve_)), some (.im (toD first_)), some (.im (toD second_)), some (.im (toD kind_)), none, none, none, none, none, none, none, none, none, none, none] _ _)
  refine blk_seq (blk_ifj (S := (T2 Int Int)) (fun second_ => [some (.im (toD script_)), some (.im (toD prime_)), some (.im (toD a_)), some (.im (toD d_)), some (.im (toD curve_)), some (.im (toD first_)), some (.im (toD second_)), some (.im (toD kind_)), none, none, none, none, none, none, none, none, none, none, none]) (m_law_k1 script_ prime_ a_ d_ curve_ first_ kind_) L trivial ht_ ?_ ?_ ?_)
  · intro second_
    show Blk _ _ _ _ _ [some (.im (toD script_)), some (.im (toD prime_)), some (.im (toD a_)), some (.im (toD d_)), some (.im (toD curve_)), some (.im (toD first_)), some (.im (toD second_)), some (.im (toD kind_)), none, none, none, none, none, none, none, none, none, none, none] ((m_law_k1 script_ prime_ a_ d_ curve_ first_ kind_) second_)
    unfold m_law_k1
    try refine Blk.nx ?_
    have ht_ := ((et_test (ev_op opx_eqI mild_ok (ev_var (i := 7) (x := kind_) rfl) (ev_int (i := 2)))) : EvT K (W0 E) [some (.im (toD script_)), some (.im (toD prime_)), some (.im (toD a_)), some (.im (toD d_)), some (.im (toD curve_)), some (.im (toD first_)), some (.im (toD second_)), some (.im (toD kind_)), none, none, none, none, none, none, none, none, none, none, none] _ _)
    refine blk_seq (blk_ifj (S := (T2 Int Int)) (fun second_ => [some (.im (toD script_)), some (.im (toD prime_)), some (.im (toD a_)), some (.im (toD d_)), some (.im (toD curve_)), some (.im (toD first_)), some (.im (toD second_)), some (.im (toD kind_)), none, none, none, none, none, none, none, none, none, none, none]) (m_law_k2 script_ prime_ a_ d_ curve_ first_ kind_) L trivial ht_ ?_ ?_ ?_)
    · intro second_
      show Blk _ _ _ _ _ [some (.im (toD script_)), some (.im (toD prime_)), some (.im (toD a_)), some (.im (toD d_)), some (.im (toD curve_)), some (.im (toD first_)), some (.im (toD second_)), some (.im (toD kind_)), none, none, none, none, none, none, none, none, none, none, none] ((m_law_k2 script_ prime_ a_ d_ curve_ first_ kind_) second_)
      unfold m_law_k2
      try refine Blk.nx ?_
      have ht_ := ((et_test (ev_op opx_eqI mild_ok (ev_var (i := 7) (x := kind_) rfl) (ev_int (i := 3)))) : EvT K (W0 E) [some (.im (toD script_)), some (.im (toD prime_)), some (.im (toD a_)), some (.im (toD d_)), some (.im (toD curve_)), some (.im (toD first_)), some (.im (toD second_)), some (.im (toD kind_)), none, none, none, none, none, none, none, none, none, none, none] _ _)
      refine blk_seq (blk_ifj (S := (T2 Int Int)) (fun second_ => [some (.im (toD script_)), some (.im (toD prime_)), some (.im (toD a_)), some (.im (toD d_)), some (.im (toD curve_)), some (.im (toD first_)), some (.im (toD second_)), some (.im (toD kind_)), none, none, none, none, none, none, none, none, none, none, none]) (m_law_k3 script_ prime_ a_ d_ curve_ first_) L trivial ht_ ?_ ?_ ?_)
      · intro second_
        show Blk _ _ _ _ _ [some (.im (toD script_)), some (.im (toD prime_)), some (.im (toD a_)), some (.im (toD d_)), some (.im (toD curve_)), some (.im (toD first_)), some (.im (toD second_)), some (.im (toD kind_)), none, none, none, none, none, none, none, none, none, none, none] ((m_law_k3 script_ prime_ a_ d_ curve_ first_) second_)
        unfold m_law_k3
        try refine Blk.nx ?_
        have hs_ := ((ev_call (f := (fun (p : (T2 Int Int) × Int × Int × Unit) => m_u_law_tuple p.1 p.2.1 p.2.2.1)) (ea_cons (ev_var (i := 5) (x := first_) rfl) (ea_cons (ev_op (opx_I0 (g := fun i j => i + j)) mild_ok (ev_int (i := 1)) (ev_call (f := (fun (p : Int × Int × Unit) => m_u_law_residue p.1 p.2.1)) (ea_cons (ev_call (f := (fun (p : (List Int) × Int × Unit) => m_u_law_cell p.1 p.2.1)) (ea_cons (ev_var (i := 0) (x := script_) rfl) (ea_cons (ev_int (i := 6)) ea_nil))) (ea_cons (ev_op (opx_I0 (g := fun i j => i - j)) mild_ok (ev_var (i := 1) (x := prime_) rfl) (ev_int (i := 1))) ea_nil)))) (ea_cons (ev_var (i := 1) (x := prime_) rfl) ea_nil)))) : EvX K (W0 E) [some (.im (toD script_)), some (.im (toD prime_)), some (.im (toD a_)), some (.im (toD d_)), some (.im (toD curve_)), some (.im (toD first_)), some (.im (toD second_)), some (.im (toD kind_)), none, none, none, none, none, none, none, none, none, none, none] _ _)
        refine blk_seq (blk_set (i := 8) L trivial hs_ fun left_ => ?_)
        show Blk _ _ _ _ _ [some (.im (toD script_)), some (.im (toD prime_)), some (.im (toD a_)), some (.im (toD d_)), some (.im (toD curve_)), some (.im (toD first_)), some (.im (toD second_)), some (.im (toD kind_)), some (.im (toD left_)), none, none, none, none, none, none, none, none, none, none] _
        try refine Blk.nx ?_
        have hs_ := ((ev_call (f := (fun (p : (T2 Int Int) × Int × Int × Unit) => m_u_law_tuple p.1 p.2.1 p.2.2.1)) (ea_cons (ev_var (i := 6) (x := second_) rfl) (ea_cons (ev_op (opx_I0 (g := fun i j => i + j)) mild_ok (ev_int (i := 1)) (ev_call (f := (fun (p : Int × Int × Unit) => m_u_law_residue p.1 p.2.1)) (ea_cons (ev_call (f := (fun (p : (List Int) × Int × Unit) => m_u_law_cell p.1 p.2.1)) (ea_cons (ev_var (i := 0) (x := script_) rfl) (ea_cons (ev_int (i := 7)) ea_nil))) (ea_cons (ev_op (opx_I0 (g := fun i j => i - j)) mild_ok (ev_var (i := 1) (x := prime_) rfl) (ev_int (i := 1))) ea_nil)))) (ea_cons (ev_var (i := 1) (x := prime_) rfl) ea_nil)))) : EvX K (W0 E) [some (.im (toD script_)), some (.im (toD prime_)), some (.im (toD a_)), some (.im (toD d_)), some (.im (toD curve_)), some (.im (toD first_)), some (.im (toD second_)), some (.im (toD kind_)), some (.im (toD left_)), none, none, none, none, none, none, none, none, none, none] _ _)
        refine blk_seq (blk_set (i := 9) L trivial hs_ fun right_ => ?_)
        show Blk _ _ _ _ _ [some (.im (toD script_)), some (.im (toD prime_)), some (.im (toD a_)), some (.im (toD d_)), some (.im (toD curve_)), some (.im (toD first_)), some (.im (toD second_)), some (.im (toD kind_)), some (.im (toD left_)), some (.im (toD right_)), none, none, none, none, none, none, none, none, none] _
        try refine Blk.nx ?_
        have ht_ := ((et_or (et_test (ev_op opx_neD mild_need (ev_call (f := (fun (p : O_EdwardsCurve × (T2 Int Int) × Unit) => m_to_extended p.1 p.2.1)) (ea_cons (ev_var (i := 4) (x := curve_) rfl) (ea_cons (ev_var (i := 5) (x := first_) rfl) ea_nil))) (ev_call (f := (fun (p : (T2 Int Int) × Int × Int × Unit) => m_u_law_tuple p.1 p.2.1 p.2.2.1)) (ea_cons (ev_var (i := 5) (x := first_) rfl) (ea_cons (ev_int (i := 1)) (ea_cons (ev_var (i := 1) (x := prime_) rfl) ea_nil)))))) (et_test (ev_op opx_neD mild_need (ev_call (f := (fun (p : O_EdwardsCurve × (T4 Int Int Int Int) × Unit) => m_from_extended p.1 p.2.1)) (ea_cons (ev_var (i := 4) (x := curve_) rfl) (ea_cons (ev_var (i := 8) (x := left_) rfl) ea_nil))) (ev_var (i := 5) (x := first_) rfl)))) : EvT K (W0 E) [some (.im (toD script_)), some (.im (toD prime_)), some (.im (toD a_)), some (.im (toD d_)), some (.im (toD curve_)), some (.im (toD first_)), some (.im (toD second_)), some (.im (toD kind_)), some (.im (toD left_)), some (.im (toD right_)), none, none, none, none, none, none, none, none, none] _ _)
        refine blk_seq (blk_if2 L trivial ht_ ?_ ?_)
        · have hr_ := ((ev_bl (b := false)) : EvX K (W0 E) [some (.im (toD script_)), some (.im (toD prime_)), some (.im (toD a_)), some (.im (toD d_)), some (.im (toD curve_)), some (.im (toD first_)), some (.im (toD second_)), some (.im (toD kind_)), some (.im (toD left_)), some (.im (toD right_)), none, none, none, none, none, none, none, none, none] _ _)
          exact blk_ret L trivial hr_
        · refine blk_nil ?_
          try refine Blk.nx ?_
          have hs_ := ((ev_call (f := (fun (p : O_EdwardsCurve × (T4 Int Int Int Int) × (T4 Int Int Int Int) × Unit) => m_add_extended p.1 p.2.1 p.2.2.1)) (ea_cons (ev_var (i := 4) (x := curve_) rfl) (ea_cons (ev_var (i := 8) (x := left_) rfl) (ea_cons (ev_var (i := 9) (x := right_) rfl) ea_nil)))) : EvX K (W0 E) [some (.im (toD script_)), some (.im (toD prime_)), some (.im (toD a_)), some (.im (toD d_)), some (.im (toD curve_)), some (.im (toD first_)), some (.im (toD second_)), some (.im (toD kind_)), some (.im (toD left_)), some (.im (toD right_)), none, none, none, none, none, none, none, none, none] _ _)
          refine blk_seq (blk_set (i := 10) L trivial hs_ fun total_ => ?_)
          show Blk _ _ _ _ _ [some (.im (toD script_)), some (.im (toD prime_)), some (.im (toD a_)), some (.im (toD d_)), some (.im (toD curve_)), some (.im (toD first_)), some (.im (toD second_)), some (.im (toD kind_)), some (.im (toD left_)), some (.im (toD right_)), some (.im (toD total_)), none, none, none, none, none, none, none, none] _
          try refine Blk.nx ?_
          have ht_ := ((et_or (et_not (et_B (ev_isi isi_tuple (ev_var (i := 10) (x := total_) rfl)))) (et_or (et_test (ev_op opx_neD mild_need (ev_var (i := 10) (x := total_) rfl) (ev_call (f := (fun (p : Int × Int × Int × (T4 Int Int Int Int) × (T4 Int Int Int Int) × Unit) => m_u_law_sum p.1 p.2.1 p.2.2.1 p.2.2.2.1 p.2.2.2.2.1)) (ea_cons (ev_var (i := 1) (x := prime_) rfl) (ea_cons (ev_var (i := 2) (x := a_) rfl) (ea_cons (ev_var (i := 3) (x := d_) rfl) (ea_cons (ev_var (i := 8) (x := left_) rfl) (ea_cons (ev_var (i := 9) (x := right_) rfl) ea_nil)))))))) (et_test (ev_op opx_eqI mild_ok (ev_ixTC (i := 2) (f := fun x => x.c) (ev_var (i := 10) (x := total_) rfl) (fun x => ⟨_, rfl, rfl⟩)) (ev_int (i := 0)))))) : EvT K (W0 E) [some (.im (toD script_)), some (.im (toD prime_)), some (.im (toD a_)), some (.im (toD d_)), some (.im (toD curve_)), some (.im (toD first_)), some (.im (toD second_)), some (.im (toD kind_)), some (.im (toD left_)), some (.im (toD right_)), some (.im (toD total_)), none, none, none, none, none, none, none, none] _ _)
          refine blk_seq (blk_if2 L trivial ht_ ?_ ?_)
          · have hr_ := ((ev_bl (b := false)) : EvX K (W0 E) [some (.im (toD script_)), some (.im (toD prime_)), some (.im (toD a_)), some (.im (toD d_)), some (.im (toD curve_)), some (.im (toD first_)), some (.im (toD second_)), some (.im (toD kind_)), some (.im (toD left_)), some (.im (toD right_)), some (.im (toD total_)), none, none, none, none, none, none, none, none] _ _)
            exact blk_ret L trivial hr_
          · refine blk_nil ?_
            try refine Blk.nx ?_
            have ht_ := ((et_test (ev_op opx_neI mild_ok (ev_op (opx_I (C := (fun _ j => 0 < j)) (g := fun i j => i % j)) mild_need (ev_op (opx_I0 (g := fun i j => i - j)) mild_ok (ev_op (opx_I (C := CMulX) (g := fun i j => i * j)) mild_need (ev_ixTC (i := 0) (f := fun x => x.a) (ev_var (i := 10) (x := total_) rfl) (fun x => ⟨_, rfl, rfl⟩)) (ev_ixTC (i := 1) (f := fun x => x.b) (ev_var (i := 10) (x := total_) rfl) (fun x => ⟨_, rfl, rfl⟩))) (ev_op (opx_I (C := CMulX) (g := fun i j => i * j)) mild_need (ev_ixTC (i := 2) (f := fun x => x.c) (ev_var (i := 10) (x := total_) rfl) (fun x => ⟨_, rfl, rfl⟩)) (ev_ixTC (i := 3) (f := fun x => x.e) (ev_var (i := 10) (x := total_) rfl) (fun x => ⟨_, rfl, rfl⟩)))) (ev_var (i := 1) (x := prime_) rfl)) (ev_int (i := 0)))) : EvT K (W0 E) [some (.im (toD script_)), some (.im (toD prime_)), some (.im (toD a_)), some (.im (toD d_)), some (.im (toD curve_)), some (.im (toD first_)), some (.im (toD second_)), some (.im (toD kind_)), some (.im (toD left_)), some (.im (toD right_)), some (.im (toD total_)), none, none, none, none, none, none, none, none] _ _)
            refine blk_seq (blk_if2 L trivial ht_ ?_ ?_)
            · have hr_ := ((ev_bl (b := false)) : EvX K (W0 E) [some (.im (toD script_)), some (.im (toD prime_)), some (.im (toD a_)), some (.im (toD d_)), some (.im (toD curve_)), some (.im (toD first_)), some (.im (toD second_)), some (.im (toD kind_)), some (.im (toD left_)), some (.im (toD right_)), some (.im (toD total_)), none, none, none, none, none, none, none, none] _ _)
              exact blk_ret L trivial hr_
            · refine blk_nil ?_
              try refine Blk.nx ?_
              have hs_ := ((ev_call (f := (fun (p : Int × Int × Int × (T2 Int Int) × (T2 Int Int) × Unit) => m_u_law_add p.1 p.2.1 p.2.2.1 p.2.2.2.1 p.2.2.2.2.1)) (ea_cons (ev_var (i := 1) (x := prime_) rfl) (ea_cons (ev_var (i := 2) (x := a_) rfl) (ea_cons (ev_var (i := 3) (x := d_) rfl) (ea_cons (ev_var (i := 5) (x := first_) rfl) (ea_cons (ev_var (i := 6) (x := second_) rfl) ea_nil)))))) : EvX K (W0 E) [some (.im (toD script_)), some (.im (toD prime_)), some (.im (toD a_)), some (.im (toD d_)), some (.im (toD curve_)), some (.im (toD first_)), some (.im (toD second_)), some (.im (toD kind_)), some (.im (toD left_)), some (.im (toD right_)), some (.im (toD total_)), none, none, none, none, none, none, none, none] _ _)
              refine blk_seq (blk_set (i := 11) L trivial hs_ fun due_ => ?_)
              show Blk _ _ _ _ _ [some (.im (toD script_)), some (.im (toD prime_)), some (.im (toD a_)), some (.im (toD d_)), some (.im (toD curve_)), some (.im (toD first_)), some (.im (toD second_)), some (.im (toD kind_)), some (.im (toD left_)), some (.im (toD right_)), some (.im (toD total_)), some (.im (toD due_)), none, none, none, none, none, none, none] _
              try refine Blk.nx ?_
              have ht_ := ((et_or (et_test (ev_op opx_neD mild_need (ev_call (f := (fun (p : O_EdwardsCurve × (T4 Int Int Int Int) × Unit) => m_from_extended p.1 p.2.1)) (ea_cons (ev_var (i := 4) (x := curve_) rfl) (ea_cons (ev_var (i := 10) (x := total_) rfl) ea_nil))) (ev_var (i := 11) (x := due_) rfl))) (et_test (ev_op opx_neD mild_need (ev_call (f := (fun (p : O_EdwardsCurve × (T4 Int Int Int Int) × Unit) => m_from_extended p.1 p.2.1)) (ea_cons (ev_var (i := 4) (x := curve_) rfl) (ea_cons (ev_call (f := (fun (p : O_EdwardsCurve × (T4 Int Int Int Int) × (T4 Int Int Int Int) × Unit) => m_add_extended p.1 p.2.1 p.2.2.1)) (ea_cons (ev_var (i := 4) (x := curve_) rfl) (ea_cons (ev_var (i := 8) (x := left_) rfl) (ea_cons (ev_var (i := 8) (x := left_) rfl) ea_nil)))) ea_nil))) (ev_call (f := (fun (p : Int × Int × Int × (T2 Int Int) × (T2 Int Int) × Unit) => m_u_law_add p.1 p.2.1 p.2.2.1 p.2.2.2.1 p.2.2.2.2.1)) (ea_cons (ev_var (i := 1) (x := prime_) rfl) (ea_cons (ev_var (i := 2) (x := a_) rfl) (ea_cons (ev_var (i := 3) (x := d_) rfl) (ea_cons (ev_var (i := 5) (x := first_) rfl) (ea_cons (ev_var (i := 5) (x := first_) rfl) ea_nil))))))))) : EvT K (W0 E) [some (.im (toD script_)), some (.im (toD prime_)), some (.im (toD a_)), some (.im (toD d_)), some (.im (toD curve_)), some (.im (toD first_)), some (.im (toD second_)), some (.im (toD kind_)), some (.im (toD left_)), some (.im (toD right_)), some (.im (toD total_)), some (.im (toD due_)), none, none, none, none, none, none, none] _ _)
              refine blk_seq (blk_if2 L trivial ht_ ?_ ?_)
              · have hr_ := ((ev_bl (b := false)) : EvX K (W0 E) [some (.im (toD script_)), some (.im (toD prime_)), some (.im (toD a_)), some (.im (toD d_)), some (.im (toD curve_)), some (.im (toD first_)), some (.im (toD second_)), some (.im (toD kind_)), some (.im (toD left_)), some (.im (toD right_)), some (.im (toD total_)), some (.im (toD due_)), none, none, none, none, none, none, none] _ _)
                exact blk_ret L trivial hr_
              · refine blk_nil ?_
                try refine Blk.nx ?_
                have hs_ := ((ev_call (f := (fun (p : O_EdwardsCurve × (T4 Int Int Int Int) × (T4 Int Int Int Int) × Unit) => m_same_extended p.1 p.2.1 p.2.2.1)) (ea_cons (ev_var (i := 4) (x := curve_) rfl) (ea_cons (ev_var (i := 8) (x := left_) rfl) (ea_cons (ev_var (i := 9) (x := right_) rfl) ea_nil)))) : EvX K (W0 E) [some (.im (toD script_)), some (.im (toD prime_)), some (.im (toD a_)), some (.im (toD d_)), some (.im (toD curve_)), some (.im (toD first_)), some (.im (toD second_)), some (.im (toD kind_)), some (.im (toD left_)), some (.im (toD right_)), some (.im (toD total_)), some (.im (toD due_)), none, none, none, none, none, none, none] _ _)
                refine blk_seq (blk_set (i := 12) L trivial hs_ fun same_ => ?_)
                show Blk _ _ _ _ _ [some (.im (toD script_)), some (.im (toD prime_)), some (.im (toD a_)), some (.im (toD d_)), some (.im (toD curve_)), some (.im (toD first_)), some (.im (toD second_)), some (.im (toD kind_)), some (.im (toD left_)), some (.im (toD right_)), some (.im (toD total_)), some (.im (toD due_)), some (.im (toD same_)), none, none, none, none, none, none] _
                try refine Blk.nx ?_
                have ht_ := ((et_or (et_not (et_B (ev_isi isi_bool (ev_var (i := 12) (x := same_) rfl)))) (et_or (et_test (ev_op opx_neB mild_ok (ev_var (i := 12) (x := same_) rfl) (ev_op opx_eqD mild_need (ev_var (i := 5) (x := first_) rfl) (ev_var (i := 6) (x := second_) rfl)))) (et_test (ev_op opx_notB mild_ok (ev_call (f := (fun (p : O_EdwardsCurve × (T4 Int Int Int Int) × (T4 Int Int Int Int) × Unit) => m_same_extended p.1 p.2.1 p.2.2.1)) (ea_cons (ev_var (i := 4) (x := curve_) rfl) (ea_cons (ev_var (i := 10) (x := total_) rfl) (ea_cons (ev_call (f := (fun (p : O_EdwardsCurve × (T2 Int Int) × Unit) => m_to_extended p.1 p.2.1)) (ea_cons (ev_var (i := 4) (x := curve_) rfl) (ea_cons (ev_var (i := 11) (x := due_) rfl) ea_nil))) ea_nil)))) (ev_bl (b := true)))))) : EvT K (W0 E) [some (.im (toD script_)), some (.im (toD prime_)), some (.im (toD a_)), some (.im (toD d_)), some (.im (toD curve_)), some (.im (toD first_)), some (.im (toD second_)), some (.im (toD kind_)), some (.im (toD left_)), some (.im (toD right_)), some (.im (toD total_)), some (.im (toD due_)), some (.im (toD same_)), none, none, none, none, none, none] _ _)
                refine blk_seq (blk_if2 L trivial ht_ ?_ ?_)
                · have hr_ := ((ev_bl (b := false)) : EvX K (W0 E) [some (.im (toD script_)), some (.im (toD prime_)), some (.im (toD a_)), some (.im (toD d_)), some (.im (toD curve_)), some (.im (toD first_)), some (.im (toD second_)), some (.im (toD kind_)), some (.im (toD left_)), some (.im (toD right_)), some (.im (toD total_)), some (.im (toD due_)), some (.im (toD same_)), none, none, none, none, none, none] _ _)
                  exact blk_ret L trivial hr_
                · refine blk_nil ?_
                  try refine Blk.nx ?_
                  have hs_ := ((ev_op (opx_I (C := (fun _ j => 0 < j)) (g := fun i j => i % j)) mild_need (ev_opI (C := CMul) (g := fun i j => i * j) (fun x y _ h => by cases h; exact .inr (by decide)) (ev_cb cx_abs (fun _ _ h => nomatch h) (ea_cons (ev_call (f := (fun (p : (List Int) × Int × Unit) => m_u_law_cell p.1 p.2.1)) (ea_cons (ev_var (i := 0) (x := script_) rfl) (ea_cons (ev_int (i := 8)) ea_nil))) ea_nil)) (ev_int (i := 48271))) (ev_op (opx_I (C := CMulX) (g := fun i j => i * j)) mild_need (ev_opI (C := CPow) (g := fun i j => i ^ j.toNat) (fun x y h1 h2 => by cases h1; cases h2; exact ⟨by decide, by decide, by decide⟩) (ev_int (i := 2)) (ev_int (i := 60))) (ev_opI (C := CPow) (g := fun i j => i ^ j.toNat) (fun x y h1 h2 => by cases h1; cases h2; exact ⟨by decide, by decide, by decide⟩) (ev_int (i := 2)) (ev_int (i := 10))))) : EvX K (W0 E) [some (.im (toD script_)), some (.im (toD prime_)), some (.im (toD a_)), some (.im (toD d_)), some (.im (toD curve_)), some (.im (toD first_)), some (.im (toD second_)), some (.im (toD kind_)), some (.im (toD left_)), some (.im (toD right_)), some (.im (toD total_)), some (.im (toD due_)), some (.im (toD same_)), none, none, none, none, none, none] _ _)
                  refine blk_seq (blk_set (i := 13) L trivial hs_ fun factor_ => ?_)
                  show Blk _ _ _ _ _ [some (.im (toD script_)), some (.im (toD prime_)), some (.im (toD a_)), some (.im (toD d_)), some (.im (toD curve_)), some (.im (toD first_)), some (.im (toD second_)), some (.im (toD kind_)), some (.im (toD left_)), some (.im (toD right_)), some (.im (toD total_)), some (.im (toD due_)), some (.im (toD same_)), some (.im (toD factor_)), none, none, none, none, none] _
                  try refine Blk.nx ?_
                  have ht_ := ((et_test (ev_op opx_eqI mild_ok (ev_opI (C := (fun _ j => 0 < j)) (g := fun i j => i % j) (fun x y _ h => by cases h; (show (0 : Int) < _; decide)) (ev_cb cx_abs (fun _ _ h => nomatch h) (ea_cons (ev_call (f := (fun (p : (List Int) × Int × Unit) => m_u_law_cell p.1 p.2.1)) (ea_cons (ev_var (i := 0) (x := script_) rfl) (ea_cons (ev_int (i := 8)) ea_nil))) ea_nil)) (ev_int (i := 3))) (ev_int (i := 1)))) : EvT K (W0 E) [some (.im (toD script_)), some (.im (toD prime_)), some (.im (toD a_)), some (.im (toD d_)), some (.im (toD curve_)), some (.im (toD first_)), some (.im (toD second_)), some (.im (toD kind_)), some (.im (toD left_)), some (.im (toD right_)), some (.im (toD total_)), some (.im (toD due_)), some (.im (toD same_)), some (.im (toD factor_)), none, none, none, none, none] _ _)
                  refine blk_seq (blk_ifj (S := Int) (fun factor_ => [some (.im (toD script_)), some (.im (toD prime_)), some (.im (toD a_)), some (.im (toD d_)), some (.im (toD curve_)), some (.im (toD first_)), some (.im (toD second_)), some (.im (toD kind_)), some (.im (toD left_)), some (.im (toD right_)), some (.im (toD total_)), some (.im (toD due_)), some (.im (toD same_)), some (.im (toD factor_)), none, none, none, none, none]) (m_law_k9 prime_ a_ d_ curve_ first_) L trivial ht_ ?_ ?_ ?_)
                  · intro factor_
                    show Blk _ _ _ _ _ [some (.im (toD script_)), some (.im (toD prime_)), some (.im (toD a_)), some (.im (toD d_)), some (.im (toD curve_)), some (.im (toD first_)), some (.im (toD second_)), some (.im (toD kind_)), some (.im (toD left_)), some (.im (toD right_)), some (.im (toD total_)), some (.im (toD due_)), some (.im (toD same_)), some (.im (toD factor_)), none, none, none, none, none] ((m_law_k9 prime_ a_ d_ curve_ first_) factor_)
                    unfold m_law_k9
                    try refine Blk.nx ?_
                    have hs_ := ((ev_call (f := (fun (p : O_EdwardsCurve × Int × (T2 Int Int) × Unit) => m_multiply_extended p.1 p.2.1 p.2.2.1)) (ea_cons (ev_var (i := 4) (x := curve_) rfl) (ea_cons (ev_var (i := 13) (x := factor_) rfl) (ea_cons (ev_var (i := 5) (x := first_) rfl) ea_nil)))) : EvX K (W0 E) [some (.im (toD script_)), some (.im (toD prime_)), some (.im (toD a_)), some (.im (toD d_)), some (.im (toD curve_)), some (.im (toD first_)), some (.im (toD second_)), some (.im (toD kind_)), some (.im (toD left_)), some (.im (toD right_)), some (.im (toD total_)), some (.im (toD due_)), some (.im (toD same_)), some (.im (toD factor_)), none, none, none, none, none] _ _)
                    refine blk_seq (blk_set (i := 14) L trivial hs_ fun point_ => ?_)
                    show Blk _ _ _ _ _ [some (.im (toD script_)), some (.im (toD prime_)), some (.im (toD a_)), some (.im (toD d_)), some (.im (toD curve_)), some (.im (toD first_)), some (.im (toD second_)), some (.im (toD kind_)), some (.im (toD left_)), some (.im (toD right_)), some (.im (toD total_)), some (.im (toD due_)), some (.im (toD same_)), some (.im (toD factor_)), some (.im (toD point_)), none, none, none, none] _
                    try refine Blk.nx ?_
                    have hs_ := ((ev_tup (f := (fun y => T2.mk y.1 y.2.1)) (ea_cons (ev_int (i := 0)) (ea_cons (ev_int (i := 1)) ea_nil)) (fun _ => rfl) (fun _ => by show 2 ≤ 100000; decide)) : EvX K (W0 E) [some (.im (toD script_)), some (.im (toD prime_)), some (.im (toD a_)), some (.im (toD d_)), some (.im (toD curve_)), some (.im (toD first_)), some (.im (toD second_)), some (.im (toD kind_)), some (.im (toD left_)), some (.im (toD right_)), some (.im (toD total_)), some (.im (toD due_)), some (.im (toD same_)), some (.im (toD factor_)), some (.im (toD point_)), none, none, none, none] _ _)
                    refine blk_seq (blk_set (i := 15) L trivial hs_ fun result_ => ?_)
                    show Blk _ _ _ _ _ [some (.im (toD script_)), some (.im (toD prime_)), some (.im (toD a_)), some (.im (toD d_)), some (.im (toD curve_)), some (.im (toD first_)), some (.im (toD second_)), some (.im (toD kind_)), some (.im (toD left_)), some (.im (toD right_)), some (.im (toD total_)), some (.im (toD due_)), some (.im (toD same_)), some (.im (toD factor_)), some (.im (toD point_)), some (.im (toD result_)), none, none, none] _
                    try refine Blk.nx ?_
                    have hs_ := ((ev_var (i := 5) (x := first_) rfl) : EvX K (W0 E) [some (.im (toD script_)), some (.im (toD prime_)), some (.im (toD a_)), some (.im (toD d_)), some (.im (toD curve_)), some (.im (toD first_)), some (.im (toD second_)), some (.im (toD kind_)), some (.im (toD left_)), some (.im (toD right_)), some (.im (toD total_)), some (.im (toD due_)), some (.im (toD same_)), some (.im (toD factor_)), some (.im (toD point_)), some (.im (toD result_)), none, none, none] _ _)
                    refine blk_seq (blk_set (i := 16) L trivial hs_ fun double_ => ?_)
                    show Blk _ _ _ _ _ [some (.im (toD script_)), some (.im (toD prime_)), some (.im (toD a_)), some (.im (toD d_)), some (.im (toD curve_)), some (.im (toD first_)), some (.im (toD second_)), some (.im (toD kind_)), some (.im (toD left_)), some (.im (toD right_)), some (.im (toD total_)), some (.im (toD due_)), some (.im (toD same_)), some (.im (toD factor_)), some (.im (toD point_)), some (.im (toD result_)), some (.im (toD double_)), none, none] _
                    try refine Blk.nx ?_
                    have hs_ := ((ev_var (i := 13) (x := factor_) rfl) : EvX K (W0 E) [some (.im (toD script_)), some (.im (toD prime_)), some (.im (toD a_)), some (.im (toD d_)), some (.im (toD curve_)), some (.im (toD first_)), some (.im (toD second_)), some (.im (toD kind_)), some (.im (toD left_)), some (.im (toD right_)), some (.im (toD total_)), some (.im (toD due_)), some (.im (toD same_)), some (.im (toD factor_)), some (.im (toD point_)), some (.im (toD result_)), some (.im (toD double_)), none, none] _ _)
                    refine blk_seq (blk_set (i := 17) L trivial hs_ fun rest_ => ?_)
                    show Blk _ _ _ _ _ [some (.im (toD script_)), some (.im (toD prime_)), some (.im (toD a_)), some (.im (toD d_)), some (.im (toD curve_)), some (.im (toD first_)), some (.im (toD second_)), some (.im (toD kind_)), some (.im (toD left_)), some (.im (toD right_)), some (.im (toD total_)), some (.im (toD due_)), some (.im (toD same_)), some (.im (toD factor_)), some (.im (toD point_)), some (.im (toD result_)), some (.im (toD double_)), some (.im (toD rest_)), none] _
                    try refine Blk.nx ?_
                    have hi_ := ((ei_range1 (ev_int (i := 70))) : EvI K (W0 E) [some (.im (toD script_)), some (.im (toD prime_)), some (.im (toD a_)), some (.im (toD d_)), some (.im (toD curve_)), some (.im (toD first_)), some (.im (toD second_)), some (.im (toD kind_)), some (.im (toD left_)), some (.im (toD right_)), some (.im (toD total_)), some (.im (toD due_)), some (.im (toD same_)), some (.im (toD factor_)), some (.im (toD point_)), some (.im (toD result_)), some (.im (toD double_)), some (.im (toD rest_)), none] _ _)
                    refine blk_seq (blk_for (S := (T2 Int Int) × (T2 Int Int) × Int) (m_law_l10 prime_ a_ d_ (m_law_k13 curve_ first_ factor_ point_)) (m_law_k13 curve_ first_ factor_ point_) (fun (result_, double_, rest_) => [some (.im (toD script_)), some (.im (toD prime_)), some (.im (toD a_)), some (.im (toD d_)), some (.im (toD curve_)), some (.im (toD first_)), some (.im (toD second_)), some (.im (toD kind_)), some (.im (toD left_)), some (.im (toD right_)), some (.im (toD total_)), some (.im (toD due_)), some (.im (toD same_)), some (.im (toD factor_)), some (.im (toD point_)), some (.im (toD result_)), some (.im (toD double_)), some (.im (toD rest_)), none]) (result_, double_, rest_) L trivial hi_ (fun _ => gx_name) (.same (.same (.same (.same (.same (.same (.same (.same (.same (.same (.same (.same (.same (.same (.same (.same (.same (.same (.same .nil))))))))))))))))))) (fun _ => rfl) ?_ ?_)
                    · intro F10 L10 hB10 x1413 r10 s_ N_ hN10
                      obtain ⟨result_, double_, rest_⟩ := s_
                      show Blk _ _ _ _ _ [some (.im (toD script_)), some (.im (toD prime_)), some (.im (toD a_)), some (.im (toD d_)), some (.im (toD curve_)), some (.im (toD first_)), some (.im (toD second_)), some (.im (toD kind_)), some (.im (toD left_)), some (.im (toD right_)), some (.im (toD total_)), some (.im (toD due_)), some (.im (toD same_)), some (.im (toD factor_)), some (.im (toD point_)), some (.im (toD result_)), some (.im (toD double_)), some (.im (toD rest_)), some (.im (toD x1413))] (m_law_l10 prime_ a_ d_ (m_law_k13 curve_ first_ factor_ point_) (x1413 :: r10) (result_, double_, rest_))
                      rw [m_law_l10]
                      show Blk _ _ _ _ _ _ ((fun (k_ : Int) => _) x1413)
                      generalize x1413 = k_
                      show Blk _ _ _ _ _ [some (.im (toD script_)), some (.im (toD prime_)), some (.im (toD a_)), some (.im (toD d_)), some (.im (toD curve_)), some (.im (toD first_)), some (.im (toD second_)), some (.im (toD kind_)), some (.im (toD left_)), some (.im (toD right_)), some (.im (toD total_)), some (.im (toD due_)), some (.im (toD same_)), some (.im (toD factor_)), some (.im (toD point_)), some (.im (toD result_)), some (.im (toD double_)), some (.im (toD rest_)), some (.im (toD k_))] _
                      have ht_ := ((et_test (ev_op opx_eqI mild_ok (ev_var (i := 17) (x := rest_) rfl) (ev_int (i := 0)))) : EvT K (W0 E) [some (.im (toD script_)), some (.im (toD prime_)), some (.im (toD a_)), some (.im (toD d_)), some (.im (toD curve_)), some (.im (toD first_)), some (.im (toD second_)), some (.im (toD kind_)), some (.im (toD left_)), some (.im (toD right_)), some (.im (toD total_)), some (.im (toD due_)), some (.im (toD same_)), some (.im (toD factor_)), some (.im (toD point_)), some (.im (toD result_)), some (.im (toD double_)), some (.im (toD rest_)), some (.im (toD k_))] _ _)
                      refine blk_seq (blk_if2 L10 trivial ht_ ?_ ?_)
                      · exact (hB10 (result_, double_, rest_)).weak (.same (.same (.same (.same (.same (.same (.same (.same (.same (.same (.same (.same (.same (.same (.same (.same (.same (.same (.drop .nil)))))))))))))))))))
                      · refine blk_nil ?_
                        try refine Blk.nx ?_
                        have ht_ := ((et_test (ev_op opx_eqI mild_ok (ev_opI (C := (fun _ j => 0 < j)) (g := fun i j => i % j) (fun x y _ h => by cases h; (show (0 : Int) < _; decide)) (ev_var (i := 17) (x := rest_) rfl) (ev_int (i := 2))) (ev_int (i := 1)))) : EvT K (W0 E) [some (.im (toD script_)), some (.im (toD prime_)), some (.im (toD a_)), some (.im (toD d_)), some (.im (toD curve_)), some (.im (toD first_)), some (.im (toD second_)), some (.im (toD kind_)), some (.im (toD left_)), some (.im (toD right_)), some (.im (toD total_)), some (.im (toD due_)), some (.im (toD same_)), some (.im (toD factor_)), some (.im (toD point_)), some (.im (toD result_)), some (.im (toD double_)), some (.im (toD rest_)), some (.im (toD k_))] _ _)
                        refine blk_seq (blk_ifj (S := (T2 Int Int)) (fun result_ => [some (.im (toD script_)), some (.im (toD prime_)), some (.im (toD a_)), some (.im (toD d_)), some (.im (toD curve_)), some (.im (toD first_)), some (.im (toD second_)), some (.im (toD kind_)), some (.im (toD left_)), some (.im (toD right_)), some (.im (toD total_)), some (.im (toD due_)), some (.im (toD same_)), some (.im (toD factor_)), some (.im (toD point_)), some (.im (toD result_)), some (.im (toD double_)), some (.im (toD rest_)), some (.im (toD k_))]) (m_law_k12 prime_ a_ d_ double_ rest_ (m_law_l10 prime_ a_ d_ (m_law_k13 curve_ first_ factor_ point_) r10)) L10 trivial ht_ ?_ ?_ ?_)
                        · intro result_
                          show Blk _ _ _ _ _ [some (.im (toD script_)), some (.im (toD prime_)), some (.im (toD a_)), some (.im (toD d_)), some (.im (toD curve_)), some (.im (toD first_)), some (.im (toD second_)), some (.im (toD kind_)), some (.im (toD left_)), some (.im (toD right_)), some (.im (toD total_)), some (.im (toD due_)), some (.im (toD same_)), some (.im (toD factor_)), some (.im (toD point_)), some (.im (toD result_)), some (.im (toD double_)), some (.im (toD rest_)), some (.im (toD k_))] ((m_law_k12 prime_ a_ d_ double_ rest_ (m_law_l10 prime_ a_ d_ (m_law_k13 curve_ first_ factor_ point_) r10)) result_)
                          unfold m_law_k12
                          try refine Blk.nx ?_
                          have hs_ := ((ev_call (f := (fun (p : Int × Int × Int × (T2 Int Int) × (T2 Int Int) × Unit) => m_u_law_add p.1 p.2.1 p.2.2.1 p.2.2.2.1 p.2.2.2.2.1)) (ea_cons (ev_var (i := 1) (x := prime_) rfl) (ea_cons (ev_var (i := 2) (x := a_) rfl) (ea_cons (ev_var (i := 3) (x := d_) rfl) (ea_cons (ev_var (i := 16) (x := double_) rfl) (ea_cons (ev_var (i := 16) (x := double_) rfl) ea_nil)))))) : EvX K (W0 E) [some (.im (toD script_)), some (.im (toD prime_)), some (.im (toD a_)), some (.im (toD d_)), some (.im (toD curve_)), some (.im (toD first_)), some (.im (toD second_)), some (.im (toD kind_)), some (.im (toD left_)), some (.im (toD right_)), some (.im (toD total_)), some (.im (toD due_)), some (.im (toD same_)), some (.im (toD factor_)), some (.im (toD point_)), some (.im (toD result_)), some (.im (toD double_)), some (.im (toD rest_)), some (.im (toD k_))] _ _)
                          refine blk_seq (blk_set (i := 16) L10 trivial hs_ fun double_ => ?_)
                          show Blk _ _ _ _ _ [some (.im (toD script_)), some (.im (toD prime_)), some (.im (toD a_)), some (.im (toD d_)), some (.im (toD curve_)), some (.im (toD first_)), some (.im (toD second_)), some (.im (toD kind_)), some (.im (toD left_)), some (.im (toD right_)), some (.im (toD total_)), some (.im (toD due_)), some (.im (toD same_)), some (.im (toD factor_)), some (.im (toD point_)), some (.im (toD result_)), some (.im (toD double_)), some (.im (toD rest_)), some (.im (toD k_))] _
                          try refine Blk.nx ?_
                          have hs_ := ((ev_opI (C := CDiv) (g := fun i j => i / j) (fun x y _ h => by cases h; exact ⟨by decide, by decide⟩) (ev_var (i := 17) (x := rest_) rfl) (ev_int (i := 2))) : EvX K (W0 E) [some (.im (toD script_)), some (.im (toD prime_)), some (.im (toD a_)), some (.im (toD d_)), some (.im (toD curve_)), some (.im (toD first_)), some (.im (toD second_)), some (.im (toD kind_)), some (.im (toD left_)), some (.im (toD right_)), some (.im (toD total_)), some (.im (toD due_)), some (.im (toD same_)), some (.im (toD factor_)), some (.im (toD point_)), some (.im (toD result_)), some (.im (toD double_)), some (.im (toD rest_)), some (.im (toD k_))] _ _)
                          refine blk_set (i := 17) L10 trivial hs_ fun rest_ => ?_
                          show Blk _ _ _ _ _ [some (.im (toD script_)), some (.im (toD prime_)), some (.im (toD a_)), some (.im (toD d_)), some (.im (toD curve_)), some (.im (toD first_)), some (.im (toD second_)), some (.im (toD kind_)), some (.im (toD left_)), some (.im (toD right_)), some (.im (toD total_)), some (.im (toD due_)), some (.im (toD same_)), some (.im (toD factor_)), some (.im (toD point_)), some (.im (toD result_)), some (.im (toD double_)), some (.im (toD rest_)), some (.im (toD k_))] _
                          try refine Blk.nx ?_
                          exact (hN10 (result_, double_, rest_)).weak (.same (.same (.same (.same (.same (.same (.same (.same (.same (.same (.same (.same (.same (.same (.same (.same (.same (.same (.drop .nil)))))))))))))))))))
                        · intro hk12
                          have hs_ := ((ev_call (f := (fun (p : Int × Int × Int × (T2 Int Int) × (T2 Int Int) × Unit) => m_u_law_add p.1 p.2.1 p.2.2.1 p.2.2.2.1 p.2.2.2.2.1)) (ea_cons (ev_var (i := 1) (x := prime_) rfl) (ea_cons (ev_var (i := 2) (x := a_) rfl) (ea_cons (ev_var (i := 3) (x := d_) rfl) (ea_cons (ev_var (i := 15) (x := result_) rfl) (ea_cons (ev_var (i := 16) (x := double_) rfl) ea_nil)))))) : EvX K (W0 E) [some (.im (toD script_)), some (.im (toD prime_)), some (.im (toD a_)), some (.im (toD d_)), some (.im (toD curve_)), some (.im (toD first_)), some (.im (toD second_)), some (.im (toD kind_)), some (.im (toD left_)), some (.im (toD right_)), some (.im (toD total_)), some (.im (toD due_)), some (.im (toD same_)), some (.im (toD factor_)), some (.im (toD point_)), some (.im (toD result_)), some (.im (toD double_)), some (.im (toD rest_)), some (.im (toD k_))] _ _)
                          refine blk_set (i := 15) L10 trivial hs_ fun result_ => ?_
                          show Blk _ _ _ _ _ [some (.im (toD script_)), some (.im (toD prime_)), some (.im (toD a_)), some (.im (toD d_)), some (.im (toD curve_)), some (.im (toD first_)), some (.im (toD second_)), some (.im (toD kind_)), some (.im (toD left_)), some (.im (toD right_)), some (.im (toD total_)), some (.im (toD due_)), some (.im (toD same_)), some (.im (toD factor_)), some (.im (toD point_)), some (.im (toD result_)), some (.im (toD double_)), some (.im (toD rest_)), some (.im (toD k_))] _
                          try refine Blk.nx ?_
                          exact (hk12 result_).weak (.same (.same (.same (.same (.same (.same (.same (.same (.same (.same (.same (.same (.same (.same (.same (.same (.same (.same (.same .nil)))))))))))))))))))
                        · intro hk12
                          refine blk_nil ?_
                          try refine Blk.nx ?_
                          exact (hk12 result_).weak (.same (.same (.same (.same (.same (.same (.same (.same (.same (.same (.same (.same (.same (.same (.same (.same (.same (.same (.same .nil)))))))))))))))))))
                    · rintro ⟨result_, double_, rest_⟩
                      show Blk _ _ _ _ _ [some (.im (toD script_)), some (.im (toD prime_)), some (.im (toD a_)), some (.im (toD d_)), some (.im (toD curve_)), some (.im (toD first_)), some (.im (toD second_)), some (.im (toD kind_)), some (.im (toD left_)), some (.im (toD right_)), some (.im (toD total_)), some (.im (toD due_)), some (.im (toD same_)), some (.im (toD factor_)), some (.im (toD point_)), some (.im (toD result_)), some (.im (toD double_)), some (.im (toD rest_)), none] ((m_law_k13 curve_ first_ factor_ point_) (result_, double_, rest_))
                      unfold m_law_k13
                      try refine Blk.nx ?_
                      have hr_ := ((ev_andV (ev_op opx_eqD mild_need (ev_var (i := 14) (x := point_) rfl) (ev_var (i := 15) (x := result_) rfl)) (ev_op opx_eqD mild_need (ev_call (f := (fun (p : O_EdwardsCurve × Int × (T2 Int Int) × Unit) => m_multiply_extended p.1 p.2.1 p.2.2.1)) (ea_cons (ev_var (i := 4) (x := curve_) rfl) (ea_cons (ev_un (g := fun i => -i) (ev_var (i := 13) (x := factor_) rfl)) (ea_cons (ev_var (i := 5) (x := first_) rfl) ea_nil)))) (ev_meth (c := "EdwardsCurve") (m := "negate") (ks := ["prime", "a", "d"]) (f := (fun (p : O_EdwardsCurve × (T2 Int Int) × Unit) => m_EdwardsCurve_negate p.1 p.2.1)) (ev_var (i := 4) (x := curve_) rfl) (ea_cons (ev_var (i := 15) (x := result_) rfl) ea_nil) (by decide +kernel) (fun _ => ⟨_, rfl⟩)))) : EvX K (W0 E) [some (.im (toD script_)), some (.im (toD prime_)), some (.im (toD a_)), some (.im (toD d_)), some (.im (toD curve_)), some (.im (toD first_)), some (.im (toD second_)), some (.im (toD kind_)), some (.im (toD left_)), some (.im (toD right_)), some (.im (toD total_)), some (.im (toD due_)), some (.im (toD same_)), some (.im (toD factor_)), some (.im (toD point_)), some (.im (toD result_)), some (.im (toD double_)), some (.im (toD rest_)), none] _ _)
                      exact blk_ret L trivial hr_
                  · intro hk9
                    have hs_ := ((ev_opI (C := (fun _ j => 0 < j)) (g := fun i j => i % j) (fun x y _ h => by cases h; (show (0 : Int) < _; decide)) (ev_opI (C := CDiv) (g := fun i j => i / j) (fun x y _ h => by cases h; exact ⟨by decide, by decide⟩) (ev_cb cx_abs (fun _ _ h => nomatch h) (ea_cons (ev_call (f := (fun (p : (List Int) × Int × Unit) => m_u_law_cell p.1 p.2.1)) (ea_cons (ev_var (i := 0) (x := script_) rfl) (ea_cons (ev_int (i := 8)) ea_nil))) ea_nil)) (ev_int (i := 3))) (ev_int (i := 20))) : EvX K (W0 E) [some (.im (toD script_)), some (.im (toD prime_)), some (.im (toD a_)), some (.im (toD d_)), some (.im (toD curve_)), some (.im (toD first_)), some (.im (toD second_)), some (.im (toD kind_)), some (.im (toD left_)), some (.im (toD right_)), some (.im (toD total_)), some (.im (toD due_)), some (.im (toD same_)), some (.im (toD factor_)), none, none, none, none, none] _ _)
                    refine blk_set (i := 13) L trivial hs_ fun factor_ => ?_
                    show Blk _ _ _ _ _ [some (.im (toD script_)), some (.im (toD prime_)), some (.im (toD a_)), some (.im (toD d_)), some (.im (toD curve_)), some (.im (toD first_)), some (.im (toD second_)), some (.im (toD kind_)), some (.im (toD left_)), some (.im (toD right_)), some (.im (toD total_)), some (.im (toD due_)), some (.im (toD same_)), some (.im (toD factor_)), none, none, none, none, none] _
                    try refine Blk.nx ?_
                    exact (hk9 factor_).weak (.same (.same (.same (.same (.same (.same (.same (.same (.same (.same (.same (.same (.same (.same (.same (.same (.same (.same (.same .nil)))))))))))))))))))
                  · intro hk9
                    refine blk_nil ?_
                    try refine Blk.nx ?_
                    exact (hk9 factor_).weak (.same (.same (.same (.same (.same (.same (.same (.same (.same (.same (.same (.same (.same (.same (.same (.same (.same (.same (.same .nil)))))))))))))))))))
      · intro hk3
        have hs_ := ((ev_tup (f := (fun y => T2.mk y.1 y.2.1)) (ea_cons (ev_int (i := 0)) (ea_cons (ev_int (i := 1)) ea_nil)) (fun _ => rfl) (fun _ => by show 2 ≤ 100000; decide)) : EvX K (W0 E) [some (.im (toD script_)), some (.im (toD prime_)), some (.im (toD a_)), some (.im (toD d_)), some (.im (toD curve_)), some (.im (toD first_)), some (.im (toD second_)), some (.im (toD kind_)), none, none, none, none, none, none, none, none, none, none, none] _ _)
        refine blk_set (i := 6) L trivial hs_ fun second_ => ?_
        show Blk _ _ _ _ _ [some (.im (toD script_)), some (.im (toD prime_)), some (.im (toD a_)), some (.im (toD d_)), some (.im (toD curve_)), some (.im (toD first_)), some (.im (toD second_)), some (.im (toD kind_)), none, none, none, none, none, none, none, none, none, none, none] _
        try refine Blk.nx ?_
        exact (hk3 second_).weak (.same (.same (.same (.same (.same (.same (.same (.same (.same (.same (.same (.same (.same (.same (.same (.same (.same (.same (.same .nil)))))))))))))))))))
      · intro hk3
        refine blk_nil ?_
        try refine Blk.nx ?_
        exact (hk3 second_).weak (.same (.same (.same (.same (.same (.same (.same (.same (.same (.same (.same (.same (.same (.same (.same (.same (.same (.same (.same .nil)))))))))))))))))))
    · intro hk2
      have hs_ := ((ev_tup (f := (fun y => T2.mk y.1 y.2.1)) (ea_cons (ev_op (opx_I (C := (fun _ j => 0 < j)) (g := fun i j => i % j)) mild_need (ev_un (g := fun i => -i) (ev_ixTC (i := 0) (f := fun x => x.a) (ev_var (i := 5) (x := first_) rfl) (fun x => ⟨_, rfl, rfl⟩))) (ev_var (i := 1) (x := prime_) rfl)) (ea_cons (ev_ixTC (i := 1) (f := fun x => x.b) (ev_var (i := 5) (x := first_) rfl) (fun x => ⟨_, rfl, rfl⟩)) ea_nil)) (fun _ => rfl) (fun _ => by show 2 ≤ 100000; decide)) : EvX K (W0 E) [some (.im (toD script_)), some (.im (toD prime_)), some (.im (toD a_)), some (.im (toD d_)), some (.im (toD curve_)), some (.im (toD first_)), some (.im (toD second_)), some (.im (toD kind_)), none, none, none, none, none, none, none, none, none, none, none] _ _)
      refine blk_set (i := 6) L trivial hs_ fun second_ => ?_
      show Blk _ _ _ _ _ [some (.im (toD script_)), some (.im (toD prime_)), some (.im (toD a_)), some (.im (toD d_)), some (.im (toD curve_)), some (.im (toD first_)), some (.im (toD second_)), some (.im (toD kind_)), none, none, none, none, none, none, none, none, none, none, none] _
      try refine Blk.nx ?_
      exact (hk2 second_).weak (.same (.same (.same (.same (.same (.same (.same (.same (.same (.same (.same (.same (.same (.same (.same (.same (.same (.same (.same .nil)))))))))))))))))))
    · intro hk2
      refine blk_nil ?_
      try refine Blk.nx ?_
      exact (hk2 second_).weak (.same (.same (.same (.same (.same (.same (.same (.same (.same (.same (.same (.same (.same (.same (.same (.same (.same (.same (.same .nil)))))))))))))))))))
  · intro hk1
    have hs_ := ((ev_var (i := 5) (x := first_) rfl) : EvX K (W0 E) [some (.im (toD script_)), some (.im (toD prime_)), some (.im (toD a_)), some (.im (toD d_)), some (.im (toD curve_)), some (.im (toD first_)), some (.im (toD second_)), some (.im (toD kind_)), none, none, none, none, none, none, none, none, none, none, none] _ _)
    refine blk_set (i := 6) L trivial hs_ fun second_ => ?_
    show Blk _ _ _ _ _ [some (.im (toD script_)), some (.im (toD prime_)), some (.im (toD a_)), some (.im (toD d_)), some (.im (toD curve_)), some (.im (toD first_)), some (.im (toD second_)), some (.im (toD kind_)), none, none, none, none, none, none, none, none, none, none, none] _
    try refine Blk.nx ?_
    exact (hk1 second_).weak (.same (.same (.same (.same (.same (.same (.same (.same (.same (.same (.same (.same (.same (.same (.same (.same (.same (.same (.same .nil)))))))))))))))))))
  · intro hk1
    refine blk_nil ?_
    try refine Blk.nx ?_
    exact (hk1 second_).weak (.same (.same (.same (.same (.same (.same (.same (.same (.same (.same (.same (.same (.same (.same (.same (.same (.same (.same (.same .nil)))))))))))))))))))
/-! ### the head -/
def dfs : List He.DefD := [⟨("bits_from_top", none), "bits_from_top", "bits_from_top", defArgs s_bits_from_top, defBody s_bits_from_top, defScope s_bits_from_top, [], []⟩, ⟨("is_whole", none), "is_whole", "is_whole", defArgs s_is_whole, defBody s_is_whole, defScope s_is_whole, [], []⟩, ⟨("is_residue", none), "is_residue", "is_residue", defArgs s_is_residue, defBody s_is_residue, defScope s_is_residue, [], []⟩, ⟨("bezout", none), "bezout", "bezout", defArgs s_bezout, defBody s_bezout, defScope s_bezout, [], []⟩, ⟨("inverse", none), "inverse", "inverse", defArgs s_inverse, defBody s_inverse, defScope s_inverse, [], []⟩, ⟨("power", none), "power", "power", defArgs s_power, defBody s_power, defScope s_power, [], []⟩, ⟨("square_class", none), "square_class", "square_class", defArgs s_square_class, defBody s_square_class, defScope s_square_class, [], []⟩, ⟨("split_twos", none), "split_twos", "split_twos", defArgs s_split_twos, defBody s_split_twos, defScope s_split_twos, [], []⟩, ⟨("square_root", none), "square_root", "square_root", defArgs s_square_root, defBody s_square_root, defScope s_square_root, [], []⟩, ⟨("_root_of_square", none), "_root_of_square", "_root_of_square", defArgs s_u_root_of_square, defBody s_u_root_of_square, defScope s_u_root_of_square, [], []⟩, ⟨("_non_square", none), "_non_square", "_non_square", defArgs s_u_non_square, defBody s_u_non_square, defScope s_u_non_square, [], []⟩, ⟨("root_with_parity", none), "root_with_parity", "root_with_parity", defArgs s_root_with_parity, defBody s_root_with_parity, defScope s_root_with_parity, [], []⟩, ⟨("to_extended", none), "to_extended", "to_extended", defArgs s_to_extended, defBody s_to_extended, defScope s_to_extended, [], []⟩, ⟨("from_extended", none), "from_extended", "from_extended", defArgs s_from_extended, defBody s_from_extended, defScope s_from_extended, [], []⟩, ⟨("add_extended", none), "add_extended", "add_extended", defArgs s_add_extended, defBody s_add_extended, defScope s_add_extended, [], []⟩, ⟨("same_extended", none), "same_extended", "same_extended", defArgs s_same_extended, defBody s_same_extended, defScope s_same_extended, [], []⟩, ⟨("multiply_extended", none), "multiply_extended", "multiply_extended", defArgs s_multiply_extended, defBody s_multiply_extended, defScope s_multiply_extended, [], []⟩, ⟨("EdwardsCurve", some "__init__"), "__init__", "EdwardsCurve.__init__", defArgs s_EdwardsCurve_init, defBody s_EdwardsCurve_init, defScope s_EdwardsCurve_init, [], []⟩, ⟨("EdwardsCurve", some "negate"), "negate", "EdwardsCurve.negate", defArgs s_EdwardsCurve_negate, defBody s_EdwardsCurve_negate, defScope s_EdwardsCurve_negate, [], []⟩, ⟨("EdwardsCurve", some "lift"), "lift", "EdwardsCurve.lift", defArgs s_EdwardsCurve_lift, defBody s_EdwardsCurve_lift, defScope s_EdwardsCurve_lift, [], []⟩, ⟨("_law_cell", none), "_law_cell", "_law_cell", defArgs s_u_law_cell, defBody s_u_law_cell, defScope s_u_law_cell, [], []⟩, ⟨("_law_is_integer", none), "_law_is_integer", "_law_is_integer", defArgs s_u_law_is_integer, defBody s_u_law_is_integer, defScope s_u_law_is_integer, [], []⟩, ⟨("_law_is_prime", none), "_law_is_prime", "_law_is_prime", defArgs s_u_law_is_prime, defBody s_u_law_is_prime, defScope s_u_law_is_prime, [], []⟩, ⟨("_law_prime", none), "_law_prime", "_law_prime", defArgs s_u_law_prime, defBody s_u_law_prime, defScope s_u_law_prime, [], []⟩, ⟨("_law_power", none), "_law_power", "_law_power", defArgs s_u_law_power, defBody s_u_law_power, defScope s_u_law_power, [], []⟩, ⟨("_law_inverse", none), "_law_inverse", "_law_inverse", defArgs s_u_law_inverse, defBody s_u_law_inverse, defScope s_u_law_inverse, [], []⟩, ⟨("_law_residue", none), "_law_residue", "_law_residue", defArgs s_u_law_residue, defBody s_u_law_residue, defScope s_u_law_residue, [], []⟩, ⟨("_law_class", none), "_law_class", "_law_class", defArgs s_u_law_class, defBody s_u_law_class, defScope s_u_law_class, [], []⟩, ⟨("_law_edwards_prime", none), "_law_edwards_prime", "_law_edwards_prime", defArgs s_u_law_edwards_prime, defBody s_u_law_edwards_prime, defScope s_u_law_edwards_prime, [], []⟩, ⟨("_law_numbers", none), "_law_numbers", "_law_numbers", defArgs s_u_law_numbers, defBody s_u_law_numbers, defScope s_u_law_numbers, [], []⟩, ⟨("_law_on", none), "_law_on", "_law_on", defArgs s_u_law_on, defBody s_u_law_on, defScope s_u_law_on, [], []⟩, ⟨("_law_lifted", none), "_law_lifted", "_law_lifted", defArgs s_u_law_lifted, defBody s_u_law_lifted, defScope s_u_law_lifted, [], []⟩, ⟨("_law_add", none), "_law_add", "_law_add", defArgs s_u_law_add, defBody s_u_law_add, defScope s_u_law_add, [], []⟩, ⟨("_law_tuple", none), "_law_tuple", "_law_tuple", defArgs s_u_law_tuple, defBody s_u_law_tuple, defScope s_u_law_tuple, [], []⟩, ⟨("_law_sum", none), "_law_sum", "_law_sum", defArgs s_u_law_sum, defBody s_u_law_sum, defScope s_u_law_sum, [], []⟩, ⟨("law", none), "law", "law", defArgs s_law, defBody s_law, defScope s_law, [], []⟩]
def fas : List He.Fa := [.glo "bits_from_top", .glo "is_whole", .glo "is_residue", .glo "bezout", .glo "inverse", .glo "power", .glo "square_class", .glo "split_twos", .glo "square_root", .glo "_root_of_square", .glo "_non_square", .glo "root_with_parity", .glo "to_extended", .glo "from_extended", .glo "add_extended", .glo "same_extended", .glo "multiply_extended", .glo "_law_cell", .glo "_law_is_integer", .glo "_law_is_prime", .glo "_law_prime", .glo "_law_power", .glo "_law_inverse", .glo "_law_residue", .glo "_law_class", .glo "_law_edwards_prime", .glo "_law_numbers", .glo "_law_on", .glo "_law_lifted", .glo "_law_add", .glo "_law_tuple", .glo "_law_sum", .glo "law", .glo "EdwardsCurve", .cls "EdwardsCurve", .noat "EdwardsCurve" "a", .noat "EdwardsCurve" "d", .noat "EdwardsCurve" "prime", .meth "EdwardsCurve" "lift", .meth "EdwardsCurve" "negate", .mkr "EdwardsCurve", .glo "CurveError", .glo "OutOfRange", .glo "NoInverse", .glo "Refused", .exc "NoInverse", .exc "OutOfRange", .exc "Refused", .free "abs", .free "bool", .free "int", .free "isinstance", .free "len", .free "min", .free "range", .free "tuple", .exm "CurveError" "CurveError" true, .exm "CurveError" "OutOfRange" false, .exm "CurveError" "NoInverse" false, .exm "CurveError" "Refused" false, .exm "OutOfRange" "CurveError" true, .exm "OutOfRange" "OutOfRange" true, .exm "OutOfRange" "NoInverse" false, .exm "OutOfRange" "Refused" false, .exm "NoInverse" "CurveError" true, .exm "NoInverse" "OutOfRange" false, .exm "NoInverse" "NoInverse" true, .exm "NoInverse" "Refused" false, .exm "Refused" "CurveError" true, .exm "Refused" "OutOfRange" false, .exm "Refused" "NoInverse" false, .exm "Refused" "Refused" true]
def cons_ : List (Str × D) := [("NEUTRAL_FOUR", toD k_NEUTRAL_FOUR)]
def exB (K : PySem.W.Frag) : Bool := clsB K errs subE && conB K cons_
abbrev Rw : PySem.W.OpenRow := PySem.W.OpenLaw.row PySem.Challenge.rw_curveseal_k20_extended_coordinates
abbrev hk : PySem.W.Hook := He.hookX 5 fas dfs [] [] exB
def ob (s : PySem.W.SharedT) : He.AlX := He.obsX 5 fas dfs [] [] exB (HandSHeadRun.getT s)
theorem ob_eq (s : PySem.W.SharedT) : ob s = hk.obs s.abs := He.obsX_eq (HandSHeadRun.getT_eq s)
theorem run_ (w : World) : HandSHeadRun.RunEq Rw (PySem.W.view Rw.prog [47]) hk ob 20000 ((["bits_from_top", "is_whole", "is_residue", "is_residue_pair", "bezout", "inverse", "power", "square_class", "split_twos", "square_root", "_root_of_square", "_non_square", "root_with_parity", "to_extended", "from_extended", "add_extended", "same_extended", "multiply_extended", "_law_cell", "_law_is_integer", "_law_is_prime", "_law_prime", "_law_power", "_law_inverse", "_law_residue"] : List Str) ++ (["_law_class", "_law_edwards_prime", "_law_numbers", "_law_on", "_law_lifted", "_law_add", "_law_tuple", "_law_sum", "_wall", "CurveError", "OutOfRange", "NoInverse", "Refused", "EdwardsCurve", "NEUTRAL_FOUR"] : List Str)) w := by
  intro os
  kernel_rfl
theorem facts_of {K : PySem.W.Frag} {h : Heap} {w : World} {mg : Str → Option Value} (X : K.In h) (G : h.Ns mainGlobals mg) (c : He.SaysX fas dfs [] [] exB w h K) : Facts K mg := by
  have cd : He.SaysD fas dfs K := c.t.d
  exact {
    d_bits_from_top := cd.def_ 0 (d := ⟨("bits_from_top", none), "bits_from_top", "bits_from_top", defArgs s_bits_from_top, defBody s_bits_from_top, defScope s_bits_from_top, [], []⟩) rfl
    g_bits_from_top := He.glo_ok X G (cd.fact 0 rfl)
    d_is_whole := cd.def_ 1 (d := ⟨("is_whole", none), "is_whole", "is_whole", defArgs s_is_whole, defBody s_is_whole, defScope s_is_whole, [], []⟩) rfl
    g_is_whole := He.glo_ok X G (cd.fact 1 rfl)
    d_is_residue := cd.def_ 2 (d := ⟨("is_residue", none), "is_residue", "is_residue", defArgs s_is_residue, defBody s_is_residue, defScope s_is_residue, [], []⟩) rfl
    g_is_residue := He.glo_ok X G (cd.fact 2 rfl)
    d_bezout := cd.def_ 3 (d := ⟨("bezout", none), "bezout", "bezout", defArgs s_bezout, defBody s_bezout, defScope s_bezout, [], []⟩) rfl
    g_bezout := He.glo_ok X G (cd.fact 3 rfl)
    d_inverse := cd.def_ 4 (d := ⟨("inverse", none), "inverse", "inverse", defArgs s_inverse, defBody s_inverse, defScope s_inverse, [], []⟩) rfl
    g_inverse := He.glo_ok X G (cd.fact 4 rfl)
    d_power := cd.def_ 5 (d := ⟨("power", none), "power", "power", defArgs s_power, defBody s_power, defScope s_power, [], []⟩) rfl
    g_power := He.glo_ok X G (cd.fact 5 rfl)
    d_square_class := cd.def_ 6 (d := ⟨("square_class", none), "square_class", "square_class", defArgs s_square_class, defBody s_square_class, defScope s_square_class, [], []⟩) rfl
    g_square_class := He.glo_ok X G (cd.fact 6 rfl)
    d_split_twos := cd.def_ 7 (d := ⟨("split_twos", none), "split_twos", "split_twos", defArgs s_split_twos, defBody s_split_twos, defScope s_split_twos, [], []⟩) rfl
    g_split_twos := He.glo_ok X G (cd.fact 7 rfl)
    d_square_root := cd.def_ 8 (d := ⟨("square_root", none), "square_root", "square_root", defArgs s_square_root, defBody s_square_root, defScope s_square_root, [], []⟩) rfl
    g_square_root := He.glo_ok X G (cd.fact 8 rfl)
    d_u_root_of_square := cd.def_ 9 (d := ⟨("_root_of_square", none), "_root_of_square", "_root_of_square", defArgs s_u_root_of_square, defBody s_u_root_of_square, defScope s_u_root_of_square, [], []⟩) rfl
    g_u_root_of_square := He.glo_ok X G (cd.fact 9 rfl)
    d_u_non_square := cd.def_ 10 (d := ⟨("_non_square", none), "_non_square", "_non_square", defArgs s_u_non_square, defBody s_u_non_square, defScope s_u_non_square, [], []⟩) rfl
    g_u_non_square := He.glo_ok X G (cd.fact 10 rfl)
    d_root_with_parity := cd.def_ 11 (d := ⟨("root_with_parity", none), "root_with_parity", "root_with_parity", defArgs s_root_with_parity, defBody s_root_with_parity, defScope s_root_with_parity, [], []⟩) rfl
    g_root_with_parity := He.glo_ok X G (cd.fact 11 rfl)
    d_to_extended := cd.def_ 12 (d := ⟨("to_extended", none), "to_extended", "to_extended", defArgs s_to_extended, defBody s_to_extended, defScope s_to_extended, [], []⟩) rfl
    g_to_extended := He.glo_ok X G (cd.fact 12 rfl)
    d_from_extended := cd.def_ 13 (d := ⟨("from_extended", none), "from_extended", "from_extended", defArgs s_from_extended, defBody s_from_extended, defScope s_from_extended, [], []⟩) rfl
    g_from_extended := He.glo_ok X G (cd.fact 13 rfl)
    d_add_extended := cd.def_ 14 (d := ⟨("add_extended", none), "add_extended", "add_extended", defArgs s_add_extended, defBody s_add_extended, defScope s_add_extended, [], []⟩) rfl
    g_add_extended := He.glo_ok X G (cd.fact 14 rfl)
    d_same_extended := cd.def_ 15 (d := ⟨("same_extended", none), "same_extended", "same_extended", defArgs s_same_extended, defBody s_same_extended, defScope s_same_extended, [], []⟩) rfl
    g_same_extended := He.glo_ok X G (cd.fact 15 rfl)
    d_multiply_extended := cd.def_ 16 (d := ⟨("multiply_extended", none), "multiply_extended", "multiply_extended", defArgs s_multiply_extended, defBody s_multiply_extended, defScope s_multiply_extended, [], []⟩) rfl
    g_multiply_extended := He.glo_ok X G (cd.fact 16 rfl)
    d_EdwardsCurve_init := cd.def_ 17 (d := ⟨("EdwardsCurve", some "__init__"), "__init__", "EdwardsCurve.__init__", defArgs s_EdwardsCurve_init, defBody s_EdwardsCurve_init, defScope s_EdwardsCurve_init, [], []⟩) rfl
    d_EdwardsCurve_negate := cd.def_ 18 (d := ⟨("EdwardsCurve", some "negate"), "negate", "EdwardsCurve.negate", defArgs s_EdwardsCurve_negate, defBody s_EdwardsCurve_negate, defScope s_EdwardsCurve_negate, [], []⟩) rfl
    d_EdwardsCurve_lift := cd.def_ 19 (d := ⟨("EdwardsCurve", some "lift"), "lift", "EdwardsCurve.lift", defArgs s_EdwardsCurve_lift, defBody s_EdwardsCurve_lift, defScope s_EdwardsCurve_lift, [], []⟩) rfl
    d_u_law_cell := cd.def_ 20 (d := ⟨("_law_cell", none), "_law_cell", "_law_cell", defArgs s_u_law_cell, defBody s_u_law_cell, defScope s_u_law_cell, [], []⟩) rfl
    g_u_law_cell := He.glo_ok X G (cd.fact 17 rfl)
    d_u_law_is_integer := cd.def_ 21 (d := ⟨("_law_is_integer", none), "_law_is_integer", "_law_is_integer", defArgs s_u_law_is_integer, defBody s_u_law_is_integer, defScope s_u_law_is_integer, [], []⟩) rfl
    g_u_law_is_integer := He.glo_ok X G (cd.fact 18 rfl)
    d_u_law_is_prime := cd.def_ 22 (d := ⟨("_law_is_prime", none), "_law_is_prime", "_law_is_prime", defArgs s_u_law_is_prime, defBody s_u_law_is_prime, defScope s_u_law_is_prime, [], []⟩) rfl
    g_u_law_is_prime := He.glo_ok X G (cd.fact 19 rfl)
    d_u_law_prime := cd.def_ 23 (d := ⟨("_law_prime", none), "_law_prime", "_law_prime", defArgs s_u_law_prime, defBody s_u_law_prime, defScope s_u_law_prime, [], []⟩) rfl
    g_u_law_prime := He.glo_ok X G (cd.fact 20 rfl)
    d_u_law_power := cd.def_ 24 (d := ⟨("_law_power", none), "_law_power", "_law_power", defArgs s_u_law_power, defBody s_u_law_power, defScope s_u_law_power, [], []⟩) rfl
    g_u_law_power := He.glo_ok X G (cd.fact 21 rfl)
    d_u_law_inverse := cd.def_ 25 (d := ⟨("_law_inverse", none), "_law_inverse", "_law_inverse", defArgs s_u_law_inverse, defBody s_u_law_inverse, defScope s_u_law_inverse, [], []⟩) rfl
    g_u_law_inverse := He.glo_ok X G (cd.fact 22 rfl)
    d_u_law_residue := cd.def_ 26 (d := ⟨("_law_residue", none), "_law_residue", "_law_residue", defArgs s_u_law_residue, defBody s_u_law_residue, defScope s_u_law_residue, [], []⟩) rfl
    g_u_law_residue := He.glo_ok X G (cd.fact 23 rfl)
    d_u_law_class := cd.def_ 27 (d := ⟨("_law_class", none), "_law_class", "_law_class", defArgs s_u_law_class, defBody s_u_law_class, defScope s_u_law_class, [], []⟩) rfl
    g_u_law_class := He.glo_ok X G (cd.fact 24 rfl)
    d_u_law_edwards_prime := cd.def_ 28 (d := ⟨("_law_edwards_prime", none), "_law_edwards_prime", "_law_edwards_prime", defArgs s_u_law_edwards_prime, defBody s_u_law_edwards_prime, defScope s_u_law_edwards_prime, [], []⟩) rfl
    g_u_law_edwards_prime := He.glo_ok X G (cd.fact 25 rfl)
    d_u_law_numbers := cd.def_ 29 (d := ⟨("_law_numbers", none), "_law_numbers", "_law_numbers", defArgs s_u_law_numbers, defBody s_u_law_numbers, defScope s_u_law_numbers, [], []⟩) rfl
    g_u_law_numbers := He.glo_ok X G (cd.fact 26 rfl)
    d_u_law_on := cd.def_ 30 (d := ⟨("_law_on", none), "_law_on", "_law_on", defArgs s_u_law_on, defBody s_u_law_on, defScope s_u_law_on, [], []⟩) rfl
    g_u_law_on := He.glo_ok X G (cd.fact 27 rfl)
    d_u_law_lifted := cd.def_ 31 (d := ⟨("_law_lifted", none), "_law_lifted", "_law_lifted", defArgs s_u_law_lifted, defBody s_u_law_lifted, defScope s_u_law_lifted, [], []⟩) rfl
    g_u_law_lifted := He.glo_ok X G (cd.fact 28 rfl)
    d_u_law_add := cd.def_ 32 (d := ⟨("_law_add", none), "_law_add", "_law_add", defArgs s_u_law_add, defBody s_u_law_add, defScope s_u_law_add, [], []⟩) rfl
    g_u_law_add := He.glo_ok X G (cd.fact 29 rfl)
    d_u_law_tuple := cd.def_ 33 (d := ⟨("_law_tuple", none), "_law_tuple", "_law_tuple", defArgs s_u_law_tuple, defBody s_u_law_tuple, defScope s_u_law_tuple, [], []⟩) rfl
    g_u_law_tuple := He.glo_ok X G (cd.fact 30 rfl)
    d_u_law_sum := cd.def_ 34 (d := ⟨("_law_sum", none), "_law_sum", "_law_sum", defArgs s_u_law_sum, defBody s_u_law_sum, defScope s_u_law_sum, [], []⟩) rfl
    g_u_law_sum := He.glo_ok X G (cd.fact 31 rfl)
    d_law := cd.def_ 35 (d := ⟨("law", none), "law", "law", defArgs s_law, defBody s_law, defScope s_law, [], []⟩) rfl
    g_law := He.glo_ok X G (cd.fact 32 rfl)
    g_EdwardsCurve := He.glo_ok X G (cd.fact 33 rfl)
    cl_EdwardsCurve := He.cls_ok (x := "EdwardsCurve") (cd.fact 34 rfl)
    nf_EdwardsCurve_a := He.noat_ok (x := "EdwardsCurve") (f := "a") (cd.fact 35 rfl)
    nf_EdwardsCurve_d := He.noat_ok (x := "EdwardsCurve") (f := "d") (cd.fact 36 rfl)
    nf_EdwardsCurve_prime := He.noat_ok (x := "EdwardsCurve") (f := "prime") (cd.fact 37 rfl)
    mt_EdwardsCurve_lift := He.meth_ok (x := "EdwardsCurve") (m := "lift") (cd.fact 38 rfl)
    mt_EdwardsCurve_negate := He.meth_ok (x := "EdwardsCurve") (m := "negate") (cd.fact 39 rfl)
    mk_EdwardsCurve := He.mkr_ok (x := "EdwardsCurve") (cd.fact 40 rfl)
    g_CurveError := He.glo_ok X G (cd.fact 41 rfl)
    g_OutOfRange := He.glo_ok X G (cd.fact 42 rfl)
    g_NoInverse := He.glo_ok X G (cd.fact 43 rfl)
    g_Refused := He.glo_ok X G (cd.fact 44 rfl)
    x_NoInverse := (He.exc_ok (x := "NoInverse") (cd.fact 45 rfl)).1
    k_NoInverse := (He.exc_ok (x := "NoInverse") (cd.fact 45 rfl)).2.1
    b_NoInverse := (He.exc_ok (x := "NoInverse") (cd.fact 45 rfl)).2.2.1
    t_NoInverse := (He.exc_ok (x := "NoInverse") (cd.fact 45 rfl)).2.2.2
    x_OutOfRange := (He.exc_ok (x := "OutOfRange") (cd.fact 46 rfl)).1
    k_OutOfRange := (He.exc_ok (x := "OutOfRange") (cd.fact 46 rfl)).2.1
    b_OutOfRange := (He.exc_ok (x := "OutOfRange") (cd.fact 46 rfl)).2.2.1
    t_OutOfRange := (He.exc_ok (x := "OutOfRange") (cd.fact 46 rfl)).2.2.2
    x_Refused := (He.exc_ok (x := "Refused") (cd.fact 47 rfl)).1
    k_Refused := (He.exc_ok (x := "Refused") (cd.fact 47 rfl)).2.1
    b_Refused := (He.exc_ok (x := "Refused") (cd.fact 47 rfl)).2.2.1
    t_Refused := (He.exc_ok (x := "Refused") (cd.fact 47 rfl)).2.2.2
    n_abs := He.free_ok X G (cd.fact 48 rfl)
    n_bool := He.free_ok X G (cd.fact 49 rfl)
    n_int := He.free_ok X G (cd.fact 50 rfl)
    n_isinstance := He.free_ok X G (cd.fact 51 rfl)
    n_len := He.free_ok X G (cd.fact 52 rfl)
    n_min := He.free_ok X G (cd.fact 53 rfl)
    n_range := He.free_ok X G (cd.fact 54 rfl)
    n_tuple := He.free_ok X G (cd.fact 55 rfl)
    c_NEUTRAL_FOUR := con_of X G (He.ba c.more).2 (List.mem_of_getElem? (i := 0) rfl)
    cls := cls_of (He.ba c.more).1 }
end Mi
namespace Mi
open PySem PySem.Spec L2
/-! ### the law's own helpers -/
theorem cell_ok (ns : List Int) (k : Nat) : m_u_law_cell ns (k : Int) = .ok (ns.getD k 0) := by
  unfold m_u_law_cell
  simp only [Res.bind_ok, cond_dec]
  by_cases h : (k : Int) < (ns.length : Int)
  · rw [if_pos h]
    have h' : k < ns.length := by omega
    rw [idx_nat (List.getElem?_eq_getElem h')]
    simp [Res.bind_ok, h']
  · rw [if_neg h]
    have h' : ¬ k < ns.length := by omega
    simp [h']
theorem cell_bits {ns : List Int} {B : Nat} (hb : ∀ i ∈ ns, Builtin.Int.intBits i ≤ B) (k : Nat) : (ns.getD k 0).natAbs < 2 ^ B := by
  rw [List.getD_eq_getElem?_getD]
  by_cases h : k < ns.length
  · rw [List.getElem?_eq_getElem h]
    exact ibits_le (hb _ (List.getElem_mem h))
  · rw [List.getElem?_eq_none (by omega)]
    exact Nat.two_pow_pos _
theorem isint_ok (i : Int) : m_u_law_is_integer (D.int i) = .ok true := by
  unfold m_u_law_is_integer
  simp [Res.bind_ok, toD, ToD.d, D.plain, isI, tyName, Res.need_pos]

theorem ipow2 (x : Int) : x ^ 2 = x * x := by rw [Int.pow_succ, Int.pow_succ, Int.pow_zero, Int.one_mul]
theorem pyDown_nil {i j : Int} (h : i ≤ j) : pyDown i j = [] := by
  unfold pyDown; rw [show (i - j).toNat = 0 by omega]; rfl
theorem pyDown_cons {i j : Int} (h : j < i) : pyDown i j = i :: pyDown (i - 1) j := by
  unfold pyDown
  rw [show (i - j).toNat = (i - 1 - j).toNat + 1 by omega, List.range_succ_eq_map, List.map_cons, List.map_map]
  congr 1
  · omega
  · refine List.map_congr_left fun a _ => ?_
    show i - ((a + 1 : Nat) : Int) = i - 1 - (a : Int)
    omega
structure Pr (p : Nat) : Prop where
  pr : IsP p
  odd : p % 2 = 1
  lt : p < 2 ^ 256
theorem Pr.ge {p : Nat} (h : Pr p) : 3 ≤ p := by have := h.pr.1; have := h.odd; omega
theorem Pr.pos {p : Nat} (h : Pr p) : (0 : Int) < (p : Int) := by have := h.ge; omega
theorem res_lt {p : Nat} (h : Pr p) {x : Int} (h0 : 0 ≤ x) (h1 : x < p) : x.natAbs < 2 ^ 256 := by have := h.lt; omega
theorem mul_res {p : Nat} (h : Pr p) {x y : Int} (h0 : 0 ≤ x) (h1 : x < p) (h2 : 0 ≤ y) (h3 : y < p) : CMulX x y := cmulx (res_lt h h0 h1) (res_lt h h2 h3) (by decide)

/-! ### powers -/
theorem pw_step {p : Nat} (h : Pr p) (k : Int × Int × Int → Res Int) (n : Nat) (r s : Int) (e : Nat) (r0 : 0 ≤ r) (r1 : r < p) (s0 : 0 ≤ s) (s1 : s < p) : m_power_w1 (p : Int) k (n + 1) (r, s, (e : Int)) = if e = 0 then k (r, s, 0) else m_power_w1 (p : Int) k n (if e % 2 = 1 then r * s % p else r, s * s % p, ((e / 2 : Nat) : Int)) := by
  have hp := h.pos
  have e2 : ((e / 2 : Nat) : Int) = (e : Int) / 2 ^ (1 : Int).toNat := by show _ = (e : Int) / 2; omega
  rw [m_power_w1]
  simp only [Res.bind_ok, cond_dec, bit1]
  by_cases he : e = 0
  · subst he; rfl
  · rw [if_pos (by omega), if_neg he]
    unfold m_power_k2
    simp only [Res.bind_ok, need_bind, Res.need_pos hp, Res.need_pos (mul_res h s0 s1 s0 s1), Res.need_pos (mul_res h r0 r1 s0 s1), e2]
    by_cases ho : e % 2 = 1
    · rw [if_pos (by omega), if_pos ho]
    · rw [if_neg (by omega), if_neg ho]
theorem pw_loop {p : Nat} (h : Pr p) (k : Int × Int × Int → Res Int) : ∀ (fuel : Nat) (r s : Int) (e : Nat), 0 ≤ r → r < p → 0 ≤ s → s < p → e < fuel → ∃ s', m_power_w1 (p : Int) k fuel (r, s, (e : Int)) = k (r * s ^ e % p, s', 0) := by
  have hp := h.pos
  intro fuel
  induction fuel with
  | zero => intro r s e _ _ _ _ he; omega
  | succ n ih =>
    intro r s e r0 r1 s0 s1 he
    rw [pw_step h k n r s e r0 r1 s0 s1]
    by_cases hz : e = 0
    · subst hz
      exact ⟨s, by rw [if_pos rfl, Int.pow_zero, Int.mul_one, Int.emod_eq_of_lt r0 r1]⟩
    · rw [if_neg hz]
      have t0 := Int.emod_nonneg (s * s) (show (p : Int) ≠ 0 by omega)
      have t1 := Int.emod_lt_of_pos (s * s) hp
      have u0 := Int.emod_nonneg (r * s) (show (p : Int) ≠ 0 by omega)
      have u1 := Int.emod_lt_of_pos (r * s) hp
      obtain ⟨s', q⟩ := ih (if e % 2 = 1 then r * s % p else r) (s * s % p) (e / 2) (by split <;> assumption) (by split <;> assumption) t0 t1 (by omega)
      refine ⟨s', ?_⟩
      rw [q]
      have a1 : (s * s % p) ^ (e / 2) % p = (s * s) ^ (e / 2) % p := em_pow (em_em _ _) _
      have a2 : s ^ e = s ^ (e % 2) * (s * s) ^ (e / 2) := by
        rw [← ipow2 s, ← Int.pow_mul, ← Int.pow_add, Nat.mod_add_div]
      congr 2
      rw [a2, ← Int.mul_assoc]
      refine em_mul ?_ a1
      rcases (by omega : e % 2 = 0 ∨ e % 2 = 1) with z | z
      · rw [z, if_neg (by decide), Int.pow_zero, Int.mul_one]
      · rw [z, if_pos rfl, Int.pow_one, em_em]
theorem power_ok {p : Nat} (h : Pr p) (a : Int) (e : Nat) : m_power a (e : Int) (p : Int) = .ok (a ^ e % p) := by
  have hp := h.pos
  have h3 := h.ge
  unfold m_power
  simp only [Res.bind_ok, Res.need_pos hp]
  obtain ⟨s', q⟩ := pw_loop h m_power_k3 ((e : Int).toNat + 1) (1 % p) (a % p) e (Int.emod_nonneg _ (by omega)) (Int.emod_lt_of_pos _ hp) (Int.emod_nonneg _ (by omega)) (Int.emod_lt_of_pos _ hp) (by omega)
  rw [q]
  show Res.ok _ = _
  congr 1
  rw [em_mul (em_em 1 p) (em_pow (em_em a p) e), Int.one_mul]
abbrev hf (p : Nat) : Nat := (p - 1) / 2
theorem class_ok {p : Nat} (h : Pr p) (a : Int) : m_square_class a (p : Int) = .ok (if a % p = 0 then 0 else if a ^ hf p % p = 1 then 1 else -1) := by
  have hp := h.pos
  have h3 := h.ge
  have e : ((p : Int) - 1) / 2 = ((hf p : Nat) : Int) := by unfold hf; omega
  unfold m_square_class
  simp only [Res.bind_ok, Res.need_pos hp, e, power_ok h, cond_dec]
  by_cases h0 : a % p = 0
  · rw [if_pos h0, if_pos h0]
  · rw [if_neg h0, if_neg h0]
    by_cases h1 : a ^ hf p % p = 1
    · rw [if_pos h1, if_pos h1]
    · rw [if_neg h1, if_neg h1]
theorem bits_pow (t : Nat) : Builtin.Int.intBits (2 ^ t : Int) = t + 1 := by
  have hp : (0 : Int) < 2 ^ t := Int.pow_pos (by decide)
  unfold Builtin.Int.intBits
  rw [if_neg (by simp; omega)]
  have : (2 ^ t : Int).natAbs = 2 ^ t := by rw [Int.natAbs_pow]; rfl
  rw [this, Nat.log2_two_pow]
theorem split_ok {n o t : Nat} (e : n = (2 * o + 1) * 2 ^ t) : m_split_twos (n : Int) = .ok (T2.mk ((2 * o + 1 : Nat) : Int) (t : Int)) := by
  have hp := Nat.two_pow_pos t
  have hn : 0 < n := by rw [e]; exact Nat.mul_pos (by omega) hp
  have ea : Builtin.bitAnd (n : Int) (-(n : Int)) = 2 ^ t := by
    have e1 : -(n : Int) = Builtin.bitNot ((n : Int) - 1) := by unfold Builtin.bitNot; omega
    rw [e1, PyProof.Rows.bitAnd_not, PyProof.Rows.bitAnd_pp (by omega) (by omega), show ((n : Int)).toNat = n by omega, show ((n : Int) - 1).toNat = n - 1 by omega, e, low_and, ← PySem.W.kbt_cast t, Int.natCast_mul, Int.natCast_mul]
    generalize ((2 ^ t : Nat) : Int) = q
    push_cast
    grind
  have ed : (n : Int) / 2 ^ t = ((2 * o + 1 : Nat) : Int) := by
    rw [e, ← PySem.W.kbt_cast t, ← Int.natCast_ediv, Nat.mul_div_cancel _ hp]
  unfold m_split_twos
  simp only [Res.bind_ok, ea, bits_pow, need_bind]
  have et : (((t + 1 : Nat) : Int) - 1) = (t : Int) := by omega
  rw [et, Res.need_pos (by omega), show ((t : Int)).toNat = t by omega, ed]
/-! ### a number that is no square -/
theorem ns_loop {p : Nat} (h : Pr p) {z0 : Nat} (hz : z0 < p) (hz1 : (z0 : Int) ^ hf p % p ≠ 1) (k : Int → Res Int) : ∀ (fuel n : Nat), 1 ≤ n → n ≤ z0 → z0 < n + fuel → ∃ z : Int, m_u_non_square_w1 (p : Int) k fuel (n : Int) = k z ∧ z ^ hf p % p = p - 1 := by
  intro fuel
  induction fuel with
  | zero => intro n h1 h2 h3; omega
  | succ f ih =>
    intro n h1 h2 h3
    have hp := h.pos
    have hn0 : (n : Int) % p ≠ 0 := by rw [Int.emod_eq_of_lt (by omega) (by omega)]; omega
    rw [m_u_non_square_w1]
    simp only [Res.bind_ok, class_ok h, cond_not, cond_dec, if_neg hn0]
    by_cases hn : (n : Int) ^ hf p % p = 1
    · rw [if_pos hn, if_neg (by decide)]
      have hne : n ≠ z0 := fun e => hz1 (by rw [← e]; exact hn)
      exact ih (n + 1) (by omega) (by omega) (by omega)
    · rw [if_neg hn, if_pos rfl]
      refine ⟨_, rfl, ?_⟩
      exact (half_pow h.pr h.odd (fun d => hn0 (Int.emod_eq_zero_of_dvd d))).resolve_left hn
theorem ns_ok {p : Nat} (h : Pr p) : ∃ z : Int, m_u_non_square (p : Int) = .ok z ∧ z ^ hf p % p = p - 1 := by
  have h3 := h.ge
  have ho := h.odd
  obtain ⟨z0, z1, z2, z3⟩ := non_root h.pr (k := hf p) (by unfold hf; omega) (by unfold hf; omega)
  have hz : 2 ≤ z0 := by
    rcases (by omega : z0 = 1 ∨ 2 ≤ z0) with rfl | q
    · exact absurd (by rw [show ((1 : Nat) : Int) = 1 from rfl, Int.one_pow, Int.emod_eq_of_lt (by decide) (by omega)]) z3
    · exact q
  obtain ⟨z, q1, q2⟩ := ns_loop h z2 z3 m_u_non_square_k2 ((p : Int).toNat + 1) 2 (by decide) hz (by omega)
  refine ⟨z, ?_, q2⟩
  unfold m_u_non_square
  simp only [Res.bind_ok]
  exact q1
/-! ### the root -/
theorem pow_dbl (x : Int) (k : Nat) : x ^ 2 ^ (k + 1) = (x * x) ^ 2 ^ k := by
  rw [Nat.pow_succ, Nat.mul_comm, Int.pow_mul, ipow2]
theorem ts_loop {p : Nat} (h : Pr p) (a : Int) (k : Int × Int × Int → Res Int) : ∀ (L : Nat) (root rest helper : Int), L ≤ 300 → 0 ≤ root → root < p → 0 ≤ rest → rest < p → 0 ≤ helper → helper < p → root * root % p = a * rest % p → rest ^ 2 ^ L % p = 1 → helper ^ 2 ^ L % p = p - 1 →
    ∃ r rest' helper', m_u_root_of_square_l2 (p : Int) k (pyDown ((L : Int) - 1) (-1)) (root, rest, helper) = k (r, rest', helper') ∧ 0 ≤ r ∧ r < p ∧ r * r % p = a % p := by
  have hp := h.pos
  have h3 := h.ge
  intro L
  induction L with
  | zero =>
    intro root rest helper _ r0 r1 s0 s1 g0 g1 i1 i2 i3
    refine ⟨root, rest, helper, ?_, r0, r1, ?_⟩
    · rw [pyDown_nil (by omega)]; rfl
    · rw [Nat.pow_zero, Int.pow_one] at i2
      rw [i1]
      have o : (1 : Int) % p = 1 := Int.emod_eq_of_lt (by decide) (by omega)
      rw [em_mul (u := a) (v := 1) rfl (by rw [i2, o]), Int.mul_one]
  | succ L ih =>
    intro root rest helper hL r0 r1 s0 s1 g0 g1 i1 i2 i3
    have el : (((L + 1 : Nat) : Int) - 1) = (L : Int) := by omega
    rw [el, pyDown_cons (by omega), m_u_root_of_square_l2]
    have hs : CShl 1 (L : Int) := ⟨by omega, by
      have : Builtin.Int.intBits 1 = 1 := by decide +kernel
      rw [this]; omega⟩
    have e1 : (1 : Int) * 2 ^ (L : Int).toNat = ((2 ^ L : Nat) : Int) := by rw [Int.one_mul, show ((L : Int)).toNat = L by omega, PySem.W.kbt_cast]
    have G0 := fun x : Int => Int.emod_nonneg x (show (p : Int) ≠ 0 by omega)
    have G1 := fun x : Int => Int.emod_lt_of_pos x hp
    have j3 : (helper * helper % p) ^ 2 ^ L % p = p - 1 := by rw [em_pow (em_em _ _), ← pow_dbl]; exact i3
    have sq : rest ^ 2 ^ L * rest ^ 2 ^ L % p = 1 := by rw [← Int.pow_add, ← Nat.two_mul, Nat.mul_comm, ← Nat.pow_succ]; exact i2
    simp only [Res.bind_ok, need_bind, Res.need_pos hs, e1, power_ok h, cond_not, cond_dec]
    unfold m_u_root_of_square_k3
    by_cases hc : rest ^ 2 ^ L % p = 1
    · rw [if_pos hc]
      simp only [Res.bind_ok, need_bind, Res.need_pos (mul_res h g0 g1 g0 g1), Res.need_pos hp]
      exact ih root rest (helper * helper % p) (by omega) r0 r1 s0 s1 (G0 _) (G1 _) i1 hc j3
    · rw [if_neg hc]
      have hm := (sq_one h.pr sq).resolve_left hc
      have big : CMulX (rest * helper) helper := cmulx (a := 512) (b := 256) (by rw [Int.natAbs_mul]; exact pow_add_lt (res_lt h s0 s1) (res_lt h g0 g1)) (res_lt h g0 g1) (by decide)
      simp only [Res.bind_ok, need_bind, Res.need_pos (mul_res h g0 g1 g0 g1), Res.need_pos (mul_res h r0 r1 g0 g1), Res.need_pos (mul_res h s0 s1 g0 g1), Res.need_pos big, Res.need_pos hp]
      refine ih (root * helper % p) (rest * helper * helper % p) (helper * helper % p) (by omega) (G0 _) (G1 _) (G0 _) (G1 _) (G0 _) (G1 _) ?_ ?_ j3
      · have q1 : root * helper % p * (root * helper % p) % p = (root * root) * (helper * helper) % p := by
          rw [em_mul (em_em (root * helper) p) (em_em (root * helper) p)]; congr 1; grind
        have q2 : a * (rest * helper * helper % p) % p = (a * rest) * (helper * helper) % p := by
          rw [em_mul (u := a) (v := rest * helper * helper) rfl (em_em _ _)]; congr 1; grind
        rw [q1, q2]
        exact em_mul i1 rfl
      · rw [em_pow (em_em _ _), show rest * helper * helper = rest * (helper * helper) by grind, Int.mul_pow, ← pow_dbl, em_mul (hm.trans (i3.symm)) rfl]
        exact m1_sq h.pr i3
theorem root_ok {p : Nat} (h : Pr p) {a : Int} (ha : a ^ hf p % p = 1) : ∃ r, m_u_root_of_square a (p : Int) = .ok r ∧ 0 ≤ r ∧ r < p ∧ r * r % p = a % p := by
  have hp := h.pos
  have h3 := h.ge
  have ho := h.odd
  have hlt := h.lt
  obtain ⟨o, t, e⟩ := odd_part (p - 1) (by omega)
  have t0 : 1 ≤ t := by
    rcases Nat.eq_zero_or_pos t with z | z
    · subst z; rw [Nat.pow_zero] at e; omega
    · exact z
  have tl : t ≤ 256 := by
    refine Nat.le_of_not_lt fun z => ?_
    have : 2 ^ 256 ≤ 2 ^ t := Nat.pow_le_pow_right (by decide) (by omega)
    have := Nat.le_mul_of_pos_left (2 ^ t) (show 0 < 2 * o + 1 by omega)
    omega
  have eh : hf p = (2 * o + 1) * 2 ^ (t - 1) := by
    have : 2 ^ t = 2 ^ (t - 1) * 2 := by rw [← Nat.pow_succ]; congr 1; omega
    unfold hf
    rw [e, this, ← Nat.mul_assoc, Nat.mul_div_cancel _ (by decide)]
  have sp := split_ok e
  rw [show ((p - 1 : Nat) : Int) = (p : Int) - 1 by omega] at sp
  have o2 : (((2 * o + 1 : Nat) : Int) + 1) / 2 = ((o + 1 : Nat) : Int) := by omega
  have G0 := fun x : Int => Int.emod_nonneg x (show (p : Int) ≠ 0 by omega)
  have G1 := fun x : Int => Int.emod_lt_of_pos x hp
  have i1 : a ^ (o + 1) % p * (a ^ (o + 1) % p) % p = a * (a ^ (2 * o + 1) % p) % p := by
    rw [em_mul (em_em (a ^ (o + 1)) p) (em_em (a ^ (o + 1)) p), em_mul (u := a) (v := a ^ (2 * o + 1)) rfl (em_em _ _), ← Int.pow_add, Int.mul_comm, ← Int.pow_succ]
    congr 2; omega
  have i2 : (a ^ (2 * o + 1) % p) ^ 2 ^ (t - 1) % p = 1 := by
    rw [em_pow (em_em _ _), ← Int.pow_mul, ← eh]; exact ha
  unfold m_u_root_of_square
  simp only [Res.bind_ok, need_bind, sp, o2, power_ok h, cond_dec]
  by_cases ht : (t : Int) < 2
  · rw [if_pos ht]
    refine ⟨_, rfl, G0 _, G1 _, ?_⟩
    rw [i1]
    have : t = 1 := by omega
    subst this
    rw [Nat.sub_self, Nat.pow_zero, Int.pow_one] at i2
    have oo : (1 : Int) % p = 1 := Int.emod_eq_of_lt (by decide) (by omega)
    rw [em_mul (u := a) (v := 1) rfl (i2.trans oo.symm), Int.mul_one]
  · rw [if_neg ht]
    obtain ⟨z, z1, z2⟩ := ns_ok h
    have i3 : (z ^ (2 * o + 1) % p) ^ 2 ^ (t - 1) % p = p - 1 := by
      rw [em_pow (em_em _ _), ← Int.pow_mul, ← eh]; exact z2
    simp only [z1, Res.bind_ok, power_ok h]
    rw [Res.need_pos ⟨⟨by omega, by omega⟩, ⟨by omega, by omega⟩⟩]
    obtain ⟨r, x, y, q1, q2, q3, q4⟩ := ts_loop h a m_u_root_of_square_k4 (t - 1) _ _ _ (by omega) (G0 _) (G1 _) (G0 _) (G1 _) (G0 _) (G1 _) i1 i2 i3
    rw [show (((t - 1 : Nat) : Int) - 1) = (t : Int) - 2 by omega] at q1
    exact ⟨r, by rw [q1]; rfl, q2, q3, q4⟩
theorem no_zero {p : Nat} (h : Pr p) {r a : Int} (hr : r * r % p = a % p) (ha : a % p ≠ 0) : r ≠ 0 := fun z => by
  subst z
  rw [Int.zero_mul, Int.zero_emod] at hr
  exact ha hr.symm
theorem sroot_ok {p : Nat} (h : Pr p) (a : Int) : m_square_root a (p : Int) = .ok (some 0) ∧ a % p = 0 ∨ a % p ≠ 0 ∧ a ^ hf p % p = p - 1 ∧ m_square_root a (p : Int) = .ok none ∨
    a % p ≠ 0 ∧ a ^ hf p % p = 1 ∧ ∃ r, m_square_root a (p : Int) = .ok (some r) ∧ 0 < r ∧ 2 * r < p ∧ r * r % p = a % p := by
  have hp := h.pos
  have h3 := h.ge
  have ho := h.odd
  unfold m_square_root
  simp only [Res.bind_ok, class_ok h, cond_dec]
  by_cases h0 : a % p = 0
  · rw [if_pos h0, if_neg (by decide), if_pos rfl]
    exact .inl ⟨rfl, h0⟩
  · rw [if_neg h0]
    have hd : ¬ (p : Int) ∣ a := fun d => h0 (Int.emod_eq_zero_of_dvd d)
    rcases half_pow h.pr h.odd hd with q | q
    · have q' : a ^ hf p % p = 1 := q
      obtain ⟨r, r1, r2, r3, r4⟩ := root_ok h q'
      have rz := no_zero h r4 h0
      rw [if_pos q', if_neg (by decide), if_neg (by decide)]
      simp only [r1, Res.bind_ok]
      refine .inr (.inr ⟨h0, q', min r (p - r), rfl, by omega, by omega, ?_⟩)
      rcases Int.le_total r (p - r) with z | z
      · rw [Int.min_eq_left z]; exact r4
      · rw [Int.min_eq_right z, ← r4]
        rw [show ((p : Int) - r) * (p - r) = r * r + p * (p - 2 * r) by grind, Int.add_mul_emod_self_left]
    · have q' : a ^ hf p % p = p - 1 := q
      have hne : ¬ a ^ hf p % p = 1 := by rw [q']; omega
      rw [if_neg hne, if_pos rfl]
      exact .inr (.inl ⟨h0, q', rfl⟩)

/-! ### the primes -/
theorem lt4 : 4000000 < 2 ^ 256 := by decide +kernel
theorem lt1 : 1000000 < 2 ^ 256 := by decide +kernel
theorem lt60 : 4000000 < 2 ^ 60 := by decide +kernel
def tp (v : Nat) : Bool := decide (2 ≤ v) && decide (v < 1000000) && decide (v % 2 = 1) && (List.range 1000).all fun d => decide (d < 2) || decide (v < d * d) || !decide (v % d = 0)
theorem tp_ok {v : Nat} (h : tp v = true) : Pr v := by
  simp only [tp, Bool.and_eq_true, decide_eq_true_eq] at h
  obtain ⟨⟨⟨h1, h2⟩, h3⟩, h4⟩ := h
  refine ⟨small_prime h1 fun d d1 d2 d3 => ?_, h3, Nat.lt_trans h2 lt1⟩
  have hd : d < 1000 := by
    refine Nat.lt_of_not_le fun z => ?_
    have := Nat.mul_le_mul z z
    omega
  have := List.all_eq_true.mp h4 d (List.mem_range.mpr hd)
  have e : v % d = 0 := Nat.mod_eq_zero_of_dvd d3
  simp only [e, Bool.or_eq_true, decide_eq_true_eq, decide_true, Bool.not_true] at this
  rcases this with (z | z) | z
  · omega
  · omega
  · cases z
theorem ip_loop (n : Nat) (h2 : 2 ≤ n) (ho : n % 2 = 1) (hn : n < 2 ^ 60) (k : Int → Res Bool) (hk : ∀ d, k d = .ok true) : ∀ (ks : List Int) (d : Nat), d % 2 = 1 → 3 ≤ d → d + 2 * ks.length < 4000 → n < (d + 2 * ks.length) * (d + 2 * ks.length) → (∀ q, 2 ≤ q → q < d → ¬ q ∣ n) → ∃ b, m_u_law_is_prime_l2 (n : Int) k ks (d : Int) = .ok b ∧ (b = true → IsP n) := by
  intro ks
  induction ks with
  | nil =>
    intro d d1 d2 d3 d4 d5
    refine ⟨true, hk _, fun _ => small_prime h2 fun q q1 q2 => d5 q q1 (Nat.lt_of_not_le fun z => ?_)⟩
    have := Nat.mul_le_mul z z
    simp at d4; omega
  | cons x r ih =>
    intro d d1 d2 d3 d4 d5
    rw [List.length_cons] at d3 d4
    rw [m_u_law_is_prime_l2]
    have hm : CMulX (d : Int) (d : Int) := cmulx (a := 20) (b := 20) (by omega) (by omega) (by decide)
    simp only [Res.bind_ok, need_bind, cond_dec, Res.need_pos hm, Res.need_pos (show (0 : Int) < (d : Int) by omega)]
    by_cases c1 : (n : Int) < (d : Int) * d
    · rw [if_pos c1]
      have c1 : n < d * d := by
        have e : ((d * d : Nat) : Int) = (d : Int) * d := Int.natCast_mul ..
        omega
      refine ⟨true, rfl, fun _ => small_prime h2 fun q q1 q2 => d5 q q1 (Nat.lt_of_not_le fun z => ?_)⟩
      have := Nat.mul_le_mul z z
      omega
    · rw [if_neg c1]
      by_cases c2 : (n : Int) % (d : Int) = 0
      · rw [if_pos c2]; exact ⟨false, rfl, fun z => by cases z⟩
      · rw [if_neg c2]
        refine ih (d + 2) (by omega) (by omega) (by omega) (by rw [show d + 2 + 2 * r.length = d + 2 * (r.length + 1) by omega]; exact d4) fun q q1 q2 q3 => ?_
        by_cases e1 : q < d
        · exact d5 q q1 e1 q3
        · by_cases e2 : q = d
          · subst e2
            exact c2 (by rw [← Int.natCast_emod, Nat.mod_eq_zero_of_dvd q3]; rfl)
          · have : q % 2 = 0 := by omega
            have : 2 ∣ n := Nat.dvd_trans (Nat.dvd_of_mod_eq_zero this) q3
            have := Nat.mod_eq_zero_of_dvd this
            omega
theorem ip_ok (n : Nat) (h3 : 3 ≤ n) (hn : n < 4000000) : ∃ b, m_u_law_is_prime (n : Int) = .ok b ∧ (b = true → Pr n) := by
  have hr : okRange (1024 : Int) := ⟨by decide, by decide⟩
  have hl : (pyRange 0 1024).length = 1024 := by rw [pyRange_len]; rfl
  unfold m_u_law_is_prime
  simp only [Res.bind_ok, need_bind, Res.need_pos hr]
  generalize pyRange 0 1024 = ks at *
  by_cases ho : n % 2 = 1
  · have a1 : decide ((n : Int) % 2 = 0) = false := decide_eq_false (by omega)
    have a2 : decide ((n : Int) < 3) = false := decide_eq_false (by omega)
    rw [a1, a2, cond_false, Res.bind_ok, cond_false]
    obtain ⟨b, q1, q2⟩ := ip_loop n (by omega) ho (Nat.lt_trans hn lt60) m_u_law_is_prime_k5 (fun _ => rfl) ks 3 (by decide) (by decide) (by rw [hl]; omega) (by rw [hl]; omega) (fun q q1 q2 q3 => by
      have : q = 2 := by omega
      subst this
      have := Nat.mod_eq_zero_of_dvd q3
      omega)
    rw [show ((3 : Nat) : Int) = 3 from rfl] at q1
    exact ⟨b, q1, fun z => ⟨q2 z, ho, Nat.lt_trans hn lt4⟩⟩
  · rw [decide_eq_true (show (n : Int) % 2 = 0 by omega)]
    simp only [cond_true, Res.bind_ok]
    refine ⟨_, rfl, fun z => ?_⟩
    have := of_decide_eq_true z
    omega
theorem np_loop (k : Int → Res Int) (hk : ∀ d, k d = .ok 65537) : ∀ (ks : List Int) (n : Nat), 5 ≤ n → n + ks.length < 4000000 → ∃ p : Nat, m_u_law_prime_l3 k ks (n : Int) = .ok (p : Int) ∧ Pr p ∧ 5 ≤ p := by
  intro ks
  induction ks with
  | nil => intro n h1 h2; exact ⟨65537, hk _, tp_ok (by decide +kernel), by decide⟩
  | cons x r ih =>
    intro n h1 h2
    rw [List.length_cons] at h2
    rw [m_u_law_prime_l3]
    obtain ⟨b, q1, q2⟩ := ip_ok n (by omega) (by omega)
    simp only [Res.bind_ok, q1]
    cases b with
    | true => exact ⟨n, rfl, q2 rfl, h1⟩
    | false => exact ih (n + 1) (by omega) (by omega)
theorem list1 {z : Int} (h0 : 0 ≤ z) (h1 : z < 12) : ∃ v : Int, idx ([5, 7, 11, 13, 17, 19, 23, 29, 31, 37, 41, 43] : List Int) z = .ok v ∧ 5 ≤ v ∧ tp v.toNat = true := by
  rcases (by omega : z = 0 ∨ z = 1 ∨ z = 2 ∨ z = 3 ∨ z = 4 ∨ z = 5 ∨ z = 6 ∨ z = 7 ∨ z = 8 ∨ z = 9 ∨ z = 10 ∨ z = 11) with rfl | rfl | rfl | rfl | rfl | rfl | rfl | rfl | rfl | rfl | rfl | rfl <;> exact ⟨_, rfl, by decide, by decide +kernel⟩
theorem list2 {z : Int} (h0 : 0 ≤ z) (h1 : z < 12) : ∃ v : Int, idx ([97, 193, 257, 7681, 12289, 65537, 786433, 65521, 8191, 131071, 524287, 241] : List Int) z = .ok v ∧ 5 ≤ v ∧ tp v.toNat = true := by
  rcases (by omega : z = 0 ∨ z = 1 ∨ z = 2 ∨ z = 3 ∨ z = 4 ∨ z = 5 ∨ z = 6 ∨ z = 7 ∨ z = 8 ∨ z = 9 ∨ z = 10 ∨ z = 11) with rfl | rfl | rfl | rfl | rfl | rfl | rfl | rfl | rfl | rfl | rfl | rfl <;> exact ⟨_, rfl, by decide, by decide +kernel⟩
theorem prime_ok (c : Int) {least : Nat} (h3 : 5 ≤ least) (h4 : least ≤ 100) : ∃ p : Nat, m_u_law_prime c (least : Int) = .ok (p : Int) ∧ Pr p ∧ 5 ≤ p := by
  have z0 := Int.emod_nonneg ((c.natAbs : Int) / 5) (show (12 : Int) ≠ 0 by decide)
  have z1 := Int.emod_lt_of_pos ((c.natAbs : Int) / 5) (show (0 : Int) < 12 by decide)
  have hr : okRange (400 : Int) := ⟨by decide, by decide⟩
  have hl : (pyRange 0 400).length = 400 := by rw [pyRange_len]; rfl
  unfold m_u_law_prime
  simp only [Res.bind_ok, need_bind, cond_dec, Res.need_pos hr]
  by_cases c1 : (c.natAbs : Int) % 5 = 1
  · rw [if_pos c1]
    obtain ⟨v, v1, v2, v3⟩ := list1 z0 z1
    exact ⟨v.toNat, by rw [v1, Int.toNat_of_nonneg (by omega)], tp_ok v3, by omega⟩
  rw [if_neg c1]
  by_cases c2 : (c.natAbs : Int) % 5 = 2
  · rw [if_pos c2]
    obtain ⟨v, v1, v2, v3⟩ := list2 z0 z1
    exact ⟨v.toNat, by rw [v1, Int.toNat_of_nonneg (by omega)], tp_ok v3, by omega⟩
  rw [if_neg c2]
  have ht : ∃ v : Int, idx ([60, 1000, 1000000] : List Int) ((c.natAbs : Int) / 15 % 3) = .ok v ∧ 0 < v ∧ v ≤ 1000000 := by
    have h0 := Int.emod_nonneg ((c.natAbs : Int) / 15) (show (3 : Int) ≠ 0 by decide)
    have h1 := Int.emod_lt_of_pos ((c.natAbs : Int) / 15) (show (0 : Int) < 3 by decide)
    generalize (c.natAbs : Int) / 15 % 3 = z at *
    rcases (by omega : z = 0 ∨ z = 1 ∨ z = 2) with rfl | rfl | rfl <;> exact ⟨_, rfl, by decide, by decide⟩
  obtain ⟨v, v1, v2, v3⟩ := ht
  simp only [v1, Res.bind_ok, Res.need_pos v2]
  generalize pyRange 0 400 = ks at *
  have w0 := Int.emod_nonneg ((c.natAbs : Int) / 5) (show v ≠ 0 by omega)
  have w1 := Int.emod_lt_of_pos ((c.natAbs : Int) / 5) v2
  generalize (c.natAbs : Int) / 5 % v = w at *
  obtain ⟨m, hm⟩ := Int.eq_ofNat_of_zero_le w0
  subst hm
  have q := np_loop m_u_law_prime_k5 (fun _ => rfl) ks (least + m) (by omega) (by omega)
  rw [Int.natCast_add] at q
  exact q
theorem nm {x y z : Int} {α : Type} {f : Int → Res α} (a b : Nat) (ha : x.natAbs < 2 ^ a) (hb : y.natAbs < 2 ^ b) (h : a + b ≤ 134217728) (e : x * y = z) : Res.need (CMulX x y) (f (x * y)) = f z := by
  rw [Res.need_pos (cmulx ha hb h), e]

theorem npb_loop (k : Int → Res Int) (hk : ∀ d, k d = .ok 65537) : ∀ (ks : List Int) (n : Nat), 5 ≤ n → n + ks.length < 1015000 → ∃ p : Nat, m_u_law_prime_l3 k ks (n : Int) = .ok (p : Int) ∧ Pr p ∧ 5 ≤ p ∧ p < 1015808 := by
  intro ks
  induction ks with
  | nil => intro n h1 h2; exact ⟨65537, hk _, tp_ok (by decide +kernel), by decide, by decide⟩
  | cons x r ih =>
    intro n h1 h2
    rw [List.length_cons] at h2
    rw [m_u_law_prime_l3]
    obtain ⟨b, q1, q2⟩ := ip_ok n (by omega) (by omega)
    simp only [Res.bind_ok, q1]
    cases b with
    | true => exact ⟨n, rfl, q2 rfl, h1, by omega⟩
    | false => exact ih (n + 1) (by omega) (by omega)
theorem tp_lt {v : Nat} (h : tp v = true) : v < 1000000 := by
  unfold tp at h
  simp only [Bool.and_eq_true, decide_eq_true_eq] at h
  exact h.1.1.2
theorem prime_okb (c : Int) {least : Nat} (h3 : 5 ≤ least) (h4 : least ≤ 100) : ∃ p : Nat, m_u_law_prime c (least : Int) = .ok (p : Int) ∧ Pr p ∧ 5 ≤ p ∧ p < 1015808 := by
  have z0 := Int.emod_nonneg ((c.natAbs : Int) / 5) (show (12 : Int) ≠ 0 by decide)
  have z1 := Int.emod_lt_of_pos ((c.natAbs : Int) / 5) (show (0 : Int) < 12 by decide)
  have hr : okRange (400 : Int) := ⟨by decide, by decide⟩
  have hl : (pyRange 0 400).length = 400 := by rw [pyRange_len]; rfl
  unfold m_u_law_prime
  simp only [Res.bind_ok, need_bind, cond_dec, Res.need_pos hr]
  by_cases c1 : (c.natAbs : Int) % 5 = 1
  · rw [if_pos c1]
    obtain ⟨v, v1, v2, v3⟩ := list1 z0 z1
    exact ⟨v.toNat, by rw [v1, Int.toNat_of_nonneg (by omega)], tp_ok v3, by omega, by have := tp_lt v3; omega⟩
  rw [if_neg c1]
  by_cases c2 : (c.natAbs : Int) % 5 = 2
  · rw [if_pos c2]
    obtain ⟨v, v1, v2, v3⟩ := list2 z0 z1
    exact ⟨v.toNat, by rw [v1, Int.toNat_of_nonneg (by omega)], tp_ok v3, by omega, by have := tp_lt v3; omega⟩
  rw [if_neg c2]
  have ht : ∃ v : Int, idx ([60, 1000, 1000000] : List Int) ((c.natAbs : Int) / 15 % 3) = .ok v ∧ 0 < v ∧ v ≤ 1000000 := by
    have h0 := Int.emod_nonneg ((c.natAbs : Int) / 15) (show (3 : Int) ≠ 0 by decide)
    have h1 := Int.emod_lt_of_pos ((c.natAbs : Int) / 15) (show (0 : Int) < 3 by decide)
    generalize (c.natAbs : Int) / 15 % 3 = z at *
    rcases (by omega : z = 0 ∨ z = 1 ∨ z = 2) with rfl | rfl | rfl <;> exact ⟨_, rfl, by decide, by decide⟩
  obtain ⟨v, v1, v2, v3⟩ := ht
  simp only [v1, Res.bind_ok, Res.need_pos v2]
  generalize pyRange 0 400 = ks at *
  have w0 := Int.emod_nonneg ((c.natAbs : Int) / 5) (show v ≠ 0 by omega)
  have w1 := Int.emod_lt_of_pos ((c.natAbs : Int) / 5) v2
  generalize (c.natAbs : Int) / 5 % v = w at *
  obtain ⟨m, hm⟩ := Int.eq_ofNat_of_zero_le w0
  subst hm
  have q := npb_loop m_u_law_prime_k5 (fun _ => rfl) ks (least + m) (by omega) (by omega)
  rw [Int.natCast_add] at q
  exact q

/-! ### the five great primes -/
abbrev g0 : Nat := 57896044618658097711785492504343953926634992332820282019728792003956564819949
abbrev g1 : Nat := 115792089237316195423570985008687907853269984665640564039457584007908834671663
abbrev g2 : Nat := 2305843009213693951
abbrev g3 : Nat := 2147483647
abbrev g4 : Nat := 115792089210356248762697446949407573530086143415290314195533631308867097853951
theorem great_get {z : Int} (h0 : 0 ≤ z) (h1 : z < 5) : ∃ p : Nat, idx ([(g0 : Int), g1, g2, g3, g4] : List Int) z = .ok (p : Int) ∧ Pr p ∧ 5 ≤ p := by
  rcases (by omega : z = 0 ∨ z = 1 ∨ z = 2 ∨ z = 3 ∨ z = 4) with rfl | rfl | rfl | rfl | rfl
  · exact ⟨g0, rfl, ⟨pr_57896044618658097711785492504343953926634992332820282019728792003956564819949, by decide +kernel, by decide +kernel⟩, by decide +kernel⟩
  · exact ⟨g1, rfl, ⟨pr_115792089237316195423570985008687907853269984665640564039457584007908834671663, by decide +kernel, by decide +kernel⟩, by decide +kernel⟩
  · exact ⟨g2, rfl, ⟨prime_m61, by decide +kernel, by decide +kernel⟩, by decide +kernel⟩
  · exact ⟨g3, rfl, ⟨prime_m31, by decide +kernel, by decide +kernel⟩, by decide +kernel⟩
  · exact ⟨g4, rfl, ⟨pr_115792089210356248762697446949407573530086143415290314195533631308867097853951, by decide +kernel, by decide +kernel⟩, by decide +kernel⟩
/-! ### powers and inverses, the law's own -/
theorem Pr.pb {p : Nat} (h : Pr p) : Pb p := ⟨by have := h.ge; omega, h.lt⟩
theorem lpw_loop {p : Nat} (h : Pr p) (k : Int × Int × Int → Res Int) : ∀ (ks : List Int) (v s : Int) (e : Nat), 0 ≤ v → v < p → 0 ≤ s → s < p → e < 2 ^ ks.length → ∃ e' s', m_u_law_power_l1 (p : Int) k ks ((e : Int), v, s) = k (e', v * s ^ e % p, s') := by
  have hp := h.pos
  intro ks
  induction ks with
  | nil =>
    intro v s e v0 v1 s0 s1 he
    have : e = 0 := by simpa using he
    subst this
    exact ⟨0, s, by rw [m_u_law_power_l1, Int.pow_zero, Int.mul_one, Int.emod_eq_of_lt v0 v1]; rfl⟩
  | cons x r ih =>
    intro v s e v0 v1 s0 s1 he
    rw [List.length_cons, Nat.pow_succ] at he
    rw [m_u_law_power_l1]
    have e2 : ((e : Nat) : Int) / 2 = ((e / 2 : Nat) : Int) := by omega
    have t0 := Int.emod_nonneg (s * s) (show (p : Int) ≠ 0 by omega)
    have t1 := Int.emod_lt_of_pos (s * s) hp
    have u0 := Int.emod_nonneg (v * s) (show (p : Int) ≠ 0 by omega)
    have u1 := Int.emod_lt_of_pos (v * s) hp
    have a1 : (s * s % p) ^ (e / 2) % p = (s * s) ^ (e / 2) % p := em_pow (em_em _ _) _
    have a2 : s ^ e = s ^ (e % 2) * (s * s) ^ (e / 2) := by
      rw [← ipow2 s, ← Int.pow_mul, ← Int.pow_add, Nat.mod_add_div]
    unfold m_u_law_power_k3
    simp only [Res.bind_ok, need_bind, cond_dec, Res.need_pos (mul_res h s0 s1 s0 s1), Res.need_pos (mul_res h v0 v1 s0 s1), Res.need_pos hp, e2]
    by_cases hz : (e : Int) = 0
    · rw [if_pos hz]
      have : e = 0 := by omega
      subst this
      exact ⟨0, s, by rw [Int.pow_zero, Int.mul_one, Int.emod_eq_of_lt v0 v1]; rfl⟩
    · rw [if_neg hz]
      by_cases ho : (e : Int) % 2 = 1
      · rw [if_pos ho]
        obtain ⟨e', s', q⟩ := ih (v * s % p) (s * s % p) (e / 2) u0 u1 t0 t1 (by omega)
        refine ⟨e', s', ?_⟩
        rw [q]
        congr 2
        rw [em_mul (em_em _ _) a1, a2, show e % 2 = 1 by omega, Int.pow_one, ← Int.mul_assoc]
      · rw [if_neg ho]
        obtain ⟨e', s', q⟩ := ih v (s * s % p) (e / 2) v0 v1 t0 t1 (by omega)
        refine ⟨e', s', ?_⟩
        rw [q]
        congr 2
        rw [em_mul rfl a1, a2, show e % 2 = 0 by omega, Int.pow_zero, Int.one_mul]
theorem lpower_ok {p : Nat} (h : Pr p) (a : Int) (e : Nat) (he : e < 2 ^ 256) : m_u_law_power a (e : Int) (p : Int) = .ok (a ^ e % p) := by
  have hp := h.pos
  have h3 := h.ge
  have hr : okRange (260 : Int) := ⟨by decide, by decide⟩
  have hl : (pyRange 0 260).length = 260 := by rw [pyRange_len]; rfl
  unfold m_u_law_power
  simp only [Res.bind_ok, need_bind, Res.need_pos hp, Res.need_pos hr]
  generalize pyRange 0 260 = ks at *
  obtain ⟨e', s', q⟩ := lpw_loop h m_u_law_power_k4 ks 1 (a % p) e (by decide) (by omega) (Int.emod_nonneg _ (by omega)) (Int.emod_lt_of_pos _ hp) (by rw [hl]; exact Nat.lt_trans he (by decide +kernel))
  rw [q]
  unfold m_u_law_power_k4
  rw [Int.one_mul, em_pow (em_em a p) e]
theorem linv_ok {p : Nat} (h : Pr p) (a : Int) : m_u_law_inverse a (p : Int) = .ok (a ^ (p - 2) % p) := by
  have h3 := h.ge
  have hlt := h.lt
  unfold m_u_law_inverse
  have e : (p : Int) - 2 = ((p - 2 : Nat) : Int) := by omega
  simp only [Res.bind_ok, e, lpower_ok h _ _ (show p - 2 < 2 ^ 256 by omega)]

/-! ### residues of cells -/
theorem residue_ok {m : Int} (hm : 0 < m) (c : Int) : ∃ r, m_u_law_residue c m = .ok r ∧ 0 ≤ r ∧ r < m := by
  unfold m_u_law_residue
  simp only [Res.bind_ok, need_bind, cond_dec, pow18, Res.need_pos hm]
  have F : ∀ x : Int, ∃ r, (Res.ok (x % m) : Res Int) = .ok r ∧ 0 ≤ r ∧ r < m := fun x => ⟨_, rfl, Int.emod_nonneg _ (by omega), Int.emod_lt_of_pos _ hm⟩
  by_cases h1 : 1000000000000000000 ≤ (c.natAbs : Int)
  · rw [if_pos h1]; exact F _
  rw [if_neg h1]
  by_cases h2 : (c.natAbs : Int) % 3 = 1
  · rw [if_pos h2]
    have z0 := Int.emod_nonneg ((c.natAbs : Int) / 3) (show (6 : Int) ≠ 0 by decide)
    have z1 := Int.emod_lt_of_pos ((c.natAbs : Int) / 3) (show (0 : Int) < 6 by decide)
    generalize (c.natAbs : Int) / 3 % 6 = z at *
    rcases (by omega : z = 0 ∨ z = 1 ∨ z = 2 ∨ z = 3 ∨ z = 4 ∨ z = 5) with rfl | rfl | rfl | rfl | rfl | rfl <;> exact F _
  · rw [if_neg h2, Res.need_pos (cmulx (a := 80) (b := 60) (by omega) (by omega) (by decide))]
    exact F _
theorem cell_ex (ns : List Int) {k : Int} (hk : 0 ≤ k) : ∃ c, m_u_law_cell ns k = .ok c := by
  obtain ⟨j, rfl⟩ := Int.eq_ofNat_of_zero_le hk
  exact ⟨_, cell_ok ns j⟩

/-! ### a curve through two points -/
def Rs (p : Nat) (x : Int) : Prop := 0 ≤ x ∧ x < p
def On (p : Nat) (a b x y : Int) : Prop := (y * y - x * x * x - a * x - b) % (p : Int) = 0
instance (p : Nat) (a b x y : Int) : Decidable (On p a b x y) := inferInstanceAs (Decidable (_ = _))
theorem Rs.bd {p : Nat} [P : Pb p] {x : Int} (h : Rs p x) : Bd x 256 := ⟨by
  have := P.lt; have := h.1; have := h.2; omega⟩
theorem rs_mod {p : Nat} [P : Pb p] (x : Int) : Rs p (x % p) := ⟨Int.emod_nonneg _ (by have := P.pos; omega), Int.emod_lt_of_pos _ (by have := P.pos; omega)⟩
theorem on_z {p : Nat} {a b x y : Int} : On p a b x y ↔ zm p y * zm p y = zm p x * zm p x * zm p x + zm p a * zm p x + zm p b := by
  unfold On
  rw [← zm_zero]
  simp only [zm_sub, zm_mul]
  constructor <;> intro h <;> grind
theorem linv_z {p : Nat} (h : Pr p) (x : Int) (hx : zm p x ≠ 0) : zm p (x ^ (p - 2) % p) * zm p x = 1 := by
  rw [zm_mod, zm_pow]; exact z_inv h.pr hx
theorem zm_ne_of {p : Nat} {x y : Int} (hx : Rs p x) (hy : Rs p y) (h : x ≠ y) : zm p (x - y) ≠ 0 := fun e => h (res_eq hx.1 hx.2 hy.1 hy.2 (by
  rw [zm_sub] at e; grind))
/-! ### the greatest common divisor -/
theorem cof (p q X Y V M : Nat) (hq : 0 < q) (h : Y * p + X * q ≤ M) (hV : V ≤ X + p / q * Y) : V * q + Y * (p % q) ≤ M ∧ V ≤ M ∧ p / q * Y ≤ M := by
  have e : q * (p / q) + p % q = p := Nat.div_add_mod p q
  generalize p / q = t at *
  generalize p % q = r at *
  subst e
  have a1 : V * q ≤ (X + t * Y) * q := Nat.mul_le_mul_right q hV
  have a2 : (X + t * Y) * q = X * q + Y * (q * t) := by rw [Nat.add_mul]; congr 1; ac_rfl
  have a3 : Y * (q * t + r) = Y * (q * t) + Y * r := Nat.mul_add ..
  have a4 : V ≤ V * q := Nat.le_mul_of_pos_right _ hq
  have a5 : Y * (q * t) = q * (t * Y) := by ac_rfl
  have a6 : t * Y ≤ q * (t * Y) := Nat.le_mul_of_pos_left _ hq
  omega
theorem bez_step (k : (T3 Int Int Int) × (T3 Int Int Int) → Res (T3 Int Int Int)) (n : Nat) (f s : T3 Int Int Int) : m_bezout_w1 k (n + 1) (f, s) = if s.a = 0 then k (f, s) else Res.need (CDivW f.a s.a) (Res.need (CMulX (f.a / s.a) s.a) (Res.need (CMulX (f.a / s.a) s.b) (Res.need (CMulX (f.a / s.a) s.c) (m_bezout_w1 k n (s, T3.mk (f.a - f.a / s.a * s.a) (f.b - f.a / s.a * s.b) (f.c - f.a / s.a * s.c)))))) := by
  rw [m_bezout_w1]
  simp only [Res.bind_ok, need_bind, cond_not, cond_dec]
theorem natAbs_sub_mul (u t v : Int) : (u - t * v).natAbs ≤ u.natAbs + t.natAbs * v.natAbs := by
  rw [← Int.natAbs_mul]; omega
theorem gcd_step {p q : Int} : Int.gcd q (p - p / q * q) = Int.gcd p q := by
  rw [Int.mul_comm, Int.gcd_sub_mul_left_right, Int.gcd_comm]
theorem bez_loop {a b : Int} {M B : Nat} (hM : M < 2 ^ B) (hB0 : 0 < B) (hB : B ≤ 8000) (k : (T3 Int Int Int) × (T3 Int Int Int) → Res (T3 Int Int Int)) : ∀ (fuel : Nat) (f s : T3 Int Int Int), 0 ≤ f.a → 0 ≤ s.a → s.a < fuel → f.a.natAbs ≤ M → s.a.natAbs ≤ M → f.b.natAbs ≤ M → s.b.natAbs ≤ M → f.c.natAbs ≤ M → s.c.natAbs ≤ M →
    s.b.natAbs * f.a.natAbs + f.b.natAbs * s.a.natAbs ≤ M → s.c.natAbs * f.a.natAbs + f.c.natAbs * s.a.natAbs ≤ M → f.a = a * f.b + b * f.c → s.a = a * s.b + b * s.c →
    ∃ g s', m_bezout_w1 k fuel (f, s) = k (g, s') ∧ g.a = (Int.gcd f.a s.a : Int) ∧ g.a = a * g.b + b * g.c := by
  intro fuel
  induction fuel with
  | zero => intro f s h0 h1 h2; omega
  | succ n ih =>
    intro f s h0 h1 h2 h3 h4 h5 h6 h7 h8 h9 h10 h11 h12
    rw [bez_step]
    by_cases hs : s.a = 0
    · rw [if_pos hs]
      exact ⟨f, s, rfl, by rw [hs, Int.gcd_zero_right]; omega, h11⟩
    · rw [if_neg hs]
      have hp : 0 < s.a := by omega
      have ht : (f.a / s.a).natAbs = f.a.natAbs / s.a.natAbs := by
        rw [Int.natAbs_ediv_of_nonneg h0]
      have hr : f.a - f.a / s.a * s.a = f.a % s.a := by
        have := Int.emod_add_mul_ediv f.a s.a
        rw [Int.mul_comm (f.a / s.a)]; omega
      have hrn : (f.a % s.a).natAbs = f.a.natAbs % s.a.natAbs := by
        rw [Int.natAbs_emod_of_nonneg h0]
      have hq : 0 < s.a.natAbs := by omega
      have c1 := cof f.a.natAbs s.a.natAbs f.b.natAbs s.b.natAbs (f.b - f.a / s.a * s.b).natAbs M hq h9 (by rw [← ht]; exact natAbs_sub_mul ..)
      have c2 := cof f.a.natAbs s.a.natAbs f.c.natAbs s.c.natAbs (f.c - f.a / s.a * s.c).natAbs M hq h10 (by rw [← ht]; exact natAbs_sub_mul ..)
      have ht2 : (f.a / s.a).natAbs ≤ M := by rw [ht]; exact Nat.le_trans (Nat.div_le_self ..) h3
      have lt := fun {x : Int} (h : x.natAbs ≤ M) => (show x.natAbs < 2 ^ B by omega)
      rw [Res.need_pos (wide_div hp (lt h4) hB0 (by omega)), need_mulx (lt ht2) (lt h4) (by omega), need_mulx (lt ht2) (lt h6) (by omega), need_mulx (lt ht2) (lt h8) (by omega)]
      have e0 := Int.emod_nonneg f.a (show s.a ≠ 0 by omega)
      have e1 := Int.emod_lt_of_pos f.a hp
      obtain ⟨g, s', q1, q2, q3⟩ := ih s (T3.mk (f.a - f.a / s.a * s.a) (f.b - f.a / s.a * s.b) (f.c - f.a / s.a * s.c)) h1 (by show 0 ≤ f.a - f.a / s.a * s.a; rw [hr]; exact e0) (by show f.a - f.a / s.a * s.a < _; rw [hr]; omega) h4 (by show (f.a - f.a / s.a * s.a).natAbs ≤ M; rw [hr]; omega) h6 c1.2.1 h8 c2.2.1
        (by show (f.b - f.a / s.a * s.b).natAbs * s.a.natAbs + s.b.natAbs * (f.a - f.a / s.a * s.a).natAbs ≤ M; rw [hr, hrn]; exact c1.1)
        (by show (f.c - f.a / s.a * s.c).natAbs * s.a.natAbs + s.c.natAbs * (f.a - f.a / s.a * s.a).natAbs ≤ M; rw [hr, hrn]; exact c2.1)
        h12 (by
          show f.a - f.a / s.a * s.a = a * (f.b - f.a / s.a * s.b) + b * (f.c - f.a / s.a * s.c)
          generalize f.a / s.a = t
          rw [h11, h12]; grind)
      exact ⟨g, s', q1, by rw [q2]; show ((Int.gcd s.a (f.a - f.a / s.a * s.a) : Nat) : Int) = _; rw [gcd_step], q3⟩
theorem inv_ok {a m : Int} {B : Nat} (hm : 0 < m) (hb : m.natAbs < 2 ^ B) (hB : B ≤ 8000) : (Int.gcd a m = 1 → ∃ i, m_inverse a m = .ok i ∧ 0 ≤ i ∧ i < m ∧ m ∣ a * i - 1) ∧ (Int.gcd a m ≠ 1 → m_inverse a m = .exc "NoInverse") := by
  have e0 := Int.emod_nonneg a (show m ≠ 0 by omega)
  have e1 := Int.emod_lt_of_pos a hm
  have hB0 : 0 < B := by
    rcases Nat.eq_zero_or_pos B with z | z
    · subst z; simp at hb; omega
    · exact z
  obtain ⟨g, s', q1, q2, q3⟩ := bez_loop (a := a % m) (b := m) (M := m.natAbs) hb hB0 hB m_bezout_k3 (m.natAbs + 1) (T3.mk (a % m) 1 0) (T3.mk m 0 1) e0 (by show 0 ≤ m; omega) (by show m < _; omega) (by show (a % m).natAbs ≤ _; omega) (by show m.natAbs ≤ _; omega) (by show 1 ≤ _; omega) (by show 0 ≤ _; omega) (by show 0 ≤ _; omega) (by show 1 ≤ _; omega)
    (by show 0 * (a % m).natAbs + 1 * m.natAbs ≤ _; omega) (by show 1 * (a % m).natAbs + 0 * m.natAbs ≤ _; omega) (by show a % m = a % m * 1 + m * 0; omega) (by show m = a % m * 0 + m * 1; omega)
  have q2 : g.a = (Int.gcd (a % m) m : Int) := q2
  have eg : Int.gcd (a % m) m = Int.gcd a m := by
    have : a % m = a - m * (a / m) := by have := Int.emod_add_mul_ediv a m; omega
    rw [this, Int.gcd_comm, Int.gcd_sub_mul_left_right, Int.gcd_comm]
  rw [eg] at q2
  have hbz : m_bezout (a % m) m = .ok g := by
    unfold m_bezout
    simp only [Res.bind_ok]
    rw [q1]
    unfold m_bezout_k3
    simp only [Res.bind_ok, cond_dec]
    rw [if_neg (by omega)]
  clear q1
  unfold m_inverse
  simp only [Res.bind_ok, need_bind, cond_not, cond_dec, Res.need_pos hm, hbz]
  constructor
  · intro h1
    rw [if_pos (by omega)]
    refine ⟨_, rfl, Int.emod_nonneg _ (by omega), Int.emod_lt_of_pos _ hm, ?_⟩
    have h2 : a % m * g.b + m * g.c = 1 := by omega
    have h3 := Int.emod_add_mul_ediv a m
    have h4 := Int.emod_add_mul_ediv g.b m
    generalize a % m = r at *
    generalize a / m = t at *
    generalize g.b % m = u at *
    generalize g.b / m = v at *
    refine ⟨t * u - r * v - g.c, ?_⟩
    rw [← h3]
    have h5 : u = g.b - m * v := by omega
    rw [h5]
    grind
  · intro h1
    rw [if_neg (by omega)]
/-! ### the inverse modulo a prime -/
theorem pinv {p : Nat} (h : Pr p) (a : Int) (ha : zm p a ≠ 0) : ∃ i, m_inverse a (p : Int) = .ok i ∧ Rs p i ∧ zm p i * zm p a = 1 := by
  have hp := h.pos
  have hg : Int.gcd a (p : Int) = 1 := by
    have : Nat.Coprime p a.natAbs := h.pr.cop fun d => ha (zm_dvd.mpr (Int.ofNat_dvd_left.mpr d))
    show Nat.gcd a.natAbs p = 1
    rw [Nat.gcd_comm]; exact this
  obtain ⟨i, e, i0, i1, i2⟩ := (inv_ok (a := a) (m := p) (B := 256) hp (by rw [Int.natAbs_natCast]; exact h.lt) (by decide)).1 hg
  refine ⟨i, e, ⟨i0, i1⟩, ?_⟩
  have := zm_dvd.mpr i2
  rw [zm_sub, zm_mul] at this
  have t : zm p 1 = 1 := rfl
  rw [t] at this
  grind
theorem pinv_f {p : Nat} [Prm p] (h : Pr p) (a : Int) (ha : zm p a ≠ 0) : ∃ i, m_inverse a (p : Int) = .ok i ∧ Rs p i ∧ zm p i = (zm p a)⁻¹ := by
  obtain ⟨i, e, r, q⟩ := pinv h a ha
  refine ⟨i, e, r, ?_⟩
  have := z_mul_inv ha
  grind

/-! ### the program's curve -/
theorem rwp_ok {p : Nat} (h : Pr p) (a : Int) (odd : Bool) : (m_root_with_parity a (p : Int) odd = .ok none ∧ (a % p ≠ 0 ∧ a ^ hf p % p = p - 1 ∨ a % p = 0 ∧ odd = true)) ∨ ∃ r, m_root_with_parity a (p : Int) odd = .ok (some r) ∧ 0 ≤ r ∧ r < p ∧ r * r % p = a % p ∧ (decide (r % 2 = 1) = odd) := by
  have hp := h.pos
  have ho := h.odd
  have h3 := h.ge
  have ti : ∀ r : Int, toD (some r) = D.int r := fun _ => rfl
  have ai : ∀ r : Int, D.asInt (D.int r) = .ok r := fun _ => rfl
  have nn : ∀ r : Int, (D.int r).isNon = false := fun _ => rfl
  have n0 : (toD (none : Option Int)).isNon = true := rfl
  have ok0 : ∀ r s : Int, (D.int r).okq = true ∧ (toD s).okq = true := fun _ _ => ⟨rfl, rfl⟩
  have td : ∀ s : Int, toD s = D.int s := fun _ => rfl
  have ne : ∀ r : Int, r ≠ 0 → pyEq (D.int r) (D.int 0) = false := fun r hr => pyEq_ne rfl rfl fun e => hr (D.int.inj e)
  have e0 : pyEq (D.int 0) (D.int 0) = true := pyEq_self rfl
  unfold m_root_with_parity
  rcases sroot_ok h a with ⟨q1, q2⟩ | ⟨q1, q2, q3⟩ | ⟨q1, q2, r, q3, q4, q5, q6⟩
  · simp only [Res.bind_ok, q1, ti, nn, cond_false, ai, cond_dec]
    cases odd
    · refine .inr ⟨0, ?_, by decide, by omega, by rw [q2]; rfl, rfl⟩
      rfl
    · refine .inl ⟨?_, .inr ⟨q2, rfl⟩⟩
      rw [if_pos rfl, if_neg (by decide), Res.need_pos (ok0 0 0), td, e0]
      rfl
  · simp only [Res.bind_ok, q3, n0, cond_true]
    exact .inl ⟨trivial, .inl ⟨q1, q2⟩⟩
  · simp only [Res.bind_ok, q3, ti, nn, cond_false, ai, cond_dec]
    by_cases c : r % 2 = if odd = true then (1 : Int) else 0
    · rw [if_pos c]
      refine .inr ⟨r, rfl, by omega, by omega, q6, ?_⟩
      cases odd
      · rw [if_neg (by decide)] at c; exact decide_eq_false (by omega)
      · rw [if_pos rfl] at c; exact decide_eq_true c
    · rw [if_neg c, Res.need_pos (ok0 r 0), td, ne r (by omega)]
      refine .inr ⟨p - r, rfl, by omega, by omega, ?_, ?_⟩
      · rw [← q6, show ((p : Int) - r) * (p - r) = r * r + p * (p - 2 * r) by grind, Int.add_mul_emod_self_left]
      · cases odd
        · rw [if_neg (by decide)] at c; exact decide_eq_false (by omega)
        · rw [if_pos rfl] at c; exact decide_eq_true (by omega)
theorem isres_int (i m : Int) : m_is_residue (D.int i) m = .ok (decide (0 ≤ i ∧ i < m)) := by
  have e1 : (toD (D.int i)).plain = true := rfl
  have e2 : isI "int" (toD (D.int i)) = true := rfl
  have e3 : isI "bool" (toD (D.int i)) = false := rfl
  have ai : D.asInt (D.int i) = .ok i := rfl
  unfold m_is_residue m_is_whole
  simp only [Res.bind_ok, Res.need_pos e1, e2, e3, cond_true, Bool.not_false, ai]
  by_cases h0 : 0 ≤ i <;> by_cases h1 : i < m <;> simp [h0, h1, Res.bind_ok]
theorem isres_bl (b : Bool) (m : Int) : m_is_residue (D.bl b) m = .ok false := by
  have e1 : (toD (D.bl b)).plain = true := rfl
  have e2 : isI "int" (toD (D.bl b)) = true := rfl
  have e3 : isI "bool" (toD (D.bl b)) = true := rfl
  unfold m_is_residue m_is_whole
  simp only [Res.bind_ok, Res.need_pos e1, e2, e3, cond_true, Bool.not_true, cond_false]
/-! ### primes with a small number that is no square -/
def Nz (p : Nat) : Prop := ∃ q : Nat, 2 ≤ q ∧ q ≤ 101 ∧ (q : Int) ^ hf p % (p : Int) = p - 1
theorem nz_of {p : Nat} (h : 0 < p) {q : Nat} (h2 : 2 ≤ q) (h3 : q ≤ 101) (e : q ^ ((p - 1) / 2) % p = p - 1) : Nz p := by
  refine ⟨q, h2, h3, ?_⟩
  have c : ((q : Int) ^ hf p % (p : Int)) = ((q ^ ((p - 1) / 2) % p : Nat) : Int) := by
    rw [Int.natCast_emod, Int.natCast_pow]
  rw [c, e]
  omega
theorem nz_small {p : Nat} (h : Pr p) (hl : p < 1015808) : Nz p := by
  obtain ⟨q, h2, h3, e⟩ := small_non h.pr h.odd hl
  exact nz_of (by have := h.ge; omega) h2 h3 e
theorem nz_g0 : Nz g0 := nz_of (by decide) (q := 2) (by decide) (by decide) (by
  rw [← pwm_one (n := g0) (f := 255) (by decide +kernel)]; decide +kernel)
theorem nz_g1 : Nz g1 := nz_of (by decide) (q := 3) (by decide) (by decide) (by
  rw [← pwm_one (n := g1) (f := 256) (by decide +kernel)]; decide +kernel)
theorem nz_g2 : Nz g2 := nz_of (by decide) (q := 3) (by decide) (by decide) (by
  rw [← pwm_one (n := g2) (f := 61) (by decide +kernel)]; decide +kernel)
theorem nz_g3 : Nz g3 := nz_of (by decide) (q := 3) (by decide) (by decide) (by
  rw [← pwm_one (n := g3) (f := 31) (by decide +kernel)]; decide +kernel)
theorem great4_get {z : Int} (h0 : 0 ≤ z) (h1 : z < 4) : ∃ p : Nat, idx ([(g0 : Int), g1, g2, g3] : List Int) z = .ok (p : Int) ∧ Pr p ∧ 5 ≤ p ∧ Nz p := by
  rcases (by omega : z = 0 ∨ z = 1 ∨ z = 2 ∨ z = 3) with rfl | rfl | rfl | rfl
  · exact ⟨g0, rfl, ⟨pr_57896044618658097711785492504343953926634992332820282019728792003956564819949, by decide +kernel, by decide +kernel⟩, by decide +kernel, nz_g0⟩
  · exact ⟨g1, rfl, ⟨pr_115792089237316195423570985008687907853269984665640564039457584007908834671663, by decide +kernel, by decide +kernel⟩, by decide +kernel, nz_g1⟩
  · exact ⟨g2, rfl, ⟨prime_m61, by decide +kernel, by decide +kernel⟩, by decide +kernel, nz_g2⟩
  · exact ⟨g3, rfl, ⟨prime_m31, by decide +kernel, by decide +kernel⟩, by decide +kernel, nz_g3⟩
theorem edwards_prime_ok (c : Int) : ∃ p : Nat, m_u_law_edwards_prime c = .ok (p : Int) ∧ Pr p ∧ 5 ≤ p ∧ Nz p := by
  have e64 : (2 : Int) ^ (64 : Int).toNat = 18446744073709551616 := by decide +kernel
  have e63 : (2 : Int) ^ (63 : Int).toNat = 9223372036854775808 := by decide +kernel
  have e61 : (2 : Int) ^ (61 : Int).toNat = 2305843009213693952 := by decide +kernel
  have e32 : (2 : Int) ^ (32 : Int).toNat = 4294967296 := by decide +kernel
  have e31 : (2 : Int) ^ (31 : Int).toNat = 2147483648 := by decide +kernel
  have e192 : (18446744073709551616 * 18446744073709551616 * 18446744073709551616 : Int) = 6277101735386680763835789423207666416102355444464034512896 := by decide +kernel
  have z0 := Int.emod_nonneg ((c.natAbs : Int) / 7) (show (4 : Int) ≠ 0 by decide)
  have z1 := Int.emod_lt_of_pos ((c.natAbs : Int) / 7) (show (0 : Int) < 4 by decide)
  unfold m_u_law_edwards_prime
  simp (decide := true) only [Res.bind_ok, need_bind, e64, e63, e61, e32, e31, need_bd, e192, cond_dec]
  by_cases hc : (c.natAbs : Int) % 7 = 3
  · rw [if_pos hc]
    exact great4_get z0 z1
  · rw [if_neg hc]
    obtain ⟨p, a1, a2, a3, a4⟩ := prime_okb (c / 7) (least := 5) (by decide) (by decide)
    exact ⟨p, a1, a2, a3, nz_small a2 a4⟩
theorem lclassp_ok {p : Nat} (h : Pr p) (a : Int) : m_u_law_class a (p : Int) = .ok (if a ^ hf p % p = p - 1 then -1 else a ^ hf p % p) := by
  have h3 := h.ge
  have hlt := h.lt
  have e : ((p : Int) - 1) / 2 = ((hf p : Nat) : Int) := by unfold hf; omega
  have hl : hf p < 2 ^ 256 := by unfold hf; omega
  unfold m_u_law_class
  simp only [Res.bind_ok, e, lpower_ok h _ _ hl, cond_dec]
  by_cases c : a ^ hf p % (p : Int) = p - 1
  · rw [if_pos c, if_pos c]
  · rw [if_neg c, if_neg c]
theorem lclass_non {p : Nat} (h : Pr p) (a : Int) : (∃ v, m_u_law_class a (p : Int) = .ok v ∧ (v = -1 ↔ a ^ hf p % (p : Int) = p - 1)) := by
  refine ⟨_, lclassp_ok h a, ?_⟩
  have := Int.emod_nonneg (a ^ hf p) (show (p : Int) ≠ 0 by have := h.ge; omega)
  by_cases c : a ^ hf p % (p : Int) = p - 1
  · rw [if_pos c]; exact ⟨fun _ => c, fun _ => rfl⟩
  · rw [if_neg c]; exact ⟨fun z => by omega, fun z => absurd z c⟩
/-! ### a and d of a law -/
theorem ln_loop {p : Nat} (h : Pr p) {q : Nat} (hq : (q : Int) ^ hf p % (p : Int) = p - 1) (k : Int → Res (T2 Int Int)) : ∀ (ks : List Int) (n : Nat), 2 ≤ n → n ≤ q → q < n + ks.length → ∃ l : Nat, m_u_law_numbers_l1 (p : Int) k ks (n : Int) = k (l : Int) ∧ 2 ≤ l ∧ l ≤ q ∧ (l : Int) ^ hf p % (p : Int) = p - 1 := by
  intro ks
  induction ks with
  | nil => intro n h1 h2 h3; rw [List.length_nil] at h3; omega
  | cons x r ih =>
    intro n h1 h2 h3
    rw [List.length_cons] at h3
    rw [m_u_law_numbers_l1]
    obtain ⟨v, e, i⟩ := lclass_non h (n : Int)
    simp only [Res.bind_ok, e]
    by_cases c : v = -1
    · rw [decide_eq_true c, cond_true]
      exact ⟨n, rfl, h1, h2, i.mp c⟩
    · rw [decide_eq_false c, cond_false]
      have : n ≠ q := fun z => c (i.mpr (by rw [z]; exact hq))
      obtain ⟨l, a1, a2, a3, a4⟩ := ih (n + 1) (by omega) (by omega) (by omega)
      exact ⟨l, a1, a2, a3, a4⟩
theorem pow_mul_i (x y : Int) : ∀ n : Nat, (x * y) ^ n = x ^ n * y ^ n
  | 0 => by rw [Int.pow_zero, Int.pow_zero, Int.pow_zero]; rfl
  | n + 1 => by
    rw [Int.pow_succ, Int.pow_succ, Int.pow_succ, pow_mul_i x y n]; ac_rfl
theorem sq_hf {p : Nat} (h : Pr p) {x : Int} (hx : zm p x ≠ 0) : (x * x) ^ hf p % (p : Int) = 1 := by
  have f := fermatI h.pr (a := x) fun d => hx (zm_dvd.mpr d)
  have e : 2 * hf p = p - 1 := by have := h.odd; unfold hf; omega
  rw [← ipow2, ← Int.pow_mul, e]; exact f
theorem hf_mod {p : Nat} (a : Int) : (a % (p : Int)) ^ hf p % (p : Int) = a ^ hf p % p := em_pow (em_em a p) _
theorem no_sq {p : Nat} (h : Pr p) {d : Int} (hd : d ^ hf p % (p : Int) = p - 1) : ∀ z : Zp p, z * z ≠ zm p d := by
  intro z
  refine Quot.inductionOn z fun z e => ?_
  have e : z * z % (p : Int) = d % p := zm_eq.mp e
  have h3 := h.ge
  have hz : zm p z ≠ 0 := by
    intro c
    have c : z % (p : Int) = 0 := zm_zero.mp c
    have : d % (p : Int) = 0 := by rw [← e, Int.mul_emod, c]; simp
    have q := hf_mod (p := p) d
    rw [this, hd] at q
    have : hf p = (hf p - 1) + 1 := by have := h.odd; unfold hf; omega
    rw [this, Int.pow_succ, Int.mul_zero, Int.zero_emod] at q
    omega
  have f := sq_hf h hz
  rw [← hf_mod, e, hf_mod, hd] at f
  omega
theorem sq_ex {p : Nat} (h : Pr p) {a : Int} (ha : a ^ hf p % (p : Int) = 1) : ∃ r : Zp p, r * r = zm p a ∧ r ≠ 0 := by
  obtain ⟨r, _, _, _, e⟩ := root_ok h ha
  refine ⟨zm p r, by rw [← zm_mul]; exact zm_eq.mpr e, fun c => ?_⟩
  have c : r % (p : Int) = 0 := zm_zero.mp c
  have : a % (p : Int) = 0 := by rw [← e, Int.mul_emod, c]; simp
  have q := hf_mod (p := p) a
  rw [this, ha] at q
  have : hf p = (hf p - 1) + 1 := by have := h.odd; have := h.ge; unfold hf; omega
  rw [this, Int.pow_succ, Int.mul_zero, Int.zero_emod] at q
  omega
class EvP (C : Ev) : Prop where
  pr : Pr C.p
instance (C : Ev) [h : EvP C] : Pb C.p := h.pr.pb
abbrev Ev.o (C : Ev) : O_EdwardsCurve := ⟨C.p, C.a, C.d⟩
theorem Ev.A (C : Ev) : Rs C.p C.a := ⟨C.a0, C.a1⟩
theorem Ev.D (C : Ev) : Rs C.p C.d := ⟨C.d0, C.d1⟩
theorem ev_ex {p : Nat} (h : Pr p) {a d : Int} (A : Rs p a) (D : Rs p d) (ha : a ^ hf p % (p : Int) = 1) (hd : d ^ hf p % (p : Int) = p - 1) : ∃ C : Ev, EvP C ∧ C.p = p ∧ C.a = a ∧ C.d = d :=
  ⟨⟨p, a, d, h.pr, h.ge, A.1, A.2, D.1, D.2, ⟨z_ne_num 2 (by decide) h.ge, sq_ex h ha, no_sq h hd⟩⟩, ⟨h⟩, rfl, rfl, rfl⟩
theorem einit_ok {p : Nat} (h : Pr p) (a d : Int) : m_EdwardsCurve_init (p : Int) a d = if a ^ hf p % (p : Int) = 1 ∧ d ^ hf p % (p : Int) = p - 1 then .ok ⟨p, a % p, d % p⟩ else .exc "Refused" := by
  have P := h.pb
  have ho := h.odd
  have h3 := h.ge
  have c1 : decide ((p : Int) < 3) = false := decide_eq_false (by omega)
  have c2 : decide ((p : Int) % 2 = 0) = false := decide_eq_false (by omega)
  have zero : ∀ x : Int, x % (p : Int) = 0 → x ^ hf p % (p : Int) = 0 := by
    intro x hx
    rw [← hf_mod, hx]
    have : hf p = (hf p - 1) + 1 := by unfold hf; omega
    rw [this, Int.pow_succ, Int.mul_zero, Int.zero_emod]
  have half : ∀ x : Int, x % (p : Int) ≠ 0 → x ^ hf p % (p : Int) ≠ 1 → x ^ hf p % (p : Int) = p - 1 := fun x hx h1 => (half_pow h.pr ho (a := x) (fun d => hx (Int.emod_eq_zero_of_dvd d))).resolve_left h1
  unfold m_EdwardsCurve_init
  simp (decide := true) only [Res.bind_ok, c1, c2, cond_false, need_bind, need_p, class_ok h]
  by_cases ha : a ^ hf p % (p : Int) = 1
  · have a0 : a % (p : Int) ≠ 0 := fun z => by rw [zero a z] at ha; omega
    rw [if_neg a0, if_pos ha]
    simp only [decide_true, Bool.not_true, cond_false]
    by_cases hd : d ^ hf p % (p : Int) = p - 1
    · have d0 : d % (p : Int) ≠ 0 := fun z => by rw [zero d z] at hd; omega
      rw [if_neg d0, if_neg (show ¬ d ^ hf p % (p : Int) = 1 by omega), if_pos (show a ^ hf p % (p : Int) = 1 ∧ d ^ hf p % (p : Int) = p - 1 from ⟨ha, hd⟩)]
      rfl
    · rw [if_neg (show ¬ (a ^ hf p % (p : Int) = 1 ∧ d ^ hf p % (p : Int) = p - 1) from fun z => hd z.2)]
      by_cases d0 : d % (p : Int) = 0
      · rw [if_pos d0]; rfl
      · rw [if_neg d0]
        have := mt (half d d0) hd
        rw [if_pos (Classical.not_not.mp this)]; rfl
  · rw [if_neg (show ¬ (a ^ hf p % (p : Int) = 1 ∧ d ^ hf p % (p : Int) = p - 1) from fun z => ha z.1)]
    by_cases a0 : a % (p : Int) = 0
    · rw [if_pos a0]; rfl
    · rw [if_neg a0, if_neg ha]; rfl
theorem numbers_ok {p : Nat} (h : Pr p) (hn : Nz p) (ns : List Int) {at_ : Int} (hat : 0 ≤ at_) : ∃ C : Ev, EvP C ∧ C.p = p ∧ m_u_law_numbers ns at_ (p : Int) = .ok (T2.mk C.a C.d) ∧ C.a ^ hf p % (p : Int) = 1 ∧ C.d ^ hf p % (p : Int) = p - 1 := by
  have P := h.pb
  have h3 := h.ge
  obtain ⟨c0, d0⟩ := cell_ex ns hat
  obtain ⟨c1, d1⟩ := cell_ex ns (show 0 ≤ at_ + 1 by omega)
  have hp1 : (0 : Int) < (p : Int) - 1 := by omega
  obtain ⟨r1, f1, R1⟩ := residue_ok hp1 c0
  obtain ⟨r2, f2, R2⟩ := residue_ok hp1 c1
  have X : Rs p (1 + r1) := ⟨by omega, by omega⟩
  have Y : Rs p (1 + r2) := ⟨by omega, by omega⟩
  have x0 : zm p (1 + r1) ≠ 0 := fun e => by
    have := zm_zero.mp e
    rw [Int.emod_eq_of_lt X.1 X.2] at this; omega
  have y0 : zm p (1 + r2) ≠ 0 := fun e => by
    have := zm_zero.mp e
    rw [Int.emod_eq_of_lt Y.1 Y.2] at this; omega
  have := X.bd
  have := Y.bd
  have hr : okRange (100 : Int) := ⟨by decide, by decide⟩
  have hlen : (pyRange 0 100).length = 100 := by rw [pyRange_len]; rfl
  obtain ⟨q, q1, q2, q3⟩ := hn
  unfold m_u_law_numbers
  simp only [Res.bind_ok, d0, d1, f1, f2, Res.need_pos hr]
  generalize pyRange 0 100 = ks at *
  obtain ⟨l, l1, l2, l3, l4⟩ := ln_loop h q3 (m_u_law_numbers_k3 (p : Int) (1 + r1) (1 + r2)) ks 2 (by decide) q1 (by omega)
  rw [show ((2 : Nat) : Int) = 2 from rfl] at l1
  rw [l1]
  have hb : Bd (l : Int) 8 := ⟨by rw [Int.natAbs_natCast]; omega⟩
  unfold m_u_law_numbers_k3
  simp (decide := true) only [Res.bind_ok, need_bind, need_bd, need_p]
  have ea : ((1 + r1) * (1 + r1) % (p : Int)) ^ hf p % (p : Int) = 1 := by rw [hf_mod]; exact sq_hf h x0
  have ed : ((l : Int) * (1 + r2) * (1 + r2) % (p : Int)) ^ hf p % (p : Int) = p - 1 := by
    rw [hf_mod, Int.mul_assoc, pow_mul_i, em_mul (x := (l : Int) ^ hf p) (u := (p : Int) - 1) (y := ((1 + r2) * (1 + r2)) ^ hf p) (v := 1), Int.mul_one]
    · exact Int.emod_eq_of_lt (by omega) (by omega)
    · rw [l4]; exact (Int.emod_eq_of_lt (by omega) (by omega)).symm
    · rw [sq_hf h y0]; exact (Int.emod_eq_of_lt (by decide) (by omega)).symm
  obtain ⟨C, hC, e1, e2, e3⟩ := ev_ex h (rs_mod ((1 + r1) * (1 + r1))) (rs_mod ((l : Int) * (1 + r2) * (1 + r2))) ea ed
  exact ⟨C, hC, e1, by rw [e2, e3], by rw [e2]; exact ea, by rw [e3]; exact ed⟩
theorem einit_C {C : Ev} [hC : EvP C] (ha : C.a ^ hf C.p % (C.p : Int) = 1) (hd : C.d ^ hf C.p % (C.p : Int) = C.p - 1) : m_EdwardsCurve_init (C.p : Int) C.a C.d = .ok C.o := by
  rw [einit_ok hC.pr, if_pos ⟨ha, hd⟩, Int.emod_eq_of_lt C.A.1 C.A.2, Int.emod_eq_of_lt C.D.1 C.D.2]

/-! ### points of an Edwards curve as the program keeps them -/
abbrev Q2 := T2 Int Int
def ef {C : Ev} (P : C.Pt) : Q2 := T2.mk (zv P.v.1) (zv P.v.2)
def OnD (p : Nat) (a d x y : Int) : Prop := (a * x * x + y * y - 1 - d * x * x * y * y) % (p : Int) = 0
instance (p : Nat) (a d x y : Int) : Decidable (OnD p a d x y) := inferInstanceAs (Decidable (_ = _))
theorem ond_z {p : Nat} {a d x y : Int} : OnD p a d x y ↔ OnE (zm p a) (zm p d) (zm p x, zm p y) := by
  unfold OnD OnE
  rw [← zm_zero]
  simp only [zm_sub, zm_mul, zm_add]
  have e : zm p 1 = 1 := rfl
  rw [e]
  constructor <;> intro h <;> grind
section
variable {C : Ev}
theorem ef_inj {P Q : C.Pt} (h : ef P = ef Q) : P = Q := Ev.ext (Prod.ext (zv_inj (congrArg T2.a h)) (zv_inj (congrArg T2.b h)))
theorem ef_rs (P : C.Pt) : Rs C.p (ef P).a ∧ Rs C.p (ef P).b := ⟨⟨zv_ge _, zv_lt _⟩, ⟨zv_ge _, zv_lt _⟩⟩
theorem ef_v (P : C.Pt) : P.v = (zm C.p (ef P).a, zm C.p (ef P).b) := by
  show P.v = (zm C.p (zv P.v.1), zm C.p (zv P.v.2))
  rw [zm_zv, zm_zv]
theorem ef_on (P : C.Pt) : OnD C.p C.a C.d (ef P).a (ef P).b := ond_z.mpr (by rw [← ef_v]; exact P.on)
theorem ef_ex {x y : Int} (hx : Rs C.p x) (hy : Rs C.p y) (ho : OnD C.p C.a C.d x y) : ∃ P : C.Pt, ef P = T2.mk x y :=
  ⟨⟨(zm C.p x, zm C.p y), ond_z.mp ho⟩, by
    show T2.mk (zv (zm C.p x)) (zv (zm C.p y)) = _
    rw [zv_of hx.1 hx.2, zv_of hy.1 hy.2]⟩
theorem ef_cases (P : C.Pt) : ∃ x y : Int, ef P = T2.mk x y ∧ Rs C.p x ∧ Rs C.p y ∧ OnD C.p C.a C.d x y ∧ P.v = (zm C.p x, zm C.p y) :=
  ⟨_, _, rfl, (ef_rs P).1, (ef_rs P).2, ef_on P, ef_v P⟩
theorem ef_zero : ef (0 : C.Pt) = T2.mk 0 1 := by
  show T2.mk (zv (zm C.p 0)) (zv (zm C.p 1)) = _
  rw [zv_of (by decide) (by have := C.ge; omega), zv_of (by decide) (by have := C.ge; omega)]
theorem qtoD (x y : Int) : toD (T2.mk x y) = D.tup [D.int x, D.int y] := rfl
theorem okq_q2 (q : Q2) : (toD q).okq = true := by obtain ⟨x, y⟩ := q; rfl
theorem nob_q2 (q : Q2) : (toD q).nob = true := by obtain ⟨x, y⟩ := q; rfl
theorem toD_q2_inj {P Q : Q2} (h : toD P = toD Q) : P = Q := by
  obtain ⟨x1, y1⟩ := P
  obtain ⟨x2, y2⟩ := Q
  rw [qtoD, qtoD] at h
  simp only [D.tup.injEq, List.cons.injEq, D.int.injEq, and_true] at h
  rw [h.1, h.2]
theorem pyEq_q2 (P Q : Q2) : pyEq (toD P) (toD Q) = true ↔ P = Q := (pyEq_dec (nob_q2 P) (nob_q2 Q)).trans ⟨toD_q2_inj, fun h => by rw [h]⟩
theorem pyEq_q2r (q : Q2) : pyEq (toD q) (toD q) = true := (pyEq_q2 q q).mpr rfl
noncomputable instance : DecidableEq C.Pt := fun a b => Classical.propDecidable _
theorem pyEq_ef (P Q : C.Pt) : pyEq (toD (ef P)) (toD (ef Q)) = decide (P = Q) := by
  by_cases h : P = Q
  · rw [decide_eq_true h, h]; exact pyEq_q2r _
  · rw [decide_eq_false h]
    cases e : pyEq (toD (ef P)) (toD (ef Q)) with
    | false => rfl
    | true => exact absurd (ef_inj ((pyEq_q2 _ _).mp e)) h
theorem ef_neg (P : C.Pt) : ef (-P) = T2.mk (-(ef P).a % C.p) (ef P).b := by
  have : (-P).v = (-P.v.1, P.v.2) := rfl
  show T2.mk (zv (-P).v.1) (zv (-P).v.2) = _
  rw [this]
  show T2.mk (zv (-P.v.1)) (zv P.v.2) = T2.mk (-(zv P.v.1) % C.p) (zv P.v.2)
  rw [← zv_zm, zm_neg, zm_zv]
theorem eneg_ok [hC : EvP C] (P : C.Pt) : m_EdwardsCurve_negate C.o (ef P) = .ok (ef (-P)) := by
  rw [ef_neg]
  unfold m_EdwardsCurve_negate
  simp only [Res.bind_ok, need_bind, need_p]
theorem ed_t {x1 y1 x2 y2 : Int} : zm C.p (C.d * x1 * x2 * y1 * y2) = zm C.p C.d * zm C.p x1 * zm C.p x2 * zm C.p y1 * zm C.p y2 := by
  simp only [zm_mul]
/-- the sum by its coordinates -/
theorem ef_add (P Q : C.Pt) {i j : Int} (hi : zm C.p i = (1 + zm C.p C.d * P.v.1 * Q.v.1 * P.v.2 * Q.v.2)⁻¹) (hj : zm C.p j = (1 - zm C.p C.d * P.v.1 * Q.v.1 * P.v.2 * Q.v.2)⁻¹) {X Y : Int}
    (hX : zm C.p X = (P.v.1 * Q.v.2 + P.v.2 * Q.v.1) * zm C.p i) (hY : zm C.p Y = (P.v.2 * Q.v.2 - zm C.p C.a * P.v.1 * Q.v.1) * zm C.p j) : ef (P + Q) = T2.mk (X % C.p) (Y % C.p) := by
  have e : (P + Q).v = ((P.v.1 * Q.v.2 + P.v.2 * Q.v.1) * (1 + zm C.p C.d * P.v.1 * Q.v.1 * P.v.2 * Q.v.2)⁻¹, (P.v.2 * Q.v.2 - zm C.p C.a * P.v.1 * Q.v.1) * (1 - zm C.p C.d * P.v.1 * Q.v.1 * P.v.2 * Q.v.2)⁻¹) := rfl
  show T2.mk (zv (P + Q).v.1) (zv (P + Q).v.2) = _
  rw [e, ← hi, ← hj, ← hX, ← hY]
  rfl
theorem ed_nep (P Q : C.Pt) : (1 + zm C.p C.d * P.v.1 * Q.v.1 * P.v.2 * Q.v.2) ≠ 0 := ed_p C.ec P.on Q.on
theorem ed_nem (P Q : C.Pt) : (1 - zm C.p C.d * P.v.1 * Q.v.1 * P.v.2 * Q.v.2) ≠ 0 := ed_m C.ec P.on Q.on
theorem linve_f {p : Nat} [Prm p] (h : Pr p) (x : Int) (hx : zm p x ≠ 0) : ∃ i, m_u_law_inverse x (p : Int) = .ok i ∧ Rs p i ∧ zm p i = (zm p x)⁻¹ := by
  have P := h.pb
  refine ⟨_, linv_ok h x, rs_mod _, ?_⟩
  have a := linv_z h x hx
  have := z_mul_inv hx
  grind
theorem leadd_ok [hC : EvP C] (P Q : C.Pt) : m_u_law_add (C.p : Int) C.a C.d (ef P) (ef Q) = .ok (ef (P + Q)) := by
  obtain ⟨x1, y1, e1, X1, Y1, O1, v1⟩ := ef_cases P
  obtain ⟨x2, y2, e2, X2, Y2, O2, v2⟩ := ef_cases Q
  have n1 := ed_nep P Q
  have n2 := ed_nem P Q
  rw [e1, e2]
  have := X1.bd
  have := X2.bd
  have := Y1.bd
  have := Y2.bd
  have := C.A.bd
  have := C.D.bd
  have E1 : zm C.p (1 + C.d * x1 * x2 * y1 * y2 % C.p) = 1 + zm C.p C.d * P.v.1 * Q.v.1 * P.v.2 * Q.v.2 := by rw [zm_add, zm_mod, ed_t, v1, v2]; rfl
  have E2 : zm C.p (1 - C.d * x1 * x2 * y1 * y2 % C.p) = 1 - zm C.p C.d * P.v.1 * Q.v.1 * P.v.2 * Q.v.2 := by rw [zm_sub, zm_mod, ed_t, v1, v2]; rfl
  obtain ⟨i, i1, i2, i3⟩ := linve_f hC.pr (1 + C.d * x1 * x2 * y1 * y2 % C.p) (by rw [E1]; exact n1)
  obtain ⟨j, j1, j2, j3⟩ := linve_f hC.pr (1 - C.d * x1 * x2 * y1 * y2 % C.p) (by rw [E2]; exact n2)
  have := i2.bd
  have := j2.bd
  unfold m_u_law_add
  simp (decide := true) only [Res.bind_ok, need_bind, need_bd, need_p, i1, j1]
  rw [ef_add P Q (i3.trans (by rw [E1])) (j3.trans (by rw [E2])) (X := (x1 * y2 + y1 * x2) * i) (Y := (y1 * y2 - C.a * x1 * x2) * j)]
  · rw [v1, v2, zm_mul, zm_add, zm_mul, zm_mul]
  · rw [v1, v2, zm_mul, zm_sub, zm_mul, zm_mul, zm_mul]
theorem leon_ok {p : Nat} [Pb p] {a d x y : Int} (ha : Rs p a) (hd : Rs p d) (hx : Rs p x) (hy : Rs p y) : m_u_law_on (p : Int) a d (D.tup [D.int x, D.int y]) = .ok (decide (OnD p a d x y)) := by
  have := ha.bd
  have := hd.bd
  have := hx.bd
  have := hy.bd
  have e1 : (toD (D.tup [D.int x, D.int y])).plain = true := rfl
  have e2 : isI "tuple" (toD (D.tup [D.int x, D.int y])) = true := rfl
  have e3 : D.lenR (D.tup [D.int x, D.int y]) = .ok 2 := rfl
  have e4 : D.asT2 (D.tup [D.int x, D.int y]) = .ok ⟨D.int x, D.int y⟩ := rfl
  have ai : ∀ i, D.asInt (D.int i) = .ok i := fun _ => rfl
  have n2 : (!decide ((2 : Int) = 2)) = false := by decide
  have b1 : ∀ {i : Int}, Rs p i → (decide (0 ≤ i)) = true := fun h => decide_eq_true h.1
  have b2 : ∀ {i : Int}, Rs p i → (decide (i < (p : Int))) = true := fun h => decide_eq_true h.2
  unfold m_u_law_on
  simp (decide := true) only [Res.bind_ok, e1, e2, e3, e4, Res.need_pos e1, Bool.not_true, cond_false, n2, isint_ok, ai, b1 hx, b2 hx, b1 hy, b2 hy, cond_true, need_bind, need_bd, need_p, need_true, decide_true, Bool.not_true, cond_false]
  rfl
theorem leon_ef [hC : EvP C] (P : C.Pt) : m_u_law_on (C.p : Int) C.a C.d (toD (ef P)) = .ok true := by
  obtain ⟨x, y, e, X, Y, O, v⟩ := ef_cases P
  rw [e, qtoD, leon_ok C.A C.D X Y, decide_eq_true O]
/-- no divisor of a lift is 0 -/
theorem ed_div {y : Zp C.p} : zm C.p C.d * (y * y) - zm C.p C.a ≠ 0 := by
  intro e
  obtain ⟨r, hr, r0⟩ := C.ec.sq
  have y0 : y ≠ 0 := by
    intro z
    subst z
    have : r * r = 0 := by rw [hr]; grind
    rcases z_dom C.pr this with q | q <;> exact r0 q
  have iv := z_mul_inv y0
  apply C.ec.non (r * y⁻¹)
  have : zm C.p C.d * (y * y) = r * r := by rw [hr]; grind
  have t : r * y⁻¹ * (r * y⁻¹) = (r * r) * (y⁻¹ * y⁻¹) := by grind
  rw [t, ← this]
  have u : zm C.p C.d * (y * y) * (y⁻¹ * y⁻¹) = zm C.p C.d * ((y * y⁻¹) * (y * y⁻¹)) := by grind
  rw [u, iv]; grind
theorem z_cm {p : Nat} (x y : Zp p) : x * y = y * x := by grind
theorem el_alg {p : Nat} {a d x y s i : Zp p} (hi : i * (d * (y * y) - a) = 1) (hs : s = (y * y - 1) * i) (hx : x * x = s) : a * x * x + y * y = 1 + d * x * x * y * y := by
  have : s * (d * (y * y) - a) = y * y - 1 := by
    rw [hs]
    have : (y * y - 1) * i * (d * (y * y) - a) = (y * y - 1) * (i * (d * (y * y) - a)) := by grind
    rw [this, hi]; grind
  rw [← hx] at this
  grind
/-- what a lift gives: nothing, if no x is there; or a point with this y -/
theorem elift_ok [hC : EvP C] {y : Int} (hy : Rs C.p y) (odd : Bool) : ∃ s : Int, zm C.p s = (zm C.p y * zm C.p y - 1) * (zm C.p C.d * (zm C.p y * zm C.p y) - zm C.p C.a)⁻¹ ∧ ((m_EdwardsCurve_lift C.o y odd = .ok none ∧ (s % C.p ≠ 0 ∧ s ^ hf C.p % C.p = C.p - 1 ∨ s % C.p = 0 ∧ odd = true)) ∨
    ∃ (x : Int) (P : C.Pt), m_EdwardsCurve_lift C.o y odd = .ok (some (T2.mk x y)) ∧ ef P = T2.mk x y ∧ x * x % C.p = s % C.p ∧ decide (x % 2 = 1) = odd) := by
  have := hy.bd
  have := C.A.bd
  have := C.D.bd
  have E1 : zm C.p (C.d * y ^ 2 - C.a) = zm C.p C.d * (zm C.p y * zm C.p y) - zm C.p C.a := by
    rw [ipow2, zm_sub, zm_mul, zm_mul]
  obtain ⟨i, i1, i2, i3⟩ := pinv_f hC.pr (C.d * y ^ 2 - C.a) (by rw [E1]; exact ed_div)
  have := i2.bd
  have o1 : ∀ r : Int, (toD (some r)).isNon = false := fun _ => rfl
  have o2 : (toD (none : Option Int)).isNon = true := rfl
  have b1 : (!decide (0 ≤ y ∧ y < (C.p : Int))) = false := by rw [decide_eq_true (show 0 ≤ y ∧ y < (C.p : Int) from hy)]; rfl
  have ty : toD y = D.int y := rfl
  have S : zm C.p ((y ^ 2 - 1) * i) = (zm C.p y * zm C.p y - 1) * (zm C.p C.d * (zm C.p y * zm C.p y) - zm C.p C.a)⁻¹ := by
    rw [zm_mul, zm_sub, ipow2, zm_mul, i3, E1]; rfl
  refine ⟨(y ^ 2 - 1) * i, S, ?_⟩
  unfold m_EdwardsCurve_lift
  simp (decide := true) only [Res.bind_ok, ty, isres_int, b1, cond_false, need_bind, need_bd, need_p, need_pw2, tn2, i1]
  rcases rwp_ok hC.pr ((y ^ 2 - 1) * i) odd with ⟨q1, q2⟩ | ⟨r, q1, q2, q3, q4, q5⟩
  · simp only [q1, Res.bind_ok, o2, cond_true]
    exact .inl ⟨trivial, q2⟩
  · have ag : ∀ r : Int, optGet (some r) = .ok r := fun _ => rfl
    have tr : toD r = D.int r := rfl
    simp only [q1, Res.bind_ok, o1, cond_false, ag]
    have hd := ed_div (C := C) (y := zm C.p y)
    have iv := z_mul_inv hd
    have sq := zm_eq.mpr q4
    rw [zm_mul] at sq
    obtain ⟨P, hP⟩ := ef_ex (C := C) (x := r) (y := y) ⟨q2, q3⟩ hy (ond_z.mpr (el_alg (i := (zm C.p C.d * (zm C.p y * zm C.p y) - zm C.p C.a)⁻¹) (by rw [z_cm]; exact iv) S sq))
    exact .inr ⟨r, P, rfl, hP, q4, q5⟩
theorem elift_out {y : Int} (hy : ¬ Rs C.p y) (odd : Bool) : m_EdwardsCurve_lift C.o y odd = .ok none := by
  have b1 : (!decide (0 ≤ y ∧ y < (C.p : Int))) = true := by rw [decide_eq_false (show ¬ (0 ≤ y ∧ y < (C.p : Int)) from hy)]; rfl
  have ty : toD y = D.int y := rfl
  unfold m_EdwardsCurve_lift
  simp only [Res.bind_ok, ty, isres_int, b1, cond_true]
/-- the law's points -/
theorem ef_two [hC : EvP C] : ∃ P : C.Pt, ef P = T2.mk 0 ((C.p : Int) - 1) := by
  refine ef_ex ⟨by decide, by have := C.ge; omega⟩ ⟨by have := C.ge; omega, by omega⟩ ?_
  rw [ond_z]
  have e1 : zm C.p ((C.p : Int) - 1) = -1 := by
    rw [zm_sub, show zm C.p (C.p : Int) = 0 from zm_zero.mpr (Int.emod_self)]
    show (0 : Zp C.p) - 1 = -1
    grind
  rw [e1]
  show zm C.p C.a * 0 * 0 + -1 * -1 = 1 + zm C.p C.d * 0 * 0 * -1 * -1
  grind
theorem elifted_loop [hC : EvP C] (k : Unit → Res Q2) {S : C.Pt} (hk : k () = .ok (ef S)) (cell y : Int) : ∀ ks : List Int, ∃ R : C.Pt, m_u_law_lifted_l1 C.o (C.p : Int) C.a C.d cell y k ks () = .ok (ef R)
  | [] => ⟨S, by rw [m_u_law_lifted_l1]; exact hk⟩
  | i :: r => by
    obtain ⟨R, hR⟩ := elifted_loop k hk cell y r
    rw [m_u_law_lifted_l1]
    simp (decide := true) only [Res.bind_ok, need_bind, need_p]
    obtain ⟨s, hs, q⟩ := elift_ok (C := C) (rs_mod (y + i)) (decide ((cell.natAbs : Int) / 2 % 2 = 1))
    rcases q with ⟨q, _⟩ | ⟨x, T, q, hT, _⟩
    · have n0 : (toD (none : Option Q2)).isNon = true := rfl
      simp only [q, Res.bind_ok, n0, Bool.not_true, cond_false]
      exact ⟨R, hR⟩
    · have n1 : (toD (some (T2.mk x ((y + i) % (C.p : Int))))).isNon = false := rfl
      have t1 : toD (some (T2.mk x ((y + i) % (C.p : Int)))) = toD (ef T) := by rw [hT]; rfl
      have og : optGet (some (T2.mk x ((y + i) % (C.p : Int)))) = .ok (T2.mk x ((y + i) % (C.p : Int))) := rfl
      simp only [q, Res.bind_ok, n1, Bool.not_false, cond_true, og]
      rw [t1, leon_ef]
      simp only [Res.bind_ok, cond_true]
      exact ⟨T, by rw [hT]⟩
theorem elifted_ok [hC : EvP C] (cell : Int) : ∃ R : C.Pt, m_u_law_lifted C.o (C.p : Int) C.a C.d cell = .ok (ef R) := by
  have hp := hC.pr.pos
  obtain ⟨x, e, X⟩ := residue_ok hp cell
  have hr : okRange (10 : Int) := ⟨by decide, by decide⟩
  obtain ⟨S, hS⟩ := ef_two (C := C)
  unfold m_u_law_lifted
  simp only [Res.bind_ok, e, Res.need_pos hr]
  refine elifted_loop _ (S := S) ?_ cell _ _
  unfold m_u_law_lifted_k2
  simp only [Res.bind_ok]
  rw [hS]
end

/-! ### bits from the top -/
theorem compL_mapM {α β : Type} {e : α → Res β} {g : α → β} {xs : List α} (he : ∀ x ∈ xs, e x = .ok (g x)) : compL (fun _ => .ok true) e xs = .ok (xs.map g) := compL_map (fun _ _ => rfl) he
theorem pyDown_pos {i j k : Int} (h : k ∈ pyDown i j) : j < k := by
  unfold pyDown at h
  obtain ⟨a, ha, rfl⟩ := List.mem_map.mp h
  have := List.mem_range.mp ha
  omega
theorem top_ok {n : Nat} (hn : n < 2 ^ 16000000) : m_bits_from_top (n : Int) = .ok ((pyDown ((Builtin.Int.intBits (n : Int) : Nat) - 1 : Int) (-1)).map fun at_ => (n : Int) / 2 ^ at_.toNat % 2) := by
  have hb : Builtin.Int.intBits (n : Int) ≤ 16000000 := le_ibits (by rw [Int.natAbs_natCast]; exact hn)
  generalize hB : Builtin.Int.intBits (n : Int) = B at *
  have r1 : okRange ((B : Int) - 1) := ⟨by omega, by omega⟩
  have r2 : okRange (-1 : Int) := ⟨by decide, by decide⟩
  have hl : (pyDown ((B : Int) - 1) (-1)).length ≤ 16777216 := by rw [pyDown_len]; omega
  unfold m_bits_from_top
  simp only [Res.bind_ok, hB, Res.need_pos (⟨r1, r2⟩ : okRange ((B : Int) - 1) ∧ okRange (-1 : Int)), Res.need_pos hl]
  refine compL_mapM fun x hx => ?_
  have := pyDown_pos hx
  rw [Res.need_pos (by omega)]
  simp only [Res.bind_ok, bit1]
theorem ibits_lt {n : Nat} : n / 2 ^ (Builtin.Int.intBits (n : Int)) = 0 := by
  refine Nat.div_eq_of_lt ?_
  have := ibits_le (Nat.le_refl (Builtin.Int.intBits (n : Int)))
  rwa [Int.natAbs_natCast] at this
/-! ### extended coordinates -/
abbrev E4 := T4 Int Int Int Int
structure Rs4 (p : Nat) (t : E4) : Prop where
  a : Rs p t.a
  b : Rs p t.b
  c : Rs p t.c
  e : Rs p t.e
/-- the tuple stands for the point -/
structure Xc (C : Ev) (t : E4) (P : C.Pt) : Prop where
  c : zm C.p t.c ≠ 0
  a : zm C.p t.a = P.v.1 * zm C.p t.c
  b : zm C.p t.b = P.v.2 * zm C.p t.c
  e : zm C.p t.e = P.v.1 * P.v.2 * zm C.p t.c
def xsum (C : Ev) (t u : E4) : E4 :=
  ⟨(t.a * u.b + t.b * u.a) * (t.c * u.c - C.d * t.e * u.e) % C.p, (t.c * u.c + C.d * t.e * u.e) * (t.b * u.b - C.a * t.a * u.a) % C.p,
   (t.c * u.c - C.d * t.e * u.e) * (t.c * u.c + C.d * t.e * u.e) % C.p, (t.a * u.b + t.b * u.a) * (t.b * u.b - C.a * t.a * u.a) % C.p⟩
section
variable {p : Nat}
theorem xs_t {x1 y1 z1 x2 y2 z2 d : Zp p} : d * (x1 * y1 * z1) * (x2 * y2 * z2) = d * x1 * x2 * y1 * y2 * (z1 * z2) := by grind
theorem xs_e {x1 y1 z1 x2 y2 z2 : Zp p} : x1 * z1 * (y2 * z2) + y1 * z1 * (x2 * z2) = (x1 * y2 + y1 * x2) * (z1 * z2) := by grind
theorem xs_h {x1 y1 z1 x2 y2 z2 a : Zp p} : y1 * z1 * (y2 * z2) - a * (x1 * z1) * (x2 * z2) = (y1 * y2 - a * x1 * x2) * (z1 * z2) := by grind
theorem xs_f {w t : Zp p} : w - t * w = (1 - t) * w := by grind
theorem xs_g {w t : Zp p} : w + t * w = (1 + t) * w := by grind
theorem xs_1 {e w u v i : Zp p} (h : u * i = 1) : e * w * (v * w) = e * i * (v * w * (u * w)) := by
  have : e * i * (v * w * (u * w)) = e * w * (v * w) * (u * i) := by grind
  rw [this, h]; grind
theorem xs_2 {h w u v j : Zp p} (e : v * j = 1) : u * w * (h * w) = h * j * (v * w * (u * w)) := by
  have : h * j * (v * w * (u * w)) = u * w * (h * w) * (v * j) := by grind
  rw [this, e]; grind
theorem xs_3 {e h w u v i j : Zp p} (h1 : u * i = 1) (h2 : v * j = 1) : e * w * (h * w) = e * i * (h * j) * (v * w * (u * w)) := by
  have : e * i * (h * j) * (v * w * (u * w)) = e * w * (h * w) * (u * i) * (v * j) := by grind
  rw [this, h1, h2]; grind
end
section
variable {C : Ev}
theorem xsum_rs [hC : EvP C] (t u : E4) : Rs4 C.p (xsum C t u) := ⟨rs_mod _, rs_mod _, rs_mod _, rs_mod _⟩
theorem xsum_ok [hC : EvP C] {t u : E4} {P Q : C.Pt} (h : Xc C t P) (k : Xc C u Q) : Xc C (xsum C t u) (P + Q) := by
  have n1 := ed_nep P Q
  have n2 := ed_nem P Q
  have u1 := z_mul_inv n1
  have u2 := z_mul_inv n2
  have e1 : (P + Q).v = ((P.v.1 * Q.v.2 + P.v.2 * Q.v.1) * (1 + zm C.p C.d * P.v.1 * Q.v.1 * P.v.2 * Q.v.2)⁻¹, (P.v.2 * Q.v.2 - zm C.p C.a * P.v.1 * Q.v.1) * (1 - zm C.p C.d * P.v.1 * Q.v.1 * P.v.2 * Q.v.2)⁻¹) := rfl
  have W := z_mul_ne C.pr h.c k.c
  have F : zm C.p (t.c * u.c - C.d * t.e * u.e) = (1 - zm C.p C.d * P.v.1 * Q.v.1 * P.v.2 * Q.v.2) * (zm C.p t.c * zm C.p u.c) := by
    rw [zm_sub, zm_mul, zm_mul, zm_mul, h.e, k.e, xs_t, xs_f]
  have G : zm C.p (t.c * u.c + C.d * t.e * u.e) = (1 + zm C.p C.d * P.v.1 * Q.v.1 * P.v.2 * Q.v.2) * (zm C.p t.c * zm C.p u.c) := by
    rw [zm_add, zm_mul, zm_mul, zm_mul, h.e, k.e, xs_t, xs_g]
  have E : zm C.p (t.a * u.b + t.b * u.a) = (P.v.1 * Q.v.2 + P.v.2 * Q.v.1) * (zm C.p t.c * zm C.p u.c) := by
    rw [zm_add, zm_mul, zm_mul, h.a, h.b, k.a, k.b, xs_e]
  have H : zm C.p (t.b * u.b - C.a * t.a * u.a) = (P.v.2 * Q.v.2 - zm C.p C.a * P.v.1 * Q.v.1) * (zm C.p t.c * zm C.p u.c) := by
    rw [zm_sub, zm_mul, zm_mul, zm_mul, h.a, h.b, k.a, k.b, xs_h]
  have Z : zm C.p (xsum C t u).c = zm C.p (t.c * u.c - C.d * t.e * u.e) * zm C.p (t.c * u.c + C.d * t.e * u.e) := by
    show zm C.p (_ % (C.p : Int)) = _
    rw [zm_mod, zm_mul]
  refine ⟨?_, ?_, ?_, ?_⟩
  · rw [Z, F, G]
    exact z_mul_ne C.pr (z_mul_ne C.pr n2 W) (z_mul_ne C.pr n1 W)
  · rw [Z, e1]
    show zm C.p (_ % (C.p : Int)) = _
    rw [zm_mod, zm_mul, E, F, G]
    exact xs_1 u1
  · rw [Z, e1]
    show zm C.p (_ % (C.p : Int)) = _
    rw [zm_mod, zm_mul, H, F, G]
    exact xs_2 u2
  · rw [Z, e1]
    show zm C.p (_ % (C.p : Int)) = _
    rw [zm_mod, zm_mul, E, H, F, G]
    exact xs_3 u1 u2
theorem erz {p : Nat} {x y : Int} (h : zm p x = zm p y) : x % (p : Int) = y % p := zm_eq.mp h
theorem addx_ok [hC : EvP C] {t u : E4} (ht : Rs4 C.p t) (hu : Rs4 C.p u) : m_add_extended C.o t u = .ok (xsum C t u) := by
  have := ht.a.bd
  have := ht.b.bd
  have := ht.c.bd
  have := ht.e.bd
  have := hu.a.bd
  have := hu.b.bd
  have := hu.c.bd
  have := hu.e.bd
  have := C.A.bd
  have := C.D.bd
  unfold m_add_extended xsum
  simp (decide := true) only [Res.bind_ok, need_bind, need_bd, need_p]
  congr 2
  · refine erz ?_
    simp only [zm_mul, zm_mod, zm_add, zm_sub]
  · refine erz ?_
    simp only [zm_mul, zm_mod, zm_add, zm_sub]
  · refine erz ?_
    simp only [zm_mul, zm_mod, zm_add, zm_sub]
  · refine erz ?_
    simp only [zm_mul, zm_mod, zm_add, zm_sub]
theorem tox_ok [hC : EvP C] (P : C.Pt) : ∃ t, m_to_extended C.o (ef P) = .ok t ∧ Rs4 C.p t ∧ Xc C t P ∧ t = ⟨(ef P).a, (ef P).b, 1, (ef P).a * (ef P).b % C.p⟩ := by
  obtain ⟨x, y, e, X, Y, O, v⟩ := ef_cases P
  have := X.bd
  have := Y.bd
  have h3 := C.ge
  rw [e]
  unfold m_to_extended
  simp (decide := true) only [Res.bind_ok, need_bind, need_bd, need_p]
  refine ⟨_, rfl, ⟨X, Y, ⟨(show (0 : Int) ≤ 1 by decide), (show (1 : Int) < C.p by omega)⟩, rs_mod _⟩, ⟨?_, ?_, ?_, ?_⟩, rfl⟩
  · show zm C.p 1 ≠ 0
    exact z_ne_num 1 (by decide) (by omega)
  · rw [v]; show zm C.p x = zm C.p x * 1; grind
  · rw [v]; show zm C.p y = zm C.p y * 1; grind
  · rw [v]; show zm C.p (x * y % C.p) = zm C.p x * zm C.p y * 1; rw [zm_mod, zm_mul]; grind
theorem x_back {p : Nat} {x z i : Zp p} (h : z * i = 1) : x * z * i = x := by
  have : x * z * i = x * (z * i) := by grind
  rw [this, h]; grind
theorem fromx_ok [hC : EvP C] {t : E4} {P : C.Pt} (ht : Rs4 C.p t) (h : Xc C t P) : m_from_extended C.o t = .ok (ef P) := by
  obtain ⟨x, y, e, X, Y, O, v⟩ := ef_cases P
  have := ht.a.bd
  have := ht.b.bd
  obtain ⟨i, i1, i2, i3⟩ := pinv_f hC.pr t.c h.c
  have := i2.bd
  have iv := z_mul_inv h.c
  unfold m_from_extended
  simp (decide := true) only [Res.bind_ok, need_bind, need_bd, need_p, i1]
  rw [e]
  congr 2
  · refine Eq.trans (erz (y := x) ?_) (Int.emod_eq_of_lt X.1 X.2)
    rw [zm_mul, h.a, i3, x_back iv, v]
  · refine Eq.trans (erz (y := y) ?_) (Int.emod_eq_of_lt Y.1 Y.2)
    rw [zm_mul, h.b, i3, x_back iv, v]
theorem x_d {p : Nat} (x y z w : Zp p) : x * z * w - y * w * z = (z * w) * (x - y) := by grind
theorem samex_ok [hC : EvP C] {t u : E4} {P Q : C.Pt} (ht : Rs4 C.p t) (hu : Rs4 C.p u) (h : Xc C t P) (k : Xc C u Q) : m_same_extended C.o t u = .ok (decide (P = Q)) := by
  have := ht.a.bd
  have := ht.b.bd
  have := ht.c.bd
  have := hu.a.bd
  have := hu.b.bd
  have := hu.c.bd
  have W := z_mul_ne C.pr h.c k.c
  unfold m_same_extended
  simp (decide := true) only [Res.bind_ok, need_bind, need_bd, need_p]
  have i1 : (t.a * u.c - u.a * t.c) % (C.p : Int) = 0 ↔ P.v.1 = Q.v.1 := by
    rw [← zm_zero, zm_sub, zm_mul, zm_mul, h.a, k.a, x_d]
    constructor
    · intro e
      have := z_cancel C.pr W e
      grind
    · intro e; rw [e]; grind
  have i2 : (t.b * u.c - u.b * t.c) % (C.p : Int) = 0 ↔ P.v.2 = Q.v.2 := by
    rw [← zm_zero, zm_sub, zm_mul, zm_mul, h.b, k.b, x_d]
    constructor
    · intro e
      have := z_cancel C.pr W e
      grind
    · intro e; rw [e]; grind
  by_cases c1 : (t.a * u.c - u.a * t.c) % (C.p : Int) = 0
  · by_cases c2 : (t.b * u.c - u.b * t.c) % (C.p : Int) = 0
    · rw [decide_eq_true c1, decide_eq_true c2, decide_eq_true (Ev.ext (Prod.ext (i1.mp c1) (i2.mp c2)))]; rfl
    · rw [decide_eq_true c1, decide_eq_false c2, decide_eq_false (show ¬ P = Q from fun z => c2 (i2.mpr (by rw [z])))]; rfl
  · rw [decide_eq_false c1, decide_eq_false (show ¬ P = Q from fun z => c1 (i1.mpr (by rw [z])))]; rfl
theorem multx_loop [hC : EvP C] {S : C.Pt} {s : E4} (hs : Rs4 C.p s) (xs : Xc C s S) (n : Nat) (k : E4 → Res Q2) : ∀ (j : Nat) (r : E4), Rs4 C.p r → Xc C r (nsm (n / 2 ^ j) S) →
    ∃ r', m_multiply_extended_l1 C.o s k ((pyDown ((j : Int) - 1) (-1)).map fun at_ => (n : Int) / 2 ^ at_.toNat % 2) r = k r' ∧ Rs4 C.p r' ∧ Xc C r' (nsm n S) := by
  intro j
  induction j with
  | zero =>
    intro r h1 h2
    refine ⟨r, ?_, h1, by simpa using h2⟩
    rw [pyDown_nil (by omega), List.map_nil, m_multiply_extended_l1]
  | succ j ih =>
    intro r h1 h2
    have e1 : ((j + 1 : Nat) : Int) - 1 = (j : Int) := by omega
    have pw : (n : Int) / 2 ^ (j : Int).toNat = ((n / 2 ^ j : Nat) : Int) := by
      rw [Int.toNat_natCast, Int.natCast_ediv, Int.natCast_pow]; rfl
    have dd : n / 2 ^ (j + 1) = n / 2 ^ j / 2 := by rw [Nat.pow_succ, Nat.div_div_eq_div_mul]
    rw [dd] at h2
    generalize hm : n / 2 ^ j = m at *
    have e2 : nsm m S = nsm (m / 2) S + nsm (m / 2) S + nsm (m % 2) S := by
      rw [← nsm_add, ← nsm_add]; congr 1; omega
    rw [e1, pyDown_cons (by omega), List.map_cons, pw, m_multiply_extended_l1]
    have rr := xsum_rs (C := C) r r
    have xr := xsum_ok h2 h2
    simp only [Res.bind_ok, addx_ok h1 h1]
    by_cases c : (m : Int) % 2 = 1
    · rw [decide_eq_true c, cond_true]
      simp only [addx_ok rr hs, Res.bind_ok]
      refine ih _ (xsum_rs _ _) ?_
      rw [e2, show m % 2 = 1 by omega, nsm_one]
      exact xsum_ok xr xs
    · rw [decide_eq_false c, cond_false]
      refine ih _ rr ?_
      rw [e2, show m % 2 = 0 by omega, nsm_zero, g_add_zero]
      exact xr
theorem x_zero [hC : EvP C] : Rs4 C.p k_NEUTRAL_FOUR ∧ Xc C k_NEUTRAL_FOUR 0 := by
  have h3 := C.ge
  have one : (1 : Zp C.p) ≠ 0 := z_ne_num 1 (by decide) (by omega)
  refine ⟨⟨⟨(show (0 : Int) ≤ 0 by decide), (show (0 : Int) < C.p by omega)⟩, ⟨(show (0 : Int) ≤ 1 by decide), (show (1 : Int) < C.p by omega)⟩, ⟨(show (0 : Int) ≤ 1 by decide), (show (1 : Int) < C.p by omega)⟩, ⟨(show (0 : Int) ≤ 0 by decide), (show (0 : Int) < C.p by omega)⟩⟩, ⟨one, ?_, ?_, ?_⟩⟩
  · show (0 : Zp C.p) = 0 * 1; grind
  · show (1 : Zp C.p) = 1 * 1; grind
  · show (0 : Zp C.p) = 0 * 1 * 1; grind
theorem multx_ok [hC : EvP C] {f : Int} (hf : f.natAbs < 2 ^ 16000000) (P : C.Pt) : m_multiply_extended C.o f (ef P) = .ok (ef (zsm f P)) := by
  have key : ∀ (S : C.Pt), nsm f.natAbs S = zsm f P → ∀ s : E4, m_to_extended C.o (ef S) = .ok s → Rs4 C.p s → Xc C s S → m_multiply_extended_l1 C.o s (m_multiply_extended_k2 C.o) ((pyDown ((Builtin.Int.intBits (f.natAbs : Int) : Nat) - 1 : Int) (-1)).map fun at_ => (f.natAbs : Int) / 2 ^ at_.toNat % 2) k_NEUTRAL_FOUR = .ok (ef (zsm f P)) := by
    intro S hS s e1 e2 e3
    obtain ⟨r', a1, a2, a3⟩ := multx_loop e2 e3 f.natAbs (m_multiply_extended_k2 C.o) (Builtin.Int.intBits (f.natAbs : Int)) k_NEUTRAL_FOUR x_zero.1 (by rw [ibits_lt, nsm_zero]; exact x_zero.2)
    rw [a1]
    unfold m_multiply_extended_k2
    simp only [Res.bind_ok, fromx_ok a2 a3, hS]
  unfold m_multiply_extended
  by_cases c : f < 0
  · obtain ⟨s, e1, e2, e3, _⟩ := tox_ok (-P)
    have hS : nsm f.natAbs (-P) = zsm f P := by
      rw [nsm_neg, ← zsm_neg_nat]; congr 1; omega
    have q := key (-P) hS s e1 e2 e3
    simp only [Res.bind_ok, decide_eq_true c, cond_true, eneg_ok, e1, top_ok hf]
    exact q
  · obtain ⟨s, e1, e2, e3, _⟩ := tox_ok P
    have hS : nsm f.natAbs P = zsm f P := by
      rw [← zsm_nat]; congr 1; omega
    have q := key P hS s e1 e2 e3
    simp only [Res.bind_ok, decide_eq_false c, cond_false, e1, top_ok hf]
    exact q
end

section
variable {C : Ev} [hC : EvP C]
theorem okq_e4 (t : E4) : (toD t).okq = true := by obtain ⟨x, y, z, w⟩ := t; rfl
theorem eq_e4 (t : E4) : pyEq (toD t) (toD t) = true := by obtain ⟨x, y, z, w⟩ := t; exact pyEq_self rfl
theorem ltup_ok (P : C.Pt) {s : Int} (hs : Rs C.p s) (h0 : zm C.p s ≠ 0) : ∃ t, m_u_law_tuple (ef P) s (C.p : Int) = .ok t ∧ Rs4 C.p t ∧ Xc C t P ∧ t = ⟨(ef P).a * s % C.p, (ef P).b * s % C.p, s, (ef P).a * (ef P).b * s % C.p⟩ := by
  obtain ⟨x, y, e, X, Y, O, v⟩ := ef_cases P
  have := X.bd
  have := Y.bd
  have := hs.bd
  rw [e]
  unfold m_u_law_tuple
  simp (decide := true) only [Res.bind_ok, need_bind, need_bd, need_p]
  refine ⟨_, rfl, ⟨rs_mod _, rs_mod _, hs, rs_mod _⟩, ⟨h0, ?_, ?_, ?_⟩, rfl⟩
  · rw [v]; dsimp only; rw [zm_mod, zm_mul]
  · rw [v]; dsimp only; rw [zm_mod, zm_mul]
  · rw [v]; dsimp only; rw [zm_mod, zm_mul, zm_mul]
theorem lxsum_ok {t u : E4} (ht : Rs4 C.p t) (hu : Rs4 C.p u) : m_u_law_sum (C.p : Int) C.a C.d t u = .ok (xsum C t u) := by
  have := ht.a.bd
  have := ht.b.bd
  have := ht.c.bd
  have := ht.e.bd
  have := hu.a.bd
  have := hu.b.bd
  have := hu.c.bd
  have := hu.e.bd
  have := C.A.bd
  have := C.D.bd
  obtain ⟨t1, t2, t3, t4⟩ := t
  obtain ⟨u1, u2, u3, u4⟩ := u
  unfold m_u_law_sum xsum
  simp (decide := true) only [Res.bind_ok, need_bind, need_bd, need_p]
theorem l10_loop (k : Q2 × Q2 × Int → Res Bool) : ∀ (ks : List Int) (R D : C.Pt) (n : Nat), n < 2 ^ ks.length → ∃ D' : C.Pt, m_law_l10 (C.p : Int) C.a C.d k ks (ef R, ef D, (n : Int)) = k (ef (R + nsm n D), ef D', 0)
  | [], R, D, n, h => by
    have : n = 0 := by simpa using h
    subst this
    exact ⟨D, by rw [m_law_l10, nsm_zero, g_add_zero]; rfl⟩
  | x :: r, R, D, n, h => by
    rw [List.length_cons, Nat.pow_succ] at h
    rw [m_law_l10]
    have e2 : ((n : Nat) : Int) / 2 = ((n / 2 : Nat) : Int) := by omega
    have e3 : nsm n D = nsm (n % 2) D + nsm (n / 2) (D + D) := by
      have : D + D = nsm 2 D := by rw [nsm_succ, nsm_one]
      rw [this, ← nsm_mul, ← nsm_add]
      congr 1
      omega
    unfold m_law_k12
    simp only [Res.bind_ok, leadd_ok, e2]
    by_cases hz : (n : Int) = 0
    · rw [decide_eq_true hz, cond_true, hz]
      have : n = 0 := by omega
      subst this
      exact ⟨D, by rw [nsm_zero, g_add_zero]⟩
    · rw [decide_eq_false hz, cond_false]
      by_cases ho : (n : Int) % 2 = 1
      · obtain ⟨D', q⟩ := l10_loop k r (R + D) (D + D) (n / 2) (by omega)
        rw [decide_eq_true ho, cond_true, q, e3, show n % 2 = 1 by omega, nsm_one, g_add_assoc]
        exact ⟨D', rfl⟩
      · obtain ⟨D', q⟩ := l10_loop k r R (D + D) (n / 2) (by omega)
        rw [decide_eq_false ho, cond_false, q, e3, show n % 2 = 0 by omega, nsm_zero, g_zero_add]
        exact ⟨D', rfl⟩
theorem k9_ok (P : C.Pt) (n : Nat) (hn : n < 2 ^ 70) : m_law_k9 (C.p : Int) C.a C.d C.o (ef P) (n : Int) = .ok true := by
  have ok : ∀ X Y : Q2, (toD X).okq = true ∧ (toD Y).okq = true := fun X Y => ⟨okq_q2 X, okq_q2 Y⟩
  have hr : okRange (70 : Int) := ⟨by decide, by decide⟩
  have hlen : (pyRange 0 70).length = 70 := by rw [pyRange_len]; rfl
  have h1 : (n : Int).natAbs < 2 ^ 16000000 := by
    rw [Int.natAbs_natCast]
    exact Nat.lt_of_lt_of_le hn (Nat.pow_le_pow_right (by decide) (by decide))
  have h2 : (-(n : Int)).natAbs < 2 ^ 16000000 := by rw [Int.natAbs_neg]; exact h1
  unfold m_law_k9
  simp only [Res.bind_ok, multx_ok h1, Res.need_pos hr]
  generalize pyRange 0 70 = ks at *
  rw [← ef_zero (C := C)]
  obtain ⟨D', q⟩ := l10_loop (C := C) (m_law_k13 C.o (ef P) (n : Int) (ef (zsm n P))) ks 0 P n (by rw [hlen]; exact hn)
  rw [q]
  unfold m_law_k13
  simp only [Res.bind_ok, multx_ok h2, eneg_ok, Res.need_pos (ok _ _), pyEq_ef, g_zero_add, zsm_nat, zsm_neg_nat, decide_true, cond_true]
theorem k3_ok (ns : List Int) (P Q : C.Pt) : m_law_k3 ns (C.p : Int) C.a C.d C.o (ef P) (ef Q) = .ok true := by
  have h3 := C.ge
  have hp1 : (0 : Int) < (C.p : Int) - 1 := by omega
  obtain ⟨c6, d6⟩ := cell_ex ns (show 0 ≤ (6 : Int) by decide)
  obtain ⟨c7, d7⟩ := cell_ex ns (show 0 ≤ (7 : Int) by decide)
  obtain ⟨c8, d8⟩ := cell_ex ns (show 0 ≤ (8 : Int) by decide)
  obtain ⟨s1, f1, S1⟩ := residue_ok hp1 c6
  obtain ⟨s2, f2, S2⟩ := residue_ok hp1 c7
  have A1 : Rs C.p (1 + s1) := ⟨by omega, by omega⟩
  have A2 : Rs C.p (1 + s2) := ⟨by omega, by omega⟩
  have ne : ∀ s : Int, Rs C.p s → s ≠ 0 → zm C.p s ≠ 0 := fun s hs h e => h (by
    have := zm_zero.mp e
    rwa [Int.emod_eq_of_lt hs.1 hs.2] at this)
  obtain ⟨t, t1, t2, t3, t4⟩ := ltup_ok P A1 (ne _ A1 (by omega))
  obtain ⟨u, u1, u2, u3, u4⟩ := ltup_ok Q A2 (ne _ A2 (by omega))
  have R1 : Rs C.p 1 := ⟨by decide, by omega⟩
  obtain ⟨w, w1, w2, w3, w4⟩ := ltup_ok P R1 (ne _ R1 (by decide))
  obtain ⟨v, v1, v2, v3, v4⟩ := tox_ok P
  have evw : v = w := by
    obtain ⟨x, y, e, X, Y, O, _⟩ := ef_cases P
    rw [v4, w4, e]
    simp only [Int.mul_one, Int.emod_eq_of_lt X.1 X.2, Int.emod_eq_of_lt Y.1 Y.2]
  subst evw
  have sr := xsum_rs (C := C) t u
  have sx := xsum_ok t3 u3
  have dr := xsum_rs (C := C) t t
  have dx := xsum_ok t3 t3
  obtain ⟨g, g1, g2, g3, g4⟩ := tox_ok (P + Q)
  have ok : ∀ X Y : Q2, (toD X).okq = true ∧ (toD Y).okq = true := fun X Y => ⟨okq_q2 X, okq_q2 Y⟩
  have ok4 : ∀ X Y : E4, (toD X).okq = true ∧ (toD Y).okq = true := fun X Y => ⟨okq_e4 X, okq_e4 Y⟩
  have b1 := sr.a.bd
  have b2 := sr.b.bd
  have b3 := sr.c.bd
  have b4 := sr.e.bd
  have z0 : decide ((xsum C t u).c = 0) = false := decide_eq_false fun e => sx.c (by rw [e]; exact rfl)
  have z1 : decide (((xsum C t u).a * (xsum C t u).b - (xsum C t u).c * (xsum C t u).e) % (C.p : Int) = 0) = true := by
    refine decide_eq_true ?_
    rw [← zm_zero, zm_sub, zm_mul, zm_mul, sx.a, sx.b, sx.e]
    grind
  have it : isI "tuple" (toD (xsum C t u)) = true := rfl
  have ip : (toD (xsum C t u)).plain = true := rfl
  have bo : ∀ b : Bool, isI "bool" (toD b) = true := fun _ => rfl
  have bp : ∀ b : Bool, (toD b).plain = true := fun _ => rfl
  have e1024 : (2 : Int) ^ (60 : Int).toNat * 2 ^ (10 : Int).toNat = 1180591620717411303424 := by decide +kernel
  have c1024 : CMulX ((2 : Int) ^ (60 : Int).toNat) (2 ^ (10 : Int).toNat) := cmulx (a := 62) (b := 12) (by decide +kernel) (by decide +kernel) (by decide)
  unfold m_law_k3
  simp (decide := true) only [Res.bind_ok, d6, d7, d8, f1, f2, t1, u1, v1, w1, Res.need_pos (ok4 _ _), eq_e4, Bool.not_true, cond_false, fromx_ok t2 t3, Res.need_pos (ok _ _), pyEq_ef, decide_true, addx_ok t2 u2, addx_ok t2 t2, Res.need_pos ip, it, lxsum_ok t2 u2, z0, need_bind, need_bd, need_p, z1, leadd_ok, fromx_ok sr sx, fromx_ok dr dx, samex_ok t2 u2 t3 u3, bo, Res.need_pos (bp _), beq_self_eq_true, g1, samex_ok sr g2 sx g3, e1024, Res.need_pos c1024]
  rw [need_true]
  have w0 := Int.emod_nonneg ((c8.natAbs : Int) * 48271) (show (1180591620717411303424 : Int) ≠ 0 by decide)
  have w1 := Int.emod_lt_of_pos ((c8.natAbs : Int) * 48271) (show (0 : Int) < 1180591620717411303424 by decide)
  generalize (c8.natAbs : Int) * 48271 % 1180591620717411303424 = m at *
  obtain ⟨n, rfl⟩ := Int.eq_ofNat_of_zero_le w0
  by_cases c : (c8.natAbs : Int) % 3 = 1
  · simp only [decide_eq_true c, cond_true]
    have y0 := Int.emod_nonneg ((c8.natAbs : Int) / 3) (show (20 : Int) ≠ 0 by decide)
    have y1 := Int.emod_lt_of_pos ((c8.natAbs : Int) / 3) (show (0 : Int) < 20 by decide)
    generalize (c8.natAbs : Int) / 3 % 20 = m' at *
    obtain ⟨n', rfl⟩ := Int.eq_ofNat_of_zero_le y0
    exact k9_ok P n' (by omega)
  · simp only [decide_eq_false c, cond_false]
    exact k9_ok P n (by omega)
end
theorem law_true (ns : List Int) (hl : ns.length ≤ 63) (hb : ∀ i ∈ ns, Builtin.Int.intBits i ≤ 1048576) : m_law ns = .ok true := by
  clear hb
  obtain ⟨c0, d0⟩ := cell_ex ns (show 0 ≤ (0 : Int) by decide)
  obtain ⟨c3, d3⟩ := cell_ex ns (show 0 ≤ (3 : Int) by decide)
  obtain ⟨c4, d4⟩ := cell_ex ns (show 0 ≤ (4 : Int) by decide)
  obtain ⟨c5, d5⟩ := cell_ex ns (show 0 ≤ (5 : Int) by decide)
  obtain ⟨p, p1, h, h5, hn⟩ := edwards_prime_ok c0
  obtain ⟨C, hC, e1, num, ha, hd⟩ := numbers_ok h hn ns (at_ := 1) (by decide)
  subst e1
  obtain ⟨A, hA⟩ := elifted_ok (C := C) c3
  obtain ⟨B, hB⟩ := elifted_ok (C := C) c4
  unfold m_law
  simp (decide := true) only [Res.bind_ok, d0, p1, num, einit_C ha hd, hA, hB, d3, d4, d5]
  have k2 : ∀ (A B : C.Pt) (kind : Int), m_law_k2 ns (C.p : Int) C.a C.d C.o (ef A) kind (ef B) = .ok true := by
    intro A B kind
    unfold m_law_k2
    simp only [Res.bind_ok]
    by_cases c : kind = 3
    · rw [decide_eq_true c, cond_true, ← ef_zero (C := C)]; exact k3_ok ns A 0
    · rw [decide_eq_false c, cond_false]; exact k3_ok ns A B
  have k1 : ∀ (A B : C.Pt) (kind : Int), m_law_k1 ns (C.p : Int) C.a C.d C.o (ef A) kind (ef B) = .ok true := by
    intro A B kind
    have nA := ef_neg A
    unfold m_law_k1
    simp only [Res.bind_ok, need_bind, need_p]
    by_cases c : kind = 2
    · rw [decide_eq_true c, cond_true, ← nA]; exact k2 A (-A) kind
    · rw [decide_eq_false c, cond_false]; exact k2 A B kind
  by_cases c : (c5.natAbs : Int) % 5 = 1
  · simp only [decide_eq_true c, cond_true]; exact k1 A A _
  · simp only [decide_eq_false c, cond_false]; exact k1 A B _
end Mi
open PySem PySem.W PySem.Calls PyProof.Rows
theorem PySem.Challenge.cw_curveseal_k20_extended_coordinates_holds : PySem.Challenge.rw_curveseal_k20_extended_coordinates.Holds := by
  w_on; o_law
  refine HandSHeadRun.head_any (r := OpenLaw.row PySem.Challenge.rw_curveseal_k20_extended_coordinates) (q := view (OpenLaw.row PySem.Challenge.rw_curveseal_k20_extended_coordinates).prog [47]) (H := Mi.hk) (ob := Mi.ob) (M := 20000) (loose := (["bits_from_top", "is_whole", "is_residue", "is_residue_pair", "bezout", "inverse", "power", "square_class", "split_twos", "square_root", "_root_of_square", "_non_square", "root_with_parity", "to_extended", "from_extended", "add_extended", "same_extended", "multiply_extended", "_law_cell", "_law_is_integer", "_law_is_prime", "_law_prime", "_law_power", "_law_inverse", "_law_residue"] : List Str) ++ (["_law_class", "_law_edwards_prime", "_law_numbers", "_law_on", "_law_lifted", "_law_add", "_law_tuple", "_law_sum", "_wall", "CurveError", "OutOfRange", "NoInverse", "Refused", "EdwardsCurve", "NEUTRAL_FOUR"] : List Str)) (d := HandSHeadRun.topDef (OpenLaw.row PySem.Challenge.rw_curveseal_k20_extended_coordinates).prog 47) (kwd := []) Mi.ob_eq
    (by kernel_rfl) (fun s => by kernel_rfl) Mi.run_ (by kernel_rfl) (by kernel_rfl) (by kernel_rfl) (by rfl) (by first | assumption | decide +kernel) (by decide +kernel) ⟨rfl, rfl, rfl, rfl, rfl, by decide +kernel⟩ ?hw ?hc
  case hw => w_witness2
  case hc =>
    refine Mi.walk_end (l := PySem.Challenge.rw_curveseal_k20_extended_coordinates) (n := 63) (k := 9) (x := "script") (m := Mi.m_law) rfl (by decide) (by kernel_rfl) ⟨rfl, by decide, by decide⟩ ?F Mi.law_true
    intro w mg fa h Y G hmg0
    obtain ⟨K, KX, c⟩ := Y
    have hmg : mg ("law" : PySem.Str) = some (.ref fa) := by
      have e : (HandSHeadRun.topDef (OpenLaw.row PySem.Challenge.rw_curveseal_k20_extended_coordinates).prog 47).name = ("law" : PySem.Str) := by kernel_rfl
      rw [← e]
      exact hmg0
    have T := Mi.facts_of KX G c
    have ea := hmg.symm.trans T.g_law
    cases ea
    obtain ⟨fd, FL⟩ := T.d_law
    have b := L2.FunD.bindsA (ps := ["script"]) FL fun _ _ _ _ _ _ us hl => match us, hl with | [_], _ => rfl
    exact ⟨K, fd, KX, fun s u => b s [u] rfl, fun base _ _ => Mi.ok_law T FL⟩
