import PyProof.Rows.All
import Wide.All
import OpenK.AllK
import Wide.FinOn
import HandS.Base
import HandS.Call
import HandS.List
import HandS.Comp
import HandS.Ends
import HandS.Exc
import HandS.ExcOwn
import HandS.TryOnly
import HandS.ExcIs
import HandS.IsInst
import HandS.FStr
import HandS.RaiseMore
import HandS.Words
import HandS.WordsList
import HandS.WordsExc
import HandS.WideBits
import HandS.Iter
import HandS.Text
import HandS.Evl
import HandS.Head0
import HandS.Head1
import HandS.Head2
import HandS.HeadEnd
import HandS.HeadHook1
import HandS.HeadHook2
import HandS.HeadHook4
import HandS.EndBits
import HandS.Style
import PySem.Challenge.RW_curveseal_k11_multiples_of_points
set_option Elab.async false
set_option linter.all false
set_option maxRecDepth 100000
set_option autoImplicit false
set_option maxHeartbeats 4000000
set_option maxHeartbeats 1000000
namespace Mi
open PySem PySem.Spec L2
open Evl (Ex)

/-! ### data -/
inductive D where
  | non | bl (b : Bool) | int (i : Int) | str (s : Str) | ty (n : String)
  | tup (xs : List D) | lst (xs : List D) | obj (c : Str) (ks : List Str) (ds : List D)

class ToD (α : Type) where
  d : α → D
abbrev toD {α : Type} [ToD α] (x : α) : D := ToD.d x
instance : ToD D := ⟨fun x => x⟩
instance : ToD Int := ⟨D.int⟩
instance : ToD Bool := ⟨D.bl⟩
instance : ToD Unit := ⟨fun _ => .non⟩
instance : ToD Str := ⟨D.str⟩
instance {α : Type} [ToD α] : ToD (List α) := ⟨fun xs => .lst (xs.map ToD.d)⟩
instance {α : Type} [ToD α] : ToD (Option α) := ⟨fun o => match o with | none => .non | some x => ToD.d x⟩
structure T1 (α : Type) where
  a : α
structure T2 (α β : Type) where
  a : α
  b : β
structure T3 (α β γ : Type) where
  a : α
  b : β
  c : γ
structure T4 (α β γ δ : Type) where
  a : α
  b : β
  c : γ
  e : δ
structure Tu (α : Type) where
  xs : List α
instance {α : Type} [ToD α] : ToD (T1 α) := ⟨fun x => .tup [ToD.d x.a]⟩
instance {α β : Type} [ToD α] [ToD β] : ToD (T2 α β) := ⟨fun x => .tup [ToD.d x.a, ToD.d x.b]⟩
instance {α β γ : Type} [ToD α] [ToD β] [ToD γ] : ToD (T3 α β γ) := ⟨fun x => .tup [ToD.d x.a, ToD.d x.b, ToD.d x.c]⟩
instance {α β γ δ : Type} [ToD α] [ToD β] [ToD γ] [ToD δ] : ToD (T4 α β γ δ) := ⟨fun x => .tup [ToD.d x.a, ToD.d x.b, ToD.d x.c, ToD.d x.e]⟩
instance {α : Type} [ToD α] : ToD (Tu α) := ⟨fun x => .tup (x.xs.map ToD.d)⟩

mutual
def Rep (K : PySem.W.Frag) (F : Hp) : D → V → Prop
  | .non, v => v = .non
  | .bl b, v => v = .bl b
  | .int i, v => v = .int i
  | .str s, v => v = .str s
  | .ty n, v => v = .ty n
  | .tup ds, v => ∃ a vs, v = .ref a ∧ SqT K F a vs ∧ Reps K F ds vs
  | .lst ds, v => ∃ a vs, v = .ref a ∧ SqL K F a vs ∧ Reps K F ds vs
  | .obj c ks ds, v => ∃ a dx vs, v = .ref a ∧ F a = some (.ins (He.ga K c) dx (ks.zip vs)) ∧ ks.length = vs.length ∧ Reps K F ds vs
def Reps (K : PySem.W.Frag) (F : Hp) : List D → List V → Prop
  | [], vs => vs = []
  | d :: ds, vs => ∃ v r, vs = v :: r ∧ Rep K F d v ∧ Reps K F ds r
end

mutual
theorem Rep.mono {K : PySem.W.Frag} {F F' : Hp} (e : Ex F F') : ∀ (d : D) (v : V), Rep K F d v → Rep K F' d v
  | .non, v, h => h
  | .bl b, v, h => h
  | .int i, v, h => h
  | .str s, v, h => h
  | .ty n, v, h => h
  | .tup ds, v, h => by
    obtain ⟨a, vs, h1, h2, h3⟩ := h
    exact ⟨a, vs, h1, Evl.ex_t e h2, Reps.mono e ds vs h3⟩
  | .lst ds, v, h => by
    obtain ⟨a, vs, h1, h2, h3⟩ := h
    exact ⟨a, vs, h1, Evl.ex_l e h2, Reps.mono e ds vs h3⟩
  | .obj c ks ds, v, h => by
    obtain ⟨a, dx, vs, h1, h2, h3, h4⟩ := h
    exact ⟨a, dx, vs, h1, e _ _ h2, h3, Reps.mono e ds vs h4⟩
theorem Reps.mono {K : PySem.W.Frag} {F F' : Hp} (e : Ex F F') : ∀ (ds : List D) (vs : List V), Reps K F ds vs → Reps K F' ds vs
  | [], vs, h => h
  | d :: ds, vs, h => by
    obtain ⟨v, r, h1, h2, h3⟩ := h
    exact ⟨v, r, h1, Rep.mono e d v h2, Reps.mono e ds r h3⟩
end
section
variable {K : PySem.W.Frag} {F F' H H' H1 : Hp}
theorem Reps.length : ∀ {ds : List D} {vs : List V}, Reps K F ds vs → ds.length = vs.length
  | [], vs, h => by rw [show vs = [] from h]; rfl
  | d :: ds, vs, h => by
    obtain ⟨v, r, rfl, _, h3⟩ := h
    simp [Reps.length h3]
theorem Reps.get : ∀ {ds : List D} {vs : List V} {i : Nat} {e : D}, Reps K F ds vs → ds[i]? = some e → ∃ v, vs[i]? = some v ∧ Rep K F e v
  | [], vs, i, e, h, q => by simp at q
  | d :: ds, vs, 0, e, h, q => by
    obtain ⟨v, r, rfl, h2, h3⟩ := h
    simp at q; subst q
    exact ⟨v, rfl, h2⟩
  | d :: ds, vs, i + 1, e, h, q => by
    obtain ⟨v, r, rfl, h2, h3⟩ := h
    simp at q
    obtain ⟨w, a, b⟩ := Reps.get h3 q
    exact ⟨w, by simpa using a, b⟩
theorem Reps.append : ∀ {ds es : List D} {vs ws : List V}, Reps K F ds vs → Reps K F es ws → Reps K F (ds ++ es) (vs ++ ws)
  | [], es, vs, ws, h, q => by rw [show vs = [] from h]; exact q
  | d :: ds, es, vs, ws, h, q => by
    obtain ⟨v, r, rfl, h2, h3⟩ := h
    exact ⟨v, r ++ ws, rfl, h2, Reps.append h3 q⟩
theorem Reps.one {e : D} {v : V} (h : Rep K F e v) : Reps K F [e] [v] := ⟨v, [], rfl, h, rfl⟩
theorem Reps.set : ∀ {ds : List D} {vs : List V} (i : Nat) {e : D} {v : V}, Reps K F ds vs → Rep K F e v → Reps K F (ds.set i e) (vs.set i v)
  | [], vs, i, e, v, h, q => by rw [show vs = [] from h]; exact rfl
  | d :: ds, vs, 0, e, v, h, q => by
    obtain ⟨w, r, rfl, h2, h3⟩ := h
    exact ⟨v, r, rfl, q, h3⟩
  | d :: ds, vs, i + 1, e, v, h, q => by
    obtain ⟨w, r, rfl, h2, h3⟩ := h
    exact ⟨w, r.set i v, rfl, h2, Reps.set i h3 q⟩
theorem Reps.drop : ∀ {ds : List D} {vs : List V} (i : Nat), Reps K F ds vs → Reps K F (ds.drop i) (vs.drop i)
  | [], vs, i, h => by rw [show vs = [] from h]; simp [Reps]
  | d :: ds, vs, 0, h => h
  | d :: ds, vs, i + 1, h => by
    obtain ⟨w, r, rfl, h2, h3⟩ := h
    exact Reps.drop i h3
theorem Reps.take : ∀ {ds : List D} {vs : List V} (i : Nat), Reps K F ds vs → Reps K F (ds.take i) (vs.take i)
  | [], vs, i, h => by rw [show vs = [] from h]; simp [Reps]
  | d :: ds, vs, 0, h => by simp [Reps]
  | d :: ds, vs, i + 1, h => by
    obtain ⟨w, r, rfl, h2, h3⟩ := h
    exact ⟨w, r.take i, rfl, h2, Reps.take i h3⟩
theorem Reps.dropLast {ds : List D} {vs : List V} (h : Reps K F ds vs) : Reps K F ds.dropLast vs.dropLast := by
  rw [List.dropLast_eq_take, List.dropLast_eq_take, h.length]
  exact Reps.take _ h
theorem Reps.reverse : ∀ {ds : List D} {vs : List V}, Reps K F ds vs → Reps K F ds.reverse vs.reverse
  | [], vs, h => by rw [show vs = [] from h]; simp [Reps]
  | d :: ds, vs, h => by
    obtain ⟨w, r, rfl, h2, h3⟩ := h
    rw [List.reverse_cons, List.reverse_cons]
    exact Reps.append (Reps.reverse h3) (Reps.one h2)
theorem Reps.ints : ∀ {ns : List Int} {vs : List V}, Reps K F (ns.map D.int) vs → vs = ns.map V.int
  | [], vs, h => h
  | n :: ns, vs, h => by
    obtain ⟨w, r, rfl, h2, h3⟩ := h
    rw [show w = V.int n from h2, Reps.ints h3]; rfl
theorem Reps.of_ints : ∀ (ns : List Int), Reps K F (ns.map D.int) (ns.map V.int)
  | [] => rfl
  | n :: ns => ⟨_, _, rfl, rfl, Reps.of_ints ns⟩
theorem Reps.bls : ∀ {ns : List Bool} {vs : List V}, Reps K F (ns.map D.bl) vs → vs = ns.map V.bl
  | [], vs, h => h
  | n :: ns, vs, h => by
    obtain ⟨w, r, rfl, h2, h3⟩ := h
    rw [show w = V.bl n from h2, Reps.bls h3]; rfl
theorem Reps.strs : ∀ {ns : List Str} {vs : List V}, Reps K F (ns.map D.str) vs → vs = ns.map V.str
  | [], vs, h => h
  | n :: ns, vs, h => by
    obtain ⟨w, r, rfl, h2, h3⟩ := h
    rw [show w = V.str n from h2, Reps.strs h3]; rfl

/-! ### how the heap goes on -/
structure Adv (F H F' H' : Hp) : Prop where
  f : Ex F F'
  h : Ex H H'
  in_ : Ex F' H'
  out : ∀ p, F p = none → H p ≠ none → F' p = none
theorem Adv.refl (e : Ex F H) : Adv F H F H := ⟨Ex.refl F, Ex.refl H, e, fun _ h _ => h⟩
theorem Adv.trans {F1 H1 F2 H2 F3 H3 : Hp} (a : Adv F1 H1 F2 H2) (b : Adv F2 H2 F3 H3) : Adv F1 H1 F3 H3 :=
  ⟨a.f.trans b.f, a.h.trans b.h, b.in_, fun p h1 h2 => b.out p (a.out p h1 h2) fun z => h2 (Evl.fresh_back a.h z)⟩
theorem none_of_ex (e : Ex F H) {p : Addr} (h : H p = none) : F p = none := Evl.fresh_back e h
theorem Adv.new {p : Addr} {o : HO} (e : Ex F H) (h : H p = none) : Adv F H (upd F p o) (upd H p o) := by
  refine ⟨Ex.new (none_of_ex e h), Ex.new h, fun a u q => ?_, fun q h1 h2 => ?_⟩
  · by_cases z : a = p
    · subst z; rw [upd_same] at q ⊢; exact q
    · rw [upd_ne z] at q ⊢; exact e a u q
  · have z : q ≠ p := fun z => h2 (by rw [z]; exact h)
    rw [upd_ne z]; exact h1
/-- a new object, not frozen -/
theorem Adv.newO {p : Addr} {o : HO} (e : Ex F H) (h : H p = none) : Adv F H F (upd H p o) :=
  ⟨Ex.refl F, Ex.new h, fun a u q => (Ex.new h) a u (e a u q), fun _ h1 _ => h1⟩
end

/-! ### what a def gives -/
inductive Res (α : Type) where
  | ok (x : α) | exc (c : Str) | stuck
namespace Res
def bind {α β : Type} : Res α → (α → Res β) → Res β
  | .ok x, f => f x
  | .exc c, _ => .exc c
  | .stuck, _ => .stuck
theorem bind_ok {α β : Type} (x : α) (f : α → Res β) : (Res.ok x).bind f = f x := rfl
theorem bind_exc {α β : Type} (c : Str) (f : α → Res β) : (Res.exc c : Res α).bind f = .exc c := rfl
theorem bind_stuck {α β : Type} (f : α → Res β) : (Res.stuck : Res α).bind f = .stuck := rfl
theorem bind_assoc {α β γ : Type} (m : Res α) (f : α → Res β) (g : β → Res γ) : (m.bind f).bind g = m.bind fun x => (f x).bind g := by
  cases m <;> rfl
theorem bind_pure {α : Type} (m : Res α) : m.bind Res.ok = m := by cases m <;> rfl
/-- a condition that must hold -/
@[irreducible] noncomputable def need {α : Type} (p : Prop) (m : Res α) : Res α := @ite _ p (Classical.propDecidable p) m .stuck
theorem need_pos {α : Type} {p : Prop} {m : Res α} (h : p) : need p m = m := by unfold need; exact if_pos h
theorem need_neg {α : Type} {p : Prop} {m : Res α} (h : ¬ p) : need p m = .stuck := by unfold need; exact if_neg h
def map {α β : Type} (f : α → β) (m : Res α) : Res β := m.bind fun x => .ok (f x)
end Res

/-! ### slots -/
inductive Sk where
  | im (e : D) | ow (xs : List D) | raw (v : V) | oi (p : Option Addr) (c : Str) (ks : List Str) (ds : List D)
/-- what only this frame knows -/
def Sk.own : Sk → Bool
  | .ow _ => true
  | .oi _ _ _ _ => true
  | _ => false
abbrev En := List (Option Sk)
def SkOk (K : PySem.W.Frag) (H0 F H : Hp) : Sk → V → Prop
  | .im e, v => Rep K F e v
  | .ow xs, v => ∃ p vs, v = .ref p ∧ H0 p = none ∧ F p = none ∧ H p = some (.lst vs) ∧ Reps K F xs vs
  | .raw w, v => v = w
  | .oi pp c ks ds, v => ∃ p dx vs, v = .ref p ∧ H0 p = none ∧ F p = none ∧ H p = some (.ins (He.ga K c) dx (ks.zip vs)) ∧ ks.length = vs.length ∧ Reps K F ds vs ∧ ∀ a, pp = some a → p = a
structure Sl (K : PySem.W.Frag) (F0 H0 F H : Hp) (σ : L2.St) (env : En) : Prop where
  adv : Adv F0 H0 F H
  slot : ∀ (i : Nat) (sk : Sk), env[i]? = some (some sk) → ∃ v, σ[i]? = some (some v) ∧ SkOk K H0 F H sk v
  dis : ∀ (i j : Nat) (sk sk' : Sk) (p : Addr), i ≠ j → env[i]? = some (some sk) → env[j]? = some (some sk') → sk.own = true → sk'.own = true → σ[i]? = some (some (.ref p)) → σ[j]? ≠ some (some (.ref p))
  len : σ.length = env.length
section
variable {K : PySem.W.Frag} {F0 H0 F H F' H' : Hp} {σ : L2.St} {env : En}
theorem Sl.ex (S : Sl K F0 H0 F H σ env) : Ex F H := S.adv.in_
theorem SkOk.adv {sk : Sk} {v : V} (a : Adv F H F' H') (h : SkOk K H0 F H sk v) : SkOk K H0 F' H' sk v := by
  cases sk with
  | im e => exact Rep.mono a.f _ _ h
  | ow xs =>
    obtain ⟨p, vs, e1, e2, e3, e4, e5⟩ := h
    exact ⟨p, vs, e1, e2, a.out p e3 (by rw [e4]; simp), a.h _ _ e4, Reps.mono a.f _ _ e5⟩
  | raw w => exact h
  | oi pp c ks ds =>
    obtain ⟨p, dx, vs, e1, e2, e3, e4, e5, e6, e7⟩ := h
    exact ⟨p, dx, vs, e1, e2, a.out p e3 (by rw [e4]; simp), a.h _ _ e4, e5, Reps.mono a.f _ _ e6, e7⟩
theorem SkOk.at {sk : Sk} {v : V} (ho : sk.own = true) (h : SkOk K H0 F H sk v) : ∃ p o, v = .ref p ∧ H0 p = none ∧ F p = none ∧ H p = some o := by
  cases sk with
  | im e => cases ho
  | raw w => cases ho
  | ow xs =>
    obtain ⟨p, vs, e1, e2, e3, e4, e5⟩ := h
    exact ⟨p, _, e1, e2, e3, e4⟩
  | oi pp c ks ds =>
    obtain ⟨p, dx, vs, e1, e2, e3, e4, e5, e6, e7⟩ := h
    exact ⟨p, _, e1, e2, e3, e4⟩
theorem SkOk.updH {sk : Sk} {v : V} {p : Addr} {o : HO} (hn : sk.own = true → v ≠ .ref p) (h : SkOk K H0 F H sk v) : SkOk K H0 F (upd H p o) sk v := by
  cases sk with
  | im e => exact h
  | raw w => exact h
  | ow xs =>
    obtain ⟨q, vs, e1, e2, e3, e4, e5⟩ := h
    have hne : q ≠ p := fun z => hn rfl (by rw [e1, z])
    exact ⟨q, vs, e1, e2, e3, by rw [upd_ne hne]; exact e4, e5⟩
  | oi pp c ks ds =>
    obtain ⟨q, dx, vs, e1, e2, e3, e4, e5, e6, e7⟩ := h
    have hne : q ≠ p := fun z => hn rfl (by rw [e1, z])
    exact ⟨q, dx, vs, e1, e2, e3, by rw [upd_ne hne]; exact e4, e5, e6, e7⟩
theorem SkOk.updF {sk : Sk} {v : V} {p : Addr} {o : HO} (hf : F p = none) (hn : sk.own = true → v ≠ .ref p) (h : SkOk K H0 F H sk v) : SkOk K H0 (upd F p o) H sk v := by
  have ad : Ex F (upd F p o) := Ex.new hf
  cases sk with
  | im e => exact Rep.mono ad _ _ h
  | raw w => exact h
  | ow xs =>
    obtain ⟨q, vs, e1, e2, e3, e4, e5⟩ := h
    have hne : q ≠ p := fun z => hn rfl (by rw [e1, z])
    exact ⟨q, vs, e1, e2, by rw [upd_ne hne]; exact e3, e4, Reps.mono ad _ _ e5⟩
  | oi pp c ks ds =>
    obtain ⟨q, dx, vs, e1, e2, e3, e4, e5, e6, e7⟩ := h
    have hne : q ≠ p := fun z => hn rfl (by rw [e1, z])
    exact ⟨q, dx, vs, e1, e2, by rw [upd_ne hne]; exact e3, e4, e5, Reps.mono ad _ _ e6, e7⟩
theorem Sl.step (S : Sl K F0 H0 F H σ env) (a : Adv F H F' H') : Sl K F0 H0 F' H' σ env := by
  refine ⟨S.adv.trans a, fun i sk e => ?_, S.dis, S.len⟩
  obtain ⟨v, h1, h2⟩ := S.slot i sk e
  exact ⟨v, h1, h2.adv a⟩
theorem set_get {α : Type} {l : List α} {i j : Nat} {x y : α} (h : (l.set i x)[j]? = some y) : (i = j ∧ x = y) ∨ (i ≠ j ∧ l[j]? = some y) := by
  rw [List.getElem?_set] at h
  by_cases e : i = j
  · rw [if_pos e] at h
    split at h
    · exact .inl ⟨e, Option.some.inj h⟩
    · cases h
  · rw [if_neg e] at h
    exact .inr ⟨e, h⟩
theorem set_len {α : Type} {l : List α} {i : Nat} {x y : α} (h : (l.set i x)[i]? = some y) : i < l.length := by
  have h := (List.getElem?_eq_some_iff.mp h).1
  rwa [List.length_set] at h
theorem Sl.setIm (S : Sl K F0 H0 F H σ env) {i : Nat} {e : D} {v : V} (r : Rep K F e v) : Sl K F0 H0 F H (σ.set i (some v)) (env.set i (some (.im e))) := by
  refine ⟨S.adv, fun j sk q => ?_, fun j k sk sk' p hjk e1 e2 o1 o2 h1 => ?_, by rw [List.length_set, List.length_set]; exact S.len⟩
  · rcases set_get q with ⟨rfl, z⟩ | ⟨z, q⟩
    · cases z
      refine ⟨v, ?_, r⟩
      have hi : i < env.length := set_len q
      rw [List.getElem?_set_self (by rw [S.len]; exact hi)]
    · obtain ⟨w, h1, h2⟩ := S.slot j sk q
      exact ⟨w, by rw [List.getElem?_set_ne z]; exact h1, h2⟩
  · rcases set_get e1 with ⟨_, z⟩ | ⟨z1, e1⟩
    · cases z; cases o1
    rcases set_get e2 with ⟨_, z⟩ | ⟨z2, e2⟩
    · cases z; cases o2
    rw [List.getElem?_set_ne z1] at h1
    rw [List.getElem?_set_ne z2]
    exact S.dis j k sk sk' p hjk e1 e2 o1 o2 h1
/-- a new owned object -/
theorem Sl.setOwn (S : Sl K F0 H0 F H σ env) {i : Nat} {p : Addr} {sk : Sk} (hs : SkOk K H0 F H sk (.ref p)) (hn : ∀ (j : Nat) (sk' : Sk), env[j]? = some (some sk') → sk'.own = true → σ[j]? ≠ some (some (V.ref p))) :
    Sl K F0 H0 F H (σ.set i (some (.ref p))) (env.set i (some sk)) := by
  refine ⟨S.adv, fun j sk q => ?_, fun j k sk1 sk2 p' hjk e1 e2 o1 o2 h1 => ?_, by rw [List.length_set, List.length_set]; exact S.len⟩
  · rcases set_get q with ⟨rfl, z⟩ | ⟨z, q⟩
    · cases z
      refine ⟨_, ?_, hs⟩
      have hi : i < env.length := set_len q
      rw [List.getElem?_set_self (by rw [S.len]; exact hi)]
    · obtain ⟨w, h1, h2⟩ := S.slot j sk q
      exact ⟨w, by rw [List.getElem?_set_ne z]; exact h1, h2⟩
  · rcases set_get e1 with ⟨z0, z⟩ | ⟨z1, e1⟩
    · rcases set_get e2 with ⟨z2, _⟩ | ⟨z2, e2⟩
      · exact absurd (z0.symm.trans z2) hjk
      · subst z0
        rw [List.getElem?_set_ne z2]
        have hi : i < σ.length := set_len h1
        rw [List.getElem?_set_self hi] at h1
        cases h1
        exact hn k sk2 e2 o2
    · rw [List.getElem?_set_ne z1] at h1
      rcases set_get e2 with ⟨z2, z⟩ | ⟨z2, e2⟩
      · subst z2
        intro q
        have hi : i < σ.length := set_len q
        rw [List.getElem?_set_self hi] at q
        cases q
        exact hn j sk1 e1 o1 h1
      · rw [List.getElem?_set_ne z2]
        exact S.dis j k sk1 sk2 p' hjk e1 e2 o1 o2 h1
theorem Sl.setOw (S : Sl K F0 H0 F H σ env) {i : Nat} {p : Addr} {xs : List D} {vs : List V} (h0 : H0 p = none) (hf : F p = none) (hp : H p = some (.lst vs)) (hn : ∀ (j : Nat) (sk' : Sk), env[j]? = some (some sk') → sk'.own = true → σ[j]? ≠ some (some (V.ref p))) (r : Reps K F xs vs) :
    Sl K F0 H0 F H (σ.set i (some (.ref p))) (env.set i (some (.ow xs))) := S.setOwn ⟨p, vs, rfl, h0, hf, hp, r⟩ hn
/-- an owned object changes -/
theorem Sl.chgO (S : Sl K F0 H0 F H σ env) {i : Nat} {p : Addr} {sk sk' : Sk} {o : HO} (e : env[i]? = some (some sk)) (ho : sk.own = true) (hs : σ[i]? = some (some (.ref p))) (hp : F p = none) (h0 : H0 p = none) (hk : SkOk K H0 F (upd H p o) sk' (.ref p)) :
    Sl K F0 H0 F (upd H p o) σ (env.set i (some sk')) := by
  refine ⟨⟨S.adv.f, fun a u q => ?_, fun a u q => ?_, S.adv.out⟩, fun j sk q => ?_, fun j k sk1 sk2 p' hjk e1 e2 o1 o2 h1 => ?_, by rw [List.length_set]; exact S.len⟩
  · rw [upd_ne (ne_of_none q h0)]; exact S.adv.h a u q
  · rw [upd_ne (ne_of_none q hp)]; exact S.adv.in_ a u q
  · rcases set_get q with ⟨rfl, z⟩ | ⟨z, q⟩
    · cases z
      exact ⟨_, hs, hk⟩
    · obtain ⟨w, h1, h2⟩ := S.slot j sk q
      exact ⟨w, h1, h2.updH fun o2 zz => S.dis i j _ _ p z e q ho o2 hs (by rw [h1, zz])⟩
  · have own : ∀ {j : Nat} {s : Sk}, (env.set i (some sk'))[j]? = some (some s) → s.own = true → ∃ s', env[j]? = some (some s') ∧ s'.own = true := by
      intro j s q o
      rcases set_get q with ⟨rfl, _⟩ | ⟨_, q⟩
      · exact ⟨_, e, ho⟩
      · exact ⟨_, q, o⟩
    obtain ⟨_, q1, r1⟩ := own e1 o1
    obtain ⟨_, q2, r2⟩ := own e2 o2
    exact S.dis j k _ _ p' hjk q1 q2 r1 r2 h1
theorem Sl.chg (S : Sl K F0 H0 F H σ env) {i : Nat} {p : Addr} {xs ys : List D} {ws : List V} (e : env[i]? = some (some (.ow xs))) (hs : σ[i]? = some (some (.ref p))) (hp : F p = none) (h0 : H0 p = none) (r : Reps K F ys ws) :
    Sl K F0 H0 F (upd H p (.lst ws)) σ (env.set i (some (.ow ys))) := S.chgO e rfl hs hp h0 ⟨p, ws, rfl, h0, hp, upd_same, r⟩
/-- an owned object is frozen -/
theorem Sl.freezeO (S : Sl K F0 H0 F H σ env) {i : Nat} {sk : Sk} {d : D} (e : env[i]? = some (some sk)) (ho : sk.own = true) (hd : ∀ p o, SkOk K H0 F H sk (.ref p) → H p = some o → F p = none → Rep K (upd F p o) d (.ref p)) : ∃ F', Ex F F' ∧ Sl K F0 H0 F' H σ (env.set i (some (.im d))) := by
  obtain ⟨v, hs, hk⟩ := S.slot i _ e
  obtain ⟨p, o, rfl, h0, hf, hp⟩ := hk.at ho
  have ad : Ex F (upd F p o) := Ex.new hf
  have inn : Ex (upd F p o) H := fun a u q => by
    by_cases z : a = p
    · subst z; rw [upd_same] at q; cases q; exact hp
    · rw [upd_ne z] at q; exact S.ex a u q
  refine ⟨upd F p o, ad, ⟨⟨S.adv.f.trans ad, S.adv.h, inn, fun a h1 h2 => ?_⟩, fun j sk q => ?_, fun j k sk1 sk2 p' hjk e1 e2 o1 o2 h1 => ?_, by rw [List.length_set]; exact S.len⟩⟩
  · have z : a ≠ p := fun z => h2 (by rw [z]; exact h0)
    rw [upd_ne z]; exact S.adv.out a h1 h2
  · rcases set_get q with ⟨rfl, z⟩ | ⟨z, q⟩
    · cases z
      exact ⟨_, hs, hd p o hk hp hf⟩
    · obtain ⟨w, h1, h2⟩ := S.slot j sk q
      exact ⟨w, h1, h2.updF hf fun o2 zz => S.dis i j _ _ p z e q ho o2 hs (by rw [h1, zz])⟩
  · have own : ∀ {j : Nat} {s : Sk}, (env.set i (some (.im d)))[j]? = some (some s) → s.own = true → env[j]? = some (some s) := by
      intro j s q o
      rcases set_get q with ⟨rfl, z⟩ | ⟨_, q⟩
      · cases z; cases o
      · exact q
    exact S.dis j k _ _ p' hjk (own e1 o1) (own e2 o2) o1 o2 h1
theorem Sl.freeze (S : Sl K F0 H0 F H σ env) {i : Nat} {xs : List D} (e : env[i]? = some (some (.ow xs))) : ∃ F', Ex F F' ∧ Sl K F0 H0 F' H σ (env.set i (some (.im (.lst xs)))) :=
  S.freezeO e rfl fun p o h hp hf => by
    obtain ⟨q, vs, e1, _, _, e4, e5⟩ := h
    cases e1
    rw [hp] at e4; cases e4
    exact ⟨_, vs, rfl, .inl (.inl upd_same), Reps.mono (Ex.new hf) _ _ e5⟩
theorem Sl.freezeI (S : Sl K F0 H0 F H σ env) {i : Nat} {pp : Option Addr} {c : Str} {ks : List Str} {ds : List D} (e : env[i]? = some (some (.oi pp c ks ds))) : ∃ F', Ex F F' ∧ Sl K F0 H0 F' H σ (env.set i (some (.im (.obj c ks ds)))) :=
  S.freezeO e rfl fun p o h hp hf => by
    obtain ⟨q, dx, vs, e1, _, _, e4, e5, e6, _⟩ := h
    cases e1
    rw [hp] at e4; cases e4
    exact ⟨_, dx, vs, rfl, upd_same, e5, Reps.mono (Ex.new hf) _ _ e6⟩
end
end Mi
set_option maxHeartbeats 1000000
namespace Mi
open PySem PySem.Spec L2
open Evl (Ex)

class ToDs (β : Type) where
  ds : β → List D
instance : ToDs Unit := ⟨fun _ => []⟩
instance {α β : Type} [ToD α] [ToDs β] : ToDs (α × β) := ⟨fun p => ToD.d p.1 :: ToDs.ds p.2⟩

/-! ### what follows a value -/
section
variable (K : PySem.W.Frag) (W : WX) (F H : Hp) (σ : L2.St)
def KE {α : Type} [ToD α] (Q : VK) : Res α → Prop
  | .ok x => ∀ v F' H', Adv F H F' H' → Rep K F' (toD x) v → Q v H'
  | .exc c => ∀ F' H', Adv F H F' H' → W (.ref (He.ga K c)) none σ H'
  | .stuck => False
def KA {β : Type} [ToDs β] (Q : List V → Hp → Prop) : Res β → Prop
  | .ok x => ∀ vs F' H', Adv F H F' H' → Reps K F' (ToDs.ds x) vs → Q vs H'
  | .exc c => ∀ F' H', Adv F H F' H' → W (.ref (He.ga K c)) none σ H'
  | .stuck => False
def KT (Q : Bool → Hp → Prop) : Res Bool → Prop
  | .ok b => ∀ F' H', Adv F H F' H' → Q b H'
  | .exc c => ∀ F' H', Adv F H F' H' → W (.ref (He.ga K c)) none σ H'
  | .stuck => False
def KN {α : Type} [ToD α] (Q : VK) : Res (List α) → Prop
  | .ok xs => ∀ p vs F' H', Adv F H F' H' → H p = none → F' p = none → H' p = some (.lst vs) → Reps K F' (xs.map toD) vs → Q (.ref p) H'
  | .exc c => ∀ F' H', Adv F H F' H' → W (.ref (He.ga K c)) none σ H'
  | .stuck => False
end
def EvX (K : PySem.W.Frag) (W : WX) (env : En) (te : TE) {α : Type} [ToD α] (m : Res α) : Prop :=
  ∀ F0 H0 F H σ Q, Sl K F0 H0 F H σ env → KE K W F H σ Q m → te σ H Q
def EvA (K : PySem.W.Frag) (W : WX) (env : En) (ta : TA) {β : Type} [ToDs β] (m : Res β) : Prop :=
  ∀ F0 H0 F H σ Q, Sl K F0 H0 F H σ env → KA K W F H σ Q m → ta σ H Q
def EvT (K : PySem.W.Frag) (W : WX) (env : En) (tt : TT) (m : Res Bool) : Prop :=
  ∀ F0 H0 F H σ Q, Sl K F0 H0 F H σ env → KT K W F H σ Q m → tt σ H Q
def EvN (K : PySem.W.Frag) (W : WX) (env : En) (te : TE) {α : Type} [ToD α] (m : Res (List α)) : Prop :=
  ∀ F0 H0 F H σ Q, Sl K F0 H0 F H σ env → KN K W F H σ Q m → te σ H Q

section
variable {K : PySem.W.Frag} {W : WX} {F H F' H' : Hp} {σ : L2.St} {env : En} {α β γ τ : Type} [ToD α] [ToD β] [ToD γ] [ToD τ] {ta tb te tc : TE} {tt tu : TT} {r : R2}

/-- from what follows a whole to what follows its first part -/
theorem KE.cut {Q : VK} {Q1 : VK} {m : Res α} {f : α → Res β} (ex : Ex F H) (h : KE K W F H σ Q (m.bind f))
    (k : ∀ x v F' H', m = .ok x → Adv F H F' H' → Rep K F' (toD x) v → KE K W F' H' σ Q (f x) → Q1 v H') : KE K W F H σ Q1 m := by
  cases m with
  | ok x =>
    intro v F1 H1 a r
    refine k x v F1 H1 rfl a r ?_
    have h : KE K W F H σ Q (f x) := h
    revert h
    generalize f x = y
    intro h
    cases y with
    | ok y => exact fun v F2 H2 b q => h v F2 H2 (a.trans b) q
    | exc c => exact fun F2 H2 b => h F2 H2 (a.trans b)
    | stuck => exact h.elim
  | exc c => exact h
  | stuck => exact h.elim
theorem KE.adv {Q : VK} {m : Res β} (a : Adv F H F' H') (h : KE K W F H σ Q m) : KE K W F' H' σ Q m := by
  cases m with
  | ok y => exact fun v F2 H2 b q => h v F2 H2 (a.trans b) q
  | exc c => exact fun F2 H2 b => h F2 H2 (a.trans b)
  | stuck => exact h.elim
theorem KT.adv {Q : Bool → Hp → Prop} {m : Res Bool} (a : Adv F H F' H') (h : KT K W F H σ Q m) : KT K W F' H' σ Q m := by
  cases m with
  | ok y => exact fun F2 H2 b => h F2 H2 (a.trans b)
  | exc c => exact fun F2 H2 b => h F2 H2 (a.trans b)
  | stuck => exact h.elim
theorem KA.adv {δ : Type} [ToDs δ] {Q : List V → Hp → Prop} {m : Res δ} (a : Adv F H F' H') (h : KA K W F H σ Q m) : KA K W F' H' σ Q m := by
  cases m with
  | ok y => exact fun v F2 H2 b q => h v F2 H2 (a.trans b) q
  | exc c => exact fun F2 H2 b => h F2 H2 (a.trans b)
  | stuck => exact h.elim

/-- general: te then a use of its value -/
theorem use {Q Q1 : VK} {m : Res α} {F0 H0 : Hp} (hv : EvX K W env te m) (S : Sl K F0 H0 F H σ env)
    (hx : ∀ c, m = .exc c → ∀ F' H', Adv F H F' H' → W (.ref (He.ga K c)) none σ H') (hs : m ≠ .stuck)
    (k : ∀ x v F' H', m = .ok x → Adv F H F' H' → Rep K F' (toD x) v → Q1 v H') : te σ H Q1 := by
  refine hv F0 H0 F H σ Q1 S ?_
  cases m with
  | ok x => exact fun v F' H' a q => k x v F' H' rfl a q
  | exc c => exact hx c rfl
  | stuck => exact hs rfl

/-! ### names and constants -/
theorem ev_var {i : Nat} {x : α} (h : env[i]? = some (some (.im (toD x)))) : EvX K W env (tVar i) (.ok x) := fun F0 H0 F H σ Q S k => by
  obtain ⟨v, e, q⟩ := S.slot i _ h
  exact ⟨v, e, k v F H (Adv.refl S.ex) q⟩
theorem ev_int {i : Int} : EvX K W env (tC (.int i)) (.ok i) := fun F0 H0 F H σ Q S k => k _ F H (Adv.refl S.ex) rfl
theorem ev_bl {b : Bool} : EvX K W env (tC (.bl b)) (.ok b) := fun F0 H0 F H σ Q S k => k _ F H (Adv.refl S.ex) rfl
theorem ev_str {x : Str} : EvX K W env (tC (.str x)) (.ok x) := fun F0 H0 F H σ Q S k => k _ F H (Adv.refl S.ex) rfl
theorem ev_non : EvX K W env (tC .non) (.ok ()) := fun F0 H0 F H σ Q S k => k _ F H (Adv.refl S.ex) rfl
theorem ev_noneO : EvX K W env (tC .non) (.ok (none : Option α)) := fun F0 H0 F H σ Q S k => k _ F H (Adv.refl S.ex) rfl
theorem ev_tyc {n : String} : EvX K W env (tC (.ty n)) (.ok (D.ty n)) := fun F0 H0 F H σ Q S k => k _ F H (Adv.refl S.ex) rfl
/-- the same value in another type -/
theorem ev_as {m : Res α} {m' : Res β} (h : EvX K W env te m) (f : α → β) (e : ∀ x, toD (f x) = toD x) (em : m.bind (fun x => .ok (f x)) = m') : EvX K W env te m' := fun F0 H0 F H σ Q S k => by
  refine h F0 H0 F H σ Q S ?_
  subst em
  cases m with
  | ok x => intro v F' H' a q; exact k v F' H' a (by rw [e]; exact q)
  | exc c => exact k
  | stuck => exact k.elim

/-! ### operators -/
def OpX (K : PySem.W.Frag) (r : R2) (f : α → β → Res γ) : Prop := ∀ (F H : Hp) (x : α) (y : β) (v u : V) (Q : VK), Ex F H → Rep K F (toD x) v → Rep K F (toD y) u →
  KE K (fun _ _ _ _ => False) F H [] Q (f x y) → r v u H Q
theorem KE.exc_false {Q : VK} {c : Str} (h : KE K (fun _ _ _ _ => False) F H [] Q (.exc c : Res α)) (e : Ex F H) : False := h F H (Adv.refl e)
/-- operators let nothing out -/
def Mild (f : α → β → Res γ) : Prop := ∀ x y c, f x y ≠ .exc c
theorem KE.mild {Q : VK} {m : Res γ} (hm : ∀ c, m ≠ .exc c) (h : KE K W F H σ Q m) : KE K (fun _ _ _ _ => False) F H [] Q m := by
  cases m with
  | ok x => exact h
  | exc c => exact absurd rfl (hm c)
  | stuck => exact h.elim
theorem ev_op {m1 : Res α} {m2 : Res β} {f : α → β → Res γ} (ho : OpX K r f) (hm : Mild f) (ha : EvX K W env ta m1) (hb : EvX K W env tb m2) :
    EvX K W env (tOp r ta tb) (m1.bind fun x => m2.bind fun y => f x y) := fun F0 H0 F H σ Q S k => by
  refine ha F0 H0 F H σ _ S (KE.cut S.ex k fun x v F1 H1 e1 a1 r1 k1 => ?_)
  refine hb F0 H0 F1 H1 σ _ (S.step a1) (KE.cut a1.in_ k1 fun y u F2 H2 e2 a2 r2 k2 => ?_)
  exact ho F2 H2 x y v u Q a2.in_ (Rep.mono a2.f _ _ r1) r2 (k2.mild (hm x y))
theorem mild_ok {g : α → β → γ} : Mild (fun x y => Res.ok (g x y)) := fun _ _ _ h => nomatch h
theorem mild_need {p : α → β → Prop} {g : α → β → γ} : Mild (fun x y => Res.need (p x y) (.ok (g x y))) := fun x y c h => by
  by_cases q : p x y
  · have h : Res.need (p x y) (.ok (g x y)) = .exc c := h
    rw [Res.need_pos q] at h; cases h
  · have h : Res.need (p x y) (.ok (g x y)) = .exc c := h
    rw [Res.need_neg q] at h; cases h
theorem opx_I0 {g : Int → Int → Int} : OpX K (rI0 fun i j => .int (g i j)) (fun i j => .ok (g i j)) := fun F H x y v u Q e h1 h2 k =>
  ⟨x, y, h1, h2, k _ F H (Adv.refl e) rfl⟩
theorem opx_B0 {g : Int → Int → Bool} : OpX K (rI0 fun i j => .bl (g i j)) (fun i j => .ok (g i j)) := fun F H x y v u Q e h1 h2 k =>
  ⟨x, y, h1, h2, k _ F H (Adv.refl e) rfl⟩
theorem opx_I {C : Int → Int → Prop} {g : Int → Int → Int} : OpX K (rI C fun i j => .int (g i j)) (fun i j => .need (C i j) (.ok (g i j))) := fun F H x y v u Q e h1 h2 k => by
  by_cases c : C x y
  · have k : KE K (fun _ _ _ _ => False) F H [] Q (Res.need (C x y) (.ok (g x y))) := k
    rw [Res.need_pos c] at k
    exact ⟨x, y, h1, h2, c, k _ F H (Adv.refl e) rfl⟩
  · have k : KE K (fun _ _ _ _ => False) F H [] Q (Res.need (C x y) (.ok (g x y))) := k
    rw [Res.need_neg c] at k
    exact k.elim
/-- the same where the condition is known -/
theorem ev_opI {m1 m2 : Res Int} {C : Int → Int → Prop} {g : Int → Int → Int} (hc : ∀ x y, m1 = .ok x → m2 = .ok y → C x y) (ha : EvX K W env ta m1) (hb : EvX K W env tb m2) :
    EvX K W env (tOp (rI C fun i j => .int (g i j)) ta tb) (m1.bind fun x => m2.bind fun y => .ok (g x y)) := fun F0 H0 F H σ Q S k => by
  refine ha F0 H0 F H σ _ S (KE.cut S.ex k fun x v F1 H1 e1 a1 r1 k1 => ?_)
  refine hb F0 H0 F1 H1 σ _ (S.step a1) (KE.cut a1.in_ k1 fun y u F2 H2 e2 a2 r2 k2 => ?_)
  exact ⟨x, y, r1, r2, hc x y e1 e2, k2 _ F2 H2 (Adv.refl a2.in_) rfl⟩
theorem ev_un {m1 : Res Int} {g : Int → Int} (ha : EvX K W env ta m1) : EvX K W env (tUn (rU fun i => .int (g i)) ta) (m1.bind fun x => .ok (g x)) := fun F0 H0 F H σ Q S k => by
  refine ha F0 H0 F H σ _ S (KE.cut S.ex k fun x v F1 H1 e1 a1 r1 k1 => ?_)
  exact ⟨x, r1, k1 _ F1 H1 (Adv.refl a1.in_) rfl⟩
/-- == of two ints, two bools, two texts -/
theorem opx_eqI : OpX K rEq (fun (i j : Int) => .ok (decide (i = j))) := fun F H x y v u Q e h1 h2 k => by
  cases (show v = V.int x from h1); cases (show u = V.int y from h2)
  refine ⟨rfl, ?_⟩
  rw [show decide (V.int x = V.int y) = decide (x = y) by rw [dec_int]; rfl]
  exact k _ F H (Adv.refl e) rfl
theorem opx_neI : OpX K rNe (fun (i j : Int) => .ok (!decide (i = j))) := fun F H x y v u Q e h1 h2 k => by
  cases (show v = V.int x from h1); cases (show u = V.int y from h2)
  refine ⟨rfl, ?_⟩
  rw [show decide (V.int x = V.int y) = decide (x = y) by rw [dec_int]; rfl]
  exact k _ F H (Adv.refl e) rfl
theorem opx_eqB : OpX K rEq (fun (i j : Bool) => .ok (i == j)) := fun F H x y v u Q e h1 h2 k => by
  cases (show v = V.bl x from h1); cases (show u = V.bl y from h2)
  refine ⟨rfl, ?_⟩
  rw [dec_bl]
  exact k _ F H (Adv.refl e) rfl
theorem opx_neB : OpX K rNe (fun (i j : Bool) => .ok (!(i == j))) := fun F H x y v u Q e h1 h2 k => by
  cases (show v = V.bl x from h1); cases (show u = V.bl y from h2)
  refine ⟨rfl, ?_⟩
  rw [dec_bl]
  exact k _ F H (Adv.refl e) rfl
theorem opx_eqS : OpX K rEq (fun (i j : Str) => .ok (i == j)) := fun F H x y v u Q e h1 h2 k => by
  cases (show v = V.str x from h1); cases (show u = V.str y from h2)
  refine ⟨rfl, ?_⟩
  rw [dec_str]
  exact k _ F H (Adv.refl e) rfl
theorem opx_neS : OpX K rNe (fun (i j : Str) => .ok (!(i == j))) := fun F H x y v u Q e h1 h2 k => by
  cases (show v = V.str x from h1); cases (show u = V.str y from h2)
  refine ⟨rfl, ?_⟩
  rw [dec_str]
  exact k _ F H (Adv.refl e) rfl
def D.isNon : D → Bool
  | .non => true
  | _ => false
theorem rep_isNon : ∀ {x : D} {v : V}, Rep K F x v → decide (v = V.non) = x.isNon
  | .non, v, h => by rw [show v = V.non from h]; rfl
  | .bl b, v, h => by rw [show v = V.bl b from h]; rfl
  | .int b, v, h => by rw [show v = V.int b from h]; rfl
  | .str b, v, h => by rw [show v = V.str b from h]; rfl
  | .ty b, v, h => by rw [show v = V.ty b from h]; rfl
  | .tup ds, v, h => by obtain ⟨a, vs, rfl, _⟩ := h; rfl
  | .lst ds, v, h => by obtain ⟨a, vs, rfl, _⟩ := h; rfl
  | .obj c ks ds, v, h => by obtain ⟨a, dx, vs, rfl, _⟩ := h; rfl
theorem opx_isN : OpX K (fun x y H Q => y = .non ∧ Q (.bl (decide (x = .non))) H) (fun (x : α) (_ : Unit) => .ok (toD x).isNon) := fun F H x y v u Q e h1 h2 k =>
  ⟨h2, by rw [rep_isNon h1]; exact k _ F H (Adv.refl e) rfl⟩
theorem opx_notN : OpX K (fun x y H Q => y = .non ∧ Q (.bl (!decide (x = .non))) H) (fun (x : α) (_ : Unit) => .ok (!(toD x).isNon)) := fun F H x y v u Q e h1 h2 k =>
  ⟨h2, by rw [rep_isNon h1]; exact k _ F H (Adv.refl e) rfl⟩

/-! ### == of data -/
mutual
def D.py : D → PyData
  | .non => .none
  | .bl b => .bool b
  | .int i => .int i
  | .str s => .str s
  | .ty _ => .none
  | .tup xs => .tuple (pyL xs)
  | .lst xs => .list (pyL xs)
  | .obj _ _ _ => .none
def pyL : List D → List PyData
  | [] => []
  | x :: xs => D.py x :: pyL xs
end
mutual
/-- no objects, no classes within -/
def D.flat : D → Bool
  | .ty _ => false
  | .obj _ _ _ => false
  | .tup xs => flatL xs
  | .lst xs => flatL xs
  | _ => true
def flatL : List D → Bool
  | [] => true
  | x :: xs => D.flat x && flatL xs
end
mutual
theorem dp_of : ∀ {x : D} {v : V}, Rep K F x v → x.flat = true → Dp K F v x.py
  | .non, v, h, _ => by rw [show v = V.non from h]; exact .non
  | .bl b, v, h, _ => by rw [show v = V.bl b from h]; exact .bl b
  | .int b, v, h, _ => by rw [show v = V.int b from h]; exact .int b
  | .str b, v, h, _ => by rw [show v = V.str b from h]; exact .str b
  | .ty b, v, h, q => by cases q
  | .tup ds, v, h, q => by obtain ⟨a, vs, rfl, h2, h3⟩ := h; exact .tup h2 (dps_of h3 q)
  | .lst ds, v, h, q => by obtain ⟨a, vs, rfl, h2, h3⟩ := h; exact .lst h2 (dps_of h3 q)
  | .obj c ks ds, v, h, q => by cases q
theorem dps_of : ∀ {xs : List D} {vs : List V}, Reps K F xs vs → flatL xs = true → DpAll K F vs (pyL xs)
  | [], vs, h, _ => by rw [show vs = [] from h]; exact .nil
  | x :: xs, vs, h, q => by
    obtain ⟨v, r, rfl, h2, h3⟩ := h
    have q2 := Bool.and_eq_true_iff.mp (show (D.flat x && flatL xs) = true from q)
    exact .cons (dp_of h2 q2.1) (dps_of h3 q2.2)
end
mutual
theorem Dp.mono {e : Ex F F'} : ∀ {v : V} {x : PyData}, Dp K F v x → Dp K F' v x
  | _, _, .non => .non
  | _, _, .bl b => .bl b
  | _, _, .int b => .int b
  | _, _, .str b => .str b
  | _, _, .lst h1 h2 => .lst (Evl.ex_l e h1) (Dps.mono (e := e) h2)
  | _, _, .tup h1 h2 => .tup (Evl.ex_t e h1) (Dps.mono (e := e) h2)
theorem Dps.mono {e : Ex F F'} : ∀ {v : List V} {x : List PyData}, DpAll K F v x → DpAll K F' v x
  | _, _, .nil => .nil
  | _, _, .cons h1 h2 => .cons (Dp.mono (e := e) h1) (Dps.mono (e := e) h2)
end
/-- data that == may be asked of -/
def D.okq (x : D) : Bool := x.flat && SeqAt.shaped x.py
def pyEq (x y : D) : Bool := PyData.eqv x.py y.py
theorem opx_eqD : OpX K (rEqD K) (fun (x : α) (y : β) => .need ((toD x).okq = true ∧ (toD y).okq = true) (.ok (pyEq (toD x) (toD y)))) := fun F H x y v u Q e h1 h2 k => by
  dsimp only at k
  by_cases c : (toD x).okq = true ∧ (toD y).okq = true
  · rw [Res.need_pos c] at k
    obtain ⟨c1, c2⟩ := c
    obtain ⟨a1, a2⟩ := Bool.and_eq_true_iff.mp c1
    obtain ⟨b1, b2⟩ := Bool.and_eq_true_iff.mp c2
    exact ⟨_, _, Dp.mono (e := e) (dp_of h1 a1), Dp.mono (e := e) (dp_of h2 b1), a2, b2, k _ F H (Adv.refl e) rfl⟩
  · rw [Res.need_neg c] at k
    exact k.elim
theorem opx_neD : OpX K (rNeD K) (fun (x : α) (y : β) => .need ((toD x).okq = true ∧ (toD y).okq = true) (.ok (!pyEq (toD x) (toD y)))) := fun F H x y v u Q e h1 h2 k => by
  dsimp only at k
  by_cases c : (toD x).okq = true ∧ (toD y).okq = true
  · rw [Res.need_pos c] at k
    obtain ⟨c1, c2⟩ := c
    obtain ⟨a1, a2⟩ := Bool.and_eq_true_iff.mp c1
    obtain ⟨b1, b2⟩ := Bool.and_eq_true_iff.mp c2
    exact ⟨_, _, Dp.mono (e := e) (dp_of h1 a1), Dp.mono (e := e) (dp_of h2 b1), a2, b2, k _ F H (Adv.refl e) rfl⟩
  · rw [Res.need_neg c] at k
    exact k.elim

/-! ### an item -/
def idx {α : Type} (xs : List α) (i : Int) : Res α := match atI xs i with
  | some x => .ok x
  | none => .stuck
theorem idx_mild {α : Type} (xs : List α) (i : Int) (c : Str) : idx xs i ≠ .exc c := by
  unfold idx; split <;> intro h <;> cases h
theorem atI_map {α β : Type} (f : α → β) (xs : List α) (i : Int) : atI (xs.map f) i = (atI xs i).map f := by
  unfold atI
  rw [List.length_map]
  cases ixN xs.length i with
  | none => rfl
  | some j => simp
theorem Reps.at {xs : List D} {vs : List V} {i : Int} {x : D} (h : Reps K F xs vs) (e : atI xs i = some x) : ∃ v, atI vs i = some v ∧ Rep K F x v := by
  unfold atI at e ⊢
  rw [← h.length]
  cases q : ixN xs.length i with
  | none => rw [q] at e; cases e
  | some j => rw [q] at e; exact Reps.get h e
theorem opx_ixL : OpX K (rIxL K) (fun (xs : List α) (i : Int) => idx xs i) := fun F H xs i v u Q e h1 h2 k => by
  obtain ⟨a, vs, rfl, hl, hr⟩ := h1
  cases (show u = V.int i from h2)
  dsimp only [idx] at k
  cases q : atI xs i with
  | none => rw [q] at k; exact k.elim
  | some x =>
    rw [q] at k
    obtain ⟨w, hw, rw_⟩ := Reps.at (i := i) hr (x := toD x) (by rw [atI_map, q]; rfl)
    exact ⟨a, vs, i, w, rfl, rfl, Evl.ex_l e hl, hw, k _ F H (Adv.refl e) rw_⟩
theorem opx_ixT : OpX K (rIxT K) (fun (xs : Tu α) (i : Int) => idx xs.xs i) := fun F H xs i v u Q e h1 h2 k => by
  obtain ⟨a, vs, rfl, hl, hr⟩ := h1
  cases (show u = V.int i from h2)
  dsimp only [idx] at k
  cases q : atI xs.xs i with
  | none => rw [q] at k; exact k.elim
  | some x =>
    rw [q] at k
    obtain ⟨w, hw, rw_⟩ := Reps.at (i := i) hr (x := toD x) (by rw [atI_map, q]; rfl)
    exact ⟨a, vs, i, w, rfl, rfl, Evl.ex_t e hl, hw, k _ F H (Adv.refl e) rw_⟩
/-- t[i], i written, t a tuple whose parts have types of their own -/
theorem ev_ixTC {m : Res α} {i : Int} {f : α → β} (ha : EvX K W env ta m) (hf : ∀ x, ∃ ds, toD x = .tup ds ∧ atI ds i = some (toD (f x))) :
    EvX K W env (tOp (rIxT K) ta (tC (.int i))) (m.bind fun x => .ok (f x)) := fun F0 H0 F H σ Q S k => by
  refine ha F0 H0 F H σ _ S (KE.cut S.ex k fun x v F1 H1 e1 a1 r1 k1 => ?_)
  obtain ⟨ds, e, q⟩ := hf x
  rw [e] at r1
  obtain ⟨a, vs, rfl, hl, hr⟩ := r1
  obtain ⟨w, hw, rw_⟩ := Reps.at (i := i) hr q
  exact ⟨a, vs, i, w, rfl, rfl, Evl.ex_t a1.in_ hl, hw, k1 _ F1 H1 (Adv.refl a1.in_) rw_⟩
/-- xs[i], xs the owned list of slot j -/
theorem ev_ixO {j : Nat} {xs : List α} {m : Res Int} (h : env[j]? = some (some (.ow (xs.map toD)))) (hb : EvX K W env tb m) : EvX K W env (tOp (rIxL K) (tVar j) tb) (m.bind fun i => idx xs i) := fun F0 H0 F H σ Q S k => by
  obtain ⟨v, e, p, vs, rfl, h0, hf, hp, hr⟩ := S.slot j _ h
  refine ⟨_, e, ?_⟩
  refine hb F0 H0 F H σ _ S (KE.cut S.ex k fun i u F1 H1 e1 a1 r1 k1 => ?_)
  cases (show u = V.int i from r1)
  unfold idx at k1
  cases q : atI xs i with
  | none => rw [q] at k1; exact k1.elim
  | some x =>
    rw [q] at k1
    obtain ⟨w, hw, rw_⟩ := Reps.at (i := i) hr (x := toD x) (by rw [atI_map, q]; rfl)
    exact ⟨p, vs, i, w, rfl, rfl, .inl (.inl (a1.h _ _ hp)), hw, k1 _ F1 H1 (Adv.refl a1.in_) (Rep.mono a1.f _ _ rw_)⟩

/-! ### tests, and, or, not -/
theorem et_test {m : Res Bool} (ha : EvX K W env te m) : EvT K W env (tTest te) m := fun F0 H0 F H σ Q S k => by
  refine ha F0 H0 F H σ _ S ?_
  cases m with
  | ok b => exact fun v F' H' a q => ⟨b, q, k F' H' a⟩
  | exc c => exact k
  | stuck => exact k.elim
theorem et_B {m : Res Bool} (ha : EvX K W env te m) : EvT K W env (tB te) m := et_test ha
theorem et_not {m : Res Bool} (ha : EvT K W env tt m) : EvT K W env (tNot tt) (m.bind fun b => .ok (!b)) := fun F0 H0 F H σ Q S k => by
  refine ha F0 H0 F H σ _ S ?_
  cases m with
  | ok b => exact k
  | exc c => exact k
  | stuck => exact k.elim
theorem et_and {m1 m2 : Res Bool} (ha : EvT K W env tt m1) (hb : EvT K W env tu m2) : EvT K W env (tAnd tt tu) (m1.bind fun b => cond b m2 (.ok false)) := fun F0 H0 F H σ Q S k => by
  refine ha F0 H0 F H σ _ S ?_
  cases m1 with
  | ok b =>
    intro F' H' a
    cases b with
    | true =>
      have k : KT K W F H σ Q m2 := k
      show tu σ H' Q
      exact hb F0 H0 F' H' σ Q (S.step a) (k.adv a)
    | false => exact k F' H' a
  | exc c => exact k
  | stuck => exact k.elim
theorem et_or {m1 m2 : Res Bool} (ha : EvT K W env tt m1) (hb : EvT K W env tu m2) : EvT K W env (tOr tt tu) (m1.bind fun b => cond b (.ok true) m2) := fun F0 H0 F H σ Q S k => by
  refine ha F0 H0 F H σ _ S ?_
  cases m1 with
  | ok b =>
    intro F' H' a
    cases b with
    | false =>
      have k : KT K W F H σ Q m2 := k
      show tu σ H' Q
      exact hb F0 H0 F' H' σ Q (S.step a) (k.adv a)
    | true => exact k F' H' a
  | exc c => exact k
  | stuck => exact k.elim
theorem ev_andV {m1 m2 : Res Bool} (ha : EvX K W env ta m1) (hb : EvX K W env tb m2) : EvX K W env (tAndV ta tb) (m1.bind fun b => cond b m2 (.ok false)) := fun F0 H0 F H σ Q S k => by
  refine ha F0 H0 F H σ _ S ?_
  cases m1 with
  | ok b =>
    intro v F' H' a r
    refine ⟨b, r, ?_⟩
    cases b with
    | true =>
      have k : KE K W F H σ Q m2 := k
      exact hb F0 H0 F' H' σ Q (S.step a) (k.adv a)
    | false => exact k _ F' H' a rfl
  | exc c => exact k
  | stuck => exact k.elim
theorem ev_orV {m1 m2 : Res Bool} (ha : EvX K W env ta m1) (hb : EvX K W env tb m2) : EvX K W env (tOrV ta tb) (m1.bind fun b => cond b (.ok true) m2) := fun F0 H0 F H σ Q S k => by
  refine ha F0 H0 F H σ _ S ?_
  cases m1 with
  | ok b =>
    intro v F' H' a r
    refine ⟨b, r, ?_⟩
    cases b with
    | false =>
      have k : KE K W F H σ Q m2 := k
      exact hb F0 H0 F' H' σ Q (S.step a) (k.adv a)
    | true => exact k _ F' H' a rfl
  | exc c => exact k
  | stuck => exact k.elim
theorem ev_notV {m : Res Bool} (ha : EvX K W env ta m) : EvX K W env (tNotV ta) (m.bind fun b => .ok (!b)) := fun F0 H0 F H σ Q S k => by
  refine ha F0 H0 F H σ _ S ?_
  cases m with
  | ok b => exact fun v F' H' a r => ⟨b, r, k _ F' H' a rfl⟩
  | exc c => exact k
  | stuck => exact k.elim
theorem ev_if {m : Res Bool} {m1 m2 : Res α} (hc : EvT K W env tt m) (ha : EvX K W env ta m1) (hb : EvX K W env tb m2) : EvX K W env (tIf tt ta tb) (m.bind fun b => cond b m1 m2) := fun F0 H0 F H σ Q S k => by
  refine hc F0 H0 F H σ _ S ?_
  cases m with
  | ok b =>
    intro F' H' a
    cases b with
    | true =>
      have k : KE K W F H σ Q m1 := k
      show ta σ H' Q
      exact ha F0 H0 F' H' σ Q (S.step a) (k.adv a)
    | false =>
      have k : KE K W F H σ Q m2 := k
      show tb σ H' Q
      exact hb F0 H0 F' H' σ Q (S.step a) (k.adv a)
  | exc c => exact k
  | stuck => exact k.elim
/-- a < b < c -/
theorem ev_chain {m1 : Res α} {m2 : Res β} {m3 : Res γ} {r' : R2} {f : α → β → Res Bool} {g : β → γ → Res Bool} (ho : OpX K r f) (hf : Mild f) (ho' : OpX K r' g) (hg : Mild g) (ha : EvX K W env ta m1) (hb : EvX K W env tb m2) (hc : EvX K W env tc m3) :
    EvX K W env (tChain r r' ta tb tc) (m1.bind fun x => m2.bind fun y => (f x y).bind fun b => cond b (m3.bind fun z => g y z) (.ok false)) := fun F0 H0 F H σ Q S k => by
  refine ha F0 H0 F H σ _ S (KE.cut S.ex k fun x v F1 H1 e1 a1 r1 k1 => ?_)
  refine hb F0 H0 F1 H1 σ _ (S.step a1) (KE.cut a1.in_ k1 fun y u F2 H2 e2 a2 r2 k2 => ?_)
  refine ho F2 H2 x y v u _ a2.in_ (Rep.mono a2.f _ _ r1) r2 ?_
  cases q : f x y with
  | ok b =>
    rw [q] at k2
    intro w F3 H3 a3 rb
    refine ⟨b, rb, ?_⟩
    cases b with
    | true =>
      have k3 : KE K W F2 H2 σ Q (m3.bind fun z => g y z) := k2
      show tc σ H3 _
      refine hc F0 H0 F3 H3 σ _ (((S.step a1).step a2).step a3) (KE.cut a3.in_ (k3.adv a3) fun z w F4 H4 e4 a4 r4 k4 => ?_)
      exact ho' F4 H4 y z u w Q a4.in_ (Rep.mono (a3.trans a4).f _ _ r2) r4 (k4.mild (hg y z))
    | false => exact k2 _ F3 H3 a3 rfl
  | exc c => exact absurd q (hf x y c)
  | stuck => rw [q] at k2; exact k2.elim

/-! ### arguments, displays, calls -/
theorem ea_nil : EvA K W env tNil (.ok ()) := fun F0 H0 F H σ Q S k => k [] F H (Adv.refl S.ex) rfl
theorem ea_cons {δ : Type} [ToDs δ] {t : TA} {m1 : Res α} {m2 : Res δ} (ha : EvX K W env te m1) (hb : EvA K W env t m2) : EvA K W env (tCons te t) (m1.bind fun x => m2.bind fun y => .ok (x, y)) := fun F0 H0 F H σ Q S k => by
  refine ha F0 H0 F H σ _ S ?_
  cases m1 with
  | ok x =>
    intro v F1 H1 a1 r1
    have k1 : KA K W F H σ Q (m2.bind fun y => .ok (x, y)) := k
    refine hb F0 H0 F1 H1 σ _ (S.step a1) ?_
    cases m2 with
    | ok y =>
      intro vs F2 H2 a2 r2
      exact k1 (v :: vs) F2 H2 (a1.trans a2) ⟨v, vs, rfl, Rep.mono a2.f _ _ r1, r2⟩
    | exc c => exact fun F2 H2 a2 => k1 F2 H2 (a1.trans a2)
    | stuck => exact k1.elim
  | exc c => exact k
  | stuck => exact k.elim
/-- a tuple that is made; its type by f -/
theorem ev_tup {δ : Type} [ToDs δ] {t : TA} {m : Res δ} {f : δ → α} (ha : EvA K W env t m) (hf : ∀ y : δ, toD (f y) = .tup (ToDs.ds y)) (hn : ∀ y : δ, (ToDs.ds y).length ≤ 100000) : EvX K W env (tTup t) (m.bind fun y => .ok (f y)) := fun F0 H0 F H σ Q S k => by
  refine ha F0 H0 F H σ _ S ?_
  cases m with
  | ok y =>
    intro vs F1 H1 a1 r1
    refine ⟨by rw [← r1.length]; exact Evl.sz_of (hn y), fun p hp => ?_⟩
    have a2 : Adv F1 H1 (upd F1 p (.tup vs)) (upd H1 p (.tup vs)) := Adv.new a1.in_ hp
    refine k _ _ _ (a1.trans a2) ?_
    rw [hf]
    exact ⟨p, vs, rfl, .inl (.inl upd_same), Reps.mono a2.f _ _ r1⟩
  | exc c => exact k
  | stuck => exact k.elim
/-- a list that is made -/
theorem en_lst {δ : Type} [ToDs δ] {t : TA} {m : Res δ} {f : δ → List α} (ha : EvA K W env t m) (hf : ∀ y : δ, (f y).map toD = ToDs.ds y) (hn : ∀ y : δ, (ToDs.ds y).length ≤ 100000) : EvN K W env (tLst t) (m.bind fun y => .ok (f y)) := fun F0 H0 F H σ Q S k => by
  refine ha F0 H0 F H σ _ S ?_
  cases m with
  | ok y =>
    intro vs F1 H1 a1 r1
    refine ⟨by rw [← r1.length]; exact Evl.sz_of (hn y), fun p hp => ?_⟩
    refine k p vs _ _ (a1.trans (Adv.newO a1.in_ hp)) (Evl.fresh_back a1.h hp) (none_of_ex a1.in_ hp) upd_same ?_
    rw [hf]
    exact r1
  | exc c => exact k
  | stuck => exact k.elim
/-- a new list as a value that is not changed later -/
theorem ev_ofN {m : Res (List α)} (h : EvN K W env te m) : EvX K W env te m := fun F0 H0 F H σ Q S k => by
  refine h F0 H0 F H σ Q S ?_
  cases m with
  | ok xs =>
    intro p vs F1 H1 a1 hp hf hh r
    have e : Ex F1 (upd F1 p (.lst vs)) := Ex.new hf
    refine k _ (upd F1 p (.lst vs)) H1 ⟨a1.f.trans e, a1.h, fun a u q => ?_, fun q h1 h2 => ?_⟩ ⟨p, vs, rfl, .inl (.inl upd_same), Reps.mono e _ _ r⟩
    · by_cases z : a = p
      · subst z; rw [upd_same] at q; cases q; exact hh
      · rw [upd_ne z] at q; exact a1.in_ a u q
    · have z : q ≠ p := fun z => h2 (by rw [z]; exact hp)
      rw [upd_ne z]; exact a1.out q h1 h2
  | exc c => exact k
  | stuck => exact k.elim
/-- a def's promise, by the function that tells what it gives -/
def spM (K : PySem.W.Frag) {δ : Type} [ToDs δ] (f : δ → Res α) : Sp := fun vs H Q E => ∃ F x, Ex F H ∧ Reps K F (ToDs.ds x) vs ∧ KE K (fun cls d _ H => E cls d H) F H [] Q (f x)
theorem ev_call {δ : Type} [ToDs δ] {t : TA} {m : Res δ} {f : δ → Res α} (ha : EvA K W env t m) : EvX K W env (tCallS (spM K f) (WE W) t) (m.bind f) := fun F0 H0 F H σ Q S k => by
  refine ha F0 H0 F H σ _ S ?_
  cases m with
  | ok y =>
    intro vs F1 H1 a1 r1
    refine ⟨F1, y, a1.in_, r1, ?_⟩
    have k : KE K W F H σ Q (f y) := k
    have k := k.adv a1
    revert k
    generalize f y = z
    intro k
    cases z with
    | ok z => exact k
    | exc c => exact k
    | stuck => exact k.elim
  | exc c => exact k
  | stuck => exact k.elim
namespace Res
def noexc {α : Type} : Res α → Res α
  | .exc _ => .stuck
  | m => m
end Res
/-- a call of a def that lets nothing out there -/
theorem ev_call0 {δ : Type} [ToDs δ] {t : TA} {m : Res δ} {f : δ → Res α} (ha : EvA K W env t m) : EvX K W env (tCall (spM K f) [] E0 t) (m.bind fun y => (f y).noexc) := fun F0 H0 F H σ Q S k => by
  refine ha F0 H0 F H σ _ S ?_
  cases m with
  | ok y =>
    intro vs F1 H1 a1 r1
    refine ⟨F1, y, a1.in_, by rw [List.append_nil]; exact r1, ?_⟩
    have k : KE K W F H σ Q (f y).noexc := k
    have k := k.adv a1
    revert k
    generalize f y = z
    intro k
    cases z with
    | ok z => exact k
    | exc c => exact k.elim
    | stuck => exact k.elim
  | exc c => exact k
  | stuck => exact k.elim
/-- built-in defs by their values -/
def CrX (K : PySem.W.Frag) (r : List V → Hp → VK → Prop) {δ : Type} [ToDs δ] (f : δ → Res α) : Prop := ∀ (F H : Hp) (x : δ) (vs : List V) (Q : VK), Ex F H → Reps K F (ToDs.ds x) vs → KE K (fun _ _ _ _ => False) F H [] Q (f x) → r vs H Q
theorem ev_cb {δ : Type} [ToDs δ] {r : List V → Hp → VK → Prop} {t : TA} {m : Res δ} {f : δ → Res α} (ho : CrX K r f) (hm : ∀ x c, f x ≠ .exc c) (ha : EvA K W env t m) : EvX K W env (tCB r t) (m.bind f) := fun F0 H0 F H σ Q S k => by
  refine ha F0 H0 F H σ _ S ?_
  cases m with
  | ok y =>
    intro vs F1 H1 a1 r1
    have k : KE K W F H σ Q (f y) := k
    exact ho F1 H1 y vs Q a1.in_ r1 ((k.adv a1).mild (hm y))
  | exc c => exact k
  | stuck => exact k.elim
end
end Mi
set_option maxHeartbeats 1000000
namespace Mi
open PySem PySem.Spec L2
open Evl (Ex)

/-! ### statements -/
inductive EnLe : En → En → Prop
  | nil : EnLe [] []
  | same {e : Option Sk} {l m : En} : EnLe l m → EnLe (e :: l) (e :: m)
  | drop {e : Option Sk} {l m : En} : EnLe l m → EnLe (e :: l) (none :: m)
theorem EnLe.refl : ∀ l : En, EnLe l l
  | [] => .nil
  | _ :: l => .same (EnLe.refl l)
theorem EnLe.get : ∀ {l m : En}, EnLe l m → ∀ {i : Nat} {sk : Sk}, m[i]? = some (some sk) → l[i]? = some (some sk)
  | _, _, .nil, i, sk, h => h
  | _, _, .same t, 0, sk, h => h
  | _, _, .same t, i + 1, sk, h => EnLe.get t (by simpa using h)
  | _, _, .drop t, 0, sk, h => by simp at h
  | _, _, .drop t, i + 1, sk, h => EnLe.get t (by simpa using h)
theorem EnLe.len {l m : En} (h : EnLe l m) : l.length = m.length := by
  induction h with
  | nil => rfl
  | same _ ih => simp [ih]
  | drop _ ih => simp [ih]
theorem Sl.weak {K : PySem.W.Frag} {F0 H0 F H : Hp} {σ : L2.St} {env env' : En} (S : Sl K F0 H0 F H σ env) (h : EnLe env env') : Sl K F0 H0 F H σ env' :=
  ⟨S.adv, fun i sk e => S.slot i sk (h.get e), fun i j sk sk' p hij e1 e2 => S.dis i j sk sk' p hij (h.get e1) (h.get e2), S.len.trans h.len⟩
def Blk (K : PySem.W.Frag) (F0 H0 : Hp) {τ : Type} (KP : Res τ → Prop) (T : L2.St → Hp → Prop) (env : En) (m : Res τ) : Prop :=
  ∀ F H σ, Sl K F0 H0 F H σ env → KP m → T σ H
structure Lk (K : PySem.W.Frag) (W : WX) (F0 H0 : Hp) (rt : VK) (PT : En → Prop) {τ : Type} [ToD τ] (KP : Res τ → Prop) : Prop where
  ok : ∀ x, KP (.ok x) → ∀ v F H, Adv F0 H0 F H → Rep K F (toD x) v → rt v H
  exc : ∀ c F H σ env, KP (.exc c) → PT env → Sl K F0 H0 F H σ env → W (.ref (He.ga K c)) none σ H
  no : ¬ KP .stuck
section
variable {K : PySem.W.Frag} {W : WX} {F0 H0 F H F' H' F1 : Hp} {rt : VK} {PT : En → Prop} {env env' : En} {α β γ τ : Type} [ToD α] [ToD β] [ToD γ] [ToD τ] {KP : Res τ → Prop} {te ta tb tc : TE} {tt : TT} {Z : Ends} {t u : TS} {T : L2.St → Hp → Prop}
theorem Sl.base {σ : L2.St} (S : Sl K F0 H0 F1 H' σ env) {σ' : L2.St} (S' : Sl K F1 H0 F H σ' env') : Sl K F0 H0 F H σ' env' :=
  ⟨⟨S.adv.f.trans S'.adv.f, S'.adv.h, S'.adv.in_, fun p h1 h2 => S'.adv.out p (S.adv.out p h1 h2) h2⟩, S'.slot, S'.dis, S'.len⟩
theorem Lk.base (L : Lk K W F0 H0 rt PT KP) {σ : L2.St} (S : Sl K F0 H0 F1 H' σ env) : Lk K W F1 H0 rt PT KP :=
  ⟨fun x h v F H a r => L.ok x h v F H ⟨S.adv.f.trans a.f, a.h, a.in_, fun p h1 h2 => a.out p (S.adv.out p h1 h2) h2⟩ r,
   fun c F H σ' env' h p S' => L.exc c F H σ' env' h p (S.base S'), L.no⟩
theorem Blk.base {m : Res τ} (B : Blk K F0 H0 KP T env' m) {σ : L2.St} (S : Sl K F0 H0 F1 H' σ env) : Blk K F1 H0 KP T env' m := fun F H σ' S' h => B F H σ' (S.base S') h
theorem Blk.weak {m : Res τ} (B : Blk K F0 H0 KP T env' m) (h : EnLe env env') : Blk K F0 H0 KP T env m := fun F H σ S k => B F H σ (S.weak h) k

/-- what follows an expression in a block -/
theorem Lk.ke (L : Lk K W F0 H0 rt PT KP) (hT : PT env) {σ : L2.St} (S : Sl K F0 H0 F H σ env) {m : Res α} {f : α → Res τ} (h : KP (m.bind f)) {Q : VK}
    (k : ∀ x v F' H', m = .ok x → Adv F H F' H' → Rep K F' (toD x) v → KP (f x) → Q v H') : KE K W F H σ Q m := by
  cases m with
  | ok x => exact fun v F' H' a r => k x v F' H' rfl a r h
  | exc c => exact fun F' H' a => L.exc c F' H' σ env h hT (S.step a)
  | stuck => exact (L.no h).elim
theorem Lk.kt (L : Lk K W F0 H0 rt PT KP) (hT : PT env) {σ : L2.St} (S : Sl K F0 H0 F H σ env) {m : Res Bool} {f : Bool → Res τ} (h : KP (m.bind f)) {Q : Bool → Hp → Prop}
    (k : ∀ x F' H', m = .ok x → Adv F H F' H' → KP (f x) → Q x H') : KT K W F H σ Q m := by
  cases m with
  | ok x => exact fun F' H' a => k x F' H' rfl a h
  | exc c => exact fun F' H' a => L.exc c F' H' σ env h hT (S.step a)
  | stuck => exact (L.no h).elim
theorem Lk.kn (L : Lk K W F0 H0 rt PT KP) (hT : PT env) {σ : L2.St} (S : Sl K F0 H0 F H σ env) {m : Res (List α)} {f : List α → Res τ} (h : KP (m.bind f)) {Q : VK}
    (k : ∀ xs p vs F' H', m = .ok xs → Adv F H F' H' → H p = none → F' p = none → H' p = some (.lst vs) → Reps K F' (xs.map toD) vs → KP (f xs) → Q (.ref p) H') : KN K W F H σ Q m := by
  cases m with
  | ok x => exact fun p vs F' H' a h1 h2 h3 h4 => k x p vs F' H' rfl a h1 h2 h3 h4 h
  | exc c => exact fun F' H' a => L.exc c F' H' σ env h hT (S.step a)
  | stuck => exact (L.no h).elim

theorem blk_seq {m : Res τ} (h : Blk K F0 H0 KP (t { Z with nx := u Z }) env m) : Blk K F0 H0 KP (tSeq t u Z) env m := h
theorem blk_nil {m : Res τ} (h : Blk K F0 H0 KP Z.nx env m) : Blk K F0 H0 KP (tNext Z) env m := h

theorem Blk.nx {m : Res τ} {T bk ct : L2.St → Hp → Prop} {r : VK} (h : Blk K F0 H0 KP T env m) : Blk K F0 H0 KP (Ends.nx ⟨T, r, bk, ct⟩) env m := h
/-! targets -/
def GX (K : PySem.W.Frag) (g : TG) (x : D) (f : En → En) (ws : List Nat) : Prop := ∀ (F0 H0 F H : Hp) (σ : L2.St) (env : En) (v : V) (T : L2.St → Hp → Prop), Sl K F0 H0 F H σ env → Rep K F x v →
  (∀ σ', Sl K F0 H0 F H σ' (f env) → σ'.length = σ.length → (∀ j, j ∉ ws → σ'[j]? = σ[j]?) → T σ' H) → g v σ H T
def GXs (K : PySem.W.Frag) (g : TGs) (xs : List D) (f : En → En) (ws : List Nat) : Prop := ∀ (F0 H0 F H : Hp) (σ : L2.St) (env : En) (vs : List V) (T : L2.St → Hp → Prop), Sl K F0 H0 F H σ env → Reps K F xs vs →
  (∀ σ', Sl K F0 H0 F H σ' (f env) → σ'.length = σ.length → (∀ j, j ∉ ws → σ'[j]? = σ[j]?) → T σ' H) → g vs σ H T
def stE (i : Nat) (x : D) : En → En := fun env => env.set i (some (.im x))
theorem gx_name {i : Nat} {x : D} : GX K (gName i) x (stE i x) [i] := fun F0 H0 F H σ env v T S r k =>
  k _ (S.setIm r) (by rw [List.length_set]) fun j hj => List.getElem?_set_ne fun e => hj (by rw [e]; exact List.mem_singleton.mpr rfl)
theorem gxs_nil : GXs K gNil [] (fun e => e) [] := fun F0 H0 F H σ env vs T S r k => ⟨r, k σ S rfl fun _ _ => rfl⟩
theorem gxs_cons {g : TG} {gs : TGs} {x : D} {xs : List D} {f1 f2 : En → En} {w1 w2 : List Nat} (h1 : GX K g x f1 w1) (h2 : GXs K gs xs f2 w2) : GXs K (gCons g gs) (x :: xs) (fun e => f2 (f1 e)) (w1 ++ w2) := fun F0 H0 F H σ env vs T S r k => by
  obtain ⟨v, rs, rfl, r1, r2⟩ := r
  refine ⟨v, rs, rfl, h1 F0 H0 F H σ env v _ S r1 fun σ1 S1 l1 o1 => ?_⟩
  refine h2 F0 H0 F H σ1 _ rs T S1 r2 fun σ2 S2 l2 o2 => ?_
  refine k σ2 S2 (l2.trans l1) fun j hj => ?_
  rw [o2 j fun z => hj (List.mem_append_right _ z), o1 j fun z => hj (List.mem_append_left _ z)]
theorem gx_tup {gs : TGs} {n : Nat} {xs : List D} {f : En → En} {ws : List Nat} (h : GXs K gs xs f ws) (hn : xs.length = n) : GX K (gTup K n gs) (.tup xs) f ws := fun F0 H0 F H σ env v T S r k => by
  obtain ⟨a, vs, rfl, h1, h2⟩ := r
  exact ⟨a, vs, rfl, Evl.ex_t S.ex h1, by rw [← h2.length]; exact hn, h F0 H0 F H σ env vs T S h2 k⟩

theorem blk_asg {g : TG} {m : Res α} {f : α → Res τ} {fe : α → En → En} {ws : List Nat} (L : Lk K W F0 H0 rt PT KP) (hT : PT env) (he : EvX K W env te m) (hg : ∀ x, GX K g (toD x) (fe x) ws)
    (k : ∀ x, Blk K F0 H0 KP Z.nx (fe x env) (f x)) : Blk K F0 H0 KP (tAsg te g Z) env (m.bind f) := fun F H σ S h =>
  he F0 H0 F H σ _ S (L.ke hT S h fun x v F1 H1 e1 a1 r1 h1 => hg x F0 H0 F1 H1 σ env v _ (S.step a1) r1 fun σ' S' _ _ => k x F1 H1 σ' S' h1)
theorem blk_set {i : Nat} {m : Res α} {f : α → Res τ} (L : Lk K W F0 H0 rt PT KP) (hT : PT env) (he : EvX K W env te m)
    (k : ∀ x, Blk K F0 H0 KP Z.nx (env.set i (some (.im (toD x)))) (f x)) : Blk K F0 H0 KP (tAsg te (gName i) Z) env (m.bind f) :=
  blk_asg L hT he (fun _ => gx_name) k
/-- x = a new list that is changed later -/
theorem blk_own {i : Nat} {m : Res (List α)} {f : List α → Res τ} (L : Lk K W F0 H0 rt PT KP) (hT : PT env) (he : EvN K W env te m)
    (k : ∀ xs, Blk K F0 H0 KP Z.nx (env.set i (some (.ow (xs.map toD)))) (f xs)) : Blk K F0 H0 KP (tAsg te (gName i) Z) env (m.bind f) := fun F H σ S h =>
  he F0 H0 F H σ _ S (L.kn hT S h fun xs p vs F1 H1 e1 a1 hp hf hh r h1 => by
    have S1 := S.step a1
    refine k xs F1 H1 _ (S1.setOw (Evl.fresh_back S.adv.h hp) hf hh (fun j sk' e ho z => ?_) r) h1
    obtain ⟨v, e2, q⟩ := S.slot j _ e
    obtain ⟨p', o', rfl, _, _, q4⟩ := q.at ho
    rw [e2] at z
    cases z
    rw [hp] at q4; cases q4)
/-- x.append(e), x an owned list -/
theorem blk_app {i : Nat} {xs : List β} {m : Res β} {f : β → Res τ} (L : Lk K W F0 H0 rt PT KP) (hT : PT env) (hx : env[i]? = some (some (.ow (xs.map toD)))) (he : EvX K W env te m)
    (k : ∀ y, Blk K F0 H0 KP Z.nx (env.set i (some (.ow ((xs ++ [y]).map toD)))) (f y)) :
    Blk K F0 H0 KP (tDrop (tBM K "list" rAppend (tVar i) (tCons te tNil)) Z) env (m.bind fun y => .need (xs.length < 16777216) (f y)) := fun F H σ S h => by
  obtain ⟨v, e, p, vs, rfl, h0, hf, hp, hr⟩ := S.slot i _ hx
  refine ⟨_, e, .inl ⟨rfl, _, .inl (.inl hp)⟩, ?_⟩
  refine he F0 H0 F H σ _ S (L.ke hT S h fun y u F1 H1 e1 a1 r1 h1 => ?_)
  by_cases c : xs.length < 16777216
  · rw [Res.need_pos c] at h1
    have hr' := Reps.mono a1.f _ _ hr
    refine ⟨p, vs, u, rfl, rfl, a1.h _ _ hp, by rw [sizeLine_eq, ← hr.length, List.length_map]; exact c, ?_⟩
    refine k y F1 _ σ ((S.step a1).chg hx e (a1.out p hf (by rw [hp]; simp)) h0 ?_) h1
    rw [List.map_append]
    exact Reps.append hr' (Reps.one r1)
  · rw [Res.need_neg c] at h1
    exact (L.no h1).elim
/-- x[i] = e, x an owned list -/
theorem blk_setI {i : Nat} {xs : List β} {m : Res β} {mi : Res Int} {f : List β → Res τ} (L : Lk K W F0 H0 rt PT KP) (hT : PT env) (hx : env[i]? = some (some (.ow (xs.map toD)))) (he : EvX K W env te m) (hi : EvX K W env tb mi)
    (k : ∀ ys, Blk K F0 H0 KP Z.nx (env.set i (some (.ow (ys.map toD)))) (f ys)) :
    Blk K F0 H0 KP (tAsg te (gSub (tVar i) tb rSetL) Z) env (m.bind fun y => mi.bind fun j => match ixN xs.length j with | some a => f (xs.set a y) | none => .stuck) := fun F H σ S h => by
  obtain ⟨v, e, p, vs, rfl, h0, hf, hp, hr⟩ := S.slot i _ hx
  refine he F0 H0 F H σ _ S (L.ke hT S h fun y u F1 H1 e1 a1 r1 h1 => ?_)
  refine ⟨_, e, ?_⟩
  refine hi F0 H0 F1 H1 σ _ (S.step a1) (L.ke hT (S.step a1) h1 fun j w F2 H2 e2 a2 r2 h2 => ?_)
  cases (show w = V.int j from r2)
  have hr' := Reps.mono (a1.trans a2).f _ _ hr
  have ha := (a1.trans a2)
  have hl : vs.length = xs.length := by rw [← hr.length, List.length_map]
  cases q : ixN xs.length j with
  | none => rw [q] at h2; exact (L.no h2).elim
  | some a =>
    rw [q] at h2
    refine ⟨p, vs, j, a, rfl, rfl, ha.h _ _ hp, by rw [hl]; exact q, ?_⟩
    refine k (xs.set a y) F2 _ σ ((S.step ha).chg hx e (ha.out p hf (by rw [hp]; simp)) h0 ?_) h2
    rw [List.map_set]
    exact Reps.set a hr' (Rep.mono a2.f _ _ r1)
theorem blk_freeze {xs : List D} (i : Nat) {m : Res τ} (hx : env[i]? = some (some (.ow xs))) (k : Blk K F0 H0 KP T (env.set i (some (.im (.lst xs)))) m) : Blk K F0 H0 KP T env m := fun F H σ S h => by
  obtain ⟨F', _, S'⟩ := S.freeze hx
  exact k F' H σ S' h
theorem blk_if {m : Res Bool} {f : Bool → Res τ} (L : Lk K W F0 H0 rt PT KP) (hT : PT env) (hc : EvT K W env tt m) (h1 : Blk K F0 H0 KP (t Z) env (f true)) (h2 : Blk K F0 H0 KP (u Z) env (f false)) :
    Blk K F0 H0 KP (tIfS tt t u Z) env (m.bind f) := fun F H σ S h =>
  hc F0 H0 F H σ _ S (L.kt hT S h fun b F1 H1 e1 a1 k1 => by
    cases b with
    | true => exact h1 F1 H1 σ (S.step a1) k1
    | false => exact h2 F1 H1 σ (S.step a1) k1)
theorem blk_ret {m : Res τ} (L : Lk K W F0 H0 rt PT KP) (hT : PT env) (he : EvX K W env te m) (hZ : Z.rt = rt := by rfl) : Blk K F0 H0 KP (tRet te Z) env m := fun F H σ S h => by
  subst hZ
  rw [← Res.bind_pure m] at h
  exact he F0 H0 F H σ _ S (L.ke hT S h fun x v F1 H1 e1 a1 r1 h1 => L.ok x h1 v F1 H1 (S.adv.trans a1) r1)
/-- a value of another type is handed back -/
theorem blk_retAs {m : Res α} {f : α → τ} (L : Lk K W F0 H0 rt PT KP) (hT : PT env) (he : EvX K W env te m) (hf : ∀ x, toD (f x) = toD x) (hZ : Z.rt = rt := by rfl) : Blk K F0 H0 KP (tRet te Z) env (m.bind fun x => .ok (f x)) := fun F H σ S h => by
  subst hZ
  exact he F0 H0 F H σ _ S (L.ke hT S h fun x v F1 H1 e1 a1 r1 h1 => L.ok (f x) h1 v F1 H1 (S.adv.trans a1) (by rw [hf]; exact r1))
theorem blk_retN {x : τ} (L : Lk K W F0 H0 rt PT KP) (hx : toD x = .non) (hZ : Z.rt = rt := by rfl) : Blk K F0 H0 KP (tRetN Z) env (.ok x) := fun F H σ S h => by
  subst hZ
  exact L.ok x h .non F H S.adv (by rw [hx]; rfl)
theorem blk_expr {m : Res α} {f : α → Res τ} (L : Lk K W F0 H0 rt PT KP) (hT : PT env) (he : EvX K W env te m) (k : ∀ x, Blk K F0 H0 KP Z.nx env (f x)) : Blk K F0 H0 KP (tDrop te Z) env (m.bind f) := fun F H σ S h =>
  he F0 H0 F H σ _ S (L.ke hT S h fun x v F1 H1 e1 a1 r1 h1 => k x F1 H1 σ (S.step a1) h1)
/-- raise X('..') -/
theorem blk_raise {c : Str} (L : Lk K W F0 H0 rt PT KP) (hT : PT env) : Blk K F0 H0 KP (fun σ H => W (.ref (He.ga K c)) none σ H) env (.exc c) := fun F H σ S h => L.exc c F H σ env h hT S
theorem blk_raise1 {c : Str} {m : Res α} (L : Lk K W F0 H0 rt PT KP) (hT : PT env) (he : EvX K W env te m) : Blk K F0 H0 KP (fun σ H => te σ H fun _ H1 => W (.ref (He.ga K c)) none σ H1) env (m.bind fun _ => .exc c) := fun F H σ S h =>
  he F0 H0 F H σ _ S (L.ke hT S h fun x v F1 H1 e1 a1 r1 h1 => L.exc c F1 H1 σ env h1 hT (S.step a1))
/-- a, b = e1, e2 -/
theorem blk_par {i j : Nat} {m1 : Res α} {m2 : Res β} {f : α → β → Res τ} (L : Lk K W F0 H0 rt PT KP) (hT : PT env) (h1 : EvX K W env ta m1) (h2 : EvX K W env tb m2)
    (k : ∀ x y, Blk K F0 H0 KP Z.nx ((env.set i (some (.im (toD x)))).set j (some (.im (toD y)))) (f x y)) : Blk K F0 H0 KP (tPar i j (tCons ta (tCons tb tNil)) Z) env (m1.bind fun x => m2.bind fun y => f x y) := fun F H σ S h => by
  refine h1 F0 H0 F H σ _ S (L.ke hT S h fun x v F1 H1 e1 a1 r1 k1 => ?_)
  refine h2 F0 H0 F1 H1 σ _ (S.step a1) (L.ke hT (S.step a1) k1 fun y w F2 H2 e2 a2 r2 k2 => ?_)
  refine ⟨v, w, rfl, ?_⟩
  exact k x y F2 H2 _ ((((S.step a1).step a2).setIm (Rep.mono a2.f _ _ r1)).setIm r2) k2
/-- x op= e -/
theorem blk_aug {i : Nat} {x : Int} {m : Res Int} {f : Int → Res τ} {g : Int → Int → Int} (L : Lk K W F0 H0 rt PT KP) (hT : PT env) (hx : env[i]? = some (some (.im (.int x)))) (he : EvX K W env te m)
    (k : ∀ y, Blk K F0 H0 KP Z.nx (env.set i (some (.im (.int (g x y))))) (f y)) : Blk K F0 H0 KP (tAug i te (ipI g) Z) env (m.bind f) := fun F H σ S h => by
  obtain ⟨v, e, q⟩ := S.slot i _ hx
  cases (show v = V.int x from q)
  refine ⟨_, e, he F0 H0 F H σ _ S (L.ke hT S h fun y w F1 H1 e1 a1 r1 k1 => ?_)⟩
  exact ⟨x, y, rfl, r1, k y F1 H1 _ ((S.step a1).setIm rfl) k1⟩
theorem blk_augR {i : Nat} {x : α} {m : Res β} {f : γ → Res τ} {r : R2} {g : α → β → Res γ} (L : Lk K W F0 H0 rt PT KP) (hT : PT env) (hx : env[i]? = some (some (.im (toD x)))) (ho : OpX K r g) (hm : Mild g) (he : EvX K W env te m)
    (k : ∀ z, Blk K F0 H0 KP Z.nx (env.set i (some (.im (toD z)))) (f z)) : Blk K F0 H0 KP (tAug i te r Z) env (m.bind fun y => (g x y).bind f) := fun F H σ S h => by
  obtain ⟨v, e, q⟩ := S.slot i _ hx
  refine ⟨_, e, he F0 H0 F H σ _ S (L.ke hT S h fun y w F1 H1 e1 a1 r1 k1 => ?_)⟩
  refine ho F1 H1 x y v w _ a1.in_ (Rep.mono a1.f _ _ q) r1 ?_
  refine KE.mild (W := W) (σ := σ) (hm x y) ?_
  exact L.ke hT (S.step a1) k1 fun z u F2 H2 e2 a2 r2 k2 => k z F2 H2 _ (((S.step a1).step a2).setIm r2) k2

/-! ### loops -/
structure JS (K : PySem.W.Frag) (F : Hp) (J : It) (xs : List D) : Prop where
  go : ∀ i H, Ex F H → i < xs.length → J.go i H
  stop : ∀ i H, Ex F H → xs.length ≤ i → J.stop i H
  yld : ∀ i H v H' F1, Ex F F1 → Ex F1 H → i < xs.length → J.yld i H v H' → ∃ F2 x, Adv F1 H F2 H' ∧ xs[i]? = some x ∧ Rep K F2 x v
def KI (K : PySem.W.Frag) (W : WX) (F H : Hp) (σ : L2.St) {α : Type} [ToD α] (R : It → Hp → Prop) : Res (List α) → Prop
  | .ok xs => ∀ J F' H', Adv F H F' H' → JS K F' J (xs.map toD) → R J H'
  | .exc c => ∀ F' H', Adv F H F' H' → W (.ref (He.ga K c)) none σ H'
  | .stuck => False
def EvI (K : PySem.W.Frag) (W : WX) (env : En) (wi : TI) {α : Type} [ToD α] (m : Res (List α)) : Prop :=
  ∀ F0 H0 F H σ R, Sl K F0 H0 F H σ env → KI K W F H σ R m → wi σ H R
theorem Lk.ki (L : Lk K W F0 H0 rt PT KP) (hT : PT env) {σ : L2.St} (S : Sl K F0 H0 F H σ env) {m : Res (List α)} {f : List α → Res τ} (h : KP (m.bind f)) {R : It → Hp → Prop}
    (k : ∀ xs J F' H', m = .ok xs → Adv F H F' H' → JS K F' J (xs.map toD) → KP (f xs) → R J H') : KI K W F H σ R m := by
  cases m with
  | ok x => exact fun J F' H' a h1 => k x J F' H' rfl a h1 h
  | exc c => exact fun F' H' a => L.exc c F' H' σ env h hT (S.step a)
  | stuck => exact (L.no h).elim
theorem js_list {a : Addr} {vs : List V} {xs : List D} (hl : SqL K F a vs) (hr : Reps K F xs vs) : JS K F (Itl K a) xs := by
  have hn := hr.length
  refine ⟨fun i H e hi => ?_, fun i H e hi => ?_, fun i H v H' F1 e1 e2 hi hy => ?_⟩
  · exact ⟨vs, vs[i]'(by omega), Evl.ex_l e hl, List.getElem?_eq_getElem (by omega)⟩
  · exact ⟨vs, Evl.ex_l e hl, by omega⟩
  · obtain ⟨e, f⟩ := hy
    subst e
    have g := f vs (Evl.ex_l (e1.trans e2) hl)
    obtain ⟨w, q1, q2⟩ := hr.get (i := i) (e := xs[i]) (List.getElem?_eq_getElem hi)
    rw [g] at q1; cases q1
    exact ⟨F1, xs[i], Adv.refl e2, List.getElem?_eq_getElem hi, Rep.mono e1 _ _ q2⟩
theorem js_tup {a : Addr} {vs : List V} {xs : List D} (hl : SqT K F a vs) (hr : Reps K F xs vs) : JS K F (Itt K a) xs := by
  have hn := hr.length
  refine ⟨fun i H e hi => ?_, fun i H e hi => ?_, fun i H v H' F1 e1 e2 hi hy => ?_⟩
  · exact ⟨vs, vs[i]'(by omega), Evl.ex_t e hl, List.getElem?_eq_getElem (by omega)⟩
  · exact ⟨vs, Evl.ex_t e hl, by omega⟩
  · obtain ⟨e, f⟩ := hy
    subst e
    have g := f vs (Evl.ex_t (e1.trans e2) hl)
    obtain ⟨w, q1, q2⟩ := hr.get (i := i) (e := xs[i]) (List.getElem?_eq_getElem hi)
    rw [g] at q1; cases q1
    exact ⟨F1, xs[i], Adv.refl e2, List.getElem?_eq_getElem hi, Rep.mono e1 _ _ q2⟩
theorem ei_list {m : Res (List α)} (h : EvX K W env te m) : EvI K W env (iList K te) m := fun F0 H0 F H σ R S k => by
  refine h F0 H0 F H σ _ S ?_
  cases m with
  | ok xs =>
    intro v F1 H1 a r
    obtain ⟨p, vs, rfl, h1, h2⟩ := r
    exact ⟨p, rfl, ⟨vs, Evl.ex_l a.in_ h1⟩, k _ F1 H1 a (js_list h1 h2)⟩
  | exc c => exact k
  | stuck => exact k.elim
theorem ei_tup {m : Res (Tu α)} (h : EvX K W env te m) : EvI K W env (iTup K te) (m.bind fun x => .ok x.xs) := fun F0 H0 F H σ R S k => by
  refine h F0 H0 F H σ _ S ?_
  cases m with
  | ok xs =>
    intro v F1 H1 a r
    obtain ⟨p, vs, rfl, h1, h2⟩ := r
    exact ⟨p, rfl, ⟨vs, Evl.ex_t a.in_ h1⟩, k _ F1 H1 a (js_tup h1 h2)⟩
  | exc c => exact k
  | stuck => exact k.elim
def pyRange (lo hi : Int) : List Int := (List.range (hi - lo).toNat).map fun (i : Nat) => lo + (i : Int)
theorem pyRange_len (lo hi : Int) : (pyRange lo hi).length = (hi - lo).toNat := by simp [pyRange]
theorem pyRange_get {lo hi : Int} {i : Nat} (h : i < (hi - lo).toNat) : (pyRange lo hi)[i]? = some (lo + (i : Int)) := by
  simp [pyRange, h]
theorem js_range {lo hi : Int} : JS K F (Itr lo (hi - lo).toNat) ((pyRange lo hi).map toD) := by
  refine ⟨fun i H e h => ?_, fun i H e h => ?_, fun i H v H' F1 e1 e2 h hy => ?_⟩
  · rw [List.length_map, pyRange_len] at h; exact h
  · rw [List.length_map, pyRange_len] at h; exact h
  · rw [List.length_map, pyRange_len] at h
    obtain ⟨e, q⟩ := hy
    subst e q
    exact ⟨F1, .int (lo + (i : Int)), Adv.refl e2, by rw [List.getElem?_map, pyRange_get h]; rfl, rfl⟩
abbrev okRange (i : Int) : Prop := -(2 ^ 62) ≤ i ∧ i < 2 ^ 62
theorem ei_range1 {m : Res Int} (h : EvX K W env te m) : EvI K W env (iRng1 (tCons te tNil)) (m.bind fun j => .need (okRange j) (.ok (pyRange 0 j))) := fun F0 H0 F H σ R S k => by
  refine h F0 H0 F H σ _ S ?_
  cases m with
  | ok j =>
    intro v F1 H1 a r
    cases (show v = V.int j from r)
    have k : KI K W F H σ R (.need (okRange j) (.ok (pyRange 0 j))) := k
    by_cases c : okRange j
    · rw [Res.need_pos c] at k
      refine ⟨j, rfl, c.1, c.2, k _ F1 H1 a ?_⟩
      have := js_range (K := K) (F := F1) (lo := 0) (hi := j)
      rw [Int.sub_zero] at this
      exact this
    · rw [Res.need_neg c] at k; exact k.elim
  | exc c => exact k
  | stuck => exact k.elim
theorem ei_range2 {m1 m2 : Res Int} (h1 : EvX K W env ta m1) (h2 : EvX K W env tb m2) : EvI K W env (iRng2 (tCons ta (tCons tb tNil))) (m1.bind fun i => m2.bind fun j => .need (okRange i ∧ okRange j) (.ok (pyRange i j))) := fun F0 H0 F H σ R S k => by
  refine h1 F0 H0 F H σ _ S ?_
  cases m1 with
  | ok i =>
    intro v F1 H1 a r
    cases (show v = V.int i from r)
    refine h2 F0 H0 F1 H1 σ _ (S.step a) ?_
    have k : KI K W F H σ R (m2.bind fun j => .need (okRange i ∧ okRange j) (.ok (pyRange i j))) := k
    cases m2 with
    | ok j =>
      intro v F2 H2 a2 r
      cases (show v = V.int j from r)
      have k : KI K W F H σ R (.need (okRange i ∧ okRange j) (.ok (pyRange i j))) := k
      by_cases c : okRange i ∧ okRange j
      · rw [Res.need_pos c] at k
        exact ⟨i, j, rfl, ⟨c.1.1, c.1.2, c.2.1, c.2.2⟩, k _ F2 H2 (a.trans a2) js_range⟩
      · rw [Res.need_neg c] at k; exact k.elim
    | exc c => exact fun F2 H2 a2 => k F2 H2 (a.trans a2)
    | stuck => exact k.elim
  | exc c => exact k
  | stuck => exact k.elim
/-- range(i, j, -1) -/
def pyDown (i j : Int) : List Int := (List.range (i - j).toNat).map fun (a : Nat) => i - (a : Int)
theorem pyDown_len (lo hi : Int) : (pyDown lo hi).length = (lo - hi).toNat := by simp [pyDown]
theorem pyDown_get {lo hi : Int} {i : Nat} (h : i < (lo - hi).toNat) : (pyDown lo hi)[i]? = some (lo - (i : Int)) := by
  simp [pyDown, h]
theorem js_down {lo hi : Int} : JS K F (Itc lo (-1) (lo - hi).toNat) ((pyDown lo hi).map toD) := by
  refine ⟨fun i H e h => ?_, fun i H e h => ?_, fun i H v H' F1 e1 e2 h hy => ?_⟩
  · rw [List.length_map, pyDown_len] at h; exact h
  · rw [List.length_map, pyDown_len] at h; exact h
  · rw [List.length_map, pyDown_len] at h
    obtain ⟨e, q⟩ := hy
    subst e q
    refine ⟨F1, .int (lo - (i : Int)), Adv.refl e2, by rw [List.getElem?_map, pyDown_get h]; rfl, ?_⟩
    show V.int _ = V.int _
    congr 1; omega
theorem ei_down {m1 m2 : Res Int} (h1 : EvX K W env ta m1) (h2 : EvX K W env tb m2) (h3 : EvX K W env tc (.ok (-1 : Int))) : EvI K W env (iRng3 (tCons ta (tCons tb (tCons tc tNil)))) (m1.bind fun i => m2.bind fun j => .need (okRange i ∧ okRange j) (.ok (pyDown i j))) := fun F0 H0 F H σ R S k => by
  refine h1 F0 H0 F H σ _ S ?_
  cases m1 with
  | ok i =>
    intro v F1 H1 a r
    cases (show v = V.int i from r)
    refine h2 F0 H0 F1 H1 σ _ (S.step a) ?_
    have k : KI K W F H σ R (m2.bind fun j => .need (okRange i ∧ okRange j) (.ok (pyDown i j))) := k
    cases m2 with
    | ok j =>
      intro v F2 H2 a2 r
      cases (show v = V.int j from r)
      refine h3 F0 H0 F2 H2 σ _ ((S.step a).step a2) fun v F3 H3 a3 r => ?_
      cases (show v = V.int (-1) from r)
      have k : KI K W F H σ R (.need (okRange i ∧ okRange j) (.ok (pyDown i j))) := k
      by_cases c : okRange i ∧ okRange j
      · rw [Res.need_pos c] at k
        exact ⟨i, j, -1, (i - j).toNat, rfl, RgC.neg c.1.1 c.1.2 c.2.1 c.2.2, k _ F3 H3 ((a.trans a2).trans a3) js_down⟩
      · rw [Res.need_neg c] at k; exact k.elim
    | exc c => exact fun F2 H2 a2 => k F2 H2 (a.trans a2)
    | stuck => exact k.elim
  | exc c => exact k
  | stuck => exact k.elim

theorem blk_for {S : Type} {wi : TI} {g : TG} {tb : TS} {m : Res (List α)} {fe : α → En → En} {ws : List Nat} (loop : List α → S → Res τ) (k : S → Res τ) (envS : S → En) (s0 : S)
    (L : Lk K W F0 H0 rt PT KP) (hT : PT env) (hi : EvI K W env wi m) (hg : ∀ x, GX K g (toD x) (fe x) ws) (h0 : EnLe env (envS s0)) (hnil : ∀ s, loop [] s = k s)
    (hbody : ∀ F1, Lk K W F1 H0 rt PT KP → (∀ s, Blk K F1 H0 KP Z.nx (envS s) (k s)) → ∀ x r s (N : L2.St → Hp → Prop), (∀ s', Blk K F1 H0 KP N (envS s') (loop r s')) →
      Blk K F1 H0 KP (tb { Z with nx := N, ct := N, bk := Z.nx }) (fe x (envS s)) (loop (x :: r) s))
    (hrest : ∀ s, Blk K F0 H0 KP Z.nx (envS s) (k s)) : Blk K F0 H0 KP (tFor wi g tb Z) env (m.bind fun xs => loop xs s0) := fun F H σ S h => by
  refine hi F0 H0 F H σ _ S (L.ki hT S h fun xs J F1 H1 e1 a1 js h1 => ?_)
  have S1 := (S.step a1).weak h0
  have S11 : Sl K F1 H0 F1 H1 σ (envS s0) := ⟨⟨Ex.refl _, S1.adv.h, S1.adv.in_, fun p q _ => q⟩, S1.slot, S1.dis, S1.len⟩
  have hB := hbody F1 (L.base S1) (fun s => (hrest s).base S1)
  have hn : (xs.map toD).length = xs.length := List.length_map ..
  refine ⟨fun i m σ H => m = xs.length - i ∧ i ≤ xs.length ∧ ∃ F s, Sl K F1 H0 F H σ (envS s) ∧ KP (loop (xs.drop i) s), ⟨xs.length, rfl, Nat.zero_le _, F1, s0, S11, h1⟩, ?_⟩
  rintro i m σ H ⟨rfl, hle, F, s, S, h⟩
  by_cases hlt : i < xs.length
  · refine .inr ⟨js.go i H (S.adv.f.trans S.ex) (by rw [hn]; exact hlt), fun σ' H' => ∃ F s, Sl K F1 H0 F H' σ' (envS s) ∧ KP (loop (xs.drop (i + 1)) s), fun σ' H' w => ⟨_, by omega, rfl, hlt, w⟩, fun v H' hy => ?_⟩
    obtain ⟨F2, x, a2, ex, rx⟩ := js.yld i H v H' F S.adv.f S.ex (by rw [hn]; exact hlt) hy
    rw [List.getElem?_map, List.getElem?_eq_getElem hlt] at ex
    cases ex
    refine hg xs[i] F1 H0 F2 H' σ (envS s) v _ (S.step a2) rx fun σ' S' _ _ => ?_
    have e : xs.drop i = xs[i] :: xs.drop (i + 1) := List.drop_eq_getElem_cons hlt
    rw [e] at h
    exact hB xs[i] (xs.drop (i + 1)) s _ (fun s' F H σ S h => ⟨F, s', S, h⟩) F2 H' σ' S' h
  · have e : xs.drop i = [] := List.drop_of_length_le (by omega)
    rw [e, hnil] at h
    exact .inl ⟨js.stop i H (S.adv.f.trans S.ex) (by rw [hn]; omega), (hrest s).base S1 F H σ S h⟩
theorem blk_while {S : Type} {tb : TS} (loop : Nat → S → Res τ) (test : S → Res Bool) (body : Nat → S → Res τ) (k : S → Res τ) (envS : S → En) (s0 : S) (fuel : Nat)
    (L : Lk K W F0 H0 rt PT KP) (hT : ∀ s, PT (envS s)) (h0 : EnLe env (envS s0)) (hc : ∀ s, EvT K W (envS s) tt (test s)) (l0 : ∀ s, loop 0 s = .stuck) (l1 : ∀ n s, loop (n + 1) s = (test s).bind fun b => cond b (body n s) (k s))
    (hbody : ∀ n s (N : L2.St → Hp → Prop), (∀ s', Blk K F0 H0 KP N (envS s') (loop n s')) → Blk K F0 H0 KP (tb { Z with nx := N, ct := N, bk := Z.nx }) (envS s) (body n s))
    (hrest : ∀ s, Blk K F0 H0 KP Z.nx (envS s) (k s)) : Blk K F0 H0 KP (tWhile tt tb Z) env (loop fuel s0) := fun F H σ S h => by
  refine ⟨fun n σ H => ∃ F s, Sl K F0 H0 F H σ (envS s) ∧ KP (loop n s), ⟨fuel, F, s0, S.weak h0, h⟩, ?_⟩
  rintro n σ H ⟨F, s, S, h⟩
  cases n with
  | zero => rw [l0] at h; exact (L.no h).elim
  | succ n =>
    rw [l1] at h
    refine hc s F0 H0 F H σ _ S (L.kt (hT s) S h fun b F1 H1 e1 a1 h1 => ?_)
    cases b with
    | true =>
      show ∃ N, _
      exact ⟨fun σ' H' => ∃ F s, Sl K F0 H0 F H' σ' (envS s) ∧ KP (loop n s), fun σ' H' w => ⟨n, Nat.lt_succ_self n, w⟩, hbody n s _ (fun s' F H σ S h => ⟨F, s', S, h⟩) F1 H1 σ (S.step a1) h1⟩
    | false => exact hrest s F1 H1 σ (S.step a1) h1

/-! ### comprehensions -/
def compL {α β : Type} (t : α → Res Bool) (e : α → Res β) : List α → Res (List β)
  | [] => .ok []
  | x :: r => (t x).bind fun b => cond b ((e x).bind fun y => (compL t e r).bind fun ys => .ok (y :: ys)) (compL t e r)
def mapL {α β : Type} (e : α → Res β) : List α → Res (List β)
  | [] => .ok []
  | x :: r => (e x).bind fun y => (mapL e r).bind fun ys => .ok (y :: ys)
theorem compL_yes {α β : Type} (e : α → Res β) : ∀ xs : List α, compL (fun _ => .ok true) e xs = mapL e xs
  | [] => rfl
  | x :: r => by
    show (e x).bind _ = (e x).bind _
    rw [compL_yes e r]
end
end Mi
set_option maxHeartbeats 1000000
namespace Mi
open PySem PySem.Spec L2
open Evl (Ex)
section
variable {K : PySem.W.Frag} {W : WX} {F0 H0 F H F' H' F1 : Hp} {rt : VK} {PT : En → Prop} {env env' : En} {α β γ τ : Type} [ToD α] [ToD β] [ToD γ] [ToD τ] {KP : Res τ → Prop} {te ta tb tc : TE} {tt : TT} {Z : Ends} {t u : TS} {T : L2.St → Hp → Prop} {σ : L2.St}

/-! ### comprehensions -/
theorem Sl.updN (S : Sl K F0 H0 F H σ env) {p : Addr} {o : HO} (hp : F p = none) (h0 : H0 p = none) (hn : ∀ (i : Nat) (sk : Sk), env[i]? = some (some sk) → sk.own = true → σ[i]? ≠ some (some (V.ref p))) : Sl K F0 H0 F (upd H p o) σ env := by
  refine ⟨⟨S.adv.f, fun a u q => ?_, fun a u q => ?_, S.adv.out⟩, fun j sk q => ?_, S.dis, S.len⟩
  · rw [upd_ne (ne_of_none q h0)]; exact S.adv.h a u q
  · rw [upd_ne (ne_of_none q hp)]; exact S.adv.in_ a u q
  · obtain ⟨w, h1, h2⟩ := S.slot j sk q
    exact ⟨w, h1, h2.updH fun o2 zz => hn j sk q o2 (by rw [h1, zz])⟩
/-- the names of a comprehension are forgotten -/
def unset : List Nat → En → En
  | [], e => e
  | i :: is, e => (unset is e).set i none
theorem unset_len (e : En) : ∀ ws : List Nat, (unset ws e).length = e.length
  | [] => rfl
  | i :: is => by show ((unset is e).set i none).length = _; rw [List.length_set, unset_len e is]
theorem unset_get {e : En} {j : Nat} {sk : Sk} : ∀ {ws : List Nat}, (unset ws e)[j]? = some (some sk) → e[j]? = some (some sk) ∧ j ∉ ws
  | [], h => ⟨h, by simp⟩
  | i :: is, h => by
    have h : ((unset is e).set i none)[j]? = some (some sk) := h
    rcases set_get h with ⟨_, z⟩ | ⟨z, h⟩
    · cases z
    · obtain ⟨h1, h2⟩ := unset_get h
      exact ⟨h1, by simp only [List.mem_cons, not_or]; exact ⟨fun e => z e.symm, h2⟩⟩
theorem Sl.wipe (S : Sl K F0 H0 F H σ env) (ws : List Nat) : Sl K F0 H0 F H (L2.wipe σ ws) (unset ws env) := by
  refine ⟨S.adv, fun i sk e => ?_, fun i j xs ys p hij e1 e2 o1 o2 h1 => ?_, by rw [wipe_length, unset_len]; exact S.len⟩
  · obtain ⟨e, hn⟩ := unset_get e
    rw [wipe_out hn]; exact S.slot i sk e
  · obtain ⟨e1, n1⟩ := unset_get e1
    obtain ⟨e2, n2⟩ := unset_get e2
    rw [wipe_out n1] at h1
    rw [wipe_out n2]
    exact S.dis i j xs ys p hij e1 e2 o1 o2 h1
theorem wipe_in {j : Nat} : ∀ {ws : List Nat}, j ∈ ws → j < σ.length → (L2.wipe σ ws)[j]? = some none
  | [], h, _ => by cases h
  | i :: is, h, hl => by
    show ((L2.wipe σ is).set i none)[j]? = some none
    by_cases e : i = j
    · subst e
      rw [List.getElem?_set_self (by rw [wipe_length]; exact hl)]
    · rw [List.getElem?_set_ne e]
      rcases List.mem_cons.mp h with z | z
      · exact absurd z.symm e
      · exact wipe_in z hl
theorem wipe_eq {σ' : L2.St} {ws : List Nat} (hl : σ'.length = (L2.wipe σ ws).length) (ho : ∀ j, j ∉ ws → σ'[j]? = (L2.wipe σ ws)[j]?) : L2.wipe σ' ws = L2.wipe σ ws := by
  rw [wipe_length] at hl
  apply List.ext_getElem?
  intro j
  by_cases hj : j ∈ ws
  · by_cases hlt : j < σ.length
    · rw [wipe_in hj hlt, wipe_in hj (by rw [hl]; exact hlt)]
    · rw [List.getElem?_eq_none (by rw [wipe_length]; omega), List.getElem?_eq_none (by rw [wipe_length]; omega)]
  · rw [wipe_out hj, ho j hj]
abbrev WT : WX := fun _ _ _ _ => True
theorem ev_comp {wi : TI} {g : TG} {m : Res (List α)} {fe : α → En → En} {ws : List Nat} {tst : α → Res Bool} {el : α → Res β} (hi : EvI K W env wi m) (hg : ∀ x, GX K g (toD x) (fe x) ws)
    (ht : ∀ x, EvT K WT (fe x (unset ws env)) tt (tst x)) (he : ∀ x, EvX K WT (fe x (unset ws env)) te (el x)) :
    EvN K W env (tLc wi g tt te ws) (m.bind fun xs => .need (xs.length ≤ 16777216) (compL tst el xs)) := fun F0 H0 F H σ Q S k => by
  refine hi F0 H0 F H σ _ S ?_
  cases m with
  | exc c => exact k
  | stuck => exact k.elim
  | ok xs =>
  intro J F1 H1 a1 js D hD
  have k : KN K W F H σ Q (.need (xs.length ≤ 16777216) (compL tst el xs)) := k
  by_cases c : xs.length ≤ 16777216
  case neg => rw [Res.need_neg c] at k; exact k.elim
  rw [Res.need_pos c] at k
  have hn : (xs.map toD).length = xs.length := List.length_map ..
  have hDF : F1 D = none := none_of_ex a1.in_ hD
  have hDH : H D = none := Evl.fresh_back a1.h hD
  have hD0 : H0 D = none := Evl.fresh_back S.adv.h hDH
  -- the new list is none of the slots'
  have hne : ∀ (i : Nat) (sk : Sk), env[i]? = some (some sk) → sk.own = true → σ[i]? ≠ some (some (V.ref D)) := fun i sk e ho z => by
    obtain ⟨v, e1, q⟩ := S.slot i _ e
    obtain ⟨p, o, rfl, _, _, q⟩ := q.at ho
    rw [e1] at z; cases z
    rw [hDH] at q; cases q
  have S1 : Sl K F0 H0 F1 (upd H1 D (.lst [])) σ env := (S.step a1).updN hDF hD0 hne
  refine ⟨fun i n H' => n = xs.length - i ∧ i ≤ xs.length ∧ ∃ F' acc vs, Sl K F0 H0 F' H' σ env ∧ Adv F H F' H' ∧ Ex F1 F' ∧ F' D = none ∧ H' D = some (.lst vs) ∧ Reps K F' (acc.map toD) vs ∧ acc.length ≤ i ∧
    (∀ ys, compL tst el (xs.drop i) = .ok ys → compL tst el xs = .ok (acc ++ ys)) ∧ (∀ c, compL tst el (xs.drop i) = .exc c → compL tst el xs = .exc c) ∧ (compL tst el (xs.drop i) = .stuck → compL tst el xs = .stuck),
    ⟨xs.length, rfl, Nat.zero_le _, F1, ([] : List β), [], S1, a1.trans (Adv.newO a1.in_ hD), Ex.refl _, hDF, upd_same, (show Reps K F1 [] [] from rfl), Nat.le_refl _, fun ys h => h, fun c h => h, fun h => h⟩, ?_⟩
  rintro i n H2 ⟨rfl, hle, F2, acc, vs, S2, a2, x2, f2, h2, r2, l2, q1, q2, q3⟩
  by_cases hlt : i < xs.length
  · refine .inr ⟨js.go i H2 (x2.trans a2.in_) (by rw [hn]; exact hlt), fun H' => (i + 1 ≤ xs.length ∧ ∃ F' acc vs, Sl K F0 H0 F' H' σ env ∧ Adv F H F' H' ∧ Ex F1 F' ∧ F' D = none ∧ H' D = some (.lst vs) ∧ Reps K F' (acc.map toD) vs ∧ acc.length ≤ i + 1 ∧
      (∀ ys, compL tst el (xs.drop (i + 1)) = .ok ys → compL tst el xs = .ok (acc ++ ys)) ∧ (∀ c, compL tst el (xs.drop (i + 1)) = .exc c → compL tst el xs = .exc c) ∧ (compL tst el (xs.drop (i + 1)) = .stuck → compL tst el xs = .stuck)),
      fun H' w => ⟨_, by omega, rfl, w⟩, fun v H3 hy => ?_⟩
    obtain ⟨F3, x, a3, ex, rx⟩ := js.yld i H2 v H3 F2 x2 a2.in_ (by rw [hn]; exact hlt) hy
    rw [List.getElem?_map, List.getElem?_eq_getElem hlt] at ex
    cases ex
    have e : xs.drop i = xs[i] :: xs.drop (i + 1) := List.drop_eq_getElem_cons hlt
    rw [e] at q1 q2 q3
    have S3 := S2.step a3
    refine hg xs[i] F0 H0 F3 H3 _ _ v _ (S3.wipe ws) rx fun σ' S' sl so => ⟨wipe_eq sl so, ?_⟩
    have f3 : F3 D = none := a3.out D f2 (by rw [h2]; simp)
    refine ht xs[i] F0 H0 F3 H3 σ' _ S' ?_
    cases qt : tst xs[i] with
    | exc c => exact fun _ _ _ => trivial
    | stuck =>
      have := q3 (by show (tst xs[i]).bind _ = _; rw [qt]; rfl)
      rw [this] at k; exact k.elim
    | ok b =>
    intro F4 H4 a4
    have f4 : F4 D = none := a4.out D f3 (by rw [a3.h _ _ h2]; simp)
    cases b with
    | false =>
      show i + 1 ≤ xs.length ∧ _
      refine ⟨hlt, F4, acc, vs, S3.step a4, (a2.trans a3).trans a4, (x2.trans a3.f).trans a4.f, f4, a4.h _ _ (a3.h _ _ h2), Reps.mono (a3.trans a4).f _ _ r2, by omega, fun ys h => ?_, fun c h => ?_, fun h => ?_⟩
      · exact q1 ys (by show (tst xs[i]).bind _ = _; rw [qt]; exact h)
      · exact q2 c (by show (tst xs[i]).bind _ = _; rw [qt]; exact h)
      · exact q3 (by show (tst xs[i]).bind _ = _; rw [qt]; exact h)
    | true =>
      show te σ' H4 _
      refine he xs[i] F0 H0 F4 H4 σ' _ (S'.step a4) ?_
      cases qe : el xs[i] with
      | exc c => exact fun _ _ _ => trivial
      | stuck =>
        have := q3 (by show (tst xs[i]).bind _ = _; rw [qt]; show (el xs[i]).bind _ = _; rw [qe]; rfl)
        rw [this] at k; exact k.elim
      | ok y =>
      intro w F5 H5 a5 r5
      have f5 : F5 D = none := a5.out D f4 (by rw [a4.h _ _ (a3.h _ _ h2)]; simp)
      have h5 : H5 D = some (.lst vs) := a5.h _ _ (a4.h _ _ (a3.h _ _ h2))
      have ad := ((a2.trans a3).trans a4).trans a5
      refine ⟨vs, h5, by rw [sizeLine_eq, ← r2.length, List.length_map]; omega, hlt, F5, acc ++ [y], vs ++ [w], ((S3.step a4).step a5).updN f5 hD0 hne, ⟨ad.f, fun a u q => ?_, fun a u q => ?_, ad.out⟩,
        ((x2.trans a3.f).trans a4.f).trans a5.f, f5, upd_same, ?_, by rw [List.length_append]; simp; omega, fun ys h => ?_, fun c h => ?_, fun h => ?_⟩
      · rw [upd_ne (ne_of_none q hDH)]; exact ad.h a u q
      · rw [upd_ne (ne_of_none q f5)]; exact ad.in_ a u q
      · rw [List.map_append]
        exact Reps.append (Reps.mono ((a3.trans a4).trans a5).f _ _ r2) (Reps.one r5)
      · rw [q1 (y :: ys) (by show (tst xs[i]).bind _ = _; rw [qt]; show (el xs[i]).bind _ = _; rw [qe]; show (compL tst el _).bind _ = _; rw [h]; rfl)]
        rw [List.append_assoc]; rfl
      · exact q2 c (by show (tst xs[i]).bind _ = _; rw [qt]; show (el xs[i]).bind _ = _; rw [qe]; show (compL tst el _).bind _ = _; rw [h]; rfl)
      · exact q3 (by show (tst xs[i]).bind _ = _; rw [qt]; show (el xs[i]).bind _ = _; rw [qe]; show (compL tst el _).bind _ = _; rw [h]; rfl)
  · have e : xs.drop i = [] := List.drop_of_length_le (by omega)
    rw [e] at q1
    have := q1 [] rfl
    rw [List.append_nil] at this
    rw [this] at k
    exact .inl ⟨js.stop i H2 (x2.trans a2.in_) (by rw [hn]; omega), k D vs F2 H2 a2 hDH f2 h2 r2⟩
theorem et_yes : EvT K W env tYes (.ok true) := fun F0 H0 F H σ Q S k => k F H (Adv.refl S.ex)

/-! ### built-in defs -/
theorem cx_len : CrX K (fun xs H Q => ∃ p ys, xs = [.ref p] ∧ (SqL K H p ys ∨ SqT K H p ys) ∧ Q (.int ys.length) H) (fun (p : List α × Unit) => .ok (p.1.length : Int)) := fun F H x vs Q e r k => by
  obtain ⟨v, r1, rfl, ⟨a, ws, rfl, hl, hr⟩, h2⟩ := r
  cases (show r1 = [] from h2)
  refine ⟨a, ws, rfl, .inl (Evl.ex_l e hl), ?_⟩
  rw [← hr.length, List.length_map]
  exact k _ F H (Adv.refl e) rfl
theorem cx_lenT {n : Nat} (hn : ∀ x : α, ∃ ds, toD x = .tup ds ∧ ds.length = n) : CrX K (fun xs H Q => ∃ p ys, xs = [.ref p] ∧ (SqL K H p ys ∨ SqT K H p ys) ∧ Q (.int ys.length) H) (fun (p : α × Unit) => .ok (n : Int)) := fun F H x vs Q e r k => by
  obtain ⟨v, r1, rfl, hv, h2⟩ := r
  obtain ⟨ds, e1, e2⟩ := hn x.1
  have hv : Rep K F (toD x.1) v := hv
  rw [e1] at hv
  obtain ⟨a, ws, rfl, hl, hr⟩ := hv
  cases (show r1 = [] from h2)
  refine ⟨a, ws, rfl, .inr (Evl.ex_t e hl), ?_⟩
  rw [← hr.length, e2]
  exact k _ F H (Adv.refl e) rfl
theorem ev_lenO {j : Nat} {xs : List α} (h : env[j]? = some (some (.ow (xs.map toD)))) : EvX K W env (tCB (fun xs H Q => ∃ p ys, xs = [V.ref p] ∧ (SqL K H p ys ∨ SqT K H p ys) ∧ Q (.int ys.length) H) (tCons (tVar j) tNil)) (.ok (xs.length : Int)) := fun F0 H0 F H σ Q S k => by
  obtain ⟨v, e, p, vs, rfl, h0, hf, hp, hr⟩ := S.slot j _ h
  refine ⟨_, e, p, vs, rfl, .inl (.inl (.inl hp)), ?_⟩
  rw [← hr.length, List.length_map]
  exact k _ F H (Adv.refl S.ex) rfl
theorem cx_abs : CrX K (fun xs H Q => ∃ i, xs = [.int i] ∧ Q (.int (if i < 0 then -i else i)) H) (fun (p : Int × Unit) => .ok (p.1.natAbs : Int)) := fun F H x vs Q e r k => by
  obtain ⟨v, r1, rfl, h1, h2⟩ := r
  cases (show r1 = [] from h2); cases (show v = V.int x.1 from h1)
  refine ⟨x.1, rfl, ?_⟩
  have q : (if x.1 < 0 then -x.1 else x.1) = (x.1.natAbs : Int) := by split <;> omega
  rw [q]
  exact k _ F H (Adv.refl e) rfl
theorem cx_max : CrX K (fun xs H Q => ∃ i j, xs = [.int i, .int j] ∧ Q (.int (if j > i then j else i)) H) (fun (p : Int × Int × Unit) => .ok (max p.1 p.2.1)) := fun F H x vs Q e r k => by
  obtain ⟨v, r1, rfl, h1, w, r2, rfl, h2, h3⟩ := r
  cases (show r2 = [] from h3); cases (show v = V.int x.1 from h1); cases (show w = V.int x.2.1 from h2)
  refine ⟨x.1, x.2.1, rfl, ?_⟩
  have q : (if x.2.1 > x.1 then x.2.1 else x.1) = max x.1 x.2.1 := by split <;> omega
  rw [q]
  exact k _ F H (Adv.refl e) rfl
theorem cx_min : CrX K (fun xs H Q => ∃ i j, xs = [.int i, .int j] ∧ Q (.int (if j < i then j else i)) H) (fun (p : Int × Int × Unit) => .ok (min p.1 p.2.1)) := fun F H x vs Q e r k => by
  obtain ⟨v, r1, rfl, h1, w, r2, rfl, h2, h3⟩ := r
  cases (show r2 = [] from h3); cases (show v = V.int x.1 from h1); cases (show w = V.int x.2.1 from h2)
  refine ⟨x.1, x.2.1, rfl, ?_⟩
  have q : (if x.2.1 < x.1 then x.2.1 else x.1) = min x.1 x.2.1 := by split <;> omega
  rw [q]
  exact k _ F H (Adv.refl e) rfl
theorem cx_int : CrX K (fun xs H Q => (∃ i, xs = [.int i] ∧ Q (.int i) H) ∨ ∃ k, xs = [.bl k] ∧ Q (.int (if k then 1 else 0)) H) (fun (p : Int × Unit) => .ok p.1) := fun F H x vs Q e r k => by
  obtain ⟨v, r1, rfl, h1, h2⟩ := r
  cases (show r1 = [] from h2); cases (show v = V.int x.1 from h1)
  exact .inl ⟨x.1, rfl, k _ F H (Adv.refl e) rfl⟩
theorem cx_intB : CrX K (fun xs H Q => (∃ i, xs = [.int i] ∧ Q (.int i) H) ∨ ∃ k, xs = [.bl k] ∧ Q (.int (if k then 1 else 0)) H) (fun (p : Bool × Unit) => .ok (if p.1 = true then (1 : Int) else 0)) := fun F H x vs Q e r k => by
  obtain ⟨v, r1, rfl, h1, h2⟩ := r
  cases (show r1 = [] from h2); cases (show v = V.bl x.1 from h1)
  exact .inr ⟨x.1, rfl, k _ F H (Adv.refl e) rfl⟩
/-- the greatest, the least of a list that is not empty -/
def lmax : List Int → Int
  | [] => 0
  | x :: r => r.foldl max x
def lmin : List Int → Int
  | [] => 0
  | x :: r => r.foldl min x
theorem foldl_max_ge (r : List Int) : ∀ x, x ≤ r.foldl max x ∧ ∀ y ∈ r, y ≤ r.foldl max x := by
  induction r with
  | nil => intro x; exact ⟨Int.le_refl _, fun y h => by cases h⟩
  | cons a r ih =>
    intro x
    obtain ⟨h1, h2⟩ := ih (max x a)
    refine ⟨by have : x ≤ max x a := Int.le_max_left ..; exact Int.le_trans this h1, fun y hy => ?_⟩
    rcases List.mem_cons.mp hy with rfl | hy
    · exact Int.le_trans (Int.le_max_right ..) h1
    · exact h2 y hy
theorem foldl_max_mem (r : List Int) : ∀ x, r.foldl max x = x ∨ r.foldl max x ∈ r := by
  induction r with
  | nil => intro x; exact .inl rfl
  | cons a r ih =>
    intro x
    rcases ih (max x a) with h | h
    · show List.foldl max (max x a) r = x ∨ List.foldl max (max x a) r ∈ _
      rw [h]
      by_cases c : x ≤ a
      · rw [Int.max_eq_right c]; exact .inr List.mem_cons_self
      · rw [Int.max_eq_left (by omega)]; exact .inl rfl
    · exact .inr (List.mem_cons_of_mem _ h)
theorem foldl_min_le (r : List Int) : ∀ x, r.foldl min x ≤ x ∧ ∀ y ∈ r, r.foldl min x ≤ y := by
  induction r with
  | nil => intro x; exact ⟨Int.le_refl _, fun y h => by cases h⟩
  | cons a r ih =>
    intro x
    obtain ⟨h1, h2⟩ := ih (min x a)
    refine ⟨by have : min x a ≤ x := Int.min_le_left ..; exact Int.le_trans h1 this, fun y hy => ?_⟩
    rcases List.mem_cons.mp hy with rfl | hy
    · exact Int.le_trans h1 (Int.min_le_right ..)
    · exact h2 y hy
theorem foldl_min_mem (r : List Int) : ∀ x, r.foldl min x = x ∨ r.foldl min x ∈ r := by
  induction r with
  | nil => intro x; exact .inl rfl
  | cons a r ih =>
    intro x
    rcases ih (min x a) with h | h
    · show List.foldl min (min x a) r = x ∨ List.foldl min (min x a) r ∈ _
      rw [h]
      by_cases c : x ≤ a
      · rw [Int.min_eq_left c]; exact .inl rfl
      · rw [Int.min_eq_right (by omega)]; exact .inr List.mem_cons_self
    · exact .inr (List.mem_cons_of_mem _ h)
theorem lmax_spec {ns : List Int} {m : Int} (h1 : m ∈ ns) (h2 : ∀ y ∈ ns, y ≤ m) : m = lmax ns := by
  cases ns with
  | nil => cases h1
  | cons x r =>
    show m = r.foldl max x
    obtain ⟨g1, g2⟩ := foldl_max_ge r x
    have a : m ≤ r.foldl max x := by
      rcases List.mem_cons.mp h1 with rfl | h
      · exact g1
      · exact g2 m h
    have b : r.foldl max x ≤ m := by
      rcases foldl_max_mem r x with e | e
      · rw [e]; exact h2 x List.mem_cons_self
      · exact h2 _ (List.mem_cons_of_mem _ e)
    omega
theorem lmin_spec {ns : List Int} {m : Int} (h1 : m ∈ ns) (h2 : ∀ y ∈ ns, m ≤ y) : m = lmin ns := by
  cases ns with
  | nil => cases h1
  | cons x r =>
    show m = r.foldl min x
    obtain ⟨g1, g2⟩ := foldl_min_le r x
    have a : r.foldl min x ≤ m := by
      rcases List.mem_cons.mp h1 with rfl | h
      · exact g1
      · exact g2 m h
    have b : m ≤ r.foldl min x := by
      rcases foldl_min_mem r x with e | e
      · rw [e]; exact h2 x List.mem_cons_self
      · exact h2 _ (List.mem_cons_of_mem _ e)
    omega
theorem cx_lmax : CrX K (rMax K) (fun (p : List Int × Unit) => .need (0 < p.1.length) (.ok (lmax p.1))) := fun F H x vs Q e r k => by
  obtain ⟨v, r1, rfl, ⟨a, ws, rfl, hl, hr⟩, h2⟩ := r
  cases (show r1 = [] from h2)
  have e2 : ws = x.1.map V.int := Reps.ints hr
  subst e2
  by_cases c : 0 < x.1.length
  · dsimp only at k
    rw [Res.need_pos c] at k
    refine ⟨a, x.1, rfl, Evl.ex_l e hl, c, fun m h1 h2 => ?_⟩
    rw [lmax_spec h1 h2]
    exact k _ F H (Adv.refl e) rfl
  · dsimp only at k; rw [Res.need_neg c] at k; exact k.elim
theorem cx_lmin : CrX K (rMin K) (fun (p : List Int × Unit) => .need (0 < p.1.length) (.ok (lmin p.1))) := fun F H x vs Q e r k => by
  obtain ⟨v, r1, rfl, ⟨a, ws, rfl, hl, hr⟩, h2⟩ := r
  cases (show r1 = [] from h2)
  have e2 : ws = x.1.map V.int := Reps.ints hr
  subst e2
  by_cases c : 0 < x.1.length
  · dsimp only at k
    rw [Res.need_pos c] at k
    refine ⟨a, x.1, rfl, Evl.ex_l e hl, c, fun m h1 h2 => ?_⟩
    rw [lmin_spec h1 h2]
    exact k _ F H (Adv.refl e) rfl
  · dsimp only at k; rw [Res.need_neg c] at k; exact k.elim
theorem cx_sum : CrX K (rSum K) (fun (p : List Int × Unit) => .ok p.1.sum) := fun F H x vs Q e r k => by
  obtain ⟨v, r1, rfl, ⟨a, ws, rfl, hl, hr⟩, h2⟩ := r
  cases (show r1 = [] from h2)
  have e2 : ws = x.1.map V.int := Reps.ints hr
  subst e2
  exact ⟨a, x.1, rfl, Evl.ex_l e hl, k _ F H (Adv.refl e) rfl⟩
theorem cx_all : CrX K (rAll K) (fun (p : List Bool × Unit) => .ok (p.1.all id)) := fun F H x vs Q e r k => by
  obtain ⟨v, r1, rfl, ⟨a, ws, rfl, hl, hr⟩, h2⟩ := r
  cases (show r1 = [] from h2)
  have e2 : ws = x.1.map V.bl := Reps.bls hr
  subst e2
  exact ⟨a, x.1, rfl, Evl.ex_l e hl, k _ F H (Adv.refl e) rfl⟩
theorem cx_any : CrX K (rAny K) (fun (p : List Bool × Unit) => .ok (p.1.any id)) := fun F H x vs Q e r k => by
  obtain ⟨v, r1, rfl, ⟨a, ws, rfl, hl, hr⟩, h2⟩ := r
  cases (show r1 = [] from h2)
  have e2 : ws = x.1.map V.bl := Reps.bls hr
  subst e2
  exact ⟨a, x.1, rfl, Evl.ex_l e hl, k _ F H (Adv.refl e) rfl⟩
/-- list(xs): a new list -/
theorem en_list {m : Res (List α)} (h : EvX K W env te m) : EvN K W env (tCB (fun xs H Q => ∃ p ys, xs = [V.ref p] ∧ (SqL K H p ys ∨ SqT K H p ys) ∧ ∀ l, H l = none → Q (.ref l) (upd H l (.lst ys))) (tCons te tNil)) m := fun F0 H0 F H σ Q S k => by
  refine h F0 H0 F H σ _ S ?_
  cases m with
  | ok xs =>
    intro v F1 H1 a r
    obtain ⟨p, vs, rfl, h1, h2⟩ := r
    exact ⟨p, vs, rfl, .inl (Evl.ex_l a.in_ h1), fun l hl => k l vs F1 _ (a.trans (Adv.newO a.in_ hl)) (Evl.fresh_back a.h hl) (none_of_ex a.in_ hl) upd_same h2⟩
  | exc c => exact k
  | stuck => exact k.elim
theorem en_listT {m : Res (Tu α)} (h : EvX K W env te m) : EvN K W env (tCB (fun xs H Q => ∃ p ys, xs = [V.ref p] ∧ (SqL K H p ys ∨ SqT K H p ys) ∧ ∀ l, H l = none → Q (.ref l) (upd H l (.lst ys))) (tCons te tNil)) (m.bind fun x => .ok x.xs) := fun F0 H0 F H σ Q S k => by
  refine h F0 H0 F H σ _ S ?_
  cases m with
  | ok xs =>
    intro v F1 H1 a r
    obtain ⟨p, vs, rfl, h1, h2⟩ := r
    exact ⟨p, vs, rfl, .inr (Evl.ex_t a.in_ h1), fun l hl => k l vs F1 _ (a.trans (Adv.newO a.in_ hl)) (Evl.fresh_back a.h hl) (none_of_ex a.in_ hl) upd_same h2⟩
  | exc c => exact k
  | stuck => exact k.elim
/-- tuple(xs) of a list -/
theorem ev_tupleL {m : Res (List α)} (h : EvX K W env te m) : EvX K W env (tCB (fun xs H Q => ∃ p ys, xs = [V.ref p] ∧ ((SqL K H p ys ∧ ∀ l, H l = none → Q (.ref l) (upd H l (.tup ys))) ∨ (SqT K H p ys ∧ Q (.ref p) H))) (tCons te tNil)) (m.bind fun x => .ok (Tu.mk x)) := fun F0 H0 F H σ Q S k => by
  refine h F0 H0 F H σ _ S ?_
  cases m with
  | ok xs =>
    intro v F1 H1 a r
    obtain ⟨p, vs, rfl, h1, h2⟩ := r
    refine ⟨p, vs, rfl, .inl ⟨Evl.ex_l a.in_ h1, fun l hl => ?_⟩⟩
    have a2 : Adv F1 H1 (upd F1 l (.tup vs)) (upd H1 l (.tup vs)) := Adv.new a.in_ hl
    exact k _ _ _ (a.trans a2) ⟨l, vs, rfl, .inl (.inl upd_same), Reps.mono a2.f _ _ h2⟩
  | exc c => exact k
  | stuck => exact k.elim
/-- xs[lo:hi] -/
theorem en_slice {m : Res (List α)} {lo hi : Option Int} {tl th : TO} (h : EvX K W env te m) (hl : ∀ σ H Q, Q lo H → tl σ H Q) (hh : ∀ σ H Q, Q hi H → th σ H Q) :
    EvN K W env (tSl (rSlL K) te tl th) (m.bind fun xs => .ok ((xs.drop (HT.sIx xs.length 0 lo)).take (HT.sIx xs.length xs.length hi - HT.sIx xs.length 0 lo))) := fun F0 H0 F H σ Q S k => by
  refine h F0 H0 F H σ _ S ?_
  cases m with
  | ok xs =>
    intro v F1 H1 a r
    obtain ⟨p, vs, rfl, h1, h2⟩ := r
    refine hl _ _ _ (hh _ _ _ ⟨p, vs, rfl, Evl.ex_l a.in_ h1, fun l hl => ?_⟩)
    refine k l _ F1 _ (a.trans (Adv.newO a.in_ hl)) (Evl.fresh_back a.h hl) (none_of_ex a.in_ hl) upd_same ?_
    have e : xs.length = vs.length := by have := h2.length; rwa [List.length_map] at this
    unfold cutV
    rw [List.map_take, List.map_drop, e]
    exact Reps.take _ (Reps.drop _ h2)
  | exc c => exact k
  | stuck => exact k.elim
theorem to_none : ∀ (σ : L2.St) (H : Hp) (Q : Option Int → Hp → Prop), Q none H → tNoPart σ H Q := fun _ _ _ q => q
theorem to_int {i : Int} : ∀ (σ : L2.St) (H : Hp) (Q : Option Int → Hp → Prop), Q (some i) H → tPart (tC (.int i)) σ H Q := fun _ _ _ q => ⟨i, rfl, q⟩

/-! ### isinstance of data -/
def tyName : D → String
  | .non => "NoneType" | .bl _ => "bool" | .int _ => "int" | .str _ => "str" | .ty _ => "type" | .tup _ => "tuple" | .lst _ => "list" | .obj _ _ _ => "object"
def D.plain : D → Bool
  | .ty _ => false | .obj _ _ _ => false | _ => true
theorem tyx_of {x : D} {v : V} (h : Rep K F x v) (e : Ex F H) (p : x.plain = true) : TyX K H v (.type (tyName x)) := by
  cases x with
  | non => rw [show v = V.non from h]; exact .base .non
  | bl b => rw [show v = V.bl b from h]; exact .base (.bl b)
  | int b => rw [show v = V.int b from h]; exact .base (.int b)
  | str b => rw [show v = V.str b from h]; exact .base (.str b)
  | ty b => cases p
  | obj c ks ds => cases p
  | lst ds =>
    obtain ⟨a, vs, rfl, hl, _⟩ := h
    rcases Evl.ex_l e hl with (q | ⟨o, q⟩) | ⟨o, its, n, q1, q2, _⟩
    · exact .base (.lst q)
    · exact .base (.frz q)
    · exact .kList q1 q2
  | tup ds =>
    obtain ⟨a, vs, rfl, hl, _⟩ := h
    rcases Evl.ex_t e hl with (q | ⟨o, q⟩) | ⟨o, its, n, q1, q2, _⟩
    · exact .base (.tup q)
    · exact .fTuple q
    · exact .kTuple q1 q2
/-- isinstance(x, T), T a built-in class, x any data but objects -/
def isI (n : String) (x : D) : Bool := tyName x == n || (n == "int" && tyName x == "bool")
def isiOk (n : String) : Prop := kitB "NoneType" n = some ("NoneType" == n) ∧ kitB "bool" n = some ("bool" == n || n == "int") ∧ kitB "int" n = some ("int" == n) ∧ kitB "str" n = some ("str" == n) ∧ kitB "tuple" n = some ("tuple" == n) ∧ kitB "list" n = some ("list" == n)
theorem ev_isi {n : String} {m : Res α} (hn : isiOk n) (h : EvX K W env te m) : EvX K W env (tCB (rIsi K) (tCons te (tCons (tC (.ty n)) tNil))) (m.bind fun x => .need ((toD x).plain = true) (.ok (isI n (toD x)))) := fun F0 H0 F H σ Q S k => by
  refine h F0 H0 F H σ _ S (KE.cut S.ex k fun x v F1 H1 e1 a1 r1 k1 => ?_)
  by_cases c : (toD x).plain = true
  · rw [Res.need_pos c] at k1
    refine ⟨v, .ty n, _, _, isI n (toD x), rfl, .ty n, tyx_of r1 a1.in_ c, ?_, k1 _ F1 H1 (Adv.refl a1.in_) rfl⟩
    refine kit_ty ?_
    obtain ⟨h1, h2, h3, h4, h5, h6⟩ := hn
    revert c
    generalize toD x = y
    intro c
    cases y with
    | non => rw [show tyName .non = "NoneType" from rfl, h1]; simp [isI, tyName]
    | bl b => rw [show tyName (.bl b) = "bool" from rfl, h2]; simp [isI, tyName]
    | int b => rw [show tyName (.int b) = "int" from rfl, h3]; simp [isI, tyName]
    | str b => rw [show tyName (.str b) = "str" from rfl, h4]; simp [isI, tyName]
    | tup b => rw [show tyName (.tup b) = "tuple" from rfl, h5]; simp [isI, tyName]
    | lst b => rw [show tyName (.lst b) = "list" from rfl, h6]; simp [isI, tyName]
    | ty b => cases c
    | obj a b d => cases c
  · rw [Res.need_neg c] at k1; exact k1.elim
theorem isi_int : isiOk "int" := by unfold isiOk; decide +kernel
theorem isi_bool : isiOk "bool" := by unfold isiOk; decide +kernel
theorem isi_list : isiOk "list" := by unfold isiOk; decide +kernel
theorem isi_tuple : isiOk "tuple" := by unfold isiOk; decide +kernel
theorem isi_str : isiOk "str" := by unfold isiOk; decide +kernel

/-! ### errors -/
/-- what a body of a try gives: it falls through, or it hands back -/
inductive Fall (S τ : Type) where
  | go (s : S) | back (x : τ)
instance {S τ : Type} [ToD τ] : ToD (Fall S τ) := ⟨fun x => match x with | .go _ => .obj Str.empty [] [.non] | .back x => ToD.d x⟩
theorem no_go {S : Type} {s : S} {v : V} (h : Rep K F (toD (Fall.go s : Fall S τ)) v) : False := by
  obtain ⟨a, dx, vs, _, _, h3, h4⟩ := h
  obtain ⟨w, r, e, _⟩ := h4
  subst e
  simp at h3
/-- the classes of the errors: which they are, which is under which -/
structure Cls (K : PySem.W.Frag) (cs : List Str) (sub : Str → Str → Bool) : Prop where
  exc : ∀ c ∈ cs, ExcC K (He.ga K c)
  exm : ∀ c ∈ cs, ∀ d ∈ cs, PySem.W.exmOne K (.ref (He.ga K c)) (.ref (He.ga K d)) = some (sub c d)
  kit : ∀ c ∈ cs, ∀ d ∈ cs, PySem.W.kitOne K (.ref (He.ga K c)) (.ref (He.ga K d)) = some (sub c d)
  kiv : ∀ c ∈ cs, PySem.W.kitOne K (.ref (He.ga K c)) (.type "ValueError") = some true
/-- the outcome of: try body, except X -/
def tryR {S τ : Type} (known : Str → Bool) (sub : Str → Bool) (m : Res (Fall S τ)) (rest : S → Res τ) (hd : Str → Res τ) : Res τ := match m with
  | .ok (.go s) => rest s
  | .ok (.back x) => .ok x
  | .exc c => if known c = true then (if sub c = true then hd c else .exc c) else .stuck
  | .stuck => .stuck
theorem Sl.setNone {K : PySem.W.Frag} {F0 H0 F H : Hp} {σ : L2.St} {env : En} (S : Sl K F0 H0 F H σ env) (i : Nat) : Sl K F0 H0 F H (σ.set i none) (env.set i none) := by
  refine ⟨S.adv, fun j sk e => ?_, fun j k xs ys p hjk e1 e2 o1 o2 h1 => ?_, by rw [List.length_set, List.length_set]; exact S.len⟩
  · rcases set_get e with ⟨_, z⟩ | ⟨z, e⟩
    · cases z
    · obtain ⟨w, q1, q2⟩ := S.slot j sk e
      exact ⟨w, by rw [List.getElem?_set_ne z]; exact q1, q2⟩
  · rcases set_get e1 with ⟨_, z⟩ | ⟨z1, e1⟩
    · cases z
    rcases set_get e2 with ⟨_, z⟩ | ⟨z2, e2⟩
    · cases z
    rw [List.getElem?_set_ne z1] at h1
    rw [List.getElem?_set_ne z2]
    exact S.dis j k xs ys p hjk e1 e2 o1 o2 h1
/-- the body falls through by s (envS s, rest s), or hands back; the suite hands back, or falls through to mr -/
theorem blk_tryAs {S : Type} {cs : List Str} {sub : Str → Str → Bool} {x : Str} {i : Nat} {tb : WX → TS} {ts : Addr → Value → Option Addr → TS} {envS : S → En} {m : Res (Fall S τ)} {rest : S → Res τ} {hd : Str → Res τ}
    (L : Lk K W F0 H0 rt PT KP) (hT : PT env) (C : Cls K cs sub) (hx : x ∈ cs)
    (hb : ∀ (W' : WX) (KP' : Res (Fall S τ) → Prop), Lk K W' F0 H0 rt (fun e => EnLe e env) KP' → (∀ s, Blk K F0 H0 KP' Z.nx (envS s) (.ok (.go s))) → Blk K F0 H0 KP' (tb W' Z) env m)
    (hs : ∀ (c : Str) (a : Addr) (nx bk ct : L2.St → Hp → Prop), c ∈ cs → sub c x = true → (∀ env' m', Blk K F0 H0 KP Z.nx (env'.set i none) m' → Blk K F0 H0 KP nx env' m') →
      Blk K F0 H0 KP (ts a (.ref (He.ga K c)) none { nx := nx, rt := rt, bk := bk, ct := ct }) (env.set i (some (.raw (.ref a)))) (hd c))
    (hr : ∀ s, Blk K F0 H0 KP Z.nx (envS s) (rest s)) (hZ : Z.rt = rt := by rfl) :
    Blk K F0 H0 KP (tb (wAs K (.ref (He.ga K x)) i ts W Z) Z) env (tryR (fun c => decide (c ∈ cs)) (fun c => sub c x) m rest hd) := fun F H σ S1 h => by
  subst hZ
  refine hb (wAs K (.ref (He.ga K x)) i ts W Z) (fun r => KP (tryR (fun c => decide (c ∈ cs)) (fun c => sub c x) r rest hd)) ⟨fun y h v F H a r => ?_, fun c F H σ env' h p S' => ?_, L.no⟩ (fun s F H σ S h => hr s F H σ S h) F H σ S1 h
  · cases y with
    | go s => exact (no_go r).elim
    | back y => exact L.ok y h v F H a r
  · have h : KP (if decide (c ∈ cs) = true then (if sub c x = true then hd c else .exc c) else .stuck) := h
    by_cases hc : c ∈ cs
    · rw [if_pos (decide_eq_true hc)] at h
      have S2 := S'.weak p
      refine ⟨sub c x, C.exm c hc x hx, fun q a ha => ?_, fun q => ?_⟩
      · rw [if_pos q] at h
        refine hs c a _ _ _ hc q (fun env' m' B F H σ S h => B F H _ (S.setNone i) h) F H _ ?_ h
        refine ⟨S2.adv, fun j sk e => ?_, fun j k xs ys p hjk e1 e2 o1 o2 h1 => ?_, by rw [List.length_set, List.length_set]; exact S2.len⟩
        · rcases set_get e with ⟨rfl, z⟩ | ⟨z, e⟩
          · cases z
            have hi : i < env.length := by
              have h := (List.getElem?_eq_some_iff.mp e).1
              rwa [List.length_set] at h
            exact ⟨_, by rw [List.getElem?_set_self (by rw [S2.len]; exact hi)], rfl⟩
          · obtain ⟨w, q1, q2⟩ := S2.slot j sk e
            exact ⟨w, by rw [List.getElem?_set_ne z]; exact q1, q2⟩
        · rcases set_get e1 with ⟨_, z⟩ | ⟨z1, e1⟩
          · cases z; cases o1
          rcases set_get e2 with ⟨_, z⟩ | ⟨z2, e2⟩
          · cases z; cases o2
          rw [List.getElem?_set_ne z1] at h1
          rw [List.getElem?_set_ne z2]
          exact S2.dis j k xs ys p hjk e1 e2 o1 o2 h1
      · rw [if_neg (by rw [q]; exact Bool.false_ne_true)] at h
        exact L.exc c F H σ env h hT S2
    · rw [if_neg (by simpa using hc)] at h
      exact (L.no h).elim
/-- isinstance(e, C), isinstance(e, (C1, C2)) in the suite -/
def rIsE2 (K : PySem.W.Frag) (a : Addr) (cls : Value) (d : Option Addr) : List V → Hp → VK → Prop := fun xs H Q => ∃ (Dc : Addr) (c : V) (cv : Value) (b : Bool), cls = .ref Dc ∧ d = none ∧ ExcC K Dc ∧ xs = [.ref a, c] ∧ (∀ u, RelV c u → u = cv) ∧ PySem.W.kitOne K (.ref Dc) cv = some b ∧ Q (.bl b) H
theorem call_isE2 {X : Cx} {a : Addr} {cls : Value} {d : Option Addr} {oe : Obj} {pn : List (Addr × Obj)} (hz : Zc cls d oe) (hf : ∃ vs, oe.data = .fields vs) : CallR (X.suite a ((a, oe) :: pn)) (.builtin "isinstance") (rIsE2 X.K a cls d) := by
  intro pins s σ H xs us Q I r h
  obtain ⟨Dc, c, cv, b, rfl, rfl, C, e, k, q, hQ⟩ := h
  exact call_isE (X := X) C hz hf pins s σ H xs us Q I r ⟨c, cv, b, e, k, q, hQ⟩
def rIsET (K : PySem.W.Frag) (a : Addr) (cls : Value) (d : Option Addr) : List V → Hp → VK → Prop := fun xs H Q => ∃ (Dc tp : Addr) (cl : List V) (us : List Value) (b : Bool), cls = .ref Dc ∧ d = none ∧ ExcC K Dc ∧ xs = [.ref a, .ref tp] ∧ H tp = some (.tup cl) ∧ Paired ClsV cl us ∧ PySem.W.kitAny K (.ref Dc) us = some b ∧ Q (.bl b) H
theorem call_isET {X : Cx} {a : Addr} {cls : Value} {d : Option Addr} {oe : Obj} {pn : List (Addr × Obj)} (hz : Zc cls d oe) (hf : ∃ vs, oe.data = .fields vs) : CallR (X.suite a ((a, oe) :: pn)) (.builtin "isinstance") (rIsET X.K a cls d) := by
  intro pins s σ H xs us Q I r h
  obtain ⟨Dc, tp, cl, ws, b, rfl, rfl, C, rfl, hT, k, e, q⟩ := h
  obtain ⟨u1, u2, rfl, r1, r2⟩ := vals2 r
  cases (show u2 = Value.ref tp from r2)
  cases (show u1 = Value.ref a from r1)
  obtain ⟨_, its, rv, o, h1, h2, n, h3⟩ := (show ObjOk X.prog X.w H s.heap tp (.tup cl) from I.hok tp _ hT)
  have e3 := ClsV.all k rv
  subst e3
  obtain ⟨oc, od, dt, sl⟩ := o
  simp only at h2 h3
  subst h2 h3
  obtain ⟨hget, _⟩ := I.pin (a, oe) (List.mem_append.mpr (.inl List.mem_cons_self))
  obtain ⟨vs, hv⟩ := hf
  have J : PySem.W.InstAt s.heap a oe Dc none := by
    obtain ⟨oc, od, oda, osl⟩ := oe
    obtain ⟨h1, h2⟩ := hz
    dsimp only at h1 h2 hv
    subst h1 h2 hv
    exact ⟨hget, rfl, rfl, trivial⟩
  exact PySem.W.kia_tup (PySem.W.handS_kitx_exc C.hg C.hk C.hs C.hd C.ha C.hn C.ht C.hm) I.kIn J h1 e (fun z => nomatch z) fun tk => ⟨.bl b, H, I.tok tk, rfl, q⟩
theorem ev_isE {cs : List Str} {sub : Str → Str → Bool} {c x : Str} {i : Nat} {a : Addr} (C : Cls K cs sub) (hc : c ∈ cs) (hx : x ∈ cs) (h : env[i]? = some (some (.raw (.ref a)))) :
    EvX K W env (tCB (rIsE2 K a (.ref (He.ga K c)) none) (tCons (tVar i) (tCons (tC (.ref (He.ga K x))) tNil))) (.ok (sub c x)) := fun F0 H0 F H σ Q S k => by
  obtain ⟨v, e, q⟩ := S.slot i _ h
  cases (show v = V.ref a from q)
  exact ⟨_, e, He.ga K c, .ref (He.ga K x), .ref (He.ga K x), sub c x, rfl, rfl, C.exc c hc, rfl, fun u r => r, C.kit c hc x hx, k _ F H (Adv.refl S.ex) rfl⟩
theorem ev_isEV {cs : List Str} {sub : Str → Str → Bool} {c : Str} {i : Nat} {a : Addr} (C : Cls K cs sub) (hc : c ∈ cs) (h : env[i]? = some (some (.raw (.ref a)))) :
    EvX K W env (tCB (rIsE2 K a (.ref (He.ga K c)) none) (tCons (tVar i) (tCons (tC (.ty "ValueError")) tNil))) (.ok true) := fun F0 H0 F H σ Q S k => by
  obtain ⟨v, e, q⟩ := S.slot i _ h
  cases (show v = V.ref a from q)
  exact ⟨_, e, He.ga K c, .ty "ValueError", .type "ValueError", true, rfl, rfl, C.exc c hc, rfl, fun u r => r, C.kiv c hc, k _ F H (Adv.refl S.ex) rfl⟩
theorem kit_any {cs : List Str} {sub : Str → Str → Bool} {c : Str} (C : Cls K cs sub) (hc : c ∈ cs) : ∀ {xs : List Str}, (∀ x ∈ xs, x ∈ cs) → PySem.W.kitAny K (.ref (He.ga K c)) (xs.map fun x => .ref (He.ga K x)) = some (xs.any (sub c))
  | [], _ => rfl
  | x :: xs, h => by
    show (match PySem.W.kitOne K (.ref (He.ga K c)) (.ref (He.ga K x)) with | some true => some true | some false => PySem.W.kitAny K (.ref (He.ga K c)) (xs.map fun x => .ref (He.ga K x)) | none => none) = _
    rw [C.kit c hc x (h x List.mem_cons_self), kit_any C hc fun y hy => h y (List.mem_cons_of_mem _ hy)]
    cases q : sub c x <;> simp [q]
theorem ev_isET2 {cs : List Str} {sub : Str → Str → Bool} {c x y : Str} {i : Nat} {a : Addr} (C : Cls K cs sub) (hc : c ∈ cs) (hx : x ∈ cs) (hy : y ∈ cs) (h : env[i]? = some (some (.raw (.ref a)))) :
    EvX K W env (tCB (rIsET K a (.ref (He.ga K c)) none) (tCons (tVar i) (tCons (tTup (tCons (tC (.ref (He.ga K x))) (tCons (tC (.ref (He.ga K y))) tNil))) tNil))) (.ok (sub c x || sub c y)) := fun F0 H0 F H σ Q S k => by
  obtain ⟨v, e, q⟩ := S.slot i _ h
  cases (show v = V.ref a from q)
  refine ⟨_, e, by show 2 ≤ sizeLine; decide, fun p hp => ?_⟩
  have a2 : Adv F H (upd F p (.tup [.ref (He.ga K x), .ref (He.ga K y)])) (upd H p (.tup [.ref (He.ga K x), .ref (He.ga K y)])) := Adv.new S.ex hp
  refine ⟨He.ga K c, p, [.ref (He.ga K x), .ref (He.ga K y)], [.ref (He.ga K x), .ref (He.ga K y)], sub c x || sub c y, rfl, rfl, C.exc c hc, rfl, upd_same, .cons (.own _) (.cons (.own _) .nil), ?_, k _ _ _ a2 rfl⟩
  have := kit_any C hc (xs := [x, y]) (by simp [hx, hy])
  simpa using this
end

/-! ### a def -/
def enStart (N : List Str) (ds : List D) : En := ds.map (fun x => some (.im x)) ++ List.replicate (N.length - ds.length) none
theorem sl_start {K : PySem.W.Frag} {F H : Hp} {N : List Str} {ds : List D} {vs : List V} (e : Ex F H) (r : Reps K F ds vs) : Sl K F H F H (L2.start N vs) (enStart N ds) := by
  have hl := r.length
  refine ⟨Adv.refl e, fun i sk q => ?_, fun i j xs ys p _ q _ oo _ _ => ?_, by simp [L2.start, enStart, hl]⟩
  · unfold enStart at q
    by_cases c : i < ds.length
    · rw [List.getElem?_append_left (by simpa using c), List.getElem?_map, List.getElem?_eq_getElem c] at q
      cases q
      obtain ⟨v, h1, h2⟩ := r.get (List.getElem?_eq_getElem c)
      refine ⟨v, ?_, h2⟩
      unfold L2.start
      rw [List.getElem?_append_left (by rw [List.length_map]; omega), List.getElem?_map, h1]; rfl
    · rw [List.getElem?_append_right (by simpa using c), List.getElem?_replicate] at q
      split at q <;> cases q
  · unfold enStart at q
    by_cases c : i < ds.length
    · rw [List.getElem?_append_left (by simpa using c), List.getElem?_map, List.getElem?_eq_getElem c] at q
      cases q; cases oo
    · rw [List.getElem?_append_right (by simpa using c), List.getElem?_replicate] at q
      split at q <;> cases q
section
variable {P : Program} {w : World} {K : PySem.W.Frag} {mg : Str → Option Value} {base : Heap} {x qual : Str} {params : Arguments} {body : List Stmt} {scope : Scope} {dvs : List V} {kws : List (Str × V)} {f : Addr} {fd : FuncData}
theorem fn_ok {N ps : List Str} {k : Nat} {β τ : Type} [ToDs β] [ToD τ] {fM : β → Res τ} (F : FunD K x qual params body scope dvs kws f fd) (S : FnScope N ps scope) (hl : ∀ y : β, (ToDs.ds y).length = ps.length)
    (hbody : ∀ (cdv : Value) (A : Around) (outer : List Env) (s : Shared) (H : Hp) (E : XK), Room k (A.deeper (PyProof.Rows.envOfC qual scope s.heap.objs.size f cdv)) →
      ∃ t, PSs (cxOf (L2.CX P w) P w K mg base N qual scope f cdv A outer s H E) body t ∧
        ∀ (y : β) (F0 H0 : Hp) (Q : VK) (KP : Res τ → Prop), Lk K (fun cls d _ H => E cls d H) F0 H0 Q (fun _ => True) KP → Blk K F0 H0 KP (t { nx := fun _ H' => Q .non H', rt := Q }) (enStart N (ToDs.ds y)) (fM y)) :
    FnOk P w K mg base (L2.CX P w) (k + 1) f fd ps (spM K fM) := by
  refine F.ok S (fun vs H Q E h => ?_) (fun cdv A outer s H vs Q E hr h => ?_)
  · obtain ⟨F, y, _, r, _⟩ := h
    rw [← r.length]; exact hl y
  · obtain ⟨t, h1, h2⟩ := hbody cdv A outer s H E hr
    refine ⟨t, h1, ?_⟩
    obtain ⟨F, y, e, r, q⟩ := h
    refine h2 y F H Q (fun r => KE K (fun cls d _ H => E cls d H) F H [] Q r) ⟨fun z h v F' H' a r => h v F' H' a r, fun c F' H' σ env h _ S' => h F' H' S'.adv, fun z => z⟩ F H _ (sl_start e r) q
end
end Mi
set_option maxHeartbeats 1000000
namespace Mi
open PySem PySem.Spec L2
open Evl (Ex)
abbrev W0 (E : XK) : WX := fun cls d _ H => E cls d H
theorem need_mild {α : Type} {p : Prop} {x : α} {c : Str} (h : Res.need p (.ok x) = .exc c) : False := by
  by_cases q : p
  · rw [Res.need_pos q] at h; cases h
  · rw [Res.need_neg q] at h; cases h
/-! what a value of any kind is taken for -/
def D.asInt : D → Res Int
  | .int i => .ok i
  | _ => .stuck
def D.asBool : D → Res Bool
  | .bl i => .ok i
  | _ => .stuck
def D.asStr : D → Res Str
  | .str i => .ok i
  | _ => .stuck
def D.asList : D → Res (List D)
  | .lst i => .ok i
  | _ => .stuck
def D.asTu : D → Res (Tu D)
  | .tup i => .ok ⟨i⟩
  | _ => .stuck
def intsOf : List D → Res (List Int)
  | [] => .ok []
  | .int i :: r => (intsOf r).bind fun s => .ok (i :: s)
  | _ :: _ => .stuck
def D.asInts : D → Res (List Int)
  | .lst i => intsOf i
  | _ => .stuck
theorem asInt_ok : ∀ (x : D) (y : Int), x.asInt = .ok y → toD y = x
  | .int i, y, h => by cases h; rfl
theorem asInt_x (x : D) (c : Str) : x.asInt ≠ .exc c := by cases x <;> intro h <;> cases h
theorem asBool_ok : ∀ (x : D) (y : Bool), x.asBool = .ok y → toD y = x
  | .bl i, y, h => by cases h; rfl
theorem asBool_x (x : D) (c : Str) : x.asBool ≠ .exc c := by cases x <;> intro h <;> cases h
theorem asStr_ok : ∀ (x : D) (y : Str), x.asStr = .ok y → toD y = x
  | .str i, y, h => by cases h; rfl
theorem asStr_x (x : D) (c : Str) : x.asStr ≠ .exc c := by cases x <;> intro h <;> cases h
theorem asList_ok : ∀ (x : D) (y : List D), x.asList = .ok y → toD y = x
  | .lst i, y, h => by cases h; show D.lst (i.map fun x => x) = _; rw [List.map_id']
theorem asList_x (x : D) (c : Str) : x.asList ≠ .exc c := by cases x <;> intro h <;> cases h
theorem asTu_ok : ∀ (x : D) (y : Tu D), x.asTu = .ok y → toD y = x
  | .tup i, y, h => by cases h; show D.tup (i.map fun x => x) = _; rw [List.map_id']
theorem asTu_x (x : D) (c : Str) : x.asTu ≠ .exc c := by cases x <;> intro h <;> cases h
theorem intsOf_ok : ∀ (x : List D) (y : List Int), intsOf x = .ok y → y.map D.int = x
  | [], y, h => by cases h; rfl
  | .int i :: r, y, h => by
    have h : (intsOf r).bind (fun s => .ok (i :: s)) = .ok y := h
    cases e : intsOf r with
    | ok z => rw [e] at h; cases h; rw [List.map_cons, intsOf_ok r z e]
    | exc c => rw [e] at h; cases h
    | stuck => rw [e] at h; cases h
theorem intsOf_x : ∀ (x : List D) (c : Str), intsOf x ≠ .exc c
  | [], c, h => by cases h
  | .int i :: r, c, h => by
    have h : (intsOf r).bind (fun s => .ok (i :: s)) = .exc c := h
    cases e : intsOf r with
    | ok z => rw [e] at h; cases h
    | exc c => exact intsOf_x r c e
    | stuck => rw [e] at h; cases h
  | .non :: _, c, h => by cases h
  | .bl _ :: _, c, h => by cases h
  | .str _ :: _, c, h => by cases h
  | .ty _ :: _, c, h => by cases h
  | .tup _ :: _, c, h => by cases h
  | .lst _ :: _, c, h => by cases h
  | .obj _ _ _ :: _, c, h => by cases h
theorem asInts_ok : ∀ (x : D) (y : List Int), x.asInts = .ok y → toD y = x
  | .lst i, y, h => congrArg D.lst (intsOf_ok i y h)
theorem asInts_x : ∀ (x : D) (c : Str), x.asInts ≠ .exc c
  | .lst i, c, h => intsOf_x i c h
  | .non, c, h => by cases h
  | .bl _, c, h => by cases h
  | .int _, c, h => by cases h
  | .str _, c, h => by cases h
  | .ty _, c, h => by cases h
  | .tup _, c, h => by cases h
  | .obj _ _ _, c, h => by cases h
theorem intsOf_map : ∀ (y : List Int), intsOf (y.map D.int) = .ok y
  | [] => rfl
  | i :: r => by show (intsOf (r.map D.int)).bind _ = _; rw [intsOf_map r]; rfl
theorem asInts_toD (y : List Int) : (toD y).asInts = .ok y := intsOf_map y
/-- xs[lo:hi] -/
def cutL {α : Type} (xs : List α) (lo hi : Option Int) : List α := (xs.drop (HT.sIx xs.length 0 lo)).take (HT.sIx xs.length xs.length hi - HT.sIx xs.length 0 lo)
section
variable {K : PySem.W.Frag} {W : WX} {F0 H0 F H F' H' F1 : Hp} {rt : VK} {PT : En → Prop} {env env' : En} {α β γ τ : Type} [ToD α] [ToD β] [ToD γ] [ToD τ] {KP : Res τ → Prop} {te ta tb tc : TE} {tt : TT} {Z : Ends} {t u : TS} {T : L2.St → Hp → Prop} {σ : L2.St}
theorem ev_bits {m : Res Int} (h : EvX K W env te m) : EvX K W env (tBits te) (m.bind fun i => .ok ((Builtin.Int.intBits i : Nat) : Int)) := fun F0 H0 F H σ Q S k => by
  refine h F0 H0 F H σ _ S (KE.cut S.ex k fun x v F1 H1 e1 a1 r1 k1 => ?_)
  exact ⟨x, r1, k1 _ F1 H1 (Adv.refl a1.in_) rfl⟩
theorem ev_cast {m : Res D} {f : D → Res α} (hf : ∀ x y, f x = .ok y → toD y = x) (hx : ∀ x c, f x ≠ .exc c) (h : EvX K W env te m) : EvX K W env te (m.bind f) := fun F0 H0 F H σ Q S k => by
  refine h F0 H0 F H σ _ S ?_
  cases m with
  | ok x =>
    intro v F1 H1 a r
    have k : KE K W F H σ Q (f x) := k
    cases e : f x with
    | ok y => rw [e] at k; exact k v F1 H1 a (by rw [hf x y e]; exact r)
    | exc c => exact absurd e (hx x c)
    | stuck => rw [e] at k; exact k.elim
  | exc c => exact k
  | stuck => exact k.elim
theorem blk_fin {Q : VK} {x : τ} (L : Lk K W F0 H0 Q PT KP) (hx : toD x = .non) : Blk K F0 H0 KP (fun _ H' => Q .non H') env (.ok x) := fun F H σ S h => L.ok x h .non F H S.adv (by rw [hx]; rfl)
/-- what follows first, then the statement -/
theorem blk_with {m1 m : Res τ} {env1 : En} (h1 : Blk K F0 H0 KP Z.nx env1 m1) (h2 : Blk K F0 H0 KP Z.nx env1 m1 → Blk K F0 H0 KP (t Z) env m) : Blk K F0 H0 KP (t Z) env m := h2 h1
theorem blk_if2 {m : Res Bool} {a b : Res τ} (L : Lk K W F0 H0 rt PT KP) (hT : PT env) (hc : EvT K W env tt m) (h1 : Blk K F0 H0 KP (t Z) env a) (h2 : Blk K F0 H0 KP (u Z) env b) :
    Blk K F0 H0 KP (tIfS tt t u Z) env (m.bind fun c => cond c a b) := blk_if L hT hc h1 h2
theorem blk_ifj {S : Type} (envS : S → En) (k : S → Res τ) {m : Res Bool} {a b : Res τ} (L : Lk K W F0 H0 rt PT KP) (hT : PT env) (hc : EvT K W env tt m) (hr : ∀ s, Blk K F0 H0 KP Z.nx (envS s) (k s))
    (h1 : (∀ s, Blk K F0 H0 KP Z.nx (envS s) (k s)) → Blk K F0 H0 KP (t Z) env a) (h2 : (∀ s, Blk K F0 H0 KP Z.nx (envS s) (k s)) → Blk K F0 H0 KP (u Z) env b) :
    Blk K F0 H0 KP (tIfS tt t u Z) env (m.bind fun c => cond c a b) := blk_if L hT hc (h1 hr) (h2 hr)
end
/-- try: .. except X as n: .. -/
def tTry (K : PySem.W.Frag) (c : Value) (i : Nat) (ts : Addr → Value → Option Addr → TS) (W : WX) (tb : WX → TS) : TS := fun D σ H => tb (wAs K c i ts W D) D σ H
section
variable {X : Cx} {x n : Str} {i : Nat} {c : Value} {body suite : List Stmt} {b₀ : Stmt} {np pos pos' : Pos} {tb : WX → TS} {ts : Addr → Value → Option Addr → TS} {Wout : WX}
theorem ps_tryW (hs : X.stack = X.env :: X.outer) (hf : X.env.frame = some X.env.locals) (hN : X.N.Nodup) (hi : X.N[i]? = some n) (hln : X.env.kindOf n = some .local) (hc : Names X x c) (tk : Takes X Wout)
    (hb : ∀ (W : WX) (pn : List (Addr × Obj)) (xe : Value → Shared → Prop), Takes (X.tr pn xe) W → PassesOwn (model X.prog X.w) X.A X.env xe → PSs (X.tr pn xe) body (tb W))
    (hsu : ∀ (a : Addr) (oe : Obj) (cls : Value) (d : Option Addr) (pn : List (Addr × Obj)), Zc cls d oe → (∃ vs, oe.data = .fields vs) → PSs (X.suite a ((a, oe) :: pn)) (b₀ :: suite) (ts a cls d)) :
    PS X (.Try body [.ExceptHandler (some (.Name x np)) (some n) (b₀ :: suite) pos'] [] [] pos) (tTry X.K c i ts Wout tb) := ps_try_as hs hf hN hi hln hc tk hb hsu
end
section
variable {K : PySem.W.Frag} {W : WX} {F0 H0 F H F' H' F1 : Hp} {rt : VK} {PT : En → Prop} {env env' : En} {τ : Type} [ToD τ] {KP : Res τ → Prop} {Z : Ends}
theorem blk_tryW {S : Type} {cs : List Str} {sub : Str → Str → Bool} {x : Str} {i : Nat} {tb : WX → TS} {ts : Addr → Value → Option Addr → TS} {envS : S → En} {m : Res (Fall S τ)} {rest : S → Res τ} {hd : Str → Res τ}
    (L : Lk K W F0 H0 rt PT KP) (hT : PT env) (C : Cls K cs sub) (hx : x ∈ cs)
    (hb : ∀ (W' : WX) (KP' : Res (Fall S τ) → Prop), Lk K W' F0 H0 rt (fun e => EnLe e env) KP' → (∀ s, Blk K F0 H0 KP' Z.nx (envS s) (.ok (.go s))) → Blk K F0 H0 KP' (tb W' Z) env m)
    (hs : ∀ (c : Str) (a : Addr) (nx bk ct : L2.St → Hp → Prop), c ∈ cs → sub c x = true → (∀ env' m', Blk K F0 H0 KP Z.nx (env'.set i none) m' → Blk K F0 H0 KP nx env' m') →
      Blk K F0 H0 KP (ts a (.ref (He.ga K c)) none { nx := nx, rt := rt, bk := bk, ct := ct }) (env.set i (some (.raw (.ref a)))) (hd c))
    (hr : ∀ s, Blk K F0 H0 KP Z.nx (envS s) (rest s)) (hZ : Z.rt = rt := by rfl) :
    Blk K F0 H0 KP (tTry K (.ref (He.ga K x)) i ts W tb Z) env (tryR (fun c => decide (c ∈ cs)) (fun c => sub c x) m rest hd) := blk_tryAs L hT C hx hb hs hr hZ
end
section
variable {X : Cx}
theorem ip_of {op : Operator} {r : R2} (h : OpR X (inplaceOp op) r) : PIp X op r := by
  intro pins s σ H x y v u Q I rx ry q
  exact h pins s σ H x y v u Q I rx ry q
theorem iop_mulX : OpR X (inplaceOp .Mult) (rI CMulX fun i j => .int (i * j)) := opI fun _ _ _ _ _ _ _ hc q => PyProof.Rows.imul_int q hc.ok
end

/-! ### the errors' facts, by one Bool -/
def eqOV (a : Option (Option Value)) (b : Value) : Bool := decide (a = some (some b))
def excCB (K : PySem.W.Frag) (C : Addr) : Bool :=
  He.eqO (PySem.W.findIn K (.ref C) "__getattribute__") (some (some (.builtin "BaseException.__getattribute__"))) && (He.eqO (PySem.W.findIn K (.ref C) "__getattr__") (some none) && (decide (PySem.W.subIn K (.ref C) (.type "BaseException") = some true) && (PySem.W.hasDictIn K C &&
    (He.eqO (PySem.W.findIn K (.ref C) "__class__") (some (some (.builtin "object.__class__"))) && (He.eqO (PySem.W.specialIn K (.builtin "object.__class__") "__get__") (some (some (.builtin "getset_descriptor.__get__"))) &&
      (decide (PySem.W.takesIn K (.builtin "object.__class__") = some true) && decide (PySem.W.mroIn K C (.type "object") = some true)))))))
theorem excC_of {K : PySem.W.Frag} {C : Addr} (h : excCB K C = true) : ExcC K C := by
  obtain ⟨h1, h⟩ := He.ba h
  obtain ⟨h2, h⟩ := He.ba h
  obtain ⟨h3, h⟩ := He.ba h
  obtain ⟨h4, h⟩ := He.ba h
  obtain ⟨h5, h⟩ := He.ba h
  obtain ⟨h6, h⟩ := He.ba h
  obtain ⟨h7, h8⟩ := He.ba h
  exact ⟨He.eqO_ok h1, He.eqO_ok h2, of_decide_eq_true h3, h4, He.eqO_ok h5, He.eqO_ok h6, of_decide_eq_true h7, of_decide_eq_true h8⟩
def clsB (K : PySem.W.Frag) (cs : List Str) (sub : Str → Str → Bool) : Bool := cs.all fun c => excCB K (He.ga K c) && ((cs.all fun d => decide (PySem.W.kitOne K (.ref (He.ga K c)) (.ref (He.ga K d)) = some (sub c d)) && decide (PySem.W.exmOne K (.ref (He.ga K c)) (.ref (He.ga K d)) = some (sub c d))) &&
  decide (PySem.W.kitOne K (.ref (He.ga K c)) (.type "ValueError") = some true))
theorem cls_of {K : PySem.W.Frag} {cs : List Str} {sub : Str → Str → Bool} (h : clsB K cs sub = true) : Cls K cs sub := by
  have h1 : ∀ c ∈ cs, _ := fun c hc => He.ba (List.all_eq_true.mp h c hc)
  refine ⟨fun c hc => excC_of (h1 c hc).1, fun c hc d hd => ?_, fun c hc d hd => ?_, fun c hc => ?_⟩
  · exact of_decide_eq_true (He.ba (List.all_eq_true.mp (He.ba (h1 c hc).2).1 d hd)).2
  · exact of_decide_eq_true (He.ba (List.all_eq_true.mp (He.ba (h1 c hc).2).1 d hd)).1
  · exact of_decide_eq_true (He.ba (h1 c hc).2).2
end Mi
set_option maxHeartbeats 1000000
namespace Mi
open PySem PySem.Spec L2
open Evl (Ex)
theorem walk_end {l : PySem.W.OpenLaw} {n k : Nat} {q : Program} {loose : List Str} {XP : (Str → Option Value) → Heap → Prop} {YP : World → Heap → Prop} {d : PySem.DefRec} {x : Str} {m : List Int → Res Bool}
    (hn : l.most = some n) (hn2 : n ≤ sizeLine) (hdf : d.params.defaults = []) (hr : Room k PySem.callerA)
    (F : ∀ (w : World) (mg : Str → Option Value) (fa : Addr) (h : Heap), YP w h → h.Ns mainGlobals mg → mg d.name = some (.ref fa) →
      ∃ (K : PySem.W.Frag) (fd : FuncData), K.In h ∧ (∀ (s : Shared) (u : Value), PySem.BindsTo s fd ⟨[u], []⟩ [(x, u)]) ∧
        ∀ base : Heap, K.In base → base.Ns mainGlobals mg → FnOk l.prog w K mg base (L2.CX l.prog w) k fa fd [x] (spM K (fun (p : List Int × Unit) => m p.1)))
    (ht : ∀ ns : List Int, ns.length ≤ n → (∀ i ∈ ns, Builtin.Int.intBits i ≤ 1048576) → m ns = .ok true) :
    PySem.W.WalkO q loose XP YP l.row.toRowW d [] (fun f vs => PySem.call f vs) := by
  refine Att.attach_callB hn hdf fun w s₀ s₁ mg mb fa o pm cd doc a vs ns G Y ho hd hcd hmg hobj hints hlen hbits hg => ?_
  obtain ⟨K, fd, KX, hb, hF⟩ := F w mg fa _ Y G.T.g hmg
  refine law_call KX G.T.g G.T.b G.T.builtins G.T.nolimit hg hobj hints (Nat.le_trans hlen hn2) hr hF hb (fun H hO hS => ?_) fun H e s' z => ?_
  · refine ⟨H, (ns, ()), Ex.refl H, ⟨.ref a, [], rfl, ⟨a, ns.map V.int, rfl, hS, Reps.of_ints ns⟩, rfl⟩, ?_⟩
    show KE K _ H H [] _ (m ns)
    rw [ht ns hlen hbits]
    exact fun v F' H' _ r => r
  · obtain ⟨_, _, _, _, _, _, _, _, _, _, _, _, z⟩ := z
    exact z
end Mi
set_option maxHeartbeats 1000000
namespace Mi
open PySem PySem.Spec L2
open Evl (Ex)
abbrev rLenS (K : PySem.W.Frag) : List V → Hp → VK → Prop := fun xs H Q => ∃ p ys, xs = [.ref p] ∧ (SqL K H p ys ∨ SqT K H p ys) ∧ Q (.int ys.length) H
theorem cr_len {X : Cx} {K : PySem.W.Frag} (h : X.K = K) : CallR X (.builtin "len") (rLenS K) := by
  subst h; exact call_len_seq
theorem cr_ixL {X : Cx} {K : PySem.W.Frag} (h : X.K = K) : IxR X (rIxL K) := by
  subst h; exact ix_list
theorem cr_ixT {X : Cx} {K : PySem.W.Frag} (h : X.K = K) : IxR X (rIxT K) := by
  subst h; exact ix_tup
theorem cr_slL {X : Cx} {K : PySem.W.Frag} (h : X.K = K) : SlR X (rSlL K) := by
  subst h; exact sl_list
section
variable {K : PySem.W.Frag} {W : WX} {F0 H0 F H F' H' F1 : Hp} {rt : VK} {PT : En → Prop} {env env' : En} {α β γ τ : Type} [ToD α] [ToD β] [ToD γ] [ToD τ] {KP : Res τ → Prop} {te ta tb tc : TE} {tt : TT} {Z : Ends} {t u : TS} {T : L2.St → Hp → Prop} {σ : L2.St}
/-- xs[::-1] -/
theorem en_rev {m : Res (List α)} (h : EvX K W env te m) : EvN K W env (tRevL K te) (m.bind fun xs => .ok xs.reverse) := fun F0 H0 F H σ Q S k => by
  refine h F0 H0 F H σ _ S ?_
  cases m with
  | ok xs =>
    intro v F1 H1 a r
    obtain ⟨p, vs, rfl, h1, h2⟩ := r
    refine ⟨p, vs, rfl, Evl.ex_l a.in_ h1, fun l hl => ?_⟩
    refine k l _ F1 _ (a.trans (Adv.newO a.in_ hl)) (Evl.fresh_back a.h hl) (none_of_ex a.in_ hl) upd_same ?_
    rw [List.map_reverse]
    exact Reps.reverse h2
  | exc c => exact k
  | stuck => exact k.elim
/-- the parts of a text of an error -/
def EvJ (K : PySem.W.Frag) (W : WX) (env : En) (ts : List TE) (N : Nat) (m : Res Unit) : Prop :=
  ∀ F0 H0 F H σ acc (Q : Str → Hp → Prop), Sl K F0 H0 F H σ env → acc.length + N ≤ sizeLine → KE K W F H σ (fun _ H' => ∀ out, Q out H') m → tJs ts acc σ H Q
theorem ej_nil : EvJ K W env [] 0 (.ok ()) := fun F0 H0 F H σ acc Q S hn k => k .non F H (Adv.refl S.ex) rfl acc
theorem ej_txt {x : Str} {n N : Nat} {ts : List TE} {m : Res Unit} (hx : x.length ≤ n) (h : EvJ K W env ts N m) : EvJ K W env (tC (.str x) :: ts) (n + N) m := fun F0 H0 F H σ acc Q S hn k => by
  have e : (acc ++ x).length = acc.length + x.length := Str.length_append ..
  exact ⟨x, rfl, by omega, h F0 H0 F H σ (acc ++ x) Q S (by omega) k⟩
theorem ej_int {te : TE} {N : Nat} {ts : List TE} {m1 : Res Int} {m : Res Unit} (h1 : EvX K W env te m1) (h : EvJ K W env ts N m) : EvJ K W env (tFmt te :: ts) (1000 + N) (m1.bind fun i => .need (i.natAbs.log2 < 1920 ∧ (toString i : Str).length ≤ 1000) m) := fun F0 H0 F H σ acc Q S hn k => by
  refine h1 F0 H0 F H σ _ S (k.cut S.ex fun i v F1 H1 e1 a1 r1 k1 => ?_)
  have r1 : v = V.int i := r1
  subst r1
  by_cases q : i.natAbs.log2 < 1920 ∧ (toString i : Str).length ≤ 1000
  · rw [Res.need_pos q] at k1
    have e : (acc ++ toString i).length = acc.length + (toString i : Str).length := Str.length_append ..
    exact .inr ⟨i, rfl, q.1, toString i, rfl, by omega, h F0 H0 F1 H1 σ _ Q (S.step a1) (by omega) k1⟩
  · rw [Res.need_neg q] at k1; exact k1.elim
theorem blk_raiseJ {c : Str} {m : Res Unit} {ts : List TE} {N : Nat} (L : Lk K W F0 H0 rt PT KP) (hT : PT env) (hN : N ≤ sizeLine) (he : EvJ K W env ts N m) : Blk K F0 H0 KP (fun σ H => tJs ts Str.empty σ H fun _ H1 => W (.ref (He.ga K c)) none σ H1) env (m.bind fun _ => .exc c) := fun F H σ S h => by
  refine he F0 H0 F H σ _ _ S (by show 0 + N ≤ _; omega) (L.ke hT S h fun x v F1 H1 e1 a1 r1 h1 => ?_)
  exact fun _ => L.exc c F1 H1 σ env h1 hT (S.step a1)
end
end Mi
set_option maxHeartbeats 1000000
namespace Mi
open PySem PySem.Spec L2
open Evl (Ex)

/-! ### own classes: rules with what is raised at the caller's slots -/
section
variable {X : Cx} {CX : CXT} {k : Nat} {f C : Addr} {fd : FuncData} {ps : List Str} {sp : Sp} {E : L2.St → XK} {x m : Str} {p pos apos : Pos} {e o : Expr} {es : List Expr} {ta : TE} {t : TA}
def tMethQ (C : Addr) (m : Str) (sp : Sp) (E : L2.St → XK) (ta : TE) (t : TA) : TE := fun σ H Q => ta σ H fun x H1 => ∃ a dx fs, x = .ref a ∧ H1 a = some (.ins C dx fs) ∧ fs.lookup m = none ∧ t σ H1 fun vs H2 => sp (x :: vs) H2 Q (E σ)
theorem pe_methQ {pl : Sem Bool} (he : PE X o ta) (c : L2.Cls X.K C) (hm : Meth X.K C m f) (F : FnOk X.prog X.w X.K X.mg X.base CX k f fd ps sp) (hr : Room k X.A) (hb : Binds X.K fd ps []) (hx : ∀ σ, PassesAt CX X σ (E σ)) (ha : PA X (e :: es) t)
    (hst : starEach (e :: es) X.env = (false, eval e X.env) :: starEach es X.env := by rfl) (hpl : (backTo pos (starEach es X.env)).any (·.1) = false := by rfl)
    (ht : eval (.Call (.Attribute o m apos) (e :: es) [] pos) X.env = (do
      let ov ← eval o X.env
      standAt apos.atName
      let (f, first) ← holding [ov] (getMethod ov m pl)
      callWith pos f first (backTo pos (starEach (e :: es) X.env)) (backToKw pos (keywordEach [] X.env))) := by rfl) :
    PE X (.Call (.Attribute o m apos) (e :: es) [] pos) (tMethQ C m sp E ta t) := by
  refine ⟨fun pins s σ H Q I h => ?_⟩
  refine PySem.W.methodCall_KW (pl := pl) (thn (he.run pins s σ H _ I h) fun u s1 ⟨x, H1, I1, rx, a, dx, fs, ex, ea, l, q⟩ => ?_) ht
  subst ex
  obtain rfl : u = Value.ref a := rx
  refine getmeth_ok I1 ea c hm l ?_
  refine PySem.W.callWith_K (first := [.ref a]) (h₀ := X.base) I.ok.mod.kin hm.kp (thn (ha.run pos pins s1 σ H1 _ I1 q) fun us s2 ⟨vs, H2, I2, r, q2⟩ => ⟨I2.kIn, ?_⟩) hst hpl
  exact run_fnS (us := .ref a :: us) (vs := .ref a :: vs) F hr hb (hx σ) I2 (.cons rfl r) q2
theorem pe_methQ0 {pl : Sem Bool} (he : PE X o ta) (c : L2.Cls X.K C) (hm : Meth X.K C m f) (F : FnOk X.prog X.w X.K X.mg X.base CX k f fd ps sp) (hr : Room k X.A) (hb : Binds X.K fd ps []) (hx : ∀ σ, PassesAt CX X σ (E σ))
    (ht : eval (.Call (.Attribute o m apos) [] [] pos) X.env = (do
      let ov ← eval o X.env
      standAt apos.atName
      let (f, first) ← holding [ov] (getMethod ov m pl)
      callWith pos f first (backTo pos (starEach [] X.env)) (backToKw pos (keywordEach [] X.env))) := by rfl) :
    PE X (.Call (.Attribute o m apos) [] [] pos) (tMethQ C m sp E ta tNil) := by
  refine ⟨fun pins s σ H Q I h => ?_⟩
  refine PySem.W.methodCall_KW (pl := pl) (thn (he.run pins s σ H _ I h) fun u s1 ⟨x, H1, I1, rx, a, dx, fs, ex, ea, l, q⟩ => ?_) ht
  subst ex
  obtain rfl : u = Value.ref a := rx
  refine getmeth_ok I1 ea c hm l ?_
  exact PySem.W.callWith_K0 (first := [.ref a]) I1.kIn hm.kp (run_fnS (us := [.ref a]) (vs := [.ref a]) F hr hb (hx σ) I1 (.cons rfl .nil) q)
def tMakeQ (C : Addr) (sp : Sp) (E : L2.St → XK) (t : TA) : TE := fun σ H Q => t σ H fun vs H1 => ∀ x dx, H1 x = none → H1 dx = none → dx ≠ x → sp (.ref x :: vs) (upd (upd H1 dx (.own x)) x (.ins C dx [])) (fun v H2 => v = .non ∧ Q (.ref x) H2) (E σ)
theorem run_makeQ {pins : List (Addr × Obj)} {σ : L2.St} {H : Hp} {s : Shared} {Q : VK} {us : List Value} {vs : List V} (M : Mk X.K C f) (F : FnOk X.prog X.w X.K X.mg X.base CX k f fd ps sp) (hr : Room (k + 1) X.A) (hb : Binds X.K fd ps [])
    (hx : PassesAt CX X σ (E σ)) (I : Inv X pins σ H s) (r : Vals vs us)
    (h : ∀ x dx, H x = none → H dx = none → dx ≠ x → sp (.ref x :: vs) (upd (upd H dx (.own x)) x (.ins C dx [])) (fun v H2 => v = .non ∧ Q (.ref x) H2) (E σ)) :
    wpAny (model X.prog X.w) X.A (call (.ref C) us) (EP X pins σ Q) X.xe s := by
  have hq := h (s.heap.objs.size + 1) s.heap.objs.size (I.hok.fresh (Nat.le_succ _)) (I.hok.fresh (Nat.le_refl _)) (Nat.ne_of_lt (Nat.lt_succ_self _))
  have I2 := Inv.made (C := C) I
  have r2 : Vals (V.ref (s.heap.objs.size + 1) :: vs) (Value.ref (s.heap.objs.size + 1) :: us) := .cons rfl r
  have hl : (Value.ref (s.heap.objs.size + 1) :: us ++ []).length = ps.length := by
    rw [List.append_nil]
    have e := r2.length
    rw [F.len _ _ _ _ hq] at e
    exact e.symm
  have b := hb _ (Value.ref (s.heap.objs.size + 1) :: us) I2.kIn hl
  rw [List.append_nil] at b
  refine wpAny_call (make_map (f := f) I.kIn M.makes M.init (beq_iff_eq.mp M.fn) (codeAny_mono (F.run _ X.stack _ _ ⟨Value.ref (s.heap.objs.size + 1) :: us, []⟩ (Value.ref (s.heap.objs.size + 1) :: us) _ _ (E σ) (hr.make C us [])
    (I2.env0.make C us []) b r2 hq) fun r s' hq' => ?_))
  cases r with
  | error e => exact hx pins _ _ e s' I2 hq'
  | ok fl =>
    cases fl with
    | ret u =>
      obtain ⟨v, H', I3, rv, ev, q3⟩ := I2.after hq'
      subst ev
      exact ⟨rv, ⟨V.ref (s.heap.objs.size + 1), H', I3, rfl, q3⟩⟩
    | next => exact False.elim hq'
    | brk => exact False.elim hq'
    | cont => exact False.elim hq'
theorem pe_makeQ (M : Mk X.K C f) (F : FnOk X.prog X.w X.K X.mg X.base CX k f fd ps sp) (hr : Room (k + 1) X.A) (hg : Gl X x) (hm : X.mg x = some (.ref C)) (hb : Binds X.K fd ps []) (hx : ∀ σ, PassesAt CX X σ (E σ))
    (ha : PA X (e :: es) t) (hdb : (x == ("__debug__" : Str)) = false := by decide) (he : starEach (e :: es) X.env = (false, eval e X.env) :: starEach es X.env := by rfl) (hpl : (backTo pos (starEach es X.env)).any (·.1) = false := by rfl) :
    PE X (.Call (.Name x p) (e :: es) [] pos) (tMakeQ C sp E t) := by
  refine ⟨fun pins s σ H Q I h => ?_⟩
  refine wpAny_Call_Name_kw (ld_glob I hg hm ?_ hdb)
  refine PySem.W.callWith_K (h₀ := X.base) I.ok.mod.kin M.kp (thn (ha.run pos pins s σ H _ I h) fun us s1 ⟨vs, H1, I1, r, q⟩ => ⟨I1.kIn, ?_⟩) he hpl
  exact run_makeQ M F hr hb (hx σ) I1 r q
theorem pe_makeQ0 (M : Mk X.K C f) (F : FnOk X.prog X.w X.K X.mg X.base CX k f fd ps sp) (hr : Room (k + 1) X.A) (hg : Gl X x) (hm : X.mg x = some (.ref C)) (hb : Binds X.K fd ps []) (hx : ∀ σ, PassesAt CX X σ (E σ))
    (hdb : (x == ("__debug__" : Str)) = false := by decide) : PE X (.Call (.Name x p) [] [] pos) (tMakeQ C sp E tNil) := by
  refine ⟨fun pins s σ H Q I h => ?_⟩
  refine wpAny_Call_Name_kw (ld_glob I hg hm ?_ hdb)
  exact PySem.W.callWith_K0 I.kIn M.kp (run_makeQ (us := []) M F hr hb (hx σ) I .nil h)
end

/-! ### fields by their place -/
def posK (f : Str) : List Str → Option Nat
  | [] => none
  | g :: r => if g = f then some 0 else (posK f r).map (· + 1)
theorem lookup_pos {f : Str} {v : V} : ∀ {ks : List Str} {vs : List V} {j : Nat}, posK f ks = some j → vs[j]? = some v → (ks.zip vs).lookup f = some v
  | [], _, _, h, _ => by cases h
  | g :: r, [], j, h, q => by simp at q
  | g :: r, w :: ws, j, h, q => by
    unfold posK at h
    by_cases c : g = f
    · rw [if_pos c] at h; cases h
      simp at q; subst q c
      simp [List.zip_cons_cons, List.lookup]
    · rw [if_neg c] at h
      have c2 : (f == g) = false := beq_eq_false_iff_ne.mpr fun z => c z.symm
      cases e : posK f r with
      | none => rw [e] at h; cases h
      | some i =>
        rw [e] at h; cases h
        simp only [List.zip_cons_cons, List.lookup, c2]
        exact lookup_pos e (by simpa using q)
theorem lookup_no {f : Str} : ∀ {ks : List Str} {vs : List V}, posK f ks = none → (ks.zip vs).lookup f = none
  | [], _, _ => rfl
  | g :: r, [], _ => rfl
  | g :: r, w :: ws, h => by
    unfold posK at h
    by_cases c : g = f
    · rw [if_pos c] at h; cases h
    · rw [if_neg c] at h
      have c2 : (f == g) = false := beq_eq_false_iff_ne.mpr fun z => c z.symm
      simp only [List.zip_cons_cons, List.lookup, c2]
      refine lookup_no ?_
      cases e : posK f r with
      | none => rfl
      | some i => rw [e] at h; cases h
theorem putF_new {f : Str} {v : V} : ∀ {ks : List Str} {vs : List V}, posK f ks = none → ks.length = vs.length → putF f v (ks.zip vs) = (ks ++ [f]).zip (vs ++ [v])
  | [], [], _, _ => rfl
  | [], _ :: _, _, h => by simp at h
  | g :: r, [], _, h => by simp at h
  | g :: r, w :: ws, h, hl => by
    unfold posK at h
    by_cases c : g = f
    · rw [if_pos c] at h; cases h
    · rw [if_neg c] at h
      show (if g = f then _ else (g, w) :: putF f v (r.zip ws)) = _
      rw [if_neg c]
      rw [putF_new (ks := r) (vs := ws) (by cases e : posK f r with | none => rfl | some i => rw [e] at h; cases h) (by simpa using hl)]
      rfl
theorem putF_old {f : Str} {v : V} : ∀ {ks : List Str} {vs : List V} {j : Nat}, posK f ks = some j → ks.length = vs.length → putF f v (ks.zip vs) = ks.zip (vs.set j v)
  | [], _, _, h, _ => by cases h
  | g :: r, [], _, _, h => by simp at h
  | g :: r, w :: ws, j, h, hl => by
    unfold posK at h
    by_cases c : g = f
    · rw [if_pos c] at h; cases h
      show (if g = f then (g, v) :: r.zip ws else _) = _
      rw [if_pos c]; rfl
    · rw [if_neg c] at h
      cases e : posK f r with
      | none => rw [e] at h; cases h
      | some i =>
        rw [e] at h; cases h
        show (if g = f then _ else (g, w) :: putF f v (r.zip ws)) = _
        rw [if_neg c, putF_old e (by simpa using hl)]
        rfl
section
variable {K : PySem.W.Frag} {W : WX} {F0 H0 F H F' H' F1 : Hp} {rt : VK} {PT : En → Prop} {env env' : En} {α β γ τ : Type} [ToD α] [ToD β] [ToD γ] [ToD τ] {KP : Res τ → Prop} {te ta tb tc : TE} {tt : TT} {Z : Ends} {t u : TS} {T : L2.St → Hp → Prop} {σ : L2.St}
/-- e.f, e an object that stands still -/
theorem ev_fld {m : Res α} {g : α → β} {c f : Str} {ks : List Str} {j : Nat} (he : EvX K W env te m) (hc : L2.Cls K (He.ga K c)) (hn : NoAttr K (He.ga K c) f) (hj : posK f ks = some j) (hf : ∀ x : α, ∃ ds, toD x = .obj c ks ds ∧ ds[j]? = some (toD (g x))) :
    EvX K W env (tFld K te f) (m.bind fun x => .ok (g x)) := fun F0 H0 F H σ Q S k => by
  refine he F0 H0 F H σ _ S (KE.cut S.ex k fun x v F1 H1 e1 a1 r1 k1 => ?_)
  obtain ⟨ds, e, q⟩ := hf x
  rw [e] at r1
  obtain ⟨a, dx, vs, rfl, h2, h3, h4⟩ := r1
  obtain ⟨w, hw, rw_⟩ := Reps.get h4 q
  exact ⟨a, _, dx, _, w, rfl, a1.in_ _ _ h2, hc, hn, lookup_pos hj hw, k1 _ F1 H1 (Adv.refl a1.in_) rw_⟩
/-- self.f, self an object that is being made -/
theorem ev_fldO {x : α} {c f : Str} {pp : Option Addr} {ks : List Str} {ds : List D} {i j : Nat} (hi : env[i]? = some (some (.oi pp c ks ds))) (hc : L2.Cls K (He.ga K c)) (hn : NoAttr K (He.ga K c) f) (hj : posK f ks = some j) (hd : ds[j]? = some (toD x)) :
    EvX K W env (tFld K (tVar i) f) (.ok x) := fun F0 H0 F H σ Q S k => by
  obtain ⟨v, e, p, dx, vs, rfl, h0, hf, hp, hl, hr, _⟩ := S.slot i _ hi
  obtain ⟨w, hw, rw_⟩ := Reps.get hr hd
  exact ⟨_, e, p, _, dx, _, w, rfl, hp, hc, hn, lookup_pos hj hw, k _ F H (Adv.refl S.ex) rw_⟩
/-- self.f = e, a new field -/
theorem blk_fldN {i : Nat} {m : Res α} {g : α → Res τ} {c f : Str} {pp : Option Addr} {ks : List Str} {ds : List D} (L : Lk K W F0 H0 rt PT KP) (hT : PT env) (he : EvX K W env te m) (hi : env[i]? = some (some (.oi pp c ks ds))) (hc : L2.Cls K (He.ga K c)) (hn : NoAttr K (He.ga K c) f) (hj : posK f ks = none) (hk : ks.length < 1000)
    (k : ∀ x, Blk K F0 H0 KP Z.nx (env.set i (some (.oi pp c (ks ++ [f]) (ds ++ [toD x])))) (g x)) : Blk K F0 H0 KP (sFld K (tVar i) te f Z) env (m.bind g) := fun F H σ S h =>
  he F0 H0 F H σ _ S (L.ke hT S h fun x v F1 H1 e1 a1 r1 h1 => by
    have S1 := S.step a1
    obtain ⟨w, e, p, dx, vs, rfl, h0, hf, hp, hl, hr, hpp⟩ := S1.slot i _ hi
    refine ⟨_, e, p, _, dx, _, rfl, hp, hc, hn, by rw [List.length_zip, ← hl, Nat.min_self]; exact hk, ?_⟩
    refine k x F1 _ σ (S1.chgO hi rfl e hf h0 ⟨p, dx, vs ++ [v], rfl, h0, hf, ?_, by simp [hl], Reps.append hr (Reps.one r1), hpp⟩) h1
    rw [upd_same, putF_new hj hl])
/-- self.f = e, a field that is there -/
theorem blk_fldR {i j : Nat} {m : Res α} {g : α → Res τ} {c f : Str} {pp : Option Addr} {ks : List Str} {ds : List D} (L : Lk K W F0 H0 rt PT KP) (hT : PT env) (he : EvX K W env te m) (hi : env[i]? = some (some (.oi pp c ks ds))) (hc : L2.Cls K (He.ga K c)) (hn : NoAttr K (He.ga K c) f) (hj : posK f ks = some j) (hk : ks.length < 1000)
    (k : ∀ x, Blk K F0 H0 KP Z.nx (env.set i (some (.oi pp c ks (ds.set j (toD x))))) (g x)) : Blk K F0 H0 KP (sFld K (tVar i) te f Z) env (m.bind g) := fun F H σ S h =>
  he F0 H0 F H σ _ S (L.ke hT S h fun x v F1 H1 e1 a1 r1 h1 => by
    have S1 := S.step a1
    obtain ⟨w, e, p, dx, vs, rfl, h0, hf, hp, hl, hr, hpp⟩ := S1.slot i _ hi
    refine ⟨_, e, p, _, dx, _, rfl, hp, hc, hn, by rw [List.length_zip, ← hl, Nat.min_self]; exact hk, ?_⟩
    refine k x F1 _ σ (S1.chgO hi rfl e hf h0 ⟨p, dx, vs.set j v, rfl, h0, hf, ?_, by simp [hl], Reps.set j hr r1, hpp⟩) h1
    rw [upd_same, putF_old hj hl])
/-- o.m(e, ..), o an object that stands still -/
theorem ev_meth {δ : Type} [ToDs δ] {ts : TA} {mo : Res α} {ma : Res δ} {c m : Str} {ks : List Str} {f : α × δ → Res β} (ho : EvX K W env te mo) (ha : EvA K W env ts ma) (hj : posK m ks = none) (hf : ∀ x : α, ∃ ds, toD x = .obj c ks ds) :
    EvX K W env (tMethQ (He.ga K c) m (spM K f) (WE W) te ts) (mo.bind fun x => ma.bind fun y => f (x, y)) := fun F0 H0 F H σ Q S k => by
  refine ho F0 H0 F H σ _ S (KE.cut S.ex k fun x v F1 H1 e1 a1 r1 k1 => ?_)
  obtain ⟨ds, e⟩ := hf x
  have r1' := r1
  rw [e] at r1
  obtain ⟨a, dx, vs, rfl, h2, h3, h4⟩ := r1
  refine ⟨a, dx, _, rfl, a1.in_ _ _ h2, lookup_no hj, ?_⟩
  refine ha F0 H0 F1 H1 σ _ (S.step a1) ?_
  cases ma with
  | ok y =>
    intro ws F2 H2 a2 r2
    have k1 : KE K W F1 H1 σ Q (f (x, y)) := k1
    have k1 := k1.adv a2
    refine ⟨F2, (x, y), a2.in_, ⟨_, ws, rfl, Rep.mono a2.f _ _ r1', r2⟩, ?_⟩
    revert k1
    generalize f (x, y) = z
    intro k1
    cases z with
    | ok z => exact k1
    | exc c => exact k1
    | stuck => exact k1.elim
  | exc c => exact k1
  | stuck => exact k1.elim
theorem ev_meth0 {δ : Type} [ToDs δ] {ts : TA} {mo : Res α} {ma : Res δ} {c m : Str} {ks : List Str} {f : α × δ → Res β} (ho : EvX K W env te mo) (ha : EvA K W env ts ma) (hj : posK m ks = none) (hf : ∀ x : α, ∃ ds, toD x = .obj c ks ds) :
    EvX K W env (tMeth (He.ga K c) m (spM K f) [] E0 te ts) (mo.bind fun x => ma.bind fun y => (f (x, y)).noexc) := fun F0 H0 F H σ Q S k => by
  refine ho F0 H0 F H σ _ S (KE.cut S.ex k fun x v F1 H1 e1 a1 r1 k1 => ?_)
  obtain ⟨ds, e⟩ := hf x
  have r1' := r1
  rw [e] at r1
  obtain ⟨a, dx, vs, rfl, h2, h3, h4⟩ := r1
  refine ⟨a, dx, _, rfl, a1.in_ _ _ h2, lookup_no hj, ?_⟩
  refine ha F0 H0 F1 H1 σ _ (S.step a1) ?_
  cases ma with
  | ok y =>
    intro ws F2 H2 a2 r2
    have k1 : KE K W F1 H1 σ Q (f (x, y)).noexc := k1
    have k1 := k1.adv a2
    refine ⟨F2, (x, y), a2.in_, by rw [List.append_nil]; exact ⟨_, ws, rfl, Rep.mono a2.f _ _ r1', r2⟩, ?_⟩
    revert k1
    generalize f (x, y) = z
    intro k1
    cases z with
    | ok z => exact k1
    | exc c => exact k1.elim
    | stuck => exact k1.elim
  | exc c => exact k1
  | stuck => exact k1.elim
/-- the heap without an object that a def changes -/
def hide (H : Hp) (p : Addr) : Hp := fun q => if q = p then none else H q
theorem hide_same {H : Hp} {p : Addr} : hide H p p = none := if_pos rfl
theorem hide_ne {H : Hp} {p q : Addr} (h : q ≠ p) : hide H p q = H q := if_neg h
theorem hide_ex {H : Hp} {p : Addr} : Ex (hide H p) H := fun a u q => by
  by_cases z : a = p
  · subst z; rw [hide_same] at q; cases q
  · rw [hide_ne z] at q; exact q
/-- the promise of an __init__ -/
def KIn (K : PySem.W.Frag) (F H : Hp) (p : Addr) (Q : VK) (E : XK) : Res α → Prop
  | .ok x => ∀ F' H', Adv F (hide H p) F' H' → Rep K F' (toD x) (.ref p) → Q .non H'
  | .exc c => ∀ F' H', Adv F (hide H p) F' H' → E (.ref (He.ga K c)) none H'
  | .stuck => False
def spI (K : PySem.W.Frag) (c : Str) {δ : Type} [ToDs δ] (f : δ → Res α) : Sp := fun vs H Q E => ∃ F y p dx ws, vs = .ref p :: ws ∧ Ex F H ∧ F p = none ∧ H p = some (.ins (He.ga K c) dx []) ∧ Reps K F (ToDs.ds y) ws ∧ KIn K F H p Q E (f y)
theorem ev_make {δ : Type} [ToDs δ] {ts : TA} {ma : Res δ} {c : Str} {f : δ → Res α} (ha : EvA K W env ts ma) : EvX K W env (tMakeQ (He.ga K c) (spI K c f) (WE W) ts) (ma.bind f) := fun F0 H0 F H σ Q S k => by
  refine ha F0 H0 F H σ _ S ?_
  cases ma with
  | ok y =>
    intro vs F1 H1 a1 r1 x dx nx ndx hne
    have k : KE K W F H σ Q (f y) := k
    have k := k.adv a1
    have ex1 : Ex H1 (hide (upd (upd H1 dx (.own x)) x (.ins (He.ga K c) dx [])) x) := fun a u q => by
      have z : a ≠ x := ne_of_none q nx
      rw [hide_ne z, upd_ne z, upd_ne (ne_of_none q ndx)]
      exact q
    have exF : Ex F1 (upd (upd H1 dx (.own x)) x (.ins (He.ga K c) dx [])) := fun a u q => hide_ex _ _ (ex1 _ _ (a1.in_ _ _ q))
    have ad : ∀ {F' H' : Hp}, Adv F1 (hide (upd (upd H1 dx (.own x)) x (.ins (He.ga K c) dx [])) x) F' H' → Adv F1 H1 F' H' := fun {F' H'} b =>
      ⟨b.f, ex1.trans b.h, b.in_, fun q h1 h2 => b.out q h1 (by
        cases e : H1 q with
        | none => exact absurd e h2
        | some o => rw [ex1 _ _ e]; simp)⟩
    refine ⟨F1, y, x, dx, vs, rfl, exF, none_of_ex a1.in_ nx, upd_same, r1, ?_⟩
    revert k
    generalize f y = z
    intro k
    cases z with
    | ok z => exact fun F' H' b r => ⟨rfl, k _ F' H' (ad b) r⟩
    | exc c => exact fun F' H' b => k F' H' (ad b)
    | stuck => exact k.elim
  | exc c => exact k
  | stuck => exact k.elim
/-- the end of an __init__ -/
theorem blk_finI {Q : VK} {x : τ} {p : Addr} {c : Str} {ks : List Str} {ds : List D} {i : Nat} (L : Lk K W F0 H0 (fun v H' => v = .ref p → Q .non H') PT KP) (hi : env[i]? = some (some (.oi (some p) c ks ds))) (hx : toD x = .obj c ks ds) : Blk K F0 H0 KP (fun _ H' => Q .non H') env (.ok x) := fun F H σ S h => by
  obtain ⟨v, e, q, dx, vs, rfl, h0, hf, hp, hl, hr, hpp⟩ := S.slot i _ hi
  have : q = p := hpp p rfl
  subst this
  obtain ⟨F', ex, S'⟩ := S.freezeI hi
  have hi' : i < env.length := by
    have := (List.getElem?_eq_some_iff.mp hi).1
    exact this
  obtain ⟨v2, e2, r2⟩ := S'.slot i (.im (.obj c ks ds)) (by rw [List.getElem?_set_self hi'])
  rw [e] at e2; cases e2
  exact L.ok x h (.ref q) F' H S'.adv (by rw [hx]; exact r2) rfl
end
section
variable {P : Program} {w : World} {K : PySem.W.Frag} {mg : Str → Option Value} {base : Heap} {x qual : Str} {params : Arguments} {body : List Stmt} {scope : Scope} {dvs : List V} {kws : List (Str × V)} {f : Addr} {fd : FuncData}
theorem sl_startI {K : PySem.W.Frag} {F H : Hp} {N : List Str} {ds : List D} {vs : List V} {p dx : Addr} {c : Str} {n0 : Str} (e : Ex F H) (hf : F p = none) (hp : H p = some (.ins (He.ga K c) dx [])) (r : Reps K F ds vs) :
    Sl K F (hide H p) F H (L2.start (n0 :: N) (.ref p :: vs)) (some (.oi (some p) c [] []) :: enStart N ds) := by
  have hl := r.length
  refine ⟨⟨Ex.refl F, hide_ex, e, fun q h _ => h⟩, fun i sk q => ?_, fun i j sk sk' a hij q q' o o' h1 => ?_, by simp [L2.start, enStart, hl]⟩
  · cases i with
    | zero =>
      simp at q; subst q
      exact ⟨.ref p, by simp [L2.start], p, dx, [], rfl, hide_same, hf, hp, rfl, rfl, fun a h => Option.some.inj h⟩
    | succ i =>
      have q : (enStart N ds)[i]? = some (some sk) := by simpa using q
      unfold enStart at q
      by_cases c : i < ds.length
      · rw [List.getElem?_append_left (by simpa using c), List.getElem?_map, List.getElem?_eq_getElem c] at q
        cases q
        obtain ⟨v, h1, h2⟩ := r.get (List.getElem?_eq_getElem c)
        refine ⟨v, ?_, h2⟩
        unfold L2.start
        rw [List.getElem?_append_left (by simp only [List.map_cons, List.length_cons, List.length_map]; omega), List.getElem?_map, List.getElem?_cons_succ, h1]; rfl
      · rw [List.getElem?_append_right (by simpa using c), List.getElem?_replicate] at q
        split at q <;> cases q
  · have im : ∀ (i : Nat) (sk : Sk), (some (Sk.oi (some p) c [] []) :: enStart N ds)[i]? = some (some sk) → sk.own = true → i = 0 := by
      intro i sk q o
      cases i with
      | zero => rfl
      | succ i =>
        have q : (enStart N ds)[i]? = some (some sk) := by simpa using q
        unfold enStart at q
        by_cases c : i < ds.length
        · rw [List.getElem?_append_left (by simpa using c), List.getElem?_map, List.getElem?_eq_getElem c] at q
          cases q; cases o
        · rw [List.getElem?_append_right (by simpa using c), List.getElem?_replicate] at q
          split at q <;> cases q
    exact absurd ((im i sk q o).trans (im j sk' q' o').symm) hij
theorem fn_okI {N ps : List Str} {n0 : Str} {k : Nat} {β τ : Type} [ToDs β] [ToD τ] {fM : β → Res τ} {c : Str} (F : FunD K x qual params body scope dvs kws f fd) (S : FnScope (n0 :: N) ps scope) (hl : ∀ y : β, (ToDs.ds y).length + 1 = ps.length)
    (hbody : ∀ (cdv : Value) (A : Around) (outer : List Env) (s : Shared) (H : Hp) (E : XK), Room k (A.deeper (PyProof.Rows.envOfC qual scope s.heap.objs.size f cdv)) →
      ∃ t, PSs (cxOf (L2.CX P w) P w K mg base (n0 :: N) qual scope f cdv A outer s H E) body t ∧
        ∀ (y : β) (p : Addr) (F0 H0 : Hp) (Q : VK) (KP : Res τ → Prop), Lk K (fun cls d _ H => E cls d H) F0 H0 (fun v H' => v = .ref p → Q .non H') (fun _ => True) KP → Blk K F0 H0 KP (t { nx := fun _ H' => Q .non H', rt := Q }) (some (.oi (some p) c [] []) :: enStart N (ToDs.ds y)) (fM y)) :
    FnOk P w K mg base (L2.CX P w) (k + 1) f fd ps (spI K c fM) := by
  refine F.ok S (fun vs H Q E h => ?_) (fun cdv A outer s H vs Q E hr h => ?_)
  · obtain ⟨F, y, p, dx, ws, rfl, _, _, _, r, _⟩ := h
    rw [← hl y, List.length_cons, ← r.length]
  · obtain ⟨t, h1, h2⟩ := hbody cdv A outer s H E hr
    refine ⟨t, h1, ?_⟩
    obtain ⟨F, y, p, dx, ws, rfl, e, hf, hp, r, q⟩ := h
    refine h2 y p F (hide H p) Q (fun r => KIn K F H p Q E r) ⟨fun z h v F' H' a r z => ?_, fun c F' H' σ env h _ S' => h F' H' S'.adv, fun z => z⟩ F H _ (sl_startI e hf hp r) q
    subst z
    exact h F' H' a r
end
end Mi
namespace Mi
open PySem PySem.Spec L2
open Evl (Ex)
structure T5 (α β γ δ ε : Type) where
  a : α
  b : β
  c : γ
  e : δ
  f : ε
structure T6 (α β γ δ ε ζ : Type) where
  a : α
  b : β
  c : γ
  e : δ
  f : ε
  g : ζ
structure T8 (α β γ δ ε ζ η θ : Type) where
  a : α
  b : β
  c : γ
  e : δ
  f : ε
  g : ζ
  h : η
  i : θ
instance {α β γ δ ε : Type} [ToD α] [ToD β] [ToD γ] [ToD δ] [ToD ε] : ToD (T5 α β γ δ ε) := ⟨fun x => .tup [ToD.d x.a, ToD.d x.b, ToD.d x.c, ToD.d x.e, ToD.d x.f]⟩
instance {α β γ δ ε ζ : Type} [ToD α] [ToD β] [ToD γ] [ToD δ] [ToD ε] [ToD ζ] : ToD (T6 α β γ δ ε ζ) := ⟨fun x => .tup [ToD.d x.a, ToD.d x.b, ToD.d x.c, ToD.d x.e, ToD.d x.f, ToD.d x.g]⟩
instance {α β γ δ ε ζ η θ : Type} [ToD α] [ToD β] [ToD γ] [ToD δ] [ToD ε] [ToD ζ] [ToD η] [ToD θ] : ToD (T8 α β γ δ ε ζ η θ) := ⟨fun x => .tup [ToD.d x.a, ToD.d x.b, ToD.d x.c, ToD.d x.e, ToD.d x.f, ToD.d x.g, ToD.d x.h, ToD.d x.i]⟩
def optGet {α : Type} : Option α → Res α
  | some x => .ok x
  | none => .stuck
theorem optGet_ok {α : Type} [ToD α] : ∀ (x : Option α) (y : α), optGet x = .ok y → toD y = toD x
  | some x, y, h => by cases h; rfl
  | none, y, h => by cases h
theorem optGet_x {α : Type} : ∀ (x : Option α) (c : Str), optGet x ≠ .exc c
  | some x, c, h => by cases h
  | none, c, h => by cases h
def D.asT1 : D → Res (T1 D)
  | .tup [a] => .ok ⟨a⟩
  | _ => .stuck
def D.asT2 : D → Res (T2 D D)
  | .tup [a, b] => .ok ⟨a, b⟩
  | _ => .stuck
def D.asT3 : D → Res (T3 D D D)
  | .tup [a, b, c] => .ok ⟨a, b, c⟩
  | _ => .stuck
theorem asT1_ok : ∀ (x : D) (y : T1 D), x.asT1 = .ok y → toD y = x := by
  intro x y h
  unfold D.asT1 at h
  split at h
  · cases h; rfl
  · cases h
theorem asT2_ok : ∀ (x : D) (y : T2 D D), x.asT2 = .ok y → toD y = x := by
  intro x y h
  unfold D.asT2 at h
  split at h
  · cases h; rfl
  · cases h
theorem asT3_ok : ∀ (x : D) (y : T3 D D D), x.asT3 = .ok y → toD y = x := by
  intro x y h
  unfold D.asT3 at h
  split at h
  · cases h; rfl
  · cases h
theorem asT1_x (x : D) (c : Str) : x.asT1 ≠ .exc c := by intro h; unfold D.asT1 at h; split at h <;> cases h
theorem asT2_x (x : D) (c : Str) : x.asT2 ≠ .exc c := by intro h; unfold D.asT2 at h; split at h <;> cases h
theorem asT3_x (x : D) (c : Str) : x.asT3 ≠ .exc c := by intro h; unfold D.asT3 at h; split at h <;> cases h
def D.lenR : D → Res Int
  | .tup xs => .ok (xs.length : Int)
  | .lst xs => .ok (xs.length : Int)
  | _ => .stuck
section
variable {K : PySem.W.Frag} {W : WX} {F0 H0 F H F' H' F1 : Hp} {rt : VK} {PT : En → Prop} {env env' : En} {α β γ τ : Type} [ToD α] [ToD β] [ToD γ] [ToD τ] {KP : Res τ → Prop} {te ta tb tc : TE} {tt : TT} {Z : Ends} {t u : TS} {T : L2.St → Hp → Prop} {σ : L2.St}
theorem ev_castG {m : Res α} {f : α → Res β} (hf : ∀ x y, f x = .ok y → toD y = toD x) (hx : ∀ x c, f x ≠ .exc c) (h : EvX K W env te m) : EvX K W env te (m.bind f) := fun F0 H0 F H σ Q S k => by
  refine h F0 H0 F H σ _ S ?_
  cases m with
  | ok x =>
    intro v F1 H1 a r
    have k : KE K W F H σ Q (f x) := k
    cases e : f x with
    | ok y => rw [e] at k; exact k v F1 H1 a (by rw [hf x y e]; exact r)
    | exc c => exact absurd e (hx x c)
    | stuck => rw [e] at k; exact k.elim
  | exc c => exact k
  | stuck => exact k.elim
theorem ev_lenD {m : Res D} (h : EvX K W env te m) : EvX K W env (tCB (rLenS K) (tCons te tNil)) (m.bind fun x => D.lenR x) := fun F0 H0 F H σ Q S k => by
  refine h F0 H0 F H σ _ S (KE.cut S.ex k fun x v F1 H1 e1 a1 r1 k1 => ?_)
  have k1 : KE K W F1 H1 σ Q (D.lenR x) := k1
  cases x with
  | tup xs =>
    obtain ⟨a, vs, rfl, h2, h3⟩ := r1
    refine ⟨a, vs, rfl, .inr (Evl.ex_t a1.in_ h2), ?_⟩
    have := k1 (.int xs.length) F1 H1 (Adv.refl a1.in_) rfl
    rw [← h3.length]; exact this
  | lst xs =>
    obtain ⟨a, vs, rfl, h2, h3⟩ := r1
    refine ⟨a, vs, rfl, .inl (Evl.ex_l a1.in_ h2), ?_⟩
    have := k1 (.int xs.length) F1 H1 (Adv.refl a1.in_) rfl
    rw [← h3.length]; exact this
  | _ => exact k1.elim
theorem cx_lenTu : CrX K (rLenS K) (fun (p : Tu α × Unit) => .ok (p.1.xs.length : Int)) := fun F H x vs Q e r k => by
  obtain ⟨v, rs, rfl, r1, r2⟩ := r
  cases (show rs = [] from r2)
  obtain ⟨a, ws, rfl, h2, h3⟩ := r1
  refine ⟨a, ws, rfl, .inr (Evl.ex_t e h2), ?_⟩
  have := k (.int x.1.xs.length) F H (Adv.refl e) rfl
  rw [← h3.length, List.length_map]; exact this
end
end Mi
set_option maxHeartbeats 1000000
namespace Mi
open PySem PySem.Spec L2
open Evl (Ex)
def CPowX (i j : Int) : Prop := 0 ≤ j ∧ (Builtin.Int.intBits i : Int) * j ≤ 2 ^ 27
theorem op_powX {X : Cx} : OpR X (binaryOp .Pow) (rI CPowX fun i j => .int (i ^ j.toNat)) := opI fun _ _ _ _ _ _ _ hc q => PyProof.Rows.pow_int hc.1 hc.2 q
end Mi
namespace Mi
open PySem PySem.Spec L2
/-- a promise of nothing -/
theorem fnok_stuck {P : Program} {w : World} {K : PySem.W.Frag} {mg : Str → Option Value} {base : Heap} {k : Nat} {f : Addr} {fd : FuncData} {ps : List Str} {β τ : Type} [ToDs β] [ToD τ] (fM : β → Res τ) (h : ∀ y, fM y = .stuck) : FnOk P w K mg base (L2.CX P w) k f fd ps (spM K fM) := by
  have no : ∀ vs H Q E, ¬ spM K fM vs H Q E := by
    rintro vs H Q E ⟨F, x, _, _, q⟩
    rw [h x] at q
    exact q
  exact ⟨fun vs H Q E q => absurd q (no _ _ _ _), fun A outer s H args us vs Q E _ _ _ _ q => absurd q (no _ _ _ _)⟩
end Mi
set_option maxHeartbeats 1000000
namespace Mi
open PySem PySem.Spec L2
/-! ### what follows, in plain mathematics -/
theorem need_bind {α β : Type} {p : Prop} (m : Res α) (f : α → Res β) : (Res.need p m).bind f = Res.need p (m.bind f) := by
  by_cases h : p
  · rw [Res.need_pos h, Res.need_pos h]
  · rw [Res.need_neg h, Res.need_neg h]; rfl
theorem cond_dec {α : Type} {p : Prop} [Decidable p] (a b : α) : cond (decide p) a b = if p then a else b := by
  by_cases h : p <;> simp [h]
theorem cond_not {α : Type} {p : Bool} (a b : α) : cond (!p) a b = cond p b a := by cases p <;> rfl
theorem ibits_le {i : Int} {n : Nat} (h : Builtin.Int.intBits i ≤ n) : i.natAbs < 2 ^ n := by
  unfold Builtin.Int.intBits at h
  split at h
  · rename_i h0
    have : i = 0 := by simpa using h0
    subst this
    exact Nat.two_pow_pos n
  · rename_i h0
    have hne : i.natAbs ≠ 0 := by
      intro z
      apply h0
      have : i = 0 := Int.natAbs_eq_zero.mp z
      simp [this]
    have h1 : i.natAbs.log2 < n := by omega
    exact (Nat.log2_lt hne).mp h1
theorem le_ibits {i : Int} {n : Nat} (h : i.natAbs < 2 ^ n) : Builtin.Int.intBits i ≤ n := by
  unfold Builtin.Int.intBits
  split
  · exact Nat.zero_le _
  · rename_i h0
    have hne : i.natAbs ≠ 0 := by
      intro z
      apply h0
      have : i = 0 := Int.natAbs_eq_zero.mp z
      simp [this]
    have := (Nat.log2_lt hne).mpr h
    omega
theorem cmulx {i j : Int} {a b : Nat} (ha : i.natAbs < 2 ^ a) (hb : j.natAbs < 2 ^ b) (h : a + b ≤ 134217728) : CMulX i j := mulx_ok ha hb h
theorem need_mulx {α : Type} {i j : Int} {m : Res α} {a b : Nat} (ha : i.natAbs < 2 ^ a) (hb : j.natAbs < 2 ^ b) (h : a + b ≤ 134217728) : Res.need (CMulX i j) m = m := Res.need_pos (cmulx ha hb h)
theorem pow_add_lt {x y a b : Nat} (ha : x < 2 ^ a) (hb : y < 2 ^ b) : x * y < 2 ^ (a + b) := by
  rw [Nat.pow_add]; exact Nat.mul_lt_mul'' ha hb
theorem idx_nat {α : Type} {xs : List α} {j : Nat} {v : α} (h : xs[j]? = some v) : idx xs (j : Int) = .ok v := by
  unfold idx; rw [atI_nat h]
theorem idx_int {α : Type} {xs : List α} {i : Int} {v : α} (h0 : 0 ≤ i) (h : xs[i.toNat]? = some v) : idx xs i = .ok v := by
  have : i = (i.toNat : Int) := by omega
  rw [this]; exact idx_nat h
theorem idx_last {α : Type} (xs : List α) (v : α) : idx (xs ++ [v]) (-1) = .ok v := by
  unfold idx; rw [atI_last]
theorem pow31 : ((2 : Int) ^ (31 : Int).toNat) = 2147483648 := by decide +kernel
theorem pow18 : ((10 : Int) ^ (18 : Int).toNat) = 1000000000000000000 := by decide +kernel
theorem m31_lt : (2147483648 : Int).natAbs < 2 ^ 32 := by decide +kernel
theorem compL_none {α β : Type} {t : α → Res Bool} {e : α → Res β} {xs : List α} (h : ∀ x ∈ xs, t x = .ok false) : compL t e xs = .ok [] := by
  induction xs with
  | nil => rfl
  | cons x r ih =>
    show (t x).bind _ = _
    rw [h x List.mem_cons_self]
    exact ih fun y hy => h y (List.mem_cons_of_mem _ hy)
theorem compL_map {α β : Type} {t : α → Res Bool} {e : α → Res β} {g : α → β} {xs : List α} (ht : ∀ x ∈ xs, t x = .ok true) (he : ∀ x ∈ xs, e x = .ok (g x)) : compL t e xs = .ok (xs.map g) := by
  induction xs with
  | nil => rfl
  | cons x r ih =>
    show (t x).bind _ = _
    rw [ht x List.mem_cons_self]
    show (e x).bind _ = _
    rw [he x List.mem_cons_self]
    show (compL t e r).bind _ = _
    rw [ih (fun y hy => ht y (List.mem_cons_of_mem _ hy)) fun y hy => he y (List.mem_cons_of_mem _ hy)]
    rfl
theorem bit1 (x : Int) : Builtin.bitAnd x 1 = x % 2 := by
  have := PySem.W.kbt_mask x 1
  simpa using this
theorem bind_ite {α β : Type} {p : Prop} [Decidable p] (a b : Res α) (f : α → Res β) : (if p then a else b).bind f = if p then a.bind f else b.bind f := by split <;> rfl
theorem idx_getLast {α : Type} {xs : List α} {v : α} (h : xs.getLast? = some v) : idx xs (-1) = .ok v := by
  obtain ⟨ys, rfl⟩ := List.getLast?_eq_some_iff.mp h
  exact idx_last ys v
/-! == of data -/
theorem pyEq_int (i j : Int) : pyEq (.int i) (.int j) = (i == j) := by simp [pyEq, D.py, PyData.eqv]
mutual
/-- no truth values within -/
def D.nob : D → Bool
  | .bl _ => false
  | .ty _ => false
  | .obj _ _ _ => false
  | .tup xs => nobL xs
  | .lst xs => nobL xs
  | _ => true
def nobL : List D → Bool
  | [] => true
  | x :: xs => D.nob x && nobL xs
end
mutual
theorem pyEq_iff : ∀ (x y : D), x.nob = true → y.nob = true → (PyData.eqv x.py y.py = true ↔ x = y)
  | .non, y, _, h => by cases y <;> simp_all [D.py, PyData.eqv, D.nob]
  | .int i, y, _, h => by cases y <;> simp_all [D.py, PyData.eqv, D.nob]
  | .str s, y, _, h => by cases y <;> simp_all [D.py, PyData.eqv, D.nob]
  | .bl b, y, h, _ => by cases h
  | .ty b, y, h, _ => by cases h
  | .obj a b c, y, h, _ => by cases h
  | .tup xs, y, h1, h => by
    cases y with
    | tup ys =>
      have := pyEqL_iff xs ys h1 h
      simp only [D.py, PyData.eqv, D.tup.injEq]; exact this
    | bl b => cases h
    | ty b => cases h
    | obj a b c => cases h
    | _ => simp [D.py, PyData.eqv]
  | .lst xs, y, h1, h => by
    cases y with
    | lst ys =>
      have := pyEqL_iff xs ys h1 h
      simp only [D.py, PyData.eqv, D.lst.injEq]; exact this
    | bl b => cases h
    | ty b => cases h
    | obj a b c => cases h
    | _ => simp [D.py, PyData.eqv]
theorem pyEqL_iff : ∀ (xs ys : List D), nobL xs = true → nobL ys = true → (PyData.eqvAll (pyL xs) (pyL ys) = true ↔ xs = ys)
  | [], ys, _, h => by cases ys <;> simp [pyL, PyData.eqvAll]
  | x :: xs, ys, h1, h => by
    cases ys with
    | nil => simp [pyL, PyData.eqvAll]
    | cons y ys =>
      obtain ⟨a1, a2⟩ := Bool.and_eq_true_iff.mp (show (D.nob x && nobL xs) = true from h1)
      obtain ⟨b1, b2⟩ := Bool.and_eq_true_iff.mp (show (D.nob y && nobL ys) = true from h)
      simp only [pyL, PyData.eqvAll, Bool.and_eq_true, pyEq_iff x y a1 b1, pyEqL_iff xs ys a2 b2, List.cons.injEq]
end
theorem pyEq_dec {x y : D} (hx : x.nob = true) (hy : y.nob = true) : pyEq x y = true ↔ x = y := pyEq_iff x y hx hy
theorem pyEq_self {x : D} (hx : x.nob = true) : pyEq x x = true := (pyEq_dec hx hx).mpr rfl
theorem pyEq_ne {x y : D} (hx : x.nob = true) (hy : y.nob = true) (h : x ≠ y) : pyEq x y = false := by
  cases e : pyEq x y with
  | false => rfl
  | true => exact absurd ((pyEq_dec hx hy).mp e) h
theorem nob_ints : ∀ xs : List Int, nobL (xs.map D.int) = true
  | [] => rfl
  | _ :: xs => nob_ints xs
theorem nob_strs : ∀ xs : List Str, nobL (xs.map D.str) = true
  | [] => rfl
  | _ :: xs => nob_strs xs
theorem flat_ints : ∀ xs : List Int, flatL (xs.map D.int) = true
  | [] => rfl
  | _ :: xs => flat_ints xs
theorem lay_ints : ∀ xs : List Int, PyData.canLayAll0 (pyL (xs.map D.int)) = true
  | [] => rfl
  | _ :: xs => by show (true && _) = true; rw [lay_ints xs]; rfl
theorem dep_ints : ∀ xs : List Int, PyData.depthAll (pyL (xs.map D.int)) = 0
  | [] => rfl
  | _ :: xs => by show max 0 _ = 0; rw [dep_ints xs]; rfl
theorem okq_ints (xs : List Int) : (toD xs).okq = true := by
  show (flatL (xs.map D.int) && (PyData.canLayAll0 (pyL (xs.map D.int)) && decide (PyData.depthAll (pyL (xs.map D.int)) + 1 ≤ 64))) = true
  rw [flat_ints, lay_ints, dep_ints]; rfl
theorem toD_ints_inj {xs ys : List Int} (h : toD xs = toD ys) : xs = ys := by
  have h : xs.map D.int = ys.map D.int := D.lst.inj h
  exact List.map_inj_right (fun a b q => D.int.inj q) |>.mp h
theorem pyEq_ints (xs ys : List Int) : pyEq (toD xs) (toD ys) = decide (xs = ys) := by
  by_cases h : xs = ys
  · subst h; rw [pyEq_self (show (toD xs).nob = true from nob_ints xs)]; simp
  · rw [pyEq_ne (show (toD xs).nob = true from nob_ints xs) (show (toD ys).nob = true from nob_ints ys) fun e => h (toD_ints_inj e)]; simp [h]
theorem lmin_mem {es : List Int} (h : 0 < es.length) : lmin es ∈ es := by
  cases es with
  | nil => simp at h
  | cons x r =>
    rcases foldl_min_mem r x with q | q
    · show r.foldl min x ∈ x :: r
      rw [q]; exact List.mem_cons_self
    · exact List.mem_cons_of_mem _ q
theorem lmax_mem {es : List Int} (h : 0 < es.length) : lmax es ∈ es := by
  cases es with
  | nil => simp at h
  | cons x r =>
    rcases foldl_max_mem r x with q | q
    · show r.foldl max x ∈ x :: r
      rw [q]; exact List.mem_cons_self
    · exact List.mem_cons_of_mem _ q
theorem pyRange_drop {n i : Nat} (h : i < n) : (pyRange 0 (n : Int)).drop i = (i : Int) :: (pyRange 0 (n : Int)).drop (i + 1) := by
  have hl : (pyRange 0 (n : Int)).length = n := by rw [pyRange_len]; omega
  rw [List.drop_eq_getElem_cons (by omega)]
  congr 1
  have := pyRange_get (lo := 0) (hi := (n : Int)) (i := i) (by omega)
  rw [List.getElem?_eq_getElem (by omega)] at this
  have := Option.some.inj this
  omega
theorem pyRange_nonneg {k n : Int} (h : k ∈ pyRange 0 n) : 0 ≤ k := by
  obtain ⟨i, _, rfl⟩ := List.mem_map.mp h
  omega
theorem toD_D (x : D) : toD x = x := rfl
theorem okq_int (i : Int) : (toD (D.int i)).okq = true := rfl
theorem compL_get {α β : Type} (f : α → Res β) {xs : List α} {ys : List β} (h : xs.length = ys.length) (he : ∀ i (h1 : i < xs.length) (h2 : i < ys.length), f xs[i] = .ok ys[i]) : compL (fun _ => .ok true) f xs = .ok ys := by
  induction xs generalizing ys with
  | nil => cases ys with
    | nil => rfl
    | cons y r => simp at h
  | cons x xs ih =>
    cases ys with
    | nil => simp at h
    | cons y ys =>
      show (f x).bind _ = _
      rw [show f x = .ok y from he 0 (by simp) (by simp)]
      show (compL (fun _ => .ok true) f xs).bind _ = _
      rw [ih (by simpa using h) fun i h1 h2 => he (i + 1) (by simp; omega) (by simp; omega)]
      rfl
end Mi
set_option maxHeartbeats 1000000
namespace Mi
/-! ### primes -/
def IsP (n : Nat) : Prop := 2 ≤ n ∧ ∀ d, d ∣ n → d = 1 ∨ d = n
theorem IsP.cop {p a : Nat} (h : IsP p) (ha : ¬ p ∣ a) : Nat.Coprime p a := by
  rcases h.2 _ (Nat.gcd_dvd_left p a) with e | e
  · exact e
  · exact absurd (e ▸ Nat.gcd_dvd_right p a) ha
theorem IsP.dvd_mul {p a b : Nat} (h : IsP p) (hd : p ∣ a * b) : p ∣ a ∨ p ∣ b := by
  by_cases ha : p ∣ a
  · exact .inl ha
  · exact .inr ((h.cop ha).dvd_of_dvd_mul_left hd)
theorem IsP.dvd_pow {p a : Nat} (h : IsP p) : ∀ k, p ∣ a ^ k → p ∣ a
  | 0, hd => by
    rw [Nat.pow_zero] at hd
    have := Nat.le_of_dvd (by decide) hd
    have := h.1
    omega
  | k + 1, hd => by
    rw [Nat.pow_succ] at hd
    rcases h.dvd_mul hd with q | q
    · exact h.dvd_pow k q
    · exact q
def prodL (l : List Nat) : Nat := l.foldr (· * ·) 1
theorem prodL_perm {l m : List Nat} (h : l.Perm m) : prodL l = prodL m := by
  induction h with
  | nil => rfl
  | cons x _ ih => simp only [prodL, List.foldr_cons] at *; rw [ih]
  | swap x y l => simp only [prodL, List.foldr_cons]; rw [Nat.mul_left_comm]
  | trans _ _ h1 h2 => exact h1.trans h2
theorem perm_of_sub : ∀ (l L : List Nat), l.Nodup → (∀ x ∈ l, x ∈ L) → L.length ≤ l.length → l.Perm L := by
  intro l
  induction l with
  | nil =>
    intro L _ _ h
    have : L = [] := List.eq_nil_of_length_eq_zero (by simpa using h)
    subst this; exact List.Perm.nil
  | cons x r ih =>
    intro L hn hs hl
    obtain ⟨n1, n2⟩ := List.nodup_cons.mp hn
    have hx := hs x List.mem_cons_self
    have e := List.length_erase_of_mem hx
    have hp := List.length_pos_of_mem hx
    have q := ih (L.erase x) n2 (fun y hy => (List.mem_erase_of_ne (by intro z; subst z; exact n1 hy)).mpr (hs y (List.mem_cons_of_mem _ hy))) (by rw [e]; simp at hl; omega)
    exact (q.cons x).trans (List.perm_cons_erase hx).symm
theorem prod_mod (a p : Nat) : ∀ l : List Nat, prodL (l.map fun x => a * x % p) % p = a ^ l.length * prodL l % p := by
  intro l
  induction l with
  | nil => simp [prodL]
  | cons x r ih =>
    show (a * x % p) * prodL (r.map fun x => a * x % p) % p = a ^ (r.length + 1) * (x * prodL r) % p
    rw [Nat.mul_mod, ih, Nat.mod_mod, ← Nat.mul_mod]
    congr 1
    rw [Nat.pow_succ]
    ac_rfl
theorem prod_cop {p : Nat} (h : IsP p) : ∀ l : List Nat, (∀ x ∈ l, 0 < x ∧ x < p) → ¬ p ∣ prodL l := by
  intro l
  induction l with
  | nil =>
    intro _ hd
    have := Nat.le_of_dvd (by decide) hd
    have := h.1
    simp [prodL] at *; omega
  | cons x r ih =>
    intro hx hd
    rcases h.dvd_mul hd with q | q
    · have := hx x List.mem_cons_self
      have := Nat.le_of_dvd this.1 q
      omega
    · exact ih (fun y hy => hx y (List.mem_cons_of_mem _ hy)) q
theorem dvd_sub_of_mod {x y p : Nat} (h : y ≤ x) (e : x % p = y % p) : p ∣ x - y := Nat.dvd_of_mod_eq_zero (Nat.sub_mod_eq_zero_of_mod_eq e)
theorem inj_mod {p a x y : Nat} (h : IsP p) (ha : ¬ p ∣ a) (hx : x < p) (hy : y < p) (e : a * x % p = a * y % p) : x = y := by
  rcases Nat.le_total y x with q | q
  · have d := dvd_sub_of_mod (Nat.mul_le_mul_left a q) e
    rw [← Nat.mul_sub] at d
    rcases h.dvd_mul d with d | d
    · exact absurd d ha
    · have := Nat.eq_zero_of_dvd_of_lt d (by omega); omega
  · have d := dvd_sub_of_mod (Nat.mul_le_mul_left a q) e.symm
    rw [← Nat.mul_sub] at d
    rcases h.dvd_mul d with d | d
    · exact absurd d ha
    · have := Nat.eq_zero_of_dvd_of_lt d (by omega); omega
/-- Fermat -/
theorem fermat {p a : Nat} (h : IsP p) (ha : ¬ p ∣ a) : a ^ (p - 1) % p = 1 := by
  have h2 := h.1
  have hL : ∀ x ∈ List.range' 1 (p - 1), 0 < x ∧ x < p := fun x hx => by
    have := List.mem_range'_1.mp hx; omega
  have nd : (List.range' 1 (p - 1)).Nodup := List.nodup_range'
  have pm : ((List.range' 1 (p - 1)).map fun x => a * x % p).Perm (List.range' 1 (p - 1)) := by
    refine perm_of_sub _ _ ?_ ?_ (by simp)
    · refine List.pairwise_map.mpr (List.Pairwise.imp_of_mem (fun {x y} hx hy q e => q (inj_mod h ha (hL x hx).2 (hL y hy).2 e)) nd)
    · intro y hy
      obtain ⟨x, hx, rfl⟩ := List.mem_map.mp hy
      have q := hL x hx
      have lt := Nat.mod_lt (a * x) (show 0 < p by omega)
      refine List.mem_range'_1.mpr ⟨Nat.pos_of_ne_zero fun z => ?_, by omega⟩
      rcases h.dvd_mul (Nat.dvd_of_mod_eq_zero z) with d | d
      · exact ha d
      · have := Nat.le_of_dvd q.1 d; omega
  have e := prod_mod a p (List.range' 1 (p - 1))
  rw [prodL_perm pm, List.length_range'] at e
  have nc := prod_cop h _ hL
  generalize prodL (List.range' 1 (p - 1)) = P at *
  have hpos : 0 < a := Nat.pos_of_ne_zero fun z => ha (z ▸ Nat.dvd_zero p)
  have h1 : 1 ≤ a ^ (p - 1) := Nat.pow_pos hpos
  have d := dvd_sub_of_mod (x := a ^ (p - 1) * P) (y := P) (by
    have := Nat.mul_le_mul_right P h1; omega) e.symm
  have e3 : a ^ (p - 1) * P - P = (a ^ (p - 1) - 1) * P := by rw [Nat.sub_mul, Nat.one_mul]
  rw [e3] at d
  rcases h.dvd_mul d with d | d
  · obtain ⟨k, hk⟩ := d
    have : a ^ (p - 1) = 1 + p * k := by omega
    rw [this, Nat.add_mul_mod_self_left, Nat.mod_eq_of_lt (by omega)]
  · exact absurd d nc
theorem pow_mod_one {b m : Nat} (hm : 1 < m) {i : Nat} (h : b ^ i % m = 1) (k : Nat) : b ^ (i * k) % m = 1 := by
  rw [Nat.pow_mul, Nat.pow_mod, h, Nat.one_pow, Nat.mod_eq_of_lt hm]
theorem pow_gcd {b m : Nat} (hm : 1 < m) (i j : Nat) : b ^ i % m = 1 → b ^ j % m = 1 → b ^ Nat.gcd i j % m = 1 := by
  induction i, j using Nat.gcd.induction with
  | H0 n => intro _ h; rwa [Nat.gcd_zero_left]
  | H1 i j hi ih =>
    intro h1 h2
    rw [Nat.gcd_rec]
    refine ih ?_ h1
    have e := Nat.div_add_mod j i
    rw [← e, Nat.pow_add, Nat.mul_mod, pow_mod_one hm h1, Nat.one_mul, Nat.mod_mod] at h2
    exact h2
/-- every prime factor of n is 1 above a multiple of q -/
theorem pock {n a q : Nat} (hq : IsP q) (hd : q ∣ n - 1) (h1 : a ^ (n - 1) % n = 1) (hg : Nat.gcd (a ^ ((n - 1) / q) % n - 1) n = 1) (h0 : 0 < a ^ ((n - 1) / q) % n) {p : Nat} (hp : IsP p) (hpn : p ∣ n) : q ∣ p - 1 := by
  have p2 := hp.1
  have hb : (a ^ ((n - 1) / q)) ^ q % p = 1 := by
    rw [← Nat.pow_mul, Nat.div_mul_cancel hd, ← Nat.mod_mod_of_dvd _ hpn, h1, Nat.mod_eq_of_lt (by omega)]
  have hnd : ¬ p ∣ a ^ ((n - 1) / q) := fun d => by
    have : p ∣ (a ^ ((n - 1) / q)) ^ q := by
      have hq0 : q = (q - 1) + 1 := by have := hq.1; omega
      generalize a ^ ((n - 1) / q) = b at *
      rw [hq0, Nat.pow_succ]
      exact Nat.dvd_trans d (Nat.dvd_mul_left ..)
    rw [Nat.mod_eq_zero_of_dvd this] at hb; cases hb
  have f := fermat hp hnd
  have g := pow_gcd (by omega) q (p - 1) hb f
  rcases hq.2 _ (Nat.gcd_dvd_left q (p - 1)) with e | e
  · rw [e, Nat.pow_one] at g
    have d : p ∣ a ^ ((n - 1) / q) % n - 1 := by
      refine dvd_sub_of_mod (by omega) ?_
      rw [Nat.mod_mod_of_dvd _ hpn, g, Nat.mod_eq_of_lt (by omega)]
    have := Nat.dvd_gcd d hpn
    rw [hg] at this
    have := Nat.le_of_dvd (by decide) this
    omega
  · exact e ▸ Nat.gcd_dvd_right q (p - 1)
theorem has_prime : ∀ (n : Nat), 2 ≤ n → ∃ p, IsP p ∧ p ∣ n := by
  intro n
  induction n using Nat.strongRecOn with
  | ind n ih =>
    intro h
    by_cases hp : IsP n
    · exact ⟨n, hp, Nat.dvd_refl n⟩
    · have : ∃ d, d ∣ n ∧ d ≠ 1 ∧ d ≠ n := by
        refine Classical.byContradiction fun c => hp ⟨h, fun d hd => ?_⟩
        refine Classical.byContradiction fun e => c ⟨d, hd, fun z => e (.inl z), fun z => e (.inr z)⟩
      obtain ⟨d, hd, h1, h2⟩ := this
      have hle := Nat.le_of_dvd (by omega) hd
      have h0 : d ≠ 0 := fun z => by subst z; have := Nat.eq_zero_of_zero_dvd hd; omega
      obtain ⟨p, p1, p2⟩ := ih d (by omega) (by omega)
      exact ⟨p, p1, Nat.dvd_trans p2 hd⟩
/-- no prime factor up to the root: a prime -/
theorem isP_of {n : Nat} (h2 : 2 ≤ n) (h : ∀ p, IsP p → p ∣ n → n < p * p) : IsP n := by
  refine ⟨h2, fun d hd => Classical.byContradiction fun c => ?_⟩
  have hle := Nat.le_of_dvd (by omega) hd
  have h0 : d ≠ 0 := fun z => by subst z; have := Nat.eq_zero_of_zero_dvd hd; omega
  have h1 : d ≠ 1 := fun z => c (.inl z)
  have h3 : d ≠ n := fun z => c (.inr z)
  obtain ⟨e, rfl⟩ := hd
  have e2 : 2 ≤ e := by
    rcases (by omega : e = 0 ∨ e = 1 ∨ 2 ≤ e) with rfl | rfl | q
    · omega
    · omega
    · exact q
  obtain ⟨p, p1, p2⟩ := has_prime d (by omega)
  obtain ⟨q, q1, q2⟩ := has_prime e e2
  have a1 := h p p1 (Nat.dvd_trans p2 (Nat.dvd_mul_right d e))
  have a2 := h q q1 (Nat.dvd_trans q2 (Nat.dvd_mul_left e d))
  have b1 := Nat.le_of_dvd (by omega) p2
  have b2 := Nat.le_of_dvd (by omega) q2
  have b3 := Nat.mul_le_mul b1 b2
  rcases Nat.le_total p q with z | z
  · have := Nat.mul_le_mul_left p z; omega
  · have := Nat.mul_le_mul_right q z; omega
/-- the power's residue, as the kernel works it out -/
def pwm (n : Nat) : Nat → Nat → Nat → Nat → Nat
  | 0, _, _, acc => acc
  | f + 1, b, e, acc => pwm n f (b * b % n) (e / 2) (if e % 2 = 1 then acc * b % n else acc)
theorem pwm_eq (n : Nat) : ∀ (f b e acc : Nat), e < 2 ^ f → pwm n f b e acc % n = acc * b ^ e % n := by
  intro f
  induction f with
  | zero => intro b e acc h; have : e = 0 := by simpa using h
            subst this; simp [pwm]
  | succ f ih =>
    intro b e acc h
    rw [pwm, ih _ _ _ (by rw [Nat.pow_succ] at h; omega)]
    have e2 : b ^ e = (b * b) ^ (e / 2) * b ^ (e % 2) := by
      rw [← Nat.pow_two, ← Nat.pow_mul, ← Nat.pow_add, Nat.div_add_mod]
    rw [e2, Nat.mul_mod, ← Nat.pow_mod, ← Nat.mul_mod]
    rcases (by omega : e % 2 = 0 ∨ e % 2 = 1) with z | z
    · rw [z, if_neg (by decide), Nat.pow_zero, Nat.mul_one]
    · rw [z, if_pos rfl, Nat.pow_one, Nat.mul_mod, Nat.mod_mod, ← Nat.mul_mod]
      congr 1; ac_rfl
theorem pwm_one {n f b e : Nat} (h : e < 2 ^ f) : pwm n f b e 1 % n = b ^ e % n := by rw [pwm_eq n f b e 1 h, Nat.one_mul]
/-- one prime q of n - 1, by numbers -/
def pkOk (n a q f : Nat) : Bool := decide (q ∣ n - 1) && decide (n - 1 < 2 ^ f) && decide (pwm n f a (n - 1) 1 % n = 1) && decide (Nat.gcd (pwm n f a ((n - 1) / q) 1 % n - 1) n = 1) && decide (0 < pwm n f a ((n - 1) / q) 1 % n)
theorem pk_of {n a q f : Nat} (hq : IsP q) (h : pkOk n a q f = true) {p : Nat} (hp : IsP p) (hpn : p ∣ n) : q ∣ p - 1 := by
  simp only [pkOk, Bool.and_eq_true, decide_eq_true_eq] at h
  obtain ⟨⟨⟨⟨h1, h2⟩, h3⟩, h4⟩, h5⟩ := h
  have h6 : (n - 1) / q < 2 ^ f := Nat.lt_of_le_of_lt (Nat.div_le_self ..) h2
  rw [pwm_one h2] at h3
  rw [pwm_one h6] at h4 h5
  exact pock hq h1 h3 h4 h5 hp hpn
theorem small_prime {n : Nat} (h2 : 2 ≤ n) (h : ∀ d, 2 ≤ d → d * d ≤ n → ¬ d ∣ n) : IsP n :=
  isP_of h2 fun p hp hd => Nat.lt_of_not_le fun z => h p hp.1 z hd
def noDiv (n : Nat) : Nat → Nat → Bool
  | 0, _ => true
  | f + 1, d => !decide (n % d = 0) && noDiv n f (d + 1)
theorem noDiv_ok (n : Nat) : ∀ (f d : Nat), noDiv n f d = true → ∀ k, d ≤ k → k < d + f → ¬ k ∣ n
  | 0, d, _, k, h1, h2 => by omega
  | f + 1, d, h, k, h1, h2 => by
    rw [noDiv, Bool.and_eq_true] at h
    obtain ⟨a, b⟩ := h
    by_cases e : k = d
    · subst e
      intro z
      rw [Nat.mod_eq_zero_of_dvd z] at a
      simp at a
    · exact noDiv_ok n f (d + 1) b k (by omega) (by omega)
theorem prime_by {n f : Nat} (h2 : 2 ≤ n) (hf : n < (f + 2) * (f + 2)) (h : noDiv n f 2 = true) : IsP n :=
  small_prime h2 fun d h3 h4 h5 => noDiv_ok n f 2 h d h3 (Nat.lt_of_not_le fun z => by
    have := Nat.mul_le_mul z z
    rw [Nat.add_comm] at hf
    omega) h5
theorem IsP.eq_of_dvd {p q : Nat} (hp : IsP p) (hq : IsP q) (h : p ∣ q) : p = q := by
  rcases hq.2 p h with e | e
  · have := hp.1; omega
  · exact e
theorem IsP.dvd_prod {p : Nat} (h : IsP p) : ∀ l : List Nat, (∀ x ∈ l, IsP x) → p ∣ prodL l → p ∈ l := by
  intro l
  induction l with
  | nil =>
    intro _ hd
    have hd : p ∣ 1 := hd
    have := Nat.le_of_dvd (by decide) hd
    have := h.1
    omega
  | cons x r ih =>
    intro hx hd
    rcases h.dvd_mul hd with q | q
    · rw [h.eq_of_dvd (hx x List.mem_cons_self) q]; exact List.mem_cons_self
    · exact List.mem_cons_of_mem _ (ih (fun y hy => hx y (List.mem_cons_of_mem _ hy)) q)
theorem prod_dvd : ∀ (l : List Nat) (m : Nat), l.Nodup → (∀ x ∈ l, IsP x) → (∀ x ∈ l, x ∣ m) → prodL l ∣ m := by
  intro l
  induction l with
  | nil => intro m _ _ _; exact Nat.one_dvd m
  | cons x r ih =>
    intro m hn hp hd
    obtain ⟨n1, n2⟩ := List.nodup_cons.mp hn
    have hx := hp x List.mem_cons_self
    have hr := fun y hy => hp y (List.mem_cons_of_mem x hy)
    have c := hx.cop (fun z => n1 (hx.dvd_prod r hr z))
    exact Nat.Coprime.mul_dvd_of_dvd_of_dvd c (hd x List.mem_cons_self) (ih m n2 hr fun y hy => hd y (List.mem_cons_of_mem _ hy))
theorem isP_pock {n f : Nat} (h2 : 2 ≤ n) (qs : List (Nat × Nat)) (hp : ∀ x ∈ qs, IsP x.1) (hk : (qs.all fun x => pkOk n x.2 x.1 f) = true) (hd : (qs.map (·.1)).Nodup) (hF : n < (prodL (qs.map (·.1)) + 1) * (prodL (qs.map (·.1)) + 1)) : IsP n := by
  refine isP_of h2 fun p p1 p2 => ?_
  have d := prod_dvd (qs.map (·.1)) (p - 1) hd (fun x hx => by
    obtain ⟨y, hy, rfl⟩ := List.mem_map.mp hx
    exact hp y hy) (fun x hx => by
    obtain ⟨y, hy, rfl⟩ := List.mem_map.mp hx
    exact pk_of (hp y hy) (List.all_eq_true.mp hk y hy) p1 p2)
  have := p1.1
  have le := Nat.le_of_dvd (by omega) d
  have := Nat.mul_le_mul (show prodL (qs.map (·.1)) + 1 ≤ p by omega) (show prodL (qs.map (·.1)) + 1 ≤ p by omega)
  omega
theorem p61 : IsP 1321 ∧ IsP 331 ∧ IsP 151 ∧ IsP 61 := ⟨prime_by (f := 40) (by decide) (by decide) (by decide +kernel), prime_by (f := 40) (by decide) (by decide) (by decide +kernel), prime_by (f := 40) (by decide) (by decide) (by decide +kernel), prime_by (f := 40) (by decide) (by decide) (by decide +kernel)⟩
theorem prime_m61 : IsP 2305843009213693951 := isP_pock (f := 61) (by decide) [(1321, 3), (331, 3), (151, 3), (61, 2)] (by simp only [List.forall_mem_cons]; exact ⟨p61.1, p61.2.1, p61.2.2.1, p61.2.2.2, by simp⟩) (by decide +kernel) (by decide +kernel) (by decide +kernel)
theorem prime_m31 : IsP 2147483647 := isP_pock (f := 31) (by decide) [(331, 3), (151, 3)] (by simp only [List.forall_mem_cons]; exact ⟨p61.2.1, p61.2.2.1, by simp⟩) (by decide +kernel) (by decide +kernel) (by decide +kernel)
theorem pr_8574133 : IsP 8574133 := prime_by (f := 2928) (by decide) (by decide) (by decide +kernel)
theorem pr_127 : IsP 127 := prime_by (f := 11) (by decide) (by decide) (by decide +kernel)
theorem pr_1919519569386763 : IsP 1919519569386763 := isP_pock (f := 51) (by decide) [(8574133, 2), (127, 2)] (by simp only [List.forall_mem_cons]; exact ⟨pr_8574133, pr_127, by simp⟩) (by decide +kernel) (by decide +kernel) (by decide +kernel)
theorem pr_569003 : IsP 569003 := prime_by (f := 754) (by decide) (by decide) (by decide +kernel)
theorem pr_2773320623 : IsP 2773320623 := isP_pock (f := 32) (by decide) [(569003, 2)] (by simp only [List.forall_mem_cons]; exact ⟨pr_569003, by simp⟩) (by decide +kernel) (by decide +kernel) (by decide +kernel)
theorem pr_72106336199 : IsP 72106336199 := isP_pock (f := 37) (by decide) [(2773320623, 2)] (by simp only [List.forall_mem_cons]; exact ⟨pr_2773320623, by simp⟩) (by decide +kernel) (by decide +kernel) (by decide +kernel)
theorem pr_75445702479781427272750846543864801 : IsP 75445702479781427272750846543864801 := isP_pock (f := 116) (by decide) [(1919519569386763, 2), (72106336199, 2)] (by simp only [List.forall_mem_cons]; exact ⟨pr_1919519569386763, pr_72106336199, by simp⟩) (by decide +kernel) (by decide +kernel) (by decide +kernel)
theorem pr_430751 : IsP 430751 := prime_by (f := 656) (by decide) (by decide) (by decide +kernel)
theorem pr_4153 : IsP 4153 := prime_by (f := 64) (by decide) (by decide) (by decide +kernel)
theorem pr_31757755568855353 : IsP 31757755568855353 := isP_pock (f := 55) (by decide) [(430751, 2), (4153, 2)] (by simp only [List.forall_mem_cons]; exact ⟨pr_430751, pr_4153, by simp⟩) (by decide +kernel) (by decide +kernel) (by decide +kernel)
theorem pr_74058212732561358302231226437062788676166966415465897661863160754340907 : IsP 74058212732561358302231226437062788676166966415465897661863160754340907 := isP_pock (f := 236) (by decide) [(75445702479781427272750846543864801, 2), (31757755568855353, 2)] (by simp only [List.forall_mem_cons]; exact ⟨pr_75445702479781427272750846543864801, pr_31757755568855353, by simp⟩) (by decide +kernel) (by decide +kernel) (by decide +kernel)
theorem pr_57896044618658097711785492504343953926634992332820282019728792003956564819949 : IsP 57896044618658097711785492504343953926634992332820282019728792003956564819949 := isP_pock (f := 255) (by decide) [(74058212732561358302231226437062788676166966415465897661863160754340907, 2)] (by simp only [List.forall_mem_cons]; exact ⟨pr_74058212732561358302231226437062788676166966415465897661863160754340907, by simp⟩) (by decide +kernel) (by decide +kernel) (by decide +kernel)
theorem pr_53 : IsP 53 := prime_by (f := 7) (by decide) (by decide) (by decide +kernel)
theorem pr_29 : IsP 29 := prime_by (f := 5) (by decide) (by decide) (by decide +kernel)
theorem pr_7 : IsP 7 := prime_by (f := 2) (by decide) (by decide) (by decide +kernel)
theorem pr_107590001 : IsP 107590001 := isP_pock (f := 27) (by decide) [(53, 2), (29, 2), (7, 2)] (by simp only [List.forall_mem_cons]; exact ⟨pr_53, pr_29, pr_7, by simp⟩) (by decide +kernel) (by decide +kernel) (by decide +kernel)
theorem pr_7240687 : IsP 7240687 := prime_by (f := 2690) (by decide) (by decide) (by decide +kernel)
theorem pr_96557 : IsP 96557 := prime_by (f := 310) (by decide) (by decide) (by decide +kernel)
theorem pr_255515944373312847190720520512484175977 : IsP 255515944373312847190720520512484175977 := isP_pock (f := 128) (by decide) [(107590001, 2), (7240687, 2), (96557, 2)] (by simp only [List.forall_mem_cons]; exact ⟨pr_107590001, pr_7240687, pr_96557, by simp⟩) (by decide +kernel) (by decide +kernel) (by decide +kernel)
theorem pr_205115282021455665897114700593932402728804164701536103180137503955397371 : IsP 205115282021455665897114700593932402728804164701536103180137503955397371 := isP_pock (f := 237) (by decide) [(255515944373312847190720520512484175977, 2)] (by simp only [List.forall_mem_cons]; exact ⟨pr_255515944373312847190720520512484175977, by simp⟩) (by decide +kernel) (by decide +kernel) (by decide +kernel)
theorem pr_115792089237316195423570985008687907853269984665640564039457584007908834671663 : IsP 115792089237316195423570985008687907853269984665640564039457584007908834671663 := isP_pock (f := 256) (by decide) [(205115282021455665897114700593932402728804164701536103180137503955397371, 2)] (by simp only [List.forall_mem_cons]; exact ⟨pr_205115282021455665897114700593932402728804164701536103180137503955397371, by simp⟩) (by decide +kernel) (by decide +kernel) (by decide +kernel)
theorem pr_704251 : IsP 704251 := prime_by (f := 839) (by decide) (by decide) (by decide +kernel)
theorem pr_78283 : IsP 78283 := prime_by (f := 279) (by decide) (by decide) (by decide +kernel)
theorem pr_46076956964474543 : IsP 46076956964474543 := isP_pock (f := 56) (by decide) [(704251, 2), (78283, 2)] (by simp only [List.forall_mem_cons]; exact ⟨pr_704251, pr_78283, by simp⟩) (by decide +kernel) (by decide +kernel) (by decide +kernel)
theorem pr_3677 : IsP 3677 := prime_by (f := 60) (by decide) (by decide) (by decide +kernel)
theorem pr_197 : IsP 197 := prime_by (f := 14) (by decide) (by decide) (by decide +kernel)
theorem pr_66417393611 : IsP 66417393611 := isP_pock (f := 36) (by decide) [(3677, 2), (197, 2)] (by simp only [List.forall_mem_cons]; exact ⟨pr_3677, pr_197, by simp⟩) (by decide +kernel) (by decide +kernel) (by decide +kernel)
theorem pr_11290956913871 : IsP 11290956913871 := isP_pock (f := 44) (by decide) [(66417393611, 2)] (by simp only [List.forall_mem_cons]; exact ⟨pr_66417393611, by simp⟩) (by decide +kernel) (by decide +kernel) (by decide +kernel)
theorem pr_774023187263532362759620327192479577272145303 : IsP 774023187263532362759620327192479577272145303 := isP_pock (f := 150) (by decide) [(46076956964474543, 2), (11290956913871, 2)] (by simp only [List.forall_mem_cons]; exact ⟨pr_46076956964474543, pr_11290956913871, by simp⟩) (by decide +kernel) (by decide +kernel) (by decide +kernel)
theorem pr_835945042244614951780389953367877943453916927241 : IsP 835945042244614951780389953367877943453916927241 := isP_pock (f := 160) (by decide) [(774023187263532362759620327192479577272145303, 2)] (by simp only [List.forall_mem_cons]; exact ⟨pr_774023187263532362759620327192479577272145303, by simp⟩) (by decide +kernel) (by decide +kernel) (by decide +kernel)
theorem pr_115792089210356248762697446949407573530086143415290314195533631308867097853951 : IsP 115792089210356248762697446949407573530086143415290314195533631308867097853951 := isP_pock (f := 256) (by decide) [(835945042244614951780389953367877943453916927241, 2)] (by simp only [List.forall_mem_cons]; exact ⟨pr_835945042244614951780389953367877943453916927241, by simp⟩) (by decide +kernel) (by decide +kernel) (by decide +kernel)
end Mi
set_option maxHeartbeats 1000000
namespace Mi
/-! ### residues -/
theorem em_mul {p x y u v : Int} (h : x % p = u % p) (h2 : y % p = v % p) : x * y % p = u * v % p := by rw [Int.mul_emod, h, h2, ← Int.mul_emod]
theorem em_pow {p x u : Int} (h : x % p = u % p) : ∀ k : Nat, x ^ k % p = u ^ k % p
  | 0 => by rw [Int.pow_zero, Int.pow_zero]
  | k + 1 => by rw [Int.pow_succ, Int.pow_succ]; exact em_mul (em_pow h k) h
theorem em_em (x p : Int) : x % p % p = x % p := Int.emod_emod_of_dvd x (Int.dvd_refl p)
theorem em_dvd {p x y : Int} (h : x % p = y % p) : p ∣ x - y := Int.dvd_of_emod_eq_zero (Int.emod_eq_emod_iff_emod_sub_eq_zero.mp h)
theorem em_of_dvd {p x y : Int} (h : p ∣ x - y) : x % p = y % p := Int.emod_eq_emod_iff_emod_sub_eq_zero.mpr (Int.emod_eq_zero_of_dvd h)
theorem IsP.dvd_mulI {p : Nat} (h : IsP p) {a b : Int} (hd : (p : Int) ∣ a * b) : (p : Int) ∣ a ∨ (p : Int) ∣ b := by
  have := Int.natAbs_dvd_natAbs.mpr hd
  rw [Int.natAbs_mul, Int.natAbs_natCast] at this
  rcases h.dvd_mul this with q | q
  · exact .inl (Int.natAbs_dvd_natAbs.mp (by rw [Int.natAbs_natCast]; exact q))
  · exact .inr (Int.natAbs_dvd_natAbs.mp (by rw [Int.natAbs_natCast]; exact q))
theorem IsP.dvd_powI {p : Nat} (h : IsP p) {a : Int} : ∀ k : Nat, (p : Int) ∣ a ^ k → (p : Int) ∣ a
  | 0, hd => by
    rw [Int.pow_zero] at hd
    have := Int.le_of_dvd (by decide) hd
    have := h.1
    omega
  | k + 1, hd => by
    rw [Int.pow_succ] at hd
    rcases h.dvd_mulI hd with q | q
    · exact h.dvd_powI k q
    · exact q
theorem fermatI {p : Nat} (h : IsP p) {a : Int} (ha : ¬ (p : Int) ∣ a) : a ^ (p - 1) % p = 1 := by
  have h2 := h.1
  have e0 := Int.emod_nonneg a (show (p : Int) ≠ 0 by omega)
  obtain ⟨x, hx⟩ := Int.eq_ofNat_of_zero_le e0
  have hn : ¬ p ∣ x := fun d => by
    obtain ⟨k, rfl⟩ := d
    refine ha (Int.dvd_of_emod_eq_zero ?_)
    rw [← em_em a p, hx]
    exact Int.emod_eq_zero_of_dvd ⟨k, by show ((p * k : Nat) : Int) = _; rw [Int.natCast_mul]⟩
  have f := fermat h hn
  rw [em_pow (u := (x : Int)) (by rw [← hx, em_em])]
  rw [← Int.natCast_pow, ← Int.natCast_emod, f]; rfl
theorem sq_one {p : Nat} (h : IsP p) {x : Int} (hx : x * x % p = 1) : x % p = 1 ∨ x % p = p - 1 := by
  have h2 := h.1
  have o : (1 : Int) % p = 1 := Int.emod_eq_of_lt (by decide) (by omega)
  have d := em_dvd (p := p) (x := x * x) (y := 1) (by rw [hx, o])
  rw [show x * x - 1 = (x - 1) * (x - -1) by grind] at d
  rcases h.dvd_mulI d with q | q
  · left; rw [em_of_dvd q, o]
  · right
    rw [em_of_dvd q]
    have : (-1 : Int) = (p - 1 : Int) + p * (-1) := by omega
    rw [this, Int.add_mul_emod_self_left, Int.emod_eq_of_lt (by omega) (by omega)]
theorem m1_sq {p : Nat} (h : IsP p) {x : Int} (hx : x % p = p - 1) : x * x % p = 1 := by
  have h2 := h.1
  have o : (1 : Int) % p = 1 := Int.emod_eq_of_lt (by decide) (by omega)
  have hp : ((p : Int) - 1) % p = p - 1 := Int.emod_eq_of_lt (by omega) (by omega)
  rw [em_mul (hx.trans hp.symm) (hx.trans hp.symm), show ((p : Int) - 1) * (p - 1) = 1 + p * (p - 2) by grind, Int.add_mul_emod_self_left, o]
/-! ### a polynomial's roots -/
def evp : List Int → Int → Int
  | [], _ => 0
  | c :: cs, x => c + x * evp cs x
def dvp : List Int → Int → List Int
  | [], _ => []
  | [_], _ => []
  | _ :: d :: cs, r => evp (d :: cs) r :: dvp (d :: cs) r
theorem evp_dvp : ∀ (cs : List Int) (x r : Int), evp cs x - evp cs r = (x - r) * evp (dvp cs r) x
  | [], x, r => by simp [evp, dvp]
  | [c], x, r => by simp [evp, dvp]
  | c :: d :: cs, x, r => by
    have ih := evp_dvp (d :: cs) x r
    show c + x * evp (d :: cs) x - (c + r * evp (d :: cs) r) = (x - r) * (evp (d :: cs) r + x * evp (dvp (d :: cs) r) x)
    generalize evp (d :: cs) x = u at *
    generalize evp (d :: cs) r = v at *
    generalize evp (dvp (d :: cs) r) x = w at *
    have : u = v + (x - r) * w := by omega
    subst this
    grind
theorem dvp_len : ∀ (cs : List Int) (r : Int), (dvp cs r).length = cs.length - 1
  | [], r => rfl
  | [c], r => rfl
  | c :: d :: cs, r => by
    have ih := dvp_len (d :: cs) r
    simp only [dvp, List.length_cons] at *; omega
theorem dvp_top : ∀ (cs : List Int) (r : Int), 2 ≤ cs.length → cs.getLast? = some 1 → (dvp cs r).getLast? = some 1
  | [], r, h, _ => by simp at h
  | [c], r, h, _ => by simp at h
  | [c, d], r, _, h => by
    have : d = 1 := by simpa using h
    subst this
    simp [dvp, evp]
  | c :: d :: e :: cs, r, _, h => by
    have ih := dvp_top (d :: e :: cs) r (by simp) (by simpa using h)
    rw [dvp]
    have hn : dvp (d :: e :: cs) r ≠ [] := by simp [dvp]
    cases hq : dvp (d :: e :: cs) r with
    | nil => exact absurd hq hn
    | cons y ys => rw [hq] at ih; rw [List.getLast?_cons_cons]; exact ih
theorem roots_le {p : Nat} (h : IsP p) : ∀ (n : Nat) (cs : List Int), cs.length = n + 1 → cs.getLast? = some 1 → ∀ rs : List Int, rs.Pairwise (fun x y => ¬ (p : Int) ∣ y - x) → (∀ r ∈ rs, (p : Int) ∣ evp cs r) → rs.length ≤ n := by
  intro n
  induction n with
  | zero =>
    intro cs hl ht rs hp hr
    cases rs with
    | nil => exact Nat.le_refl 0
    | cons r rs =>
      match cs, hl with
      | [c], _ =>
        have : c = 1 := by simpa using ht
        subst this
        have d := hr r List.mem_cons_self
        have e : evp [1] r = 1 := by simp [evp]
        rw [e] at d
        have := Int.le_of_dvd (by decide) d
        have := h.1
        omega
  | succ n ih =>
    intro cs hl ht rs hp hr
    cases rs with
    | nil => exact Nat.zero_le _
    | cons r rs =>
      obtain ⟨h1, h2⟩ := List.pairwise_cons.mp hp
      have q := ih (dvp cs r) (by rw [dvp_len]; omega) (dvp_top cs r (by omega) ht) rs h2 fun s hs => by
        have d : (p : Int) ∣ evp cs s - evp cs r := Int.dvd_sub (hr s (List.mem_cons_of_mem _ hs)) (hr r List.mem_cons_self)
        rw [evp_dvp] at d
        exact (h.dvd_mulI d).resolve_left (h1 s hs)
      rw [List.length_cons]; omega
theorem evp_pow : ∀ (k : Nat) (x : Int), evp (List.replicate k 0 ++ [1]) x = x ^ k
  | 0, x => by simp [evp]
  | k + 1, x => by
    rw [List.replicate_succ, List.cons_append, evp, evp_pow k x, Int.pow_succ]; grind
/-- a number whose power is not 1 -/
theorem non_root {p : Nat} (h : IsP p) {k : Nat} (k0 : 0 < k) (hk : k < p - 1) : ∃ z : Nat, 1 ≤ z ∧ z < p ∧ (z : Int) ^ k % p ≠ 1 := by
  refine Classical.byContradiction fun c => ?_
  have all : ∀ z : Nat, 1 ≤ z → z < p → (z : Int) ^ k % p = 1 := fun z h1 h2 => Classical.byContradiction fun e => c ⟨z, h1, h2, e⟩
  have q := roots_le h k (-1 :: (List.replicate (k - 1) 0 ++ [1])) (by simp; omega) (by
    cases hq : (List.replicate (k - 1) 0 ++ [(1 : Int)]) with
    | nil => simp at hq
    | cons y ys => rw [List.getLast?_cons_cons, ← hq]; simp) ((List.range' 1 (p - 1)).map fun (z : Nat) => (z : Int)) (by
      refine List.pairwise_map.mpr (List.Pairwise.imp_of_mem (fun {x y} hx hy q d => ?_) (List.nodup_range' (s := 1) (n := p - 1)))
      have hx := List.mem_range'_1.mp hx
      have hy := List.mem_range'_1.mp hy
      have := Int.eq_zero_of_dvd_of_natAbs_lt_natAbs d (by omega)
      exact q (by omega)) (fun r hr => by
      obtain ⟨z, hz, rfl⟩ := List.mem_map.mp hr
      have hz := List.mem_range'_1.mp hz
      have e := all z hz.1 (by omega)
      have o : (1 : Int) % p = 1 := Int.emod_eq_of_lt (by decide) (by have := h.1; omega)
      have d := em_dvd (p := p) (x := (z : Int) ^ k) (y := 1) (by rw [e, o])
      show (p : Int) ∣ -1 + (z : Int) * evp (List.replicate (k - 1) 0 ++ [1]) z
      rw [evp_pow]
      have ek : (z : Int) * (z : Int) ^ (k - 1) = (z : Int) ^ k := by
        rw [Int.mul_comm, ← Int.pow_succ]; congr 1; omega
      rw [ek, show (-1 : Int) + (z : Int) ^ k = (z : Int) ^ k - 1 by omega]
      exact d)
  rw [List.length_map, List.length_range'] at q
  omega
/-- half the exponent: 1 or -1 -/
theorem half_pow {p : Nat} (h : IsP p) (ho : p % 2 = 1) {a : Int} (ha : ¬ (p : Int) ∣ a) : a ^ ((p - 1) / 2) % p = 1 ∨ a ^ ((p - 1) / 2) % p = p - 1 := by
  refine sq_one h ?_
  rw [← Int.pow_add, show (p - 1) / 2 + (p - 1) / 2 = p - 1 by omega]
  exact fermatI h ha
/-! ### the twos of a number -/
theorem low_and (o t : Nat) : (((2 * o + 1) * 2 ^ t) &&& ((2 * o + 1) * 2 ^ t - 1)) = 2 * o * 2 ^ t := by
  induction t with
  | zero =>
    rw [Nat.pow_zero, Nat.mul_one, Nat.mul_one, Nat.add_sub_cancel]
    have e1 := @Nat.and_div_two (2 * o + 1) (2 * o)
    have e2 := @Nat.and_mod_two_eq_one (2 * o + 1) (2 * o)
    rw [show (2 * o + 1) / 2 = o by omega, show 2 * o / 2 = o by omega, Nat.and_self] at e1
    omega
  | succ t ih =>
    have hp := Nat.two_pow_pos t
    have hm : 0 < (2 * o + 1) * 2 ^ t := Nat.mul_pos (by omega) hp
    have ep : (2 * o + 1) * 2 ^ (t + 1) = 2 * ((2 * o + 1) * 2 ^ t) := by rw [Nat.pow_succ]; ac_rfl
    have eq : 2 * o * 2 ^ (t + 1) = 2 * (2 * o * 2 ^ t) := by rw [Nat.pow_succ]; ac_rfl
    rw [ep, eq]
    generalize (2 * o + 1) * 2 ^ t = m at *
    have e1 := @Nat.and_div_two (2 * m) (2 * m - 1)
    have e2 := @Nat.and_mod_two_eq_one (2 * m) (2 * m - 1)
    rw [show 2 * m / 2 = m by omega, show (2 * m - 1) / 2 = m - 1 by omega, ih] at e1
    omega
theorem odd_part : ∀ n : Nat, 0 < n → ∃ o t, n = (2 * o + 1) * 2 ^ t := by
  intro n
  induction n using Nat.strongRecOn with
  | ind n ih =>
    intro h
    by_cases e : n % 2 = 1
    · exact ⟨n / 2, 0, by rw [Nat.pow_zero]; omega⟩
    · obtain ⟨o, t, q⟩ := ih (n / 2) (by omega) (by omega)
      exact ⟨o, t + 1, by rw [Nat.pow_succ, ← Nat.mul_assoc, ← q]; omega⟩
end Mi
set_option maxHeartbeats 1000000
namespace Mi
/-! ### residues as a ring -/
def zr (p : Nat) (x y : Int) : Prop := x % p = y % p
def Zp (p : Nat) : Type := Quot (zr p)
def zm (p : Nat) (x : Int) : Zp p := Quot.mk _ x
theorem zr_iff {p : Nat} {x y : Int} : zr p x y ↔ (p : Int) ∣ x - y := ⟨fun h => em_dvd h, fun h => em_of_dvd h⟩
section
variable {p : Nat}
def zadd : Zp p → Zp p → Zp p := Quot.lift (fun x => Quot.lift (fun y => zm p (x + y)) fun a b h => Quot.sound (by
  rw [zr_iff] at h ⊢; rw [show x + a - (x + b) = a - b by omega]; exact h)) fun a b h => by
  funext y
  induction y using Quot.ind
  refine Quot.sound ?_
  rw [zr_iff] at h ⊢
  rename_i y
  rw [show a + y - (b + y) = a - b by omega]; exact h
def zmul : Zp p → Zp p → Zp p := Quot.lift (fun x => Quot.lift (fun y => zm p (x * y)) fun a b h => Quot.sound (em_mul rfl h)) fun a b h => by
  funext y
  induction y using Quot.ind
  exact Quot.sound (em_mul h rfl)
def zneg : Zp p → Zp p := Quot.lift (fun x => zm p (-x)) fun a b h => Quot.sound (by
  rw [zr_iff] at h ⊢
  rw [show -a - -b = -(a - b) by omega]; exact Int.dvd_neg.mpr h)
instance : Add (Zp p) := ⟨zadd⟩
instance : Mul (Zp p) := ⟨zmul⟩
instance : Neg (Zp p) := ⟨zneg⟩
instance : Sub (Zp p) := ⟨fun x y => x + -y⟩
instance : NatCast (Zp p) := ⟨fun n => zm p (n : Int)⟩
instance : IntCast (Zp p) := ⟨fun n => zm p n⟩
instance (n : Nat) : OfNat (Zp p) n := ⟨zm p (n : Int)⟩
def zpow (x : Zp p) : Nat → Zp p
  | 0 => 1
  | n + 1 => zpow x n * x
instance : HPow (Zp p) Nat (Zp p) := ⟨zpow⟩
instance : SMul Nat (Zp p) := ⟨fun n x => (n : Zp p) * x⟩
instance : SMul Int (Zp p) := ⟨fun n x => (n : Zp p) * x⟩
theorem zm_add (x y : Int) : zm p (x + y) = zm p x + zm p y := rfl
theorem zm_mul (x y : Int) : zm p (x * y) = zm p x * zm p y := rfl
theorem zm_neg (x : Int) : zm p (-x) = -zm p x := rfl
theorem zm_sub (x y : Int) : zm p (x - y) = zm p x - zm p y := by
  rw [Int.sub_eq_add_neg]; rfl
theorem zm_eq {x y : Int} : zm p x = zm p y ↔ x % p = y % p := by
  refine ⟨fun h => ?_, fun h => Quot.sound h⟩
  have : ∀ z : Zp p, zm p x = z → Quot.lift (fun y => x % p = y % p) (fun a b h => by simp only [show a % (p : Int) = b % p from h]) z := by
    intro z e; subst e; rfl
  exact this _ h
theorem zm_num (n : Nat) : zm p (OfNat.ofNat n : Int) = (OfNat.ofNat n : Zp p) := rfl
theorem zm_nat (n : Nat) : zm p (n : Int) = (OfNat.ofNat n : Zp p) := rfl
theorem zm_mod (x : Int) : zm p (x % p) = zm p x := zm_eq.mpr (em_em _ _)
instance : Lean.Grind.CommRing (Zp p) where
  add_zero := fun a => Quot.inductionOn a (fun x => congrArg (zm p) (Int.add_zero x))
  add_comm := fun a b => Quot.inductionOn a (fun x => Quot.inductionOn b (fun y => congrArg (zm p) (Int.add_comm x y)))
  add_assoc := fun a b c => Quot.inductionOn a (fun x => Quot.inductionOn b (fun y => Quot.inductionOn c (fun z => congrArg (zm p) (Int.add_assoc x y z))))
  mul_assoc := fun a b c => Quot.inductionOn a (fun x => Quot.inductionOn b (fun y => Quot.inductionOn c (fun z => congrArg (zm p) (Int.mul_assoc x y z))))
  mul_one := fun a => Quot.inductionOn a (fun x => congrArg (zm p) (Int.mul_one x))
  one_mul := fun a => Quot.inductionOn a (fun x => congrArg (zm p) (Int.one_mul x))
  left_distrib := fun a b c => Quot.inductionOn a (fun x => Quot.inductionOn b (fun y => Quot.inductionOn c (fun z => congrArg (zm p) (Int.mul_add x y z))))
  right_distrib := fun a b c => Quot.inductionOn a (fun x => Quot.inductionOn b (fun y => Quot.inductionOn c (fun z => congrArg (zm p) (Int.add_mul x y z))))
  zero_mul := fun a => Quot.inductionOn a (fun x => congrArg (zm p) (Int.zero_mul x))
  mul_zero := fun a => Quot.inductionOn a (fun x => congrArg (zm p) (Int.mul_zero x))
  pow_zero := fun a => rfl
  pow_succ := fun a n => rfl
  ofNat_succ := fun n => rfl
  ofNat_eq_natCast := fun n => rfl
  nsmul_eq_natCast_mul := fun n a => rfl
  neg_add_cancel := fun a => Quot.inductionOn a (fun x => congrArg (zm p) (Int.add_left_neg x))
  sub_eq_add_neg := fun a b => rfl
  neg_zsmul := fun i a => Quot.inductionOn a (fun x => congrArg (zm p) (Int.neg_mul i x))
  zsmul_natCast_eq_nsmul := fun n a => rfl
  intCast_ofNat := fun n => rfl
  intCast_neg := fun i => rfl
  mul_comm := fun a b => Quot.inductionOn a (fun x => Quot.inductionOn b (fun y => congrArg (zm p) (Int.mul_comm x y)))
theorem zm_zero {x : Int} : zm p x = 0 ↔ x % p = 0 := by
  have : zm p x = zm p 0 ↔ _ := zm_eq
  rw [Int.zero_emod] at this
  exact this
theorem zm_pow (x : Int) : ∀ n : Nat, zm p (x ^ n) = zm p x ^ n
  | 0 => by rw [Int.pow_zero]; rfl
  | n + 1 => by
    rw [Int.pow_succ, zm_mul, zm_pow x n]; rfl
theorem zm_dvd {x : Int} : zm p x = 0 ↔ (p : Int) ∣ x := zm_zero.trans ⟨Int.dvd_of_emod_eq_zero, Int.emod_eq_zero_of_dvd⟩
theorem z_dom (h : IsP p) {x y : Zp p} (e : x * y = 0) : x = 0 ∨ y = 0 := by
  revert e
  refine Quot.inductionOn x (fun x => ?_)
  refine Quot.inductionOn y (fun y => ?_)
  intro e
  rcases h.dvd_mulI (zm_dvd.mp e) with q | q
  · exact .inl (zm_dvd.mpr q)
  · exact .inr (zm_dvd.mpr q)
theorem z_cancel (h : IsP p) {x y : Zp p} (hx : x ≠ 0) (e : x * y = 0) : y = 0 := (z_dom h e).resolve_left hx
theorem z_mul_ne (h : IsP p) {x y : Zp p} (hx : x ≠ 0) (hy : y ≠ 0) : x * y ≠ 0 := fun e => hy (z_cancel h hx e)
theorem z_inv0 (h : IsP p) (x : Int) (hx : zm p x ≠ 0) : zm p x ^ (p - 2) * zm p x = 1 := by
  have h2 := h.1
  have f := fermatI h (a := x) fun d => hx (zm_dvd.mpr d)
  rw [← zm_pow, ← zm_mul, ← Int.pow_succ, show (p - 2).succ = p - 1 by omega]
  exact (show zm p (x ^ (p - 1)) = zm p 1 from zm_eq.mpr (by rw [f, Int.emod_eq_of_lt (by decide) (by omega)]))
theorem z_inv (h : IsP p) {x : Zp p} : x ≠ 0 → x ^ (p - 2) * x = 1 := Quot.inductionOn x fun x hx => z_inv0 h x hx
theorem z_ne_num (n : Nat) (h0 : 0 < n) (h1 : n < p) : (OfNat.ofNat n : Zp p) ≠ 0 := by
  intro e
  have := zm_zero.mp (show zm p (n : Int) = 0 from e)
  rw [Int.emod_eq_of_lt (by omega) (by omega)] at this
  omega
/-- residues are equal if their classes are -/
theorem res_eq {x y : Int} (hx0 : 0 ≤ x) (hx1 : x < p) (hy0 : 0 ≤ y) (hy1 : y < p) (h : zm p x = zm p y) : x = y := by
  have := zm_eq.mp h
  rwa [Int.emod_eq_of_lt hx0 hx1, Int.emod_eq_of_lt hy0 hy1] at this
end
theorem z_test {p : Nat} (x y : Zp p) (h : x * x = y) : (x + 1) ^ 2 - 2 * x - 1 = y := by grind
end Mi
namespace Mi
theorem z_clos {p : Nat} (x1 y1 x2 y2 a b l i : Zp p) (h1 : y1*y1 = x1*x1*x1 + a*x1 + b) (h2 : y2*y2 = x2*x2*x2 + a*x2 + b) (hi : i*(x2-x1) = 1) (hl : l*(x2-x1) = (y2-y1))  : (l*(x1-(l*l - x1 - x2)) - y1)*(l*(x1-(l*l - x1 - x2)) - y1) = (l*l - x1 - x2)*(l*l - x1 - x2)*(l*l - x1 - x2) + a*(l*l - x1 - x2) + b := by
  have q : x1*x1 + x1*x2 + x2*x2 + a = l*(y1+y2) := by
    have : (x2-x1)*(x1*x1 + x1*x2 + x2*x2 + a - l*(y1+y2)) = 0 := by grind
    grind
  have e : y2 = y1 + l*(x2-x1) := by grind
  subst e
  grind
end Mi
set_option maxHeartbeats 1000000
namespace Mi
open PySem PySem.Spec L2
/-! ### sizes, found by themselves -/
class Bd (x : Int) (n : outParam Nat) : Prop where
  lt : x.natAbs < 2 ^ n
class Pb (p : Nat) : Prop where
  pos : 0 < p
  lt : p < 2 ^ 256
theorem Bd.up {x : Int} {m n : Nat} (h : x.natAbs < 2 ^ m) (e : m ≤ n) : x.natAbs < 2 ^ n := Nat.lt_of_lt_of_le h (Nat.pow_le_pow_right (by decide) e)
instance bd_mul {x y : Int} {a b : Nat} [h1 : Bd x a] [h2 : Bd y b] : Bd (x * y) (a + b) := ⟨by rw [Int.natAbs_mul]; exact pow_add_lt h1.lt h2.lt⟩
theorem two_sum {u v a b : Nat} (h1 : u < 2 ^ a) (h2 : v < 2 ^ b) : u + v < 2 ^ (max a b + 1) := by
  have := Nat.lt_of_lt_of_le h1 (Nat.pow_le_pow_right (show 0 < 2 by decide) (Nat.le_max_left a b))
  have := Nat.lt_of_lt_of_le h2 (Nat.pow_le_pow_right (show 0 < 2 by decide) (Nat.le_max_right a b))
  rw [Nat.pow_succ]; omega
instance bd_add {x y : Int} {a b : Nat} [h1 : Bd x a] [h2 : Bd y b] : Bd (x + y) (max a b + 1) := ⟨Nat.lt_of_le_of_lt (Int.natAbs_add_le x y) (two_sum h1.lt h2.lt)⟩
instance bd_sub {x y : Int} {a b : Nat} [h1 : Bd x a] [h2 : Bd y b] : Bd (x - y) (max a b + 1) := ⟨Nat.lt_of_le_of_lt (Int.natAbs_sub_le x y) (two_sum h1.lt h2.lt)⟩
instance bd_neg {x : Int} {a : Nat} [h1 : Bd x a] : Bd (-x) a := ⟨by rw [Int.natAbs_neg]; exact h1.lt⟩
instance bd_pow {x : Int} {a k : Nat} [h1 : Bd x a] : Bd (x ^ k) (a * k + 1) := ⟨by
  rw [Int.natAbs_pow]
  have : x.natAbs ^ k ≤ (2 ^ a) ^ k := Nat.pow_le_pow_left (Nat.le_of_lt h1.lt) k
  rw [← Nat.pow_mul] at this
  have : 2 ^ (a * k) < 2 ^ (a * k + 1) := Nat.pow_lt_pow_right (by decide) (by omega)
  omega⟩
instance : Bd (0 : Int) 8 := ⟨by decide⟩
instance : Bd (1 : Int) 8 := ⟨by decide⟩
instance : Bd (2 : Int) 8 := ⟨by decide⟩
instance : Bd (3 : Int) 8 := ⟨by decide⟩
instance : Bd (4 : Int) 8 := ⟨by decide⟩
instance : Bd (5 : Int) 8 := ⟨by decide⟩
instance : Bd (6 : Int) 8 := ⟨by decide⟩
instance : Bd (7 : Int) 8 := ⟨by decide⟩
instance : Bd (8 : Int) 8 := ⟨by decide⟩
instance : Bd (9 : Int) 8 := ⟨by decide⟩
instance : Bd (12 : Int) 8 := ⟨by decide⟩
instance : Bd (13 : Int) 8 := ⟨by decide⟩
instance : Bd (16 : Int) 8 := ⟨by decide⟩
instance : Bd (27 : Int) 8 := ⟨by decide⟩
instance : Bd (2147483648 : Int) 70 := ⟨by decide +kernel⟩
instance : Bd (4294967296 : Int) 70 := ⟨by decide +kernel⟩
instance : Bd (2305843009213693952 : Int) 70 := ⟨by decide +kernel⟩
instance : Bd (9223372036854775808 : Int) 70 := ⟨by decide +kernel⟩
instance : Bd (18446744073709551616 : Int) 70 := ⟨by decide +kernel⟩
instance : Bd (6277101735386680763835789423207666416102355444464034512896 : Int) 200 := ⟨by decide +kernel⟩
instance bd_p {p : Nat} [h : Pb p] : Bd (p : Int) 256 := ⟨by rw [Int.natAbs_natCast]; exact h.lt⟩
instance bd_mod {p : Nat} {x : Int} [h : Pb p] : Bd (x % (p : Int)) 256 := ⟨by
  have := h.pos; have := h.lt
  have := Int.emod_nonneg x (show (p : Int) ≠ 0 by omega)
  have := Int.emod_lt_of_pos x (show (0 : Int) < (p : Int) by omega)
  omega⟩
theorem need_bd {α : Type} {x y : Int} {a b : Nat} {m : Res α} [h1 : Bd x a] [h2 : Bd y b] (h : (decide (a + b ≤ 134217728)) = true) : Res.need (CMulX x y) m = m := Res.need_pos (cmulx h1.lt h2.lt (of_decide_eq_true h))
theorem need_pw2 {α : Type} {x : Int} {a : Nat} {m : Res α} [h1 : Bd x a] (h : (decide (a * 2 ≤ 134217728)) = true) : Res.need (CPowX x 2) m = m := Res.need_pos ⟨by decide, by
  have := le_ibits h1.lt
  have h := of_decide_eq_true h
  show ((Builtin.Int.intBits x : Nat) : Int) * 2 ≤ 134217728
  omega⟩
theorem need_pw3 {α : Type} {x : Int} {a : Nat} {m : Res α} [h1 : Bd x a] (h : (decide (a * 3 ≤ 134217728)) = true) : Res.need (CPowX x 3) m = m := Res.need_pos ⟨by decide, by
  have := le_ibits h1.lt
  have h := of_decide_eq_true h
  show ((Builtin.Int.intBits x : Nat) : Int) * 3 ≤ 134217728
  omega⟩
theorem need_pw4 {α : Type} {x : Int} {a : Nat} {m : Res α} [h1 : Bd x a] (h : (decide (a * 4 ≤ 134217728)) = true) : Res.need (CPowX x 4) m = m := Res.need_pos ⟨by decide, by
  have := le_ibits h1.lt
  have h := of_decide_eq_true h
  show ((Builtin.Int.intBits x : Nat) : Int) * 4 ≤ 134217728
  omega⟩
theorem need_pw6 {α : Type} {x : Int} {a : Nat} {m : Res α} [h1 : Bd x a] (h : (decide (a * 6 ≤ 134217728)) = true) : Res.need (CPowX x 6) m = m := Res.need_pos ⟨by decide, by
  have := le_ibits h1.lt
  have h := of_decide_eq_true h
  show ((Builtin.Int.intBits x : Nat) : Int) * 6 ≤ 134217728
  omega⟩
theorem need_p {α : Type} {p : Nat} {m : Res α} [h : Pb p] : Res.need (0 < (p : Int)) m = m := Res.need_pos (by have := h.pos; omega)
theorem need_true {α : Type} {m : Res α} : Res.need True m = m := Res.need_pos trivial
theorem tn2 : (2 : Int).toNat = 2 := rfl
theorem tn3 : (3 : Int).toNat = 3 := rfl
theorem tn4 : (4 : Int).toNat = 4 := rfl
theorem tn6 : (6 : Int).toNat = 6 := rfl
theorem bd_test {α : Type} {p : Nat} [Pb p] (x y : Int) [Bd x 256] [Bd y 256] (m : Res α) : Res.need (CMulX (x * y - 27 * x ^ 3) (y + (x * x * x) % (p : Int))) (Res.need (0 < (p : Int)) (Res.need (CPowX (x * y) 3) m)) = m := by
  simp (decide := true) only [need_bd, need_p, need_pw3]
end Mi
set_option maxHeartbeats 1000000
namespace Mi
/-! ### residues of a prime as a field -/
class Prm (p : Nat) : Prop where
  pr : IsP p
section
variable {p : Nat}
def zv : Zp p → Int := Quot.lift (fun x => x % (p : Int)) fun a b h => h
theorem zv_zm (x : Int) : zv (zm p x) = x % p := rfl
theorem zm_zv (x : Zp p) : zm p (zv x) = x := Quot.inductionOn x fun x => zm_mod x
theorem zv_ge [P : Prm p] (x : Zp p) : 0 ≤ zv x := Quot.inductionOn x fun x => Int.emod_nonneg _ (by have := P.pr.1; omega)
theorem zv_lt [P : Prm p] (x : Zp p) : zv x < p := Quot.inductionOn x fun x => Int.emod_lt_of_pos _ (by have := P.pr.1; omega)
theorem zv_inj {x y : Zp p} (h : zv x = zv y) : x = y := by rw [← zm_zv x, ← zm_zv y, h]
theorem zv_of {x : Int} (h0 : 0 ≤ x) (h1 : x < p) : zv (zm p x) = x := by rw [zv_zm, Int.emod_eq_of_lt h0 h1]
theorem zpow_zero' (n : Nat) (h : 0 < n) : (0 : Zp p) ^ n = 0 := by
  cases n with
  | zero => omega
  | succ n => show (0 : Zp p) ^ n * 0 = 0; grind
open Classical in
noncomputable def zinv (x : Zp p) : Zp p := if x = 0 then 0 else x ^ (p - 2)
noncomputable instance : Inv (Zp p) := ⟨zinv⟩
noncomputable instance : Div (Zp p) := ⟨fun x y => x * y⁻¹⟩
noncomputable def zzpow (x : Zp p) : Int → Zp p
  | .ofNat n => x ^ n
  | .negSucc n => (x ^ (n + 1))⁻¹
noncomputable instance : HPow (Zp p) Int (Zp p) := ⟨zzpow⟩
theorem z_inv_zero : (0 : Zp p)⁻¹ = 0 := by show zinv 0 = 0; unfold zinv; rw [if_pos rfl]
theorem z_one_inv [P : Prm p] : (1 : Zp p)⁻¹ = 1 := by
  show zinv 1 = 1
  unfold zinv
  split
  · rename_i h; exact h.symm
  · have : ∀ n : Nat, (1 : Zp p) ^ n = 1 := by
      intro n
      induction n with
      | zero => rfl
      | succ n ih => show (1 : Zp p) ^ n * 1 = 1; rw [ih]; grind
    exact this _
theorem z_mul_inv [P : Prm p] {x : Zp p} (h : x ≠ 0) : x * x⁻¹ = 1 := by
  show x * zinv x = 1
  unfold zinv
  rw [if_neg h]
  have := z_inv P.pr h
  grind
theorem z_inv_inv [P : Prm p] (x : Zp p) : x⁻¹⁻¹ = x := by
  by_cases h : x = 0
  · subst h; rw [z_inv_zero, z_inv_zero]
  · have a := z_mul_inv h
    have h' : x⁻¹ ≠ 0 := by
      intro e
      rw [e] at a
      have : (1 : Zp p) = 0 := by grind
      exact z_ne_num 1 (by decide) (by have := P.pr.1; omega) this
    have b := z_mul_inv h'
    have : x * (x⁻¹ * x⁻¹⁻¹) = x := by rw [b]; grind
    have t : x * (x⁻¹ * x⁻¹⁻¹) = (x * x⁻¹) * x⁻¹⁻¹ := by grind
    rw [t, a] at this
    grind
noncomputable instance [P : Prm p] : Lean.Grind.Field (Zp p) where
  toCommRing := inferInstance
  div_eq_mul_inv := fun a b => rfl
  zero_ne_one := fun h => z_ne_num (p := p) 1 (by decide) (by have := P.pr.1; omega) h.symm
  inv_zero := z_inv_zero
  mul_inv_cancel := fun h => z_mul_inv h
  zpow_zero := fun a => rfl
  zpow_succ := fun a n => rfl
  zpow_neg := fun a n => by
    cases n with
    | ofNat n =>
      cases n with
      | zero => exact z_one_inv.symm
      | succ n => rfl
    | negSucc n => exact (z_inv_inv _).symm
end
/-! ### multiples in a commutative group -/
section
open Lean.Grind
variable {M : Type} [AddCommGroup M]
def nsm (n : Nat) (a : M) : M := match n with
  | 0 => 0
  | n + 1 => nsm n a + a
def zsm (n : Int) (a : M) : M := match n with
  | .ofNat n => nsm n a
  | .negSucc n => -(nsm (n + 1) a)
theorem g_add_comm (a b : M) : a + b = b + a := AddCommMonoid.add_comm a b
theorem g_add_assoc (a b c : M) : a + b + c = a + (b + c) := AddCommMonoid.add_assoc a b c
theorem g_add_zero (a : M) : a + 0 = a := AddCommMonoid.add_zero a
theorem g_zero_add (a : M) : 0 + a = a := by rw [g_add_comm]; exact g_add_zero a
theorem g_neg_add (a : M) : -a + a = 0 := AddCommGroup.neg_add_cancel a
theorem g_add_neg (a : M) : a + -a = 0 := by rw [g_add_comm]; exact g_neg_add a
theorem g_cancel_r {a b c : M} (h : a + c = b + c) : a = b := by
  have := congrArg (fun z => z + -c) h
  simp only [g_add_assoc, g_add_neg, g_add_zero] at this
  exact this
theorem g_cancel_l {a b c : M} (h : c + a = c + b) : a = b := g_cancel_r (c := c) (by rw [g_add_comm a, g_add_comm b]; exact h)
theorem g_neg_eq {a b : M} (h : a + b = 0) : b = -a := g_cancel_l (c := a) (by rw [h, g_add_neg])
theorem g_neg_neg (a : M) : - -a = a := (g_neg_eq (g_neg_add a)).symm
theorem g_neg_addd (a b : M) : -(a + b) = -a + -b := (g_neg_eq (by
  rw [g_add_assoc, g_add_comm (-a), ← g_add_assoc b, g_add_neg, g_zero_add, g_add_neg])).symm
theorem g_neg_zero : -(0 : M) = 0 := (g_neg_eq (g_add_zero 0)).symm
theorem g_sub (a b : M) : a - b = a + -b := AddCommGroup.sub_eq_add_neg a b
theorem nsm_zero (a : M) : nsm 0 a = 0 := rfl
theorem nsm_succ (n : Nat) (a : M) : nsm (n + 1) a = nsm n a + a := rfl
theorem nsm_one (a : M) : nsm 1 a = a := g_zero_add a
theorem nsm_add (m n : Nat) (a : M) : nsm (m + n) a = nsm m a + nsm n a := by
  induction n with
  | zero => rw [Nat.add_zero, nsm_zero, g_add_zero]
  | succ n ih => rw [← Nat.add_assoc, nsm_succ, nsm_succ, ih, g_add_assoc]
theorem nsm_zero' (n : Nat) : nsm n (0 : M) = 0 := by
  induction n with
  | zero => rfl
  | succ n ih => rw [nsm_succ, ih, g_add_zero]
theorem nsm_addd (n : Nat) (a b : M) : nsm n (a + b) = nsm n a + nsm n b := by
  induction n with
  | zero => rw [nsm_zero, nsm_zero, nsm_zero, g_add_zero]
  | succ n ih => rw [nsm_succ, nsm_succ, nsm_succ, ih, g_add_assoc, g_add_assoc, ← g_add_assoc (nsm n b), ← g_add_assoc a, g_add_comm a (nsm n b)]
theorem nsm_mul (m n : Nat) (a : M) : nsm (m * n) a = nsm m (nsm n a) := by
  induction m with
  | zero => rw [Nat.zero_mul]; rfl
  | succ m ih => rw [Nat.succ_mul, nsm_add, ih, nsm_succ]
theorem nsm_neg (n : Nat) (a : M) : nsm n (-a) = -(nsm n a) := g_neg_eq (by rw [← nsm_addd, g_add_neg, nsm_zero'])
theorem zsm_nat (n : Nat) (a : M) : zsm (n : Int) a = nsm n a := rfl
theorem zsm_neg_nat (n : Nat) (a : M) : zsm (-(n : Int)) a = -(nsm n a) := by
  cases n with
  | zero => show nsm 0 a = -(nsm 0 a); rw [nsm_zero, g_neg_zero]
  | succ n => rfl
theorem zsm_neg (n : Int) (a : M) : zsm (-n) a = -(zsm n a) := by
  rcases Int.eq_nat_or_neg n with ⟨k, rfl | rfl⟩
  · rw [zsm_neg_nat, zsm_nat]
  · rw [Int.neg_neg, zsm_neg_nat, zsm_nat, g_neg_neg]
theorem zsm_negp (n : Int) (a : M) : zsm n (-a) = -(zsm n a) := by
  rcases Int.eq_nat_or_neg n with ⟨k, rfl | rfl⟩
  · rw [zsm_nat, zsm_nat, nsm_neg]
  · rw [zsm_neg_nat, zsm_neg_nat, nsm_neg]
theorem zsm_sub_nat (m n : Nat) (a : M) : zsm ((m : Int) - n) a = nsm m a + -(nsm n a) := by
  rcases Nat.le_total n m with h | h
  · obtain ⟨k, rfl⟩ := Nat.exists_eq_add_of_le h
    rw [show ((n + k : Nat) : Int) - n = (k : Int) by omega, zsm_nat, Nat.add_comm, nsm_add, g_add_assoc, g_add_neg, g_add_zero]
  · obtain ⟨k, rfl⟩ := Nat.exists_eq_add_of_le h
    rw [show (m : Int) - ((m + k : Nat) : Int) = -(k : Int) by omega, zsm_neg_nat, nsm_add, g_neg_addd, ← g_add_assoc, g_add_neg, g_zero_add]
theorem zsm_add (m n : Int) (a : M) : zsm (m + n) a = zsm m a + zsm n a := by
  rcases Int.eq_nat_or_neg m with ⟨k, rfl | rfl⟩ <;> rcases Int.eq_nat_or_neg n with ⟨l, rfl | rfl⟩
  · rw [← Int.natCast_add, zsm_nat, zsm_nat, zsm_nat, nsm_add]
  · rw [← Int.sub_eq_add_neg, zsm_sub_nat, zsm_nat, zsm_neg_nat]
  · rw [Int.add_comm, ← Int.sub_eq_add_neg, zsm_sub_nat, zsm_nat, zsm_neg_nat, g_add_comm]
  · rw [show -(k : Int) + -(l : Int) = -((k + l : Nat) : Int) by omega, zsm_neg_nat, zsm_neg_nat, zsm_neg_nat, nsm_add, g_neg_addd]
theorem zsm_addd (n : Int) (a b : M) : zsm n (a + b) = zsm n a + zsm n b := by
  rcases Int.eq_nat_or_neg n with ⟨k, rfl | rfl⟩
  · rw [zsm_nat, zsm_nat, zsm_nat, nsm_addd]
  · rw [zsm_neg_nat, zsm_neg_nat, zsm_neg_nat, nsm_addd, g_neg_addd]
theorem zsm_mul (m n : Int) (a : M) : zsm (m * n) a = zsm m (zsm n a) := by
  rcases Int.eq_nat_or_neg m with ⟨k, rfl | rfl⟩ <;> rcases Int.eq_nat_or_neg n with ⟨l, rfl | rfl⟩
  · rw [← Int.natCast_mul, zsm_nat, zsm_nat, zsm_nat, nsm_mul]
  · rw [Int.mul_neg, ← Int.natCast_mul, zsm_neg_nat, zsm_nat, zsm_neg_nat, nsm_neg, nsm_mul]
  · rw [Int.neg_mul, ← Int.natCast_mul, zsm_neg_nat, zsm_neg_nat, zsm_nat, nsm_mul]
  · rw [Int.neg_mul_neg, ← Int.natCast_mul, zsm_nat, zsm_neg_nat, zsm_neg_nat, nsm_neg, g_neg_neg, nsm_mul]
theorem zsm_zero (a : M) : zsm 0 a = 0 := rfl
theorem zsm_one (a : M) : zsm 1 a = a := nsm_one a
theorem zsm_zero' (n : Int) : zsm n (0 : M) = 0 := by
  rcases Int.eq_nat_or_neg n with ⟨k, rfl | rfl⟩
  · rw [zsm_nat, nsm_zero']
  · rw [zsm_neg_nat, nsm_zero', g_neg_zero]
theorem zsm_two (a : M) : zsm 2 a = a + a := by
  show nsm 2 a = _
  rw [nsm_succ, nsm_one]
end
end Mi
set_option maxHeartbeats 4000000
namespace Mi
open Lean.Grind
section
variable {F : Type} [Field F]
/-! ### the sum of points of a short Weierstrass curve, over any field -/
abbrev Pt (F : Type) := Option (F × F)
def OnC {R : Type} [CommRing R] (a b : R) : Pt R → Prop
  | none => True
  | some (x, y) => y * y = x * x * x + a * x + b
def pneg {R : Type} [CommRing R] : Pt R → Pt R
  | none => none
  | some (x, y) => some (x, -y)
open Classical in
noncomputable def padd (a : F) : Pt F → Pt F → Pt F
  | none, q => q
  | some p, none => some p
  | some (x1, y1), some (x2, y2) =>
    if x1 = x2 ∧ y1 + y2 = 0 then none
    else
      let l := if x1 = x2 then (3 * x1 * x1 + a) * (2 * y1)⁻¹ else (y2 - y1) * (x2 - x1)⁻¹
      some (l * l - x1 - x2, l * (x1 - (l * l - x1 - x2)) - y1)
open Classical in
theorem padd_eq (a x1 y1 x2 y2 : F) : padd a (some (x1, y1)) (some (x2, y2)) = if x1 = x2 ∧ y1 + y2 = 0 then none
    else
      let l := if x1 = x2 then (3 * x1 * x1 + a) * (2 * y1)⁻¹ else (y2 - y1) * (x2 - x1)⁻¹
      some (l * l - x1 - x2, l * (x1 - (l * l - x1 - x2)) - y1) := rfl
/-- l is the slope of the line through both -/
def Slp (a x1 y1 x2 y2 l : F) : Prop := y2 - y1 = l * (x2 - x1) ∧ l * (y1 + y2) = x1 * x1 + x1 * x2 + x2 * x2 + a
theorem f_dom {x y : F} (h : x * y = 0) : x = 0 ∨ y = 0 := by
  by_cases hx : x = 0
  · exact .inl hx
  · refine .inr ?_
    have := Field.mul_inv_cancel hx
    grind
theorem f_cancel {x y : F} (hx : x ≠ 0) (h : x * y = 0) : y = 0 := (f_dom h).resolve_left hx
theorem slp_ex {a b x1 y1 x2 y2 : F} (h2 : (2 : F) ≠ 0) (o1 : OnC a b (some (x1, y1))) (o2 : OnC a b (some (x2, y2))) (hn : ¬ (x1 = x2 ∧ y1 + y2 = 0)) :
    ∃ l, Slp a x1 y1 x2 y2 l ∧ padd a (some (x1, y1)) (some (x2, y2)) = some (l * l - x1 - x2, l * (x1 - (l * l - x1 - x2)) - y1) := by
  have o1 : y1 * y1 = x1 * x1 * x1 + a * x1 + b := o1
  have o2 : y2 * y2 = x2 * x2 * x2 + a * x2 + b := o2
  by_cases hx : x1 = x2
  · subst hx
    have hs : y1 + y2 ≠ 0 := fun e => hn ⟨rfl, e⟩
    have hy : y1 = y2 := by
      have : (y1 + y2) * (y1 - y2) = 0 := by grind
      have := f_cancel hs this
      grind
    subst hy
    have h0 : 2 * y1 ≠ 0 := by grind
    have iv := Field.mul_inv_cancel h0
    refine ⟨(3 * x1 * x1 + a) * (2 * y1)⁻¹, ⟨by grind, by grind⟩, ?_⟩
    rw [padd_eq, if_neg hn, if_pos rfl]
  · have h0 : x2 - x1 ≠ 0 := by grind
    have iv := Field.mul_inv_cancel h0
    refine ⟨(y2 - y1) * (x2 - x1)⁻¹, ⟨by grind, ?_⟩, ?_⟩
    · have : (x2 - x1) * ((y2 - y1) * (x2 - x1)⁻¹ * (y1 + y2) - (x1 * x1 + x1 * x2 + x2 * x2 + a)) = 0 := by grind
      have := f_cancel h0 this
      grind
    · rw [padd_eq, if_neg hn, if_neg hx]
theorem slp_uniq {a b x1 y1 x2 y2 l m : F} (o1 : OnC a b (some (x1, y1))) (o2 : OnC a b (some (x2, y2))) (hn : ¬ (x1 = x2 ∧ y1 + y2 = 0)) (h1 : Slp a x1 y1 x2 y2 l) (h2 : Slp a x1 y1 x2 y2 m) : l = m := by
  obtain ⟨a1, a2⟩ := h1
  obtain ⟨b1, b2⟩ := h2
  by_cases hx : x1 = x2
  · have hs : y1 + y2 ≠ 0 := fun e => hn ⟨hx, e⟩
    have : (y1 + y2) * (l - m) = 0 := by grind
    have := f_cancel hs this
    grind
  · have h0 : x2 - x1 ≠ 0 := by grind
    have : (x2 - x1) * (l - m) = 0 := by grind
    have := f_cancel h0 this
    grind
theorem padd_slp {a b x1 y1 x2 y2 l : F} (h2 : (2 : F) ≠ 0) (o1 : OnC a b (some (x1, y1))) (o2 : OnC a b (some (x2, y2))) (hn : ¬ (x1 = x2 ∧ y1 + y2 = 0)) (h : Slp a x1 y1 x2 y2 l) :
    padd a (some (x1, y1)) (some (x2, y2)) = some (l * l - x1 - x2, l * (x1 - (l * l - x1 - x2)) - y1) := by
  obtain ⟨m, hm, e⟩ := slp_ex h2 o1 o2 hn
  have := slp_uniq o1 o2 hn h hm
  subst this
  exact e
theorem slp_on {a b x1 y1 x2 y2 l : F} (o1 : OnC a b (some (x1, y1))) (h : Slp a x1 y1 x2 y2 l) : OnC a b (some (l * l - x1 - x2, l * (x1 - (l * l - x1 - x2)) - y1)) := by
  have o1 : y1 * y1 = x1 * x1 * x1 + a * x1 + b := o1
  obtain ⟨a1, a2⟩ := h
  show (l * (x1 - (l * l - x1 - x2)) - y1) * (l * (x1 - (l * l - x1 - x2)) - y1) = (l * l - x1 - x2) * (l * l - x1 - x2) * (l * l - x1 - x2) + a * (l * l - x1 - x2) + b
  have e : y2 = y1 + l * (x2 - x1) := by grind
  subst e
  have ea : a = l * (y1 + (y1 + l * (x2 - x1))) - x1 * x1 - x1 * x2 - x2 * x2 := by grind
  subst ea
  grind
theorem on_neg' {a b : F} {P : Pt F} (h : OnC a b P) : OnC a b (pneg P) := by
  cases P with
  | none => exact trivial
  | some p =>
    obtain ⟨x, y⟩ := p
    have h : y * y = x * x * x + a * x + b := h
    show -y * -y = x * x * x + a * x + b
    grind
theorem pneg_pneg (P : Pt F) : pneg (pneg P) = P := by
  cases P with
  | none => rfl
  | some p =>
    obtain ⟨x, y⟩ := p
    show some (x, - -y) = some (x, y)
    rw [show - -y = y by grind]
theorem padd_zero (a : F) (P : Pt F) : padd a P none = P := by
  cases P <;> rfl
theorem zero_padd (a : F) (P : Pt F) : padd a none P = P := rfl
theorem padd_neg (a : F) (P : Pt F) : padd a P (pneg P) = none := by
  cases P with
  | none => rfl
  | some p =>
    obtain ⟨x, y⟩ := p
    show padd a (some (x, y)) (some (x, -y)) = none
    rw [padd_eq, if_pos ⟨rfl, by grind⟩]
theorem neg_padd (a : F) (P : Pt F) : padd a (pneg P) P = none := by
  have := padd_neg a (pneg P)
  rwa [pneg_pneg] at this
theorem padd_none {a : F} {P Q : Pt F} (h : padd a P Q = none) : Q = pneg P := by
  cases P with
  | none => exact h
  | some p =>
    cases Q with
    | none => cases h
    | some q =>
      obtain ⟨x1, y1⟩ := p
      obtain ⟨x2, y2⟩ := q
      rw [padd_eq] at h
      by_cases c : x1 = x2 ∧ y1 + y2 = 0
      · show some (x2, y2) = some (x1, -y1)
        rw [c.1, show y2 = -y1 by grind]
      · rw [if_neg c] at h
        cases h
theorem padd_on {a b : F} (h2 : (2 : F) ≠ 0) {P Q : Pt F} (hP : OnC a b P) (hQ : OnC a b Q) : OnC a b (padd a P Q) := by
  cases P with
  | none => exact hQ
  | some p =>
    cases Q with
    | none => exact hP
    | some q =>
      obtain ⟨x1, y1⟩ := p
      obtain ⟨x2, y2⟩ := q
      by_cases c : x1 = x2 ∧ y1 + y2 = 0
      · rw [padd_eq, if_pos c]; exact trivial
      · obtain ⟨l, s, e⟩ := slp_ex h2 hP hQ c
        rw [e]
        exact slp_on hP s
theorem slp_symm {a x1 y1 x2 y2 l : F} (h : Slp a x1 y1 x2 y2 l) : Slp a x2 y2 x1 y1 l := by
  obtain ⟨a1, a2⟩ := h
  exact ⟨by grind, by grind⟩
theorem padd_comm {a b : F} (h2 : (2 : F) ≠ 0) {P Q : Pt F} (hP : OnC a b P) (hQ : OnC a b Q) : padd a P Q = padd a Q P := by
  cases P with
  | none => exact (padd_zero a Q).symm
  | some p =>
    cases Q with
    | none => rfl
    | some q =>
      obtain ⟨x1, y1⟩ := p
      obtain ⟨x2, y2⟩ := q
      by_cases c : x1 = x2 ∧ y1 + y2 = 0
      · have c' : x2 = x1 ∧ y2 + y1 = 0 := ⟨c.1.symm, by have := c.2; grind⟩
        rw [padd_eq, padd_eq, if_pos c, if_pos c']
      · have c' : ¬ (x2 = x1 ∧ y2 + y1 = 0) := fun z => c ⟨z.1.symm, by have := z.2; grind⟩
        obtain ⟨l, s, e⟩ := slp_ex h2 hP hQ c
        rw [e, padd_slp h2 hQ hP c' (slp_symm s), show l * l - x2 - x1 = l * l - x1 - x2 by grind]
        have := s.1
        congr 2
        grind
theorem pneg_padd {a b : F} (h2 : (2 : F) ≠ 0) {P Q : Pt F} (hP : OnC a b P) (hQ : OnC a b Q) : pneg (padd a P Q) = padd a (pneg P) (pneg Q) := by
  cases P with
  | none => rfl
  | some p =>
    cases Q with
    | none => rfl
    | some q =>
      obtain ⟨x1, y1⟩ := p
      obtain ⟨x2, y2⟩ := q
      by_cases c : x1 = x2 ∧ y1 + y2 = 0
      · have c' : x1 = x2 ∧ -y1 + -y2 = 0 := ⟨c.1, by have := c.2; grind⟩
        show pneg (padd a (some (x1, y1)) (some (x2, y2))) = padd a (some (x1, -y1)) (some (x2, -y2))
        rw [padd_eq, padd_eq, if_pos c, if_pos c']; rfl
      · have c' : ¬ (x1 = x2 ∧ -y1 + -y2 = 0) := fun z => c ⟨z.1, by have := z.2; grind⟩
        obtain ⟨l, s, e⟩ := slp_ex h2 hP hQ c
        have s' : Slp a x1 (-y1) x2 (-y2) (-l) := ⟨by have := s.1; grind, by have := s.2; grind⟩
        have e' := padd_slp h2 (on_neg' hP) (on_neg' hQ) c' s'
        show pneg (padd a (some (x1, y1)) (some (x2, y2))) = padd a (some (x1, -y1)) (some (x2, -y2))
        rw [e, e', show -l * -l = l * l by grind]
        show some (_, _) = some (_, _)
        congr 2
        grind
/-- the curve has no double point -/
def NoSing {R : Type} [CommRing R] (a b : R) : Prop := 4 * a * a * a + 27 * b * b ≠ 0
theorem NoSing.ns {a b x : F} (h : NoSing a b) (o : OnC a b (some (x, 0))) (hd : 3 * x * x + a = 0) : False := by
  have o : (0 : F) * 0 = x * x * x + a * x + b := o
  apply h
  have ea : a = -(3 * x * x) := by grind
  have eb : b = 2 * x * x * x := by grind
  subst ea eb
  grind
theorem padd_cancel {a b : F} (h2 : (2 : F) ≠ 0) (N : NoSing a b) {P Q : Pt F} (hP : OnC a b P) (hQ : OnC a b Q) : padd a (padd a P Q) (pneg Q) = P := by
  cases P with
  | none => exact padd_neg a Q
  | some p =>
    cases Q with
    | none => rfl
    | some q =>
      obtain ⟨x1, y1⟩ := p
      obtain ⟨x2, y2⟩ := q
      by_cases c : x1 = x2 ∧ y1 + y2 = 0
      · have : padd a (some (x1, y1)) (some (x2, y2)) = none := by rw [padd_eq, if_pos c]
        rw [this]
        show some (x2, -y2) = some (x1, y1)
        rw [c.1, show y1 = -y2 by have := c.2; grind]
      · obtain ⟨l, s, e⟩ := slp_ex h2 hP hQ c
        have o3 := slp_on hP s
        rw [e]
        obtain ⟨s1, s2⟩ := s
        have oq : y2 * y2 = x2 * x2 * x2 + a * x2 + b := hQ
        generalize hx3 : l * l - x1 - x2 = x3 at *
        generalize hy3 : l * (x1 - x3) - y1 = y3 at *
        have s' : Slp a x3 y3 x2 (-y2) (-l) := by
          refine ⟨by grind, ?_⟩
          have : l * (y2 - y3) = x3 * x3 + x3 * x2 + x2 * x2 + a := by
            have e3 : y3 = l * (x2 - x3) - y2 := by grind
            have ea : a = l * (y1 + y2) - x1 * x1 - x1 * x2 - x2 * x2 := by grind
            have e1 : y1 = y2 - l * (x2 - x1) := by grind
            have ex : x1 = l * l - x2 - x3 := by grind
            subst e3 ea e1 ex
            grind
          grind
        have c' : ¬ (x3 = x2 ∧ y3 + -y2 = 0) := by
          intro z
          obtain ⟨z1, z2⟩ := z
          have t1 : 2 * y2 = 0 := by
            have := s'.1
            subst z1
            grind
          have y0 : y2 = 0 := f_cancel h2 t1
          have t2 := s'.2
          subst z1
          subst y0
          exact N.ns hQ (by grind)
        show padd a (some (x3, y3)) (some (x2, -y2)) = _
        rw [padd_slp h2 o3 (on_neg' hQ) c' s', show -l * -l - x3 - x2 = x1 by grind]
        congr 2
        grind
theorem padd_inj {a b : F} (h2 : (2 : F) ≠ 0) (N : NoSing a b) {P P' Q : Pt F} (hP : OnC a b P) (hP' : OnC a b P') (hQ : OnC a b Q) (e : padd a P Q = padd a P' Q) : P = P' := by
  rw [← padd_cancel h2 N hP hQ, e, padd_cancel h2 N hP' hQ]
/-! ### associativity -/
theorem as_x {x1 x2 x3 y2 l m N1 N2 D1 D2 : F}
  (E : 2 * y2 * (l - m) = m * m * (x3 - x2) - l * l * (x1 - x2) + x1 * x1 + x1 * x2 - x2 * x3 - x3 * x3)
  (hD1 : D1 = x3 - (l * l - x1 - x2)) (hD2 : D2 = x1 - (m * m - x2 - x3))
  (hN1 : N1 = 2 * y2 + m * (x3 - x2) - l * (x2 - (l * l - x1 - x2)))
  (hN2 : N2 = 2 * y2 + l * (x1 - x2) - m * (x2 - (m * m - x2 - x3))) :
  N1 * N1 * D2 * D2 - N2 * N2 * D1 * D1 = (l * l - m * m + 2 * x3 - 2 * x1) * D1 * D1 * D2 * D2 := by
  subst hD1 hD2 hN1 hN2
  grind
theorem as_y {x1 x2 x3 y1 y2 y3 l m N1 N2 D1 D2 : F}
  (E : 2 * y2 * (l - m) = m * m * (x3 - x2) - l * l * (x1 - x2) + x1 * x1 + x1 * x2 - x2 * x3 - x3 * x3)
  (hD1 : D1 = x3 - (l * l - x1 - x2)) (hD2 : D2 = x1 - (m * m - x2 - x3))
  (hN1 : N1 = 2 * y2 + m * (x3 - x2) - l * (x2 - (l * l - x1 - x2)))
  (hN2 : N2 = 2 * y2 + l * (x1 - x2) - m * (x2 - (m * m - x2 - x3)))
  (h1 : y1 = y2 + l * (x1 - x2)) (h3 : y3 = y2 + m * (x3 - x2)) :
  N1 * D2 * (2 * x3 * D1 * D1 + (l * l - x1 - x2) * D1 * D1 - N1 * N1) - N2 * D1 * (x1 * D1 * D1 + x3 * D1 * D1 + (l * l - x1 - x2) * D1 * D1 - N1 * N1) = (y3 - y1) * D1 * D1 * D1 * D2 := by
  subst hD1 hD2 hN1 hN2 h1 h3
  grind
theorem xx_aux {l m l2 m2 D1 D2 x1 x3 : F} (X : l2 * D1 * (l2 * D1) * D2 * D2 - m2 * D2 * (m2 * D2) * D1 * D1 = (l * l - m * m + 2 * x3 - 2 * x1) * D1 * D1 * D2 * D2) :
    D1 * (D1 * (D2 * (D2 * (l2 * l2 - m2 * m2 - (l * l - m * m + 2 * x3 - 2 * x1))))) = 0 := by grind
theorem xx_aux2 {l m l2 m2 x1 x2 x3 x4 x6 : F} (e : l2 * l2 - m2 * m2 - (l * l - m * m + 2 * x3 - 2 * x1) = 0) (h4 : l * l - x1 - x2 = x4) (h6 : m * m - x2 - x3 = x6) : l2 * l2 - x4 - x3 = m2 * m2 - x1 - x6 := by grind
theorem yy_aux2 {l2 m2 x1 x3 x4 y1 y3 y4 x : F} (e : l2 * (x3 - x) - m2 * (x1 - x) - (y3 - y1) = 0) (u1 : y3 - y4 = l2 * (x3 - x4)) : l2 * (x4 - x) - y4 = m2 * (x1 - x) - y1 := by grind
theorem yy_aux {l2 m2 D1 D2 x1 x3 x4 y1 y3 : F} (Y : l2 * D1 * D2 * (2 * x3 * D1 * D1 + x4 * D1 * D1 - l2 * D1 * (l2 * D1)) - m2 * D2 * D1 * (x1 * D1 * D1 + x3 * D1 * D1 + x4 * D1 * D1 - l2 * D1 * (l2 * D1)) = (y3 - y1) * D1 * D1 * D1 * D2) :
    D1 * (D1 * (D1 * (D2 * (l2 * (x3 - (l2 * l2 - x4 - x3)) - m2 * (x1 - (l2 * l2 - x4 - x3)) - (y3 - y1))))) = 0 := by grind
theorem as_gen {a b x1 y1 x2 y2 x3 y3 x4 y4 x6 y6 : F} (h2 : (2 : F) ≠ 0) (o1 : OnC a b (some (x1, y1))) (o2 : OnC a b (some (x2, y2))) (o3 : OnC a b (some (x3, y3)))
    (eS : padd a (some (x1, y1)) (some (x2, y2)) = some (x4, y4)) (eT : padd a (some (x2, y2)) (some (x3, y3)) = some (x6, y6)) (n1 : x4 ≠ x3) (n2 : x1 ≠ x6) :
    padd a (some (x4, y4)) (some (x3, y3)) = padd a (some (x1, y1)) (some (x6, y6)) := by
  have c1 : ¬ (x1 = x2 ∧ y1 + y2 = 0) := fun z => by rw [padd_eq, if_pos z] at eS; cases eS
  have c2 : ¬ (x2 = x3 ∧ y2 + y3 = 0) := fun z => by rw [padd_eq, if_pos z] at eT; cases eT
  have o4 : OnC a b (some (x4, y4)) := by rw [← eS]; exact padd_on h2 o1 o2
  have o6 : OnC a b (some (x6, y6)) := by rw [← eT]; exact padd_on h2 o2 o3
  obtain ⟨l, sl, el⟩ := slp_ex h2 o1 o2 c1
  obtain ⟨m, sm, em⟩ := slp_ex h2 o2 o3 c2
  have c3 : ¬ (x4 = x3 ∧ y4 + y3 = 0) := fun z => n1 z.1
  have c4 : ¬ (x1 = x6 ∧ y1 + y6 = 0) := fun z => n2 z.1
  obtain ⟨l2, sl2, el2⟩ := slp_ex h2 o4 o3 c3
  obtain ⟨m2, sm2, em2⟩ := slp_ex h2 o1 o6 c4
  rw [el2, em2]
  rw [el] at eS
  rw [em] at eT
  have e4 := Option.some.inj eS
  have e6 := Option.some.inj eT
  have x4e : l * l - x1 - x2 = x4 := congrArg Prod.fst e4
  have y4e := congrArg Prod.snd e4
  have x6e : m * m - x2 - x3 = x6 := congrArg Prod.fst e6
  have y6e := congrArg Prod.snd e6
  dsimp only at y4e y6e
  rw [x4e] at y4e
  rw [x6e] at y6e
  clear eS eT e4 e6 el em el2 em2 o1 o2 o3 o4 o6 c1 c2 c3 c4
  obtain ⟨s1, s2⟩ := sl
  obtain ⟨t1, t2⟩ := sm
  have u1 := sl2.1
  have v1 := sm2.1
  clear sl2 sm2
  have h1 : y1 = y2 + l * (x1 - x2) := by grind
  have h3 : y3 = y2 + m * (x3 - x2) := by grind
  have E : 2 * y2 * (l - m) = m * m * (x3 - x2) - l * l * (x1 - x2) + x1 * x1 + x1 * x2 - x2 * x3 - x3 * x3 := by
    have q : l * (y1 + y2) - m * (y2 + y3) = x1 * x1 + x1 * x2 - x2 * x3 - x3 * x3 := by grind
    rw [h1, h3] at q
    grind
  have hD1 : x3 - x4 = x3 - (l * l - x1 - x2) := by rw [x4e]
  have hD2 : x1 - x6 = x1 - (m * m - x2 - x3) := by rw [x6e]
  have hN1 : l2 * (x3 - x4) = 2 * y2 + m * (x3 - x2) - l * (x2 - (l * l - x1 - x2)) := by rw [x4e]; grind
  have hN2 : m2 * (x1 - x6) = 2 * y2 + l * (x1 - x2) - m * (x2 - (m * m - x2 - x3)) := by rw [x6e]; grind
  have X := as_x E hD1 hD2 hN1 hN2
  have Y := as_y E hD1 hD2 hN1 hN2 h1 h3
  rw [x4e] at Y
  have d1 : x3 - x4 ≠ 0 := by grind
  have d2 : x1 - x6 ≠ 0 := by grind
  generalize hp : x3 - x4 = D1 at *
  generalize hq : x1 - x6 = D2 at *
  have xx : l2 * l2 - x4 - x3 = m2 * m2 - x1 - x6 := xx_aux2 (f_cancel d2 (f_cancel d2 (f_cancel d1 (f_cancel d1 (xx_aux X))))) x4e x6e
  have yy : l2 * (x4 - (l2 * l2 - x4 - x3)) - y4 = m2 * (x1 - (m2 * m2 - x1 - x6)) - y1 := by
    rw [← xx]
    exact yy_aux2 (f_cancel d2 (f_cancel d1 (f_cancel d1 (f_cancel d1 (yy_aux Y))))) (by rw [hp]; exact u1)
  rw [yy, xx]
/-- (P+P)+R, but for one case -/
theorem as_dbl0 {a b : F} (h2 : (2 : F) ≠ 0) (N : NoSing a b) {P R : Pt F} (hP : OnC a b P) (hR : OnC a b R) (hn : padd a P P ≠ R) : padd a (padd a P P) R = padd a P (padd a P R) := by
  have nP := on_neg' hP
  have PP := padd_on h2 hP hP
  have nPP := padd_on h2 nP nP
  -- what is trivial
  by_cases e1 : padd a P P = none
  · have q := padd_none e1
    rw [e1, zero_padd]
    have : padd a P (padd a P R) = padd a (padd a R P) (pneg P) := by
      rw [padd_comm h2 hP (padd_on h2 hP hR), padd_comm h2 hP hR]
      rw [← q]
    rw [this, padd_cancel h2 N hR hP]
  by_cases e2 : padd a P R = none
  · have q := padd_none e2
    rw [e2, padd_zero, q]
    exact padd_cancel h2 N hP hP
  by_cases e3 : padd a (padd a P P) R = none
  · have q := padd_none e3
    rw [e3, q, pneg_padd h2 hP hP]
    have : padd a P (padd a (pneg P) (pneg P)) = pneg P := by
      rw [padd_comm h2 hP nPP]
      have := padd_cancel h2 N nP nP
      rwa [pneg_pneg] at this
    rw [this, padd_neg]
  by_cases e4 : padd a P (padd a P R) = none
  · have q := padd_none e4
    have : R = padd a (pneg P) (pneg P) := by
      have t := padd_cancel h2 N hR hP
      rw [padd_comm h2 hR hP, q] at t
      exact t.symm
    rw [e4, this, ← pneg_padd h2 hP hP, padd_neg]
  cases P with
  | none => rfl
  | some p =>
    cases R with
    | none => rw [padd_zero, padd_zero]
    | some r =>
      obtain ⟨x1, y1⟩ := p
      obtain ⟨x3, y3⟩ := r
      cases eS : padd a (some (x1, y1)) (some (x1, y1)) with
      | none => exact absurd eS e1
      | some s =>
        cases eT : padd a (some (x1, y1)) (some (x3, y3)) with
        | none => exact absurd eT e2
        | some t =>
          obtain ⟨x4, y4⟩ := s
          obtain ⟨x6, y6⟩ := t
          rw [eS] at e3 hn
          rw [eT] at e4
          have o4 : OnC a b (some (x4, y4)) := by rw [← eS]; exact PP
          have o6 : OnC a b (some (x6, y6)) := by rw [← eT]; exact padd_on h2 hP hR
          have same : ∀ {x y y' : F}, OnC a b (some (x, y)) → OnC a b (some (x, y')) → y = y' ∨ y + y' = 0 := by
            intro x y y' p q
            have p : y * y = x * x * x + a * x + b := p
            have q : y' * y' = x * x * x + a * x + b := q
            have : (y - y') * (y + y') = 0 := by grind
            rcases f_dom this with h | h
            · exact .inl (by grind)
            · exact .inr h
          have n1 : x4 ≠ x3 := by
            intro z
            subst z
            rcases same o4 hR with h | h
            · subst h; exact hn rfl
            · exact e3 (by rw [padd_eq, if_pos ⟨rfl, h⟩])
          have n2 : x1 ≠ x6 := by
            intro z
            subst z
            rcases same hP o6 with h | h
            · subst h
              -- P + R = P
              have q : padd a (some (x3, y3)) (some (x1, y1)) = padd a none (some (x1, y1)) := by
                rw [padd_comm h2 hR hP, eT]; rfl
              have := padd_inj h2 N hR (show OnC a b none from trivial) hP q
              cases this
            · exact e4 (by rw [padd_eq, if_pos ⟨rfl, h⟩])
          exact as_gen h2 hP hP hR eS eT n1 n2
theorem as_dbl {a b : F} (h2 : (2 : F) ≠ 0) (N : NoSing a b) {P R : Pt F} (hP : OnC a b P) (hR : OnC a b R) : padd a (padd a P P) R = padd a P (padd a P R) := by
  by_cases hn : padd a P P = R
  · subst hn
    have nP := on_neg' hP
    have hS := hR
    generalize eS : padd a P P = S at *
    -- S + -P = P
    have c0 : padd a S (pneg P) = P := by rw [← eS]; exact padd_cancel h2 N hP hP
    have key : padd a (padd a S S) (pneg P) = padd a S P := by
      by_cases h : padd a S S = pneg P
      · rw [h, ← pneg_padd h2 hP hP, eS]
        have c1 := padd_cancel h2 N hS hS
        rw [h] at c1
        have c1 := congrArg pneg c1
        rw [pneg_padd h2 nP (on_neg' hS), pneg_pneg, pneg_pneg, padd_comm h2 hP hS] at c1
        exact c1.symm
      · rw [as_dbl0 h2 N hS nP h, c0]
    have c2 := padd_cancel h2 N (padd_on h2 hS hS) nP
    rw [key, pneg_pneg] at c2
    rw [← c2, padd_comm h2 hP (padd_on h2 hP hS), padd_comm h2 hP hS]
  · exact as_dbl0 h2 N hP hR hn
theorem padd_assoc {a b : F} (h2 : (2 : F) ≠ 0) (N : NoSing a b) {P Q R : Pt F} (hP : OnC a b P) (hQ : OnC a b Q) (hR : OnC a b R) : padd a (padd a P Q) R = padd a P (padd a Q R) := by
  have nP := on_neg' hP
  have nQ := on_neg' hQ
  have nR := on_neg' hR
  have PQ := padd_on h2 hP hQ
  have QR := padd_on h2 hQ hR
  by_cases e1 : padd a P Q = none
  · have q := padd_none e1
    rw [e1, zero_padd, q, padd_comm h2 hP (padd_on h2 nP hR), padd_comm h2 nP hR]
    have := padd_cancel h2 N hR nP
    rw [pneg_pneg] at this
    exact this.symm
  by_cases e2 : padd a Q R = none
  · have q := padd_none e2
    rw [e2, padd_zero, q]
    exact padd_cancel h2 N hP hQ
  by_cases e3 : padd a (padd a P Q) R = none
  · have q := padd_none e3
    rw [e3, q, pneg_padd h2 hP hQ]
    have : padd a Q (padd a (pneg P) (pneg Q)) = pneg P := by
      rw [padd_comm h2 hQ (padd_on h2 nP nQ)]
      have := padd_cancel h2 N nP nQ
      rwa [pneg_pneg] at this
    rw [this, padd_neg]
  by_cases e4 : padd a P (padd a Q R) = none
  · have q := padd_none e4
    have : padd a P Q = pneg R := by
      have t : P = pneg (padd a Q R) := by rw [q, pneg_pneg]
      rw [t, pneg_padd h2 hQ hR, padd_comm h2 nQ nR]
      have := padd_cancel h2 N nR nQ
      rwa [pneg_pneg] at this
    rw [e4, this, neg_padd]
  by_cases d1 : P = Q
  · subst d1; exact as_dbl h2 N hP hR
  by_cases d2 : Q = R
  · subst d2
    have := as_dbl h2 N hQ hP
    rw [padd_comm h2 hP (padd_on h2 hQ hQ), this, padd_comm h2 (padd_on h2 hP hQ) hQ, padd_comm h2 hP hQ]
  by_cases d3 : padd a P Q = R
  · rw [d3]
    -- (R + R) + -P = R + Q
    have t := as_dbl h2 N hR nP
    have u : padd a R (pneg P) = Q := by
      rw [← d3, padd_comm h2 hP hQ]; exact padd_cancel h2 N hQ hP
    rw [u] at t
    have c := padd_cancel h2 N (padd_on h2 hR hR) nP
    rw [t, pneg_pneg] at c
    rw [← c, padd_comm h2 hP QR, padd_comm h2 hQ hR]
  by_cases d4 : P = padd a Q R
  · rw [← d4]
    have t := as_dbl h2 N hP nR
    have u : padd a P (pneg R) = Q := by
      rw [d4]; exact padd_cancel h2 N hQ hR
    rw [u] at t
    have c := padd_cancel h2 N (padd_on h2 hP hP) nR
    rw [t, pneg_pneg] at c
    exact c
  cases P with
  | none => rfl
  | some p =>
  cases R with
  | none => rw [padd_zero, padd_zero]
  | some r =>
  cases Q with
  | none => rw [padd_zero, zero_padd]
  | some q =>
    obtain ⟨x1, y1⟩ := p
    obtain ⟨x2, y2⟩ := q
    obtain ⟨x3, y3⟩ := r
    cases eS : padd a (some (x1, y1)) (some (x2, y2)) with
    | none => exact absurd eS e1
    | some s =>
      cases eT : padd a (some (x2, y2)) (some (x3, y3)) with
      | none => exact absurd eT e2
      | some t =>
        obtain ⟨x4, y4⟩ := s
        obtain ⟨x6, y6⟩ := t
        rw [eS] at e3 d3
        rw [eT] at e4 d4
        have o4 : OnC a b (some (x4, y4)) := by rw [← eS]; exact PQ
        have o6 : OnC a b (some (x6, y6)) := by rw [← eT]; exact QR
        have same : ∀ {x y y' : F}, OnC a b (some (x, y)) → OnC a b (some (x, y')) → y = y' ∨ y + y' = 0 := by
          intro x y y' p q
          have p : y * y = x * x * x + a * x + b := p
          have q : y' * y' = x * x * x + a * x + b := q
          have : (y - y') * (y + y') = 0 := by grind
          rcases f_dom this with h | h
          · exact .inl (by grind)
          · exact .inr h
        have n1 : x4 ≠ x3 := by
          intro z
          subst z
          rcases same o4 hR with h | h
          · subst h; exact d3 rfl
          · exact e3 (by rw [padd_eq, if_pos ⟨rfl, h⟩])
        have n2 : x1 ≠ x6 := by
          intro z
          subst z
          rcases same hP o6 with h | h
          · subst h; exact d4 rfl
          · exact e4 (by rw [padd_eq, if_pos ⟨rfl, h⟩])
        exact as_gen h2 hP hQ hR eS eT n1 n2
end
end Mi
set_option maxHeartbeats 1000000
namespace Mi
/-! ### the group of a short Weierstrass curve over residues -/
structure Cv where
  p : Nat
  a : Int
  b : Int
  pr : IsP p
  ge : 5 ≤ p
  a0 : 0 ≤ a
  a1 : a < p
  b0 : 0 ≤ b
  b1 : b < p
  ns : NoSing (zm p a) (zm p b)
instance (C : Cv) : Prm C.p := ⟨C.pr⟩
theorem Cv.two (C : Cv) : (2 : Zp C.p) ≠ 0 := z_ne_num 2 (by decide) (by have := C.ge; omega)
theorem Cv.three (C : Cv) : (3 : Zp C.p) ≠ 0 := z_ne_num 3 (by decide) (by have := C.ge; omega)
structure Cv.Pt (C : Cv) where
  v : Mi.Pt (Zp C.p)
  on : OnC (zm C.p C.a) (zm C.p C.b) v
theorem Cv.ext {C : Cv} {P Q : C.Pt} (h : P.v = Q.v) : P = Q := by cases P; cases Q; cases h; rfl
noncomputable instance (C : Cv) : Add C.Pt := ⟨fun P Q => ⟨padd (zm C.p C.a) P.v Q.v, padd_on C.two P.on Q.on⟩⟩
instance (C : Cv) : Zero C.Pt := ⟨⟨none, trivial⟩⟩
noncomputable instance (C : Cv) : Neg C.Pt := ⟨fun P => ⟨pneg P.v, on_neg' P.on⟩⟩
noncomputable instance (C : Cv) : Sub C.Pt := ⟨fun P Q => P + -Q⟩
noncomputable instance (C : Cv) : Lean.Grind.AddCommGroup C.Pt where
  add_zero := fun P => Cv.ext (padd_zero _ P.v)
  add_comm := fun P Q => Cv.ext (padd_comm C.two P.on Q.on)
  add_assoc := fun P Q R => Cv.ext (padd_assoc C.two C.ns P.on Q.on R.on)
  neg_add_cancel := fun P => Cv.ext (neg_padd _ P.v)
  sub_eq_add_neg := fun P Q => rfl
end Mi
set_option maxHeartbeats 4000000
namespace Mi
open PySem PySem.Spec L2
def topS (i : Nat) : Stmt := PySem.Challenge.pw_curveseal_k11_multiples_of_points.main.body.getD i (.Pass ⟨0, 0, 0, 0⟩)

structure O_Curve where
  f_prime : Int
  f_a : Int
  f_b : Int
instance : ToD O_Curve := ⟨fun x => .obj "Curve" ["prime", "a", "b"] [toD x.f_prime, toD x.f_a, toD x.f_b]⟩
abbrev s_multiply_by_bits : Stmt := topS 2
theorem sc_multiply_by_bits : FnScope ["curve", "neutral", "factor", "point", "result", "doubled", "rest"] ["curve", "neutral", "factor", "point"] (defScope s_multiply_by_bits) := ⟨rfl, rfl, rfl, by decide +kernel, rfl, by decide +kernel, by decide +kernel⟩
abbrev s_bezout : Stmt := topS 13
theorem sc_bezout : FnScope ["a", "b", "first", "second", "times", "rest"] ["a", "b"] (defScope s_bezout) := ⟨rfl, rfl, rfl, by decide +kernel, rfl, by decide +kernel, by decide +kernel⟩
abbrev s_inverse : Stmt := topS 14
theorem sc_inverse : FnScope ["a", "modulus", "divisor", "factor", "_"] ["a", "modulus"] (defScope s_inverse) := ⟨rfl, rfl, rfl, by decide +kernel, rfl, by decide +kernel, by decide +kernel⟩
abbrev s_Curve_init : Stmt := inClass (topS 16) 0
theorem sc_Curve_init : FnScope ["self", "prime", "a", "b"] ["self", "prime", "a", "b"] (defScope s_Curve_init) := ⟨rfl, rfl, rfl, by decide +kernel, rfl, by decide +kernel, by decide +kernel⟩
abbrev s_Curve_negate : Stmt := inClass (topS 16) 3
theorem sc_Curve_negate : FnScope ["self", "point"] ["self", "point"] (defScope s_Curve_negate) := ⟨rfl, rfl, rfl, by decide +kernel, rfl, by decide +kernel, by decide +kernel⟩
abbrev s_Curve_add : Stmt := inClass (topS 16) 4
theorem sc_Curve_add : FnScope ["self", "first", "second", "slope", "x"] ["self", "first", "second"] (defScope s_Curve_add) := ⟨rfl, rfl, rfl, by decide +kernel, rfl, by decide +kernel, by decide +kernel⟩
abbrev s_Curve_u_slope : Stmt := inClass (topS 16) 5
theorem sc_Curve_u_slope : FnScope ["self", "first", "second", "rise", "run"] ["self", "first", "second"] (defScope s_Curve_u_slope) := ⟨rfl, rfl, rfl, by decide +kernel, rfl, by decide +kernel, by decide +kernel⟩
abbrev s_Curve_multiply : Stmt := inClass (topS 16) 7
theorem sc_Curve_multiply : FnScope ["self", "factor", "point"] ["self", "factor", "point"] (defScope s_Curve_multiply) := ⟨rfl, rfl, rfl, by decide +kernel, rfl, by decide +kernel, by decide +kernel⟩
abbrev s_u_law_cell : Stmt := topS 18
theorem sc_u_law_cell : FnScope ["script", "k"] ["script", "k"] (defScope s_u_law_cell) := ⟨rfl, rfl, rfl, by decide +kernel, rfl, by decide +kernel, by decide +kernel⟩
abbrev s_u_law_is_integer : Stmt := topS 19
theorem sc_u_law_is_integer : FnScope ["actual"] ["actual"] (defScope s_u_law_is_integer) := ⟨rfl, rfl, rfl, by decide +kernel, rfl, by decide +kernel, by decide +kernel⟩
abbrev s_u_law_is_prime : Stmt := topS 20
theorem sc_u_law_is_prime : FnScope ["n", "divisor", "k"] ["n"] (defScope s_u_law_is_prime) := ⟨rfl, rfl, rfl, by decide +kernel, rfl, by decide +kernel, by decide +kernel⟩
abbrev s_u_law_prime : Stmt := topS 21
theorem sc_u_law_prime : FnScope ["cell", "least", "rest", "number", "k"] ["cell", "least"] (defScope s_u_law_prime) := ⟨rfl, rfl, rfl, by decide +kernel, rfl, by decide +kernel, by decide +kernel⟩
abbrev s_u_law_power : Stmt := topS 22
theorem sc_u_law_power : FnScope ["a", "exponent", "modulus", "result", "square", "k"] ["a", "exponent", "modulus"] (defScope s_u_law_power) := ⟨rfl, rfl, rfl, by decide +kernel, rfl, by decide +kernel, by decide +kernel⟩
abbrev s_u_law_inverse : Stmt := topS 23
theorem sc_u_law_inverse : FnScope ["a", "prime"] ["a", "prime"] (defScope s_u_law_inverse) := ⟨rfl, rfl, rfl, by decide +kernel, rfl, by decide +kernel, by decide +kernel⟩
abbrev s_u_law_residue : Stmt := topS 24
theorem sc_u_law_residue : FnScope ["cell", "prime", "rest"] ["cell", "prime"] (defScope s_u_law_residue) := ⟨rfl, rfl, rfl, by decide +kernel, rfl, by decide +kernel, by decide +kernel⟩
abbrev s_u_law_curve_and_points : Stmt := topS 25
theorem sc_u_law_curve_and_points : FnScope ["script", "at", "prime", "x1", "y1", "x2", "y2", "a", "b"] ["script", "at", "prime"] (defScope s_u_law_curve_and_points) := ⟨rfl, rfl, rfl, by decide +kernel, rfl, by decide +kernel, by decide +kernel⟩
abbrev s_u_law_add : Stmt := topS 26
theorem sc_u_law_add : FnScope ["prime", "a", "first", "second", "x1", "y1", "x2", "y2", "slope", "x3"] ["prime", "a", "first", "second"] (defScope s_u_law_add) := ⟨rfl, rfl, rfl, by decide +kernel, rfl, by decide +kernel, by decide +kernel⟩
abbrev s_u_law_on : Stmt := topS 27
theorem sc_u_law_on : FnScope ["prime", "a", "b", "point", "x", "y"] ["prime", "a", "b", "point"] (defScope s_u_law_on) := ⟨rfl, rfl, rfl, by decide +kernel, rfl, by decide +kernel, by decide +kernel⟩
abbrev s_u_law_singular : Stmt := topS 28
theorem sc_u_law_singular : FnScope ["prime", "a", "b"] ["prime", "a", "b"] (defScope s_u_law_singular) := ⟨rfl, rfl, rfl, by decide +kernel, rfl, by decide +kernel, by decide +kernel⟩
abbrev s_u_law_factor : Stmt := topS 29
theorem sc_u_law_factor : FnScope ["cell", "rest"] ["cell"] (defScope s_u_law_factor) := ⟨rfl, rfl, rfl, by decide +kernel, rfl, by decide +kernel, by decide +kernel⟩
abbrev s_law : Stmt := topS 30
theorem sc_law : FnScope ["script", "prime", "a", "b", "first", "second", "curve", "m", "n", "small", "total", "k", "one", "other", "whole"] ["script"] (defScope s_law) := ⟨rfl, rfl, rfl, by decide +kernel, rfl, by decide +kernel, by decide +kernel⟩
def errs : List Str := ["CurveError", "OutOfRange", "NoInverse", "Refused"]
def ancE : List (Str × List Str) := [("CurveError", ["CurveError"]), ("OutOfRange", ["OutOfRange", "CurveError"]), ("NoInverse", ["NoInverse", "CurveError"]), ("Refused", ["Refused", "CurveError"])]
def subE (c d : Str) : Bool := match ancE.lookup c with | some l => decide (d ∈ l) | none => false
abbrev FnP (K : PySem.W.Frag) (x q : Str) (st : Stmt) (f : Addr) (fd : FuncData) : Prop := FunD K x q (defArgs st) (defBody st) (defScope st) [] [] f fd
structure Facts (K : PySem.W.Frag) (mg : Str → Option Value) : Prop where
  d_multiply_by_bits : ∃ fd, FnP K "multiply_by_bits" "multiply_by_bits" s_multiply_by_bits (He.ga K "multiply_by_bits") fd
  g_multiply_by_bits : mg "multiply_by_bits" = some (.ref (He.ga K "multiply_by_bits"))
  d_bezout : ∃ fd, FnP K "bezout" "bezout" s_bezout (He.ga K "bezout") fd
  g_bezout : mg "bezout" = some (.ref (He.ga K "bezout"))
  d_inverse : ∃ fd, FnP K "inverse" "inverse" s_inverse (He.ga K "inverse") fd
  g_inverse : mg "inverse" = some (.ref (He.ga K "inverse"))
  d_Curve_init : ∃ fd, FnP K "__init__" "Curve.__init__" s_Curve_init (He.ma K (He.ga K "Curve") "__init__") fd
  d_Curve_negate : ∃ fd, FnP K "negate" "Curve.negate" s_Curve_negate (He.ma K (He.ga K "Curve") "negate") fd
  d_Curve_add : ∃ fd, FnP K "add" "Curve.add" s_Curve_add (He.ma K (He.ga K "Curve") "add") fd
  d_Curve_u_slope : ∃ fd, FnP K "_slope" "Curve._slope" s_Curve_u_slope (He.ma K (He.ga K "Curve") "_slope") fd
  d_Curve_multiply : ∃ fd, FnP K "multiply" "Curve.multiply" s_Curve_multiply (He.ma K (He.ga K "Curve") "multiply") fd
  d_u_law_cell : ∃ fd, FnP K "_law_cell" "_law_cell" s_u_law_cell (He.ga K "_law_cell") fd
  g_u_law_cell : mg "_law_cell" = some (.ref (He.ga K "_law_cell"))
  d_u_law_is_integer : ∃ fd, FnP K "_law_is_integer" "_law_is_integer" s_u_law_is_integer (He.ga K "_law_is_integer") fd
  g_u_law_is_integer : mg "_law_is_integer" = some (.ref (He.ga K "_law_is_integer"))
  d_u_law_is_prime : ∃ fd, FnP K "_law_is_prime" "_law_is_prime" s_u_law_is_prime (He.ga K "_law_is_prime") fd
  g_u_law_is_prime : mg "_law_is_prime" = some (.ref (He.ga K "_law_is_prime"))
  d_u_law_prime : ∃ fd, FnP K "_law_prime" "_law_prime" s_u_law_prime (He.ga K "_law_prime") fd
  g_u_law_prime : mg "_law_prime" = some (.ref (He.ga K "_law_prime"))
  d_u_law_power : ∃ fd, FnP K "_law_power" "_law_power" s_u_law_power (He.ga K "_law_power") fd
  g_u_law_power : mg "_law_power" = some (.ref (He.ga K "_law_power"))
  d_u_law_inverse : ∃ fd, FnP K "_law_inverse" "_law_inverse" s_u_law_inverse (He.ga K "_law_inverse") fd
  g_u_law_inverse : mg "_law_inverse" = some (.ref (He.ga K "_law_inverse"))
  d_u_law_residue : ∃ fd, FnP K "_law_residue" "_law_residue" s_u_law_residue (He.ga K "_law_residue") fd
  g_u_law_residue : mg "_law_residue" = some (.ref (He.ga K "_law_residue"))
  d_u_law_curve_and_points : ∃ fd, FnP K "_law_curve_and_points" "_law_curve_and_points" s_u_law_curve_and_points (He.ga K "_law_curve_and_points") fd
  g_u_law_curve_and_points : mg "_law_curve_and_points" = some (.ref (He.ga K "_law_curve_and_points"))
  d_u_law_add : ∃ fd, FnP K "_law_add" "_law_add" s_u_law_add (He.ga K "_law_add") fd
  g_u_law_add : mg "_law_add" = some (.ref (He.ga K "_law_add"))
  d_u_law_on : ∃ fd, FnP K "_law_on" "_law_on" s_u_law_on (He.ga K "_law_on") fd
  g_u_law_on : mg "_law_on" = some (.ref (He.ga K "_law_on"))
  d_u_law_singular : ∃ fd, FnP K "_law_singular" "_law_singular" s_u_law_singular (He.ga K "_law_singular") fd
  g_u_law_singular : mg "_law_singular" = some (.ref (He.ga K "_law_singular"))
  d_u_law_factor : ∃ fd, FnP K "_law_factor" "_law_factor" s_u_law_factor (He.ga K "_law_factor") fd
  g_u_law_factor : mg "_law_factor" = some (.ref (He.ga K "_law_factor"))
  d_law : ∃ fd, FnP K "law" "law" s_law (He.ga K "law") fd
  g_law : mg "law" = some (.ref (He.ga K "law"))
  g_Curve : mg "Curve" = some (.ref (He.ga K "Curve"))
  cl_Curve : L2.Cls K (He.ga K "Curve")
  nf_Curve_a : NoAttr K (He.ga K "Curve") "a"
  nf_Curve_b : NoAttr K (He.ga K "Curve") "b"
  nf_Curve_prime : NoAttr K (He.ga K "Curve") "prime"
  mt_Curve_u_slope : Meth K (He.ga K "Curve") "_slope" (He.ma K (He.ga K "Curve") "_slope")
  mt_Curve_add : Meth K (He.ga K "Curve") "add" (He.ma K (He.ga K "Curve") "add")
  mt_Curve_multiply : Meth K (He.ga K "Curve") "multiply" (He.ma K (He.ga K "Curve") "multiply")
  mt_Curve_negate : Meth K (He.ga K "Curve") "negate" (He.ma K (He.ga K "Curve") "negate")
  mk_Curve : Mk K (He.ga K "Curve") (He.ma K (He.ga K "Curve") "__init__")
  g_CurveError : mg "CurveError" = some (.ref (He.ga K "CurveError"))
  g_OutOfRange : mg "OutOfRange" = some (.ref (He.ga K "OutOfRange"))
  g_NoInverse : mg "NoInverse" = some (.ref (He.ga K "NoInverse"))
  g_Refused : mg "Refused" = some (.ref (He.ga K "Refused"))
  x_NoInverse : PySem.W.excIn K (He.ga K "NoInverse") He.veBase "ValueError.__new__" = true
  k_NoInverse : PySem.W.keepIn K (.ref (He.ga K "NoInverse")) = true
  b_NoInverse : PySem.W.subIn K (.ref (He.ga K "NoInverse")) (.type "BaseException") = some true
  t_NoInverse : PySem.W.typeIn K (.ref (He.ga K "NoInverse")) = some (.type "type")
  x_OutOfRange : PySem.W.excIn K (He.ga K "OutOfRange") He.veBase "ValueError.__new__" = true
  k_OutOfRange : PySem.W.keepIn K (.ref (He.ga K "OutOfRange")) = true
  b_OutOfRange : PySem.W.subIn K (.ref (He.ga K "OutOfRange")) (.type "BaseException") = some true
  t_OutOfRange : PySem.W.typeIn K (.ref (He.ga K "OutOfRange")) = some (.type "type")
  x_Refused : PySem.W.excIn K (He.ga K "Refused") He.veBase "ValueError.__new__" = true
  k_Refused : PySem.W.keepIn K (.ref (He.ga K "Refused")) = true
  b_Refused : PySem.W.subIn K (.ref (He.ga K "Refused")) (.type "BaseException") = some true
  t_Refused : PySem.W.typeIn K (.ref (He.ga K "Refused")) = some (.type "type")
  n_abs : mg "abs" = none
  n_bool : mg "bool" = none
  n_int : mg "int" = none
  n_isinstance : mg "isinstance" = none
  n_len : mg "len" = none
  n_range : mg "range" = none
  n_tuple : mg "tuple" = none
  cls : Cls K errs subE
noncomputable def m_bezout_w1 (k1 : (T3 Int Int Int) × (T3 Int Int Int) → Res (T3 Int Int Int)) : Nat → (T3 Int Int Int) × (T3 Int Int Int) → Res (T3 Int Int Int)
  | 0, _ => Res.stuck
  | n1 + 1, (first_, second_) => ((((Res.ok second_)).bind fun (t15 : (T3 Int Int Int)) => Res.ok t15.a).bind fun (t16 : Int) => ((Res.ok (0 : Int))).bind fun (t17 : Int) => Res.ok (!decide (t16 = t17))).bind fun b => cond b   (((((Res.ok first_)).bind fun (t18 : (T3 Int Int Int)) => Res.ok t18.a).bind fun (t20 : Int) => (((Res.ok second_)).bind fun (t19 : (T3 Int Int Int)) => Res.ok t19.a).bind fun (t21 : Int) => Res.need (CDivW t20 t21) (Res.ok (t20 / t21))).bind fun (times_ : Int) =>   ((((((Res.ok first_)).bind fun (t22 : (T3 Int Int Int)) => Res.ok t22.a).bind fun (t26 : Int) => (((Res.ok times_)).bind fun (t24 : Int) => (((Res.ok second_)).bind fun (t23 : (T3 Int Int Int)) => Res.ok t23.a).bind fun (t25 : Int) => Res.need (CMulX t24 t25) (Res.ok (t24 * t25))).bind fun (t27 : Int) => Res.ok (t26 - t27)).bind fun a41 => (((((Res.ok first_)).bind fun (t28 : (T3 Int Int Int)) => Res.ok t28.b).bind fun (t32 : Int) => (((Res.ok times_)).bind fun (t30 : Int) => (((Res.ok second_)).bind fun (t29 : (T3 Int Int Int)) => Res.ok t29.b).bind fun (t31 : Int) => Res.need (CMulX t30 t31) (Res.ok (t30 * t31))).bind fun (t33 : Int) => Res.ok (t32 - t33)).bind fun a43 => (((((Res.ok first_)).bind fun (t34 : (T3 Int Int Int)) => Res.ok t34.c).bind fun (t38 : Int) => (((Res.ok times_)).bind fun (t36 : Int) => (((Res.ok second_)).bind fun (t35 : (T3 Int Int Int)) => Res.ok t35.c).bind fun (t37 : Int) => Res.need (CMulX t36 t37) (Res.ok (t36 * t37))).bind fun (t39 : Int) => Res.ok (t38 - t39)).bind fun a45 => (Res.ok ()).bind fun a46 => Res.ok (a45, a46)).bind fun a44 => Res.ok (a43, a44)).bind fun a42 => Res.ok (a41, a42)).bind fun p40 => Res.ok (T3.mk p40.1 p40.2.1 p40.2.2.1)).bind fun (rest_ : (T3 Int Int Int)) =>   ((Res.ok second_)).bind fun (p47 : (T3 Int Int Int)) => ((Res.ok rest_)).bind fun (p48 : (T3 Int Int Int)) =>   (fun (first_ : (T3 Int Int Int)) (second_ : (T3 Int Int Int)) => m_bezout_w1 k1 n1 (first_, second_)) p47 p48)   (k1 (first_, second_))
noncomputable def m_bezout_k3 : (T3 Int Int Int) × (T3 Int Int Int) → Res (T3 Int Int Int) := fun (first_, second_) =>   ((((Res.ok first_)).bind fun (t49 : (T3 Int Int Int)) => Res.ok t49.a).bind fun (t50 : Int) => ((Res.ok (0 : Int))).bind fun (t51 : Int) => Res.ok (decide (t50 < t51))).bind fun b => cond b   ((((((Res.ok first_)).bind fun (t52 : (T3 Int Int Int)) => Res.ok t52.a).bind fun (t53 : Int) => Res.ok (-t53)).bind fun a59 => (((((Res.ok first_)).bind fun (t54 : (T3 Int Int Int)) => Res.ok t54.b).bind fun (t55 : Int) => Res.ok (-t55)).bind fun a61 => (((((Res.ok first_)).bind fun (t56 : (T3 Int Int Int)) => Res.ok t56.c).bind fun (t57 : Int) => Res.ok (-t57)).bind fun a63 => (Res.ok ()).bind fun a64 => Res.ok (a63, a64)).bind fun a62 => Res.ok (a61, a62)).bind fun a60 => Res.ok (a59, a60)).bind fun p58 => Res.ok (T3.mk p58.1 p58.2.1 p58.2.2.1))   ((Res.ok first_))
noncomputable def m_bezout (a_ : Int) (b_ : Int) : Res (T3 Int Int Int) :=
  ((((Res.ok a_)).bind fun a2 => (((Res.ok (1 : Int))).bind fun a4 => (((Res.ok (0 : Int))).bind fun a6 => (Res.ok ()).bind fun a7 => Res.ok (a6, a7)).bind fun a5 => Res.ok (a4, a5)).bind fun a3 => Res.ok (a2, a3)).bind fun p1 => Res.ok (T3.mk p1.1 p1.2.1 p1.2.2.1)).bind fun (p65 : (T3 Int Int Int)) => ((((Res.ok b_)).bind fun a9 => (((Res.ok (0 : Int))).bind fun a11 => (((Res.ok (1 : Int))).bind fun a13 => (Res.ok ()).bind fun a14 => Res.ok (a13, a14)).bind fun a12 => Res.ok (a11, a12)).bind fun a10 => Res.ok (a9, a10)).bind fun p8 => Res.ok (T3.mk p8.1 p8.2.1 p8.2.2.1)).bind fun (p66 : (T3 Int Int Int)) =>   (fun (first_ : (T3 Int Int Int)) (second_ : (T3 Int Int Int)) => m_bezout_w1 (m_bezout_k3) (b_.natAbs + 1) (first_, second_)) p65 p66
theorem ok_bezout {P : Program} {w : World} {K : PySem.W.Frag} {mg : Str → Option Value} {base : Heap} (T : Facts K mg) {fd : FuncData} (F : FnP K "bezout" "bezout" s_bezout (He.ga K "bezout") fd) :
    FnOk P w K mg base (L2.CX P w) 1 (He.ga K "bezout") fd ["a", "b"] (spM K (fun (p : Int × Int × Unit) => m_bezout p.1 p.2.1)) := by
  refine fn_ok F sc_bezout (fun y => rfl) (fun cdv A outer s H E hr => ?_)
  refine ⟨_, (pss_cons (ps_par (i := 2) (j := 3) (by rfl) sc_bezout.nd rfl rfl (by decide) rfl rfl (pa_cons (pe_tup (pa_cons (pv 0) (pa_cons pe_int (pa_cons pe_int pa_nil)))) (pa_cons (pe_tup (pa_cons (pv 1) (pa_cons pe_int (pa_cons pe_int pa_nil)))) pa_nil)) (by rfl)) (pss_cons (ps_while (passes_of rfl) (pt_cmpR op_ne (pe_ix (cr_ixT rfl) (pv 3) pe_int (fun _ _ => rfl)) pe_int (nomark _)) (pss_cons (ps_set (i := 4) sc_bezout.nd rfl (Or.inl rfl) (pe_op op_fdivW (pe_ix (cr_ixT rfl) (pv 2) pe_int (fun _ _ => rfl)) (pe_ix (cr_ixT rfl) (pv 3) pe_int (fun _ _ => rfl)))) (pss_cons (ps_set (i := 5) sc_bezout.nd rfl (Or.inl rfl) (pe_tup (pa_cons (pe_op op_sub (pe_ix (cr_ixT rfl) (pv 2) pe_int (fun _ _ => rfl)) (pe_op op_mulX (pv 4) (pe_ix (cr_ixT rfl) (pv 3) pe_int (fun _ _ => rfl)))) (pa_cons (pe_op op_sub (pe_ix (cr_ixT rfl) (pv 2) pe_int (fun _ _ => rfl)) (pe_op op_mulX (pv 4) (pe_ix (cr_ixT rfl) (pv 3) pe_int (fun _ _ => rfl)))) (pa_cons (pe_op op_sub (pe_ix (cr_ixT rfl) (pv 2) pe_int (fun _ _ => rfl)) (pe_op op_mulX (pv 4) (pe_ix (cr_ixT rfl) (pv 3) pe_int (fun _ _ => rfl)))) pa_nil))))) (pss_one (ps_par (i := 2) (j := 3) (by rfl) sc_bezout.nd rfl rfl (by decide) rfl rfl (pa_cons (pv 3) (pa_cons (pv 5) pa_nil)) (by rfl)))))) (pss_cons (ps_if (pt_cmpR op_lt (pe_ix (cr_ixT rfl) (pv 2) pe_int (fun _ _ => rfl)) pe_int (nomark _)) (pss_one (ps_ret (pe_tup (pa_cons (pe_un un_neg (pe_ix (cr_ixT rfl) (pv 2) pe_int (fun _ _ => rfl))) (pa_cons (pe_un un_neg (pe_ix (cr_ixT rfl) (pv 2) pe_int (fun _ _ => rfl))) (pa_cons (pe_un un_neg (pe_ix (cr_ixT rfl) (pv 2) pe_int (fun _ _ => rfl))) pa_nil)))))) pss_nil) (pss_one (ps_ret (pv 2)))))), ?_⟩
  rintro ⟨a_, b_, ⟨⟩⟩ F0 H0 Q KP L
  show Blk K F0 H0 KP _ [some (.im (toD a_)), some (.im (toD b_)), none, none, none, none] (m_bezout a_ b_)
  unfold m_bezout
  have ha_ := ((ev_tup (f := (fun y => T3.mk y.1 y.2.1 y.2.2.1)) (ea_cons (ev_var (i := 0) (x := a_) rfl) (ea_cons (ev_int (i := 1)) (ea_cons (ev_int (i := 0)) ea_nil))) (fun _ => rfl) (fun _ => by show 3 ≤ 100000; decide)) : EvX K (W0 E) [some (.im (toD a_)), some (.im (toD b_)), none, none, none, none] _ _)
  have hb_ := ((ev_tup (f := (fun y => T3.mk y.1 y.2.1 y.2.2.1)) (ea_cons (ev_var (i := 1) (x := b_) rfl) (ea_cons (ev_int (i := 0)) (ea_cons (ev_int (i := 1)) ea_nil))) (fun _ => rfl) (fun _ => by show 3 ≤ 100000; decide)) : EvX K (W0 E) [some (.im (toD a_)), some (.im (toD b_)), none, none, none, none] _ _)
  refine blk_seq (blk_par (i := 2) (j := 3) L trivial ha_ hb_ fun first_ second_ => ?_)
  show Blk _ _ _ _ _ [some (.im (toD a_)), some (.im (toD b_)), some (.im (toD first_)), some (.im (toD second_)), none, none] _
  try refine Blk.nx ?_
  refine blk_seq (blk_while (S := (T3 Int Int Int) × (T3 Int Int Int)) (m_bezout_w1 (m_bezout_k3)) (fun (s : (T3 Int Int Int) × (T3 Int Int Int)) => match s with | (first_, second_) => (((Res.ok second_)).bind fun (t15 : (T3 Int Int Int)) => Res.ok t15.a).bind fun (t16 : Int) => ((Res.ok (0 : Int))).bind fun (t17 : Int) => Res.ok (!decide (t16 = t17))) (fun n s => match s with | (first_, second_) => ((((Res.ok first_)).bind fun (t18 : (T3 Int Int Int)) => Res.ok t18.a).bind fun (t20 : Int) => (((Res.ok second_)).bind fun (t19 : (T3 Int Int Int)) => Res.ok t19.a).bind fun (t21 : Int) => Res.need (CDivW t20 t21) (Res.ok (t20 / t21))).bind fun (times_ : Int) =>   ((((((Res.ok first_)).bind fun (t22 : (T3 Int Int Int)) => Res.ok t22.a).bind fun (t26 : Int) => (((Res.ok times_)).bind fun (t24 : Int) => (((Res.ok second_)).bind fun (t23 : (T3 Int Int Int)) => Res.ok t23.a).bind fun (t25 : Int) => Res.need (CMulX t24 t25) (Res.ok (t24 * t25))).bind fun (t27 : Int) => Res.ok (t26 - t27)).bind fun a41 => (((((Res.ok first_)).bind fun (t28 : (T3 Int Int Int)) => Res.ok t28.b).bind fun (t32 : Int) => (((Res.ok times_)).bind fun (t30 : Int) => (((Res.ok second_)).bind fun (t29 : (T3 Int Int Int)) => Res.ok t29.b).bind fun (t31 : Int) => Res.need (CMulX t30 t31) (Res.ok (t30 * t31))).bind fun (t33 : Int) => Res.ok (t32 - t33)).bind fun a43 => (((((Res.ok first_)).bind fun (t34 : (T3 Int Int Int)) => Res.ok t34.c).bind fun (t38 : Int) => (((Res.ok times_)).bind fun (t36 : Int) => (((Res.ok second_)).bind fun (t35 : (T3 Int Int Int)) => Res.ok t35.c).bind fun (t37 : Int) => Res.need (CMulX t36 t37) (Res.ok (t36 * t37))).bind fun (t39 : Int) => Res.ok (t38 - t39)).bind fun a45 => (Res.ok ()).bind fun a46 => Res.ok (a45, a46)).bind fun a44 => Res.ok (a43, a44)).bind fun a42 => Res.ok (a41, a42)).bind fun p40 => Res.ok (T3.mk p40.1 p40.2.1 p40.2.2.1)).bind fun (rest_ : (T3 Int Int Int)) =>   ((Res.ok second_)).bind fun (p47 : (T3 Int Int Int)) => ((Res.ok rest_)).bind fun (p48 : (T3 Int Int Int)) =>   (fun (first_ : (T3 Int Int Int)) (second_ : (T3 Int Int Int)) => m_bezout_w1 (m_bezout_k3) n (first_, second_)) p47 p48) (m_bezout_k3) (fun (first_, second_) => [some (.im (toD a_)), some (.im (toD b_)), some (.im (toD first_)), some (.im (toD second_)), none, none]) (first_, second_) (b_.natAbs + 1) L ?_ (.same (.same (.same (.same (.same (.same .nil)))))) ?_ (fun ⟨_, _⟩ => rfl) (fun _ ⟨_, _⟩ => rfl) ?_ ?_)
  · rintro ⟨first_, second_⟩
    exact trivial
  · rintro ⟨first_, second_⟩
    exact ((et_test (ev_op opx_neI mild_ok (ev_ixTC (i := 0) (f := fun x => x.a) (ev_var (i := 3) (x := second_) rfl) (fun x => ⟨_, rfl, rfl⟩)) (ev_int (i := 0)))) : EvT K (W0 E) [some (.im (toD a_)), some (.im (toD b_)), some (.im (toD first_)), some (.im (toD second_)), none, none] _ _)
  · intro n1 s_ N_ hN1
    obtain ⟨first_, second_⟩ := s_
    show Blk _ _ _ _ _ [some (.im (toD a_)), some (.im (toD b_)), some (.im (toD first_)), some (.im (toD second_)), none, none] _
    have hs_ := ((ev_op (opx_I (C := CDivW) (g := fun i j => i / j)) mild_need (ev_ixTC (i := 0) (f := fun x => x.a) (ev_var (i := 2) (x := first_) rfl) (fun x => ⟨_, rfl, rfl⟩)) (ev_ixTC (i := 0) (f := fun x => x.a) (ev_var (i := 3) (x := second_) rfl) (fun x => ⟨_, rfl, rfl⟩))) : EvX K (W0 E) [some (.im (toD a_)), some (.im (toD b_)), some (.im (toD first_)), some (.im (toD second_)), none, none] _ _)
    refine blk_seq (blk_set (i := 4) L trivial hs_ fun times_ => ?_)
    show Blk _ _ _ _ _ [some (.im (toD a_)), some (.im (toD b_)), some (.im (toD first_)), some (.im (toD second_)), some (.im (toD times_)), none] _
    try refine Blk.nx ?_
    have hs_ := ((ev_tup (f := (fun y => T3.mk y.1 y.2.1 y.2.2.1)) (ea_cons (ev_op (opx_I0 (g := fun i j => i - j)) mild_ok (ev_ixTC (i := 0) (f := fun x => x.a) (ev_var (i := 2) (x := first_) rfl) (fun x => ⟨_, rfl, rfl⟩)) (ev_op (opx_I (C := CMulX) (g := fun i j => i * j)) mild_need (ev_var (i := 4) (x := times_) rfl) (ev_ixTC (i := 0) (f := fun x => x.a) (ev_var (i := 3) (x := second_) rfl) (fun x => ⟨_, rfl, rfl⟩)))) (ea_cons (ev_op (opx_I0 (g := fun i j => i - j)) mild_ok (ev_ixTC (i := 1) (f := fun x => x.b) (ev_var (i := 2) (x := first_) rfl) (fun x => ⟨_, rfl, rfl⟩)) (ev_op (opx_I (C := CMulX) (g := fun i j => i * j)) mild_need (ev_var (i := 4) (x := times_) rfl) (ev_ixTC (i := 1) (f := fun x => x.b) (ev_var (i := 3) (x := second_) rfl) (fun x => ⟨_, rfl, rfl⟩)))) (ea_cons (ev_op (opx_I0 (g := fun i j => i - j)) mild_ok (ev_ixTC (i := 2) (f := fun x => x.c) (ev_var (i := 2) (x := first_) rfl) (fun x => ⟨_, rfl, rfl⟩)) (ev_op (opx_I (C := CMulX) (g := fun i j => i * j)) mild_need (ev_var (i := 4) (x := times_) rfl) (ev_ixTC (i := 2) (f := fun x => x.c) (ev_var (i := 3) (x := second_) rfl) (fun x => ⟨_, rfl, rfl⟩)))) ea_nil))) (fun _ => rfl) (fun _ => by show 3 ≤ 100000; decide)) : EvX K (W0 E) [some (.im (toD a_)), some (.im (toD b_)), some (.im (toD first_)), some (.im (toD second_)), some (.im (toD times_)), none] _ _)
    refine blk_seq (blk_set (i := 5) L trivial hs_ fun rest_ => ?_)
    show Blk _ _ _ _ _ [some (.im (toD a_)), some (.im (toD b_)), some (.im (toD first_)), some (.im (toD second_)), some (.im (toD times_)), some (.im (toD rest_))] _
    try refine Blk.nx ?_
    have ha_ := ((ev_var (i := 3) (x := second_) rfl) : EvX K (W0 E) [some (.im (toD a_)), some (.im (toD b_)), some (.im (toD first_)), some (.im (toD second_)), some (.im (toD times_)), some (.im (toD rest_))] _ _)
    have hb_ := ((ev_var (i := 5) (x := rest_) rfl) : EvX K (W0 E) [some (.im (toD a_)), some (.im (toD b_)), some (.im (toD first_)), some (.im (toD second_)), some (.im (toD times_)), some (.im (toD rest_))] _ _)
    refine blk_par (i := 2) (j := 3) L trivial ha_ hb_ fun first_ second_ => ?_
    show Blk _ _ _ _ _ [some (.im (toD a_)), some (.im (toD b_)), some (.im (toD first_)), some (.im (toD second_)), some (.im (toD times_)), some (.im (toD rest_))] _
    try refine Blk.nx ?_
    exact (hN1 (first_, second_)).weak (.same (.same (.same (.same (.drop (.drop .nil))))))
  · rintro ⟨first_, second_⟩
    show Blk _ _ _ _ _ [some (.im (toD a_)), some (.im (toD b_)), some (.im (toD first_)), some (.im (toD second_)), none, none] ((m_bezout_k3) (first_, second_))
    unfold m_bezout_k3
    try refine Blk.nx ?_
    have ht_ := ((et_test (ev_op (opx_B0 (g := fun i j => decide (i < j))) mild_ok (ev_ixTC (i := 0) (f := fun x => x.a) (ev_var (i := 2) (x := first_) rfl) (fun x => ⟨_, rfl, rfl⟩)) (ev_int (i := 0)))) : EvT K (W0 E) [some (.im (toD a_)), some (.im (toD b_)), some (.im (toD first_)), some (.im (toD second_)), none, none] _ _)
    refine blk_seq (blk_if2 L trivial ht_ ?_ ?_)
    · have hr_ := ((ev_tup (f := (fun y => T3.mk y.1 y.2.1 y.2.2.1)) (ea_cons (ev_un (g := fun i => -i) (ev_ixTC (i := 0) (f := fun x => x.a) (ev_var (i := 2) (x := first_) rfl) (fun x => ⟨_, rfl, rfl⟩))) (ea_cons (ev_un (g := fun i => -i) (ev_ixTC (i := 1) (f := fun x => x.b) (ev_var (i := 2) (x := first_) rfl) (fun x => ⟨_, rfl, rfl⟩))) (ea_cons (ev_un (g := fun i => -i) (ev_ixTC (i := 2) (f := fun x => x.c) (ev_var (i := 2) (x := first_) rfl) (fun x => ⟨_, rfl, rfl⟩))) ea_nil))) (fun _ => rfl) (fun _ => by show 3 ≤ 100000; decide)) : EvX K (W0 E) [some (.im (toD a_)), some (.im (toD b_)), some (.im (toD first_)), some (.im (toD second_)), none, none] _ _)
      exact blk_ret L trivial hr_
    · refine blk_nil ?_
      try refine Blk.nx ?_
      have hr_ := ((ev_var (i := 2) (x := first_) rfl) : EvX K (W0 E) [some (.im (toD a_)), some (.im (toD b_)), some (.im (toD first_)), some (.im (toD second_)), none, none] _ _)
      exact blk_ret L trivial hr_
noncomputable def m_inverse (a_ : Int) (modulus_ : Int) : Res Int :=
  (((((Res.ok a_)).bind fun (t67 : Int) => ((Res.ok modulus_)).bind fun (t68 : Int) => Res.need (0 < t68) (Res.ok (t67 % t68))).bind fun a70 => (((Res.ok modulus_)).bind fun a72 => (Res.ok ()).bind fun a73 => Res.ok (a72, a73)).bind fun a71 => Res.ok (a70, a71)).bind fun p69 => m_bezout p69.1 p69.2.1).bind fun (u74 : (T3 Int Int Int)) =>   (fun (divisor_ : Int) (factor_ : Int) (u__ : Int) => (((Res.ok divisor_)).bind fun (t75 : Int) => ((Res.ok (1 : Int))).bind fun (t76 : Int) => Res.ok (!decide (t75 = t76))).bind fun b => cond b   (Res.exc "NoInverse")   (((Res.ok factor_)).bind fun (t77 : Int) => ((Res.ok modulus_)).bind fun (t78 : Int) => Res.need (0 < t78) (Res.ok (t77 % t78)))) u74.a u74.b u74.c
theorem ok_inverse {P : Program} {w : World} {K : PySem.W.Frag} {mg : Str → Option Value} {base : Heap} (T : Facts K mg) {fd : FuncData} (F : FnP K "inverse" "inverse" s_inverse (He.ga K "inverse") fd) :
    FnOk P w K mg base (L2.CX P w) 2 (He.ga K "inverse") fd ["a", "modulus"] (spM K (fun (p : Int × Int × Unit) => m_inverse p.1 p.2.1)) := by
  obtain ⟨fd_bezout, F_bezout⟩ := T.d_bezout
  have G_bezout := ok_bezout (P := P) (w := w) (base := base) T F_bezout
  have b_bezout : Binds K fd_bezout ["a", "b"] [] := F_bezout.bindsN fun _ _ _ _ _ _ us hl => match us, hl with | [_, _], _ => rfl
  refine fn_ok F sc_inverse (fun y => rfl) (fun cdv A outer s H E hr => ?_)
  refine ⟨_, (pss_cons (ps_asg (pe_callS G_bezout (hr.mono (by decide)) rfl T.g_bezout F_bezout.kp b_bezout (fun σ => passAt (takes_of rfl rfl rfl rfl) σ) (pa_cons (pe_op op_mod (pv 0) (pv 1)) (pa_cons (pv 1) pa_nil))) (pg_tup rfl (pgs_cons (pg_name (i := 2) sc_inverse.nd rfl (Or.inl rfl)) (pgs_cons (pg_name (i := 3) sc_inverse.nd rfl (Or.inl rfl)) (pgs_cons (pg_name (i := 4) sc_inverse.nd rfl (Or.inl rfl)) pgs_nil))))) (pss_cons (ps_if (pt_cmpR op_ne (pv 2) pe_int (nomark _)) (pss_one (ps_raise rfl (takes_of rfl rfl rfl rfl) (pmk_own PySem.F.excBase_ValueError T.x_NoInverse T.g_NoInverse T.k_NoInverse (raises_own T.b_NoInverse T.t_NoInverse) rfl))) pss_nil) (pss_one (ps_ret (pe_op op_mod (pv 3) (pv 1)))))), ?_⟩
  rintro ⟨a_, modulus_, ⟨⟩⟩ F0 H0 Q KP L
  show Blk K F0 H0 KP _ [some (.im (toD a_)), some (.im (toD modulus_)), none, none, none] (m_inverse a_ modulus_)
  unfold m_inverse
  have hs_ := ((ev_call (f := (fun (p : Int × Int × Unit) => m_bezout p.1 p.2.1)) (ea_cons (ev_op (opx_I (C := (fun _ j => 0 < j)) (g := fun i j => i % j)) mild_need (ev_var (i := 0) (x := a_) rfl) (ev_var (i := 1) (x := modulus_) rfl)) (ea_cons (ev_var (i := 1) (x := modulus_) rfl) ea_nil))) : EvX K (W0 E) [some (.im (toD a_)), some (.im (toD modulus_)), none, none, none] _ _)
  refine blk_seq (blk_asg L trivial hs_ (fun _ => (gx_tup (gxs_cons gx_name (gxs_cons gx_name (gxs_cons gx_name gxs_nil))) rfl)) fun u74 => ?_)
  show Blk _ _ _ _ _ [some (.im (toD a_)), some (.im (toD modulus_)), some (.im (toD u74.a)), some (.im (toD u74.b)), some (.im (toD u74.c))] ((fun (divisor_ : Int) (factor_ : Int) (u__ : Int) => _) u74.a u74.b u74.c)
  generalize u74.a = divisor_
  generalize u74.b = factor_
  generalize u74.c = u__
  show Blk _ _ _ _ _ [some (.im (toD a_)), some (.im (toD modulus_)), some (.im (toD divisor_)), some (.im (toD factor_)), some (.im (toD u__))] _
  try refine Blk.nx ?_
  have ht_ := ((et_test (ev_op opx_neI mild_ok (ev_var (i := 2) (x := divisor_) rfl) (ev_int (i := 1)))) : EvT K (W0 E) [some (.im (toD a_)), some (.im (toD modulus_)), some (.im (toD divisor_)), some (.im (toD factor_)), some (.im (toD u__))] _ _)
  refine blk_seq (blk_if2 L trivial ht_ ?_ ?_)
  · exact blk_raise L trivial
  · refine blk_nil ?_
    try refine Blk.nx ?_
    have hr_ := ((ev_op (opx_I (C := (fun _ j => 0 < j)) (g := fun i j => i % j)) mild_need (ev_var (i := 3) (x := factor_) rfl) (ev_var (i := 1) (x := modulus_) rfl)) : EvX K (W0 E) [some (.im (toD a_)), some (.im (toD modulus_)), some (.im (toD divisor_)), some (.im (toD factor_)), some (.im (toD u__))] _ _)
    exact blk_ret L trivial hr_
noncomputable def m_Curve_u_slope_k1 (self_ : O_Curve) : Int × Int → Res Int := fun (rise_, run_) =>   (((Res.ok rise_)).bind fun (t87 : Int) => ((((Res.ok run_)).bind fun a83 => ((((Res.ok self_)).bind fun (t81 : O_Curve) => Res.ok t81.f_prime).bind fun a85 => (Res.ok ()).bind fun a86 => Res.ok (a85, a86)).bind fun a84 => Res.ok (a83, a84)).bind fun p82 => m_inverse p82.1 p82.2.1).bind fun (t88 : Int) => Res.need (CMulX t87 t88) (Res.ok (t87 * t88))).bind fun (t90 : Int) => (((Res.ok self_)).bind fun (t89 : O_Curve) => Res.ok t89.f_prime).bind fun (t91 : Int) => Res.need (0 < t91) (Res.ok (t90 % t91))
noncomputable def m_Curve_u_slope (self_ : O_Curve) (first_ : (T2 Int Int)) (second_ : (T2 Int Int)) : Res Int :=
  (((Res.ok first_)).bind fun (t79 : (T2 Int Int)) => ((Res.ok second_)).bind fun (t80 : (T2 Int Int)) => Res.need ((toD t79).okq = true ∧ (toD t80).okq = true) (Res.ok (pyEq (toD t79) (toD t80)))).bind fun b => cond b   (((((Res.ok (3 : Int))).bind fun (t95 : Int) => ((((Res.ok first_)).bind fun (t92 : (T2 Int Int)) => Res.ok t92.a).bind fun (t93 : Int) => ((Res.ok (2 : Int))).bind fun (t94 : Int) => Res.need (CPowX t93 t94) (Res.ok (t93 ^ t94.toNat))).bind fun (t96 : Int) => Res.ok (t95 * t96)).bind fun (t98 : Int) => (((Res.ok self_)).bind fun (t97 : O_Curve) => Res.ok t97.f_a).bind fun (t99 : Int) => Res.ok (t98 + t99)).bind fun (p103 : Int) => (((Res.ok (2 : Int))).bind fun (t101 : Int) => (((Res.ok first_)).bind fun (t100 : (T2 Int Int)) => Res.ok t100.b).bind fun (t102 : Int) => Res.ok (t101 * t102)).bind fun (p104 : Int) =>   (fun (rise_ : Int) (run_ : Int) => (m_Curve_u_slope_k1 self_) (rise_, run_)) p103 p104)   (((((Res.ok second_)).bind fun (t105 : (T2 Int Int)) => Res.ok t105.b).bind fun (t107 : Int) => (((Res.ok first_)).bind fun (t106 : (T2 Int Int)) => Res.ok t106.b).bind fun (t108 : Int) => Res.ok (t107 - t108)).bind fun (p113 : Int) => ((((Res.ok second_)).bind fun (t109 : (T2 Int Int)) => Res.ok t109.a).bind fun (t111 : Int) => (((Res.ok first_)).bind fun (t110 : (T2 Int Int)) => Res.ok t110.a).bind fun (t112 : Int) => Res.ok (t111 - t112)).bind fun (p114 : Int) =>   (fun (rise_ : Int) (run_ : Int) => (m_Curve_u_slope_k1 self_) (rise_, run_)) p113 p114)
theorem ok_Curve_u_slope {P : Program} {w : World} {K : PySem.W.Frag} {mg : Str → Option Value} {base : Heap} (T : Facts K mg) {fd : FuncData} (F : FnP K "_slope" "Curve._slope" s_Curve_u_slope (He.ma K (He.ga K "Curve") "_slope") fd) :
    FnOk P w K mg base (L2.CX P w) 3 (He.ma K (He.ga K "Curve") "_slope") fd ["self", "first", "second"] (spM K (fun (p : O_Curve × (T2 Int Int) × (T2 Int Int) × Unit) => m_Curve_u_slope p.1 p.2.1 p.2.2.1)) := by
  obtain ⟨fd_inverse, F_inverse⟩ := T.d_inverse
  have G_inverse := ok_inverse (P := P) (w := w) (base := base) T F_inverse
  have b_inverse : Binds K fd_inverse ["a", "modulus"] [] := F_inverse.bindsN fun _ _ _ _ _ _ us hl => match us, hl with | [_, _], _ => rfl
  refine fn_ok F sc_Curve_u_slope (fun y => rfl) (fun cdv A outer s H E hr => ?_)
  refine ⟨_, (pss_cons (ps_if (pt_cmpR (op_eqD (Room.units hr)) (pv 1) (pv 2) (nomark _)) (pss_one (ps_par (i := 3) (j := 4) (by rfl) sc_Curve_u_slope.nd rfl rfl (by decide) rfl rfl (pa_cons (pe_op op_add (pe_op op_mul pe_int (pe_op op_powX (pe_ix (cr_ixT rfl) (pv 1) pe_int (fun _ _ => rfl)) pe_int)) (pe_fld (pv 0) rfl)) (pa_cons (pe_op op_mul pe_int (pe_ix (cr_ixT rfl) (pv 1) pe_int (fun _ _ => rfl))) pa_nil)) (by rfl))) (pss_one (ps_par (i := 3) (j := 4) (by rfl) sc_Curve_u_slope.nd rfl rfl (by decide) rfl rfl (pa_cons (pe_op op_sub (pe_ix (cr_ixT rfl) (pv 2) pe_int (fun _ _ => rfl)) (pe_ix (cr_ixT rfl) (pv 1) pe_int (fun _ _ => rfl))) (pa_cons (pe_op op_sub (pe_ix (cr_ixT rfl) (pv 2) pe_int (fun _ _ => rfl)) (pe_ix (cr_ixT rfl) (pv 1) pe_int (fun _ _ => rfl))) pa_nil)) (by rfl)))) (pss_one (ps_ret (pe_op op_mod (pe_op op_mulX (pv 3) (pe_callS G_inverse (hr.mono (by decide)) rfl T.g_inverse F_inverse.kp b_inverse (fun σ => passAt (takes_of rfl rfl rfl rfl) σ) (pa_cons (pv 4) (pa_cons (pe_fld (pv 0) rfl) pa_nil)))) (pe_fld (pv 0) rfl))))), ?_⟩
  rintro ⟨self_, first_, second_, ⟨⟩⟩ F0 H0 Q KP L
  show Blk K F0 H0 KP _ [some (.im (toD self_)), some (.im (toD first_)), some (.im (toD second_)), none, none] (m_Curve_u_slope self_ first_ second_)
  unfold m_Curve_u_slope
  have ht_ := ((et_test (ev_op opx_eqD mild_need (ev_var (i := 1) (x := first_) rfl) (ev_var (i := 2) (x := second_) rfl))) : EvT K (W0 E) [some (.im (toD self_)), some (.im (toD first_)), some (.im (toD second_)), none, none] _ _)
  refine blk_seq (blk_ifj (S := Int × Int) (fun (rise_, run_) => [some (.im (toD self_)), some (.im (toD first_)), some (.im (toD second_)), some (.im (toD rise_)), some (.im (toD run_))]) (m_Curve_u_slope_k1 self_) L trivial ht_ ?_ ?_ ?_)
  · rintro ⟨rise_, run_⟩
    show Blk _ _ _ _ _ [some (.im (toD self_)), some (.im (toD first_)), some (.im (toD second_)), some (.im (toD rise_)), some (.im (toD run_))] ((m_Curve_u_slope_k1 self_) (rise_, run_))
    unfold m_Curve_u_slope_k1
    try refine Blk.nx ?_
    have hr_ := ((ev_op (opx_I (C := (fun _ j => 0 < j)) (g := fun i j => i % j)) mild_need (ev_op (opx_I (C := CMulX) (g := fun i j => i * j)) mild_need (ev_var (i := 3) (x := rise_) rfl) (ev_call (f := (fun (p : Int × Int × Unit) => m_inverse p.1 p.2.1)) (ea_cons (ev_var (i := 4) (x := run_) rfl) (ea_cons (ev_fld (g := fun (x : O_Curve) => x.f_prime) (c := "Curve") (ks := ["prime", "a", "b"]) (j := 0) (ev_var (i := 0) (x := self_) rfl) T.cl_Curve T.nf_Curve_prime (by decide +kernel) (fun _ => ⟨_, rfl, rfl⟩)) ea_nil)))) (ev_fld (g := fun (x : O_Curve) => x.f_prime) (c := "Curve") (ks := ["prime", "a", "b"]) (j := 0) (ev_var (i := 0) (x := self_) rfl) T.cl_Curve T.nf_Curve_prime (by decide +kernel) (fun _ => ⟨_, rfl, rfl⟩))) : EvX K (W0 E) [some (.im (toD self_)), some (.im (toD first_)), some (.im (toD second_)), some (.im (toD rise_)), some (.im (toD run_))] _ _)
    exact blk_ret L trivial hr_
  · intro hk1
    have ha_ := ((ev_op (opx_I0 (g := fun i j => i + j)) mild_ok (ev_opI (C := CMul) (g := fun i j => i * j) (fun x y h _ => by cases h; exact .inl (by decide)) (ev_int (i := 3)) (ev_op (opx_I (C := CPowX) (g := fun i j => i ^ j.toNat)) mild_need (ev_ixTC (i := 0) (f := fun x => x.a) (ev_var (i := 1) (x := first_) rfl) (fun x => ⟨_, rfl, rfl⟩)) (ev_int (i := 2)))) (ev_fld (g := fun (x : O_Curve) => x.f_a) (c := "Curve") (ks := ["prime", "a", "b"]) (j := 1) (ev_var (i := 0) (x := self_) rfl) T.cl_Curve T.nf_Curve_a (by decide +kernel) (fun _ => ⟨_, rfl, rfl⟩))) : EvX K (W0 E) [some (.im (toD self_)), some (.im (toD first_)), some (.im (toD second_)), none, none] _ _)
    have hb_ := ((ev_opI (C := CMul) (g := fun i j => i * j) (fun x y h _ => by cases h; exact .inl (by decide)) (ev_int (i := 2)) (ev_ixTC (i := 1) (f := fun x => x.b) (ev_var (i := 1) (x := first_) rfl) (fun x => ⟨_, rfl, rfl⟩))) : EvX K (W0 E) [some (.im (toD self_)), some (.im (toD first_)), some (.im (toD second_)), none, none] _ _)
    refine blk_par (i := 3) (j := 4) L trivial ha_ hb_ fun rise_ run_ => ?_
    show Blk _ _ _ _ _ [some (.im (toD self_)), some (.im (toD first_)), some (.im (toD second_)), some (.im (toD rise_)), some (.im (toD run_))] _
    try refine Blk.nx ?_
    exact (hk1 (rise_, run_)).weak (.same (.same (.same (.same (.same .nil)))))
  · intro hk1
    have ha_ := ((ev_op (opx_I0 (g := fun i j => i - j)) mild_ok (ev_ixTC (i := 1) (f := fun x => x.b) (ev_var (i := 2) (x := second_) rfl) (fun x => ⟨_, rfl, rfl⟩)) (ev_ixTC (i := 1) (f := fun x => x.b) (ev_var (i := 1) (x := first_) rfl) (fun x => ⟨_, rfl, rfl⟩))) : EvX K (W0 E) [some (.im (toD self_)), some (.im (toD first_)), some (.im (toD second_)), none, none] _ _)
    have hb_ := ((ev_op (opx_I0 (g := fun i j => i - j)) mild_ok (ev_ixTC (i := 0) (f := fun x => x.a) (ev_var (i := 2) (x := second_) rfl) (fun x => ⟨_, rfl, rfl⟩)) (ev_ixTC (i := 0) (f := fun x => x.a) (ev_var (i := 1) (x := first_) rfl) (fun x => ⟨_, rfl, rfl⟩))) : EvX K (W0 E) [some (.im (toD self_)), some (.im (toD first_)), some (.im (toD second_)), none, none] _ _)
    refine blk_par (i := 3) (j := 4) L trivial ha_ hb_ fun rise_ run_ => ?_
    show Blk _ _ _ _ _ [some (.im (toD self_)), some (.im (toD first_)), some (.im (toD second_)), some (.im (toD rise_)), some (.im (toD run_))] _
    try refine Blk.nx ?_
    exact (hk1 (rise_, run_)).weak (.same (.same (.same (.same (.same .nil)))))
noncomputable def m_Curve_negate (self_ : O_Curve) (point_ : (Option (T2 Int Int))) : Res (Option (T2 Int Int)) :=
  (((Res.ok point_)).bind fun (t115 : (Option (T2 Int Int))) => ((Res.ok ())).bind fun (t116 : Unit) => Res.ok (toD t115).isNon).bind fun b => cond b   ((Res.ok (none : (Option (T2 Int Int)))))   (((((((Res.ok point_)).bind optGet).bind fun (t117 : (T2 Int Int)) => Res.ok t117.a).bind fun a124 => (((((((Res.ok point_)).bind optGet).bind fun (t118 : (T2 Int Int)) => Res.ok t118.b).bind fun (t119 : Int) => Res.ok (-t119)).bind fun (t121 : Int) => (((Res.ok self_)).bind fun (t120 : O_Curve) => Res.ok t120.f_prime).bind fun (t122 : Int) => Res.need (0 < t122) (Res.ok (t121 % t122))).bind fun a126 => (Res.ok ()).bind fun a127 => Res.ok (a126, a127)).bind fun a125 => Res.ok (a124, a125)).bind fun p123 => Res.ok (T2.mk p123.1 p123.2.1)).bind fun (x : (T2 Int Int)) => Res.ok (some x))
theorem ok_Curve_negate {P : Program} {w : World} {K : PySem.W.Frag} {mg : Str → Option Value} {base : Heap} (T : Facts K mg) {fd : FuncData} (F : FnP K "negate" "Curve.negate" s_Curve_negate (He.ma K (He.ga K "Curve") "negate") fd) :
    FnOk P w K mg base (L2.CX P w) 1 (He.ma K (He.ga K "Curve") "negate") fd ["self", "point"] (spM K (fun (p : O_Curve × (Option (T2 Int Int)) × Unit) => m_Curve_negate p.1 p.2.1)) := by
  refine fn_ok F sc_Curve_negate (fun y => rfl) (fun cdv A outer s H E hr => ?_)
  refine ⟨_, (pss_cons (ps_if (pt_cmpR op_isN (pv 1) pe_non (nomark _)) (pss_one (ps_ret pe_non)) pss_nil) (pss_one (ps_ret (pe_tup (pa_cons (pe_ix (cr_ixT rfl) (pv 1) pe_int (fun _ _ => rfl)) (pa_cons (pe_op op_mod (pe_un un_neg (pe_ix (cr_ixT rfl) (pv 1) pe_int (fun _ _ => rfl))) (pe_fld (pv 0) rfl)) pa_nil)))))), ?_⟩
  rintro ⟨self_, point_, ⟨⟩⟩ F0 H0 Q KP L
  show Blk K F0 H0 KP _ [some (.im (toD self_)), some (.im (toD point_))] (m_Curve_negate self_ point_)
  unfold m_Curve_negate
  have ht_ := ((et_test (ev_op opx_isN mild_ok (ev_var (i := 1) (x := point_) rfl) ev_non)) : EvT K (W0 E) [some (.im (toD self_)), some (.im (toD point_))] _ _)
  refine blk_seq (blk_if2 L trivial ht_ ?_ ?_)
  · have hr_ := ((ev_noneO (α := (T2 Int Int))) : EvX K (W0 E) [some (.im (toD self_)), some (.im (toD point_))] _ _)
    exact blk_ret L trivial hr_
  · refine blk_nil ?_
    try refine Blk.nx ?_
    have hr_ := ((ev_as (ev_tup (f := (fun y => T2.mk y.1 y.2.1)) (ea_cons (ev_ixTC (i := 0) (f := fun x => x.a) (ev_castG (f := optGet) optGet_ok optGet_x (ev_var (i := 1) (x := point_) rfl)) (fun x => ⟨_, rfl, rfl⟩)) (ea_cons (ev_op (opx_I (C := (fun _ j => 0 < j)) (g := fun i j => i % j)) mild_need (ev_un (g := fun i => -i) (ev_ixTC (i := 1) (f := fun x => x.b) (ev_castG (f := optGet) optGet_ok optGet_x (ev_var (i := 1) (x := point_) rfl)) (fun x => ⟨_, rfl, rfl⟩))) (ev_fld (g := fun (x : O_Curve) => x.f_prime) (c := "Curve") (ks := ["prime", "a", "b"]) (j := 0) (ev_var (i := 0) (x := self_) rfl) T.cl_Curve T.nf_Curve_prime (by decide +kernel) (fun _ => ⟨_, rfl, rfl⟩))) ea_nil)) (fun _ => rfl) (fun _ => by show 2 ≤ 100000; decide)) some (fun _ => rfl) rfl) : EvX K (W0 E) [some (.im (toD self_)), some (.im (toD point_))] _ _)
    exact blk_ret L trivial hr_
noncomputable def m_Curve_add (self_ : O_Curve) (first_ : (Option (T2 Int Int))) (second_ : (Option (T2 Int Int))) : Res (Option (T2 Int Int)) :=
  (((Res.ok first_)).bind fun (t128 : (Option (T2 Int Int))) => ((Res.ok ())).bind fun (t129 : Unit) => Res.ok (toD t128).isNon).bind fun b => cond b   ((Res.ok second_))   ((((Res.ok second_)).bind fun (t130 : (Option (T2 Int Int))) => ((Res.ok ())).bind fun (t131 : Unit) => Res.ok (toD t130).isNon).bind fun b => cond b   ((Res.ok first_))   ((((Res.ok second_)).bind fun (t136 : (Option (T2 Int Int))) => (((Res.ok self_)).bind fun (o132 : O_Curve) => (((Res.ok first_)).bind fun a134 => (Res.ok ()).bind fun a135 => Res.ok (a134, a135)).bind fun p133 => m_Curve_negate o132 p133.1).bind fun (t137 : (Option (T2 Int Int))) => Res.need ((toD t136).okq = true ∧ (toD t137).okq = true) (Res.ok (pyEq (toD t136) (toD t137)))).bind fun b => cond b   ((Res.ok (none : (Option (T2 Int Int)))))   ((((Res.ok self_)).bind fun (o138 : O_Curve) => ((((Res.ok first_)).bind optGet).bind fun a140 => ((((Res.ok second_)).bind optGet).bind fun a142 => (Res.ok ()).bind fun a143 => Res.ok (a142, a143)).bind fun a141 => Res.ok (a140, a141)).bind fun p139 => m_Curve_u_slope o138 p139.1 p139.2.1).bind fun (slope_ : Int) =>   ((((((Res.ok slope_)).bind fun (t144 : Int) => ((Res.ok (2 : Int))).bind fun (t145 : Int) => Res.need (CPowX t144 t145) (Res.ok (t144 ^ t145.toNat))).bind fun (t147 : Int) => ((((Res.ok first_)).bind optGet).bind fun (t146 : (T2 Int Int)) => Res.ok t146.a).bind fun (t148 : Int) => Res.ok (t147 - t148)).bind fun (t150 : Int) => ((((Res.ok second_)).bind optGet).bind fun (t149 : (T2 Int Int)) => Res.ok t149.a).bind fun (t151 : Int) => Res.ok (t150 - t151)).bind fun (t153 : Int) => (((Res.ok self_)).bind fun (t152 : O_Curve) => Res.ok t152.f_prime).bind fun (t154 : Int) => Res.need (0 < t154) (Res.ok (t153 % t154))).bind fun (x_ : Int) =>   ((((Res.ok x_)).bind fun a167 => ((((((Res.ok slope_)).bind fun (t158 : Int) => (((((Res.ok first_)).bind optGet).bind fun (t155 : (T2 Int Int)) => Res.ok t155.a).bind fun (t156 : Int) => ((Res.ok x_)).bind fun (t157 : Int) => Res.ok (t156 - t157)).bind fun (t159 : Int) => Res.need (CMulX t158 t159) (Res.ok (t158 * t159))).bind fun (t161 : Int) => ((((Res.ok first_)).bind optGet).bind fun (t160 : (T2 Int Int)) => Res.ok t160.b).bind fun (t162 : Int) => Res.ok (t161 - t162)).bind fun (t164 : Int) => (((Res.ok self_)).bind fun (t163 : O_Curve) => Res.ok t163.f_prime).bind fun (t165 : Int) => Res.need (0 < t165) (Res.ok (t164 % t165))).bind fun a169 => (Res.ok ()).bind fun a170 => Res.ok (a169, a170)).bind fun a168 => Res.ok (a167, a168)).bind fun p166 => Res.ok (T2.mk p166.1 p166.2.1)).bind fun (x : (T2 Int Int)) => Res.ok (some x))))
theorem ok_Curve_add {P : Program} {w : World} {K : PySem.W.Frag} {mg : Str → Option Value} {base : Heap} (T : Facts K mg) {fd : FuncData} (F : FnP K "add" "Curve.add" s_Curve_add (He.ma K (He.ga K "Curve") "add") fd) :
    FnOk P w K mg base (L2.CX P w) 4 (He.ma K (He.ga K "Curve") "add") fd ["self", "first", "second"] (spM K (fun (p : O_Curve × (Option (T2 Int Int)) × (Option (T2 Int Int)) × Unit) => m_Curve_add p.1 p.2.1 p.2.2.1)) := by
  obtain ⟨fd_Curve_u_slope, F_Curve_u_slope⟩ := T.d_Curve_u_slope
  have G_Curve_u_slope := ok_Curve_u_slope (P := P) (w := w) (base := base) T F_Curve_u_slope
  have b_Curve_u_slope : Binds K fd_Curve_u_slope ["self", "first", "second"] [] := F_Curve_u_slope.bindsN fun _ _ _ _ _ _ us hl => match us, hl with | [_, _, _], _ => rfl
  obtain ⟨fd_Curve_negate, F_Curve_negate⟩ := T.d_Curve_negate
  have G_Curve_negate := ok_Curve_negate (P := P) (w := w) (base := base) T F_Curve_negate
  have b_Curve_negate : Binds K fd_Curve_negate ["self", "point"] [] := F_Curve_negate.bindsN fun _ _ _ _ _ _ us hl => match us, hl with | [_, _], _ => rfl
  refine fn_ok F sc_Curve_add (fun y => rfl) (fun cdv A outer s H E hr => ?_)
  refine ⟨_, (pss_cons (ps_if (pt_cmpR op_isN (pv 1) pe_non (nomark _)) (pss_one (ps_ret (pv 2))) pss_nil) (pss_cons (ps_if (pt_cmpR op_isN (pv 2) pe_non (nomark _)) (pss_one (ps_ret (pv 1))) pss_nil) (pss_cons (ps_if (pt_cmpR (op_eqD (Room.units hr)) (pv 2) (pe_methQ (pv 0) T.cl_Curve T.mt_Curve_negate G_Curve_negate (hr.mono (by decide)) b_Curve_negate (fun σ => passAt (takes_of rfl rfl rfl rfl) σ) (pa_cons (pv 1) pa_nil)) (nomark _)) (pss_one (ps_ret pe_non)) pss_nil) (pss_cons (ps_set (i := 3) sc_Curve_add.nd rfl (Or.inl rfl) (pe_methQ (pv 0) T.cl_Curve T.mt_Curve_u_slope G_Curve_u_slope (hr.mono (by decide)) b_Curve_u_slope (fun σ => passAt (takes_of rfl rfl rfl rfl) σ) (pa_cons (pv 1) (pa_cons (pv 2) pa_nil)))) (pss_cons (ps_set (i := 4) sc_Curve_add.nd rfl (Or.inl rfl) (pe_op op_mod (pe_op op_sub (pe_op op_sub (pe_op op_powX (pv 3) pe_int) (pe_ix (cr_ixT rfl) (pv 1) pe_int (fun _ _ => rfl))) (pe_ix (cr_ixT rfl) (pv 2) pe_int (fun _ _ => rfl))) (pe_fld (pv 0) rfl))) (pss_one (ps_ret (pe_tup (pa_cons (pv 4) (pa_cons (pe_op op_mod (pe_op op_sub (pe_op op_mulX (pv 3) (pe_op op_sub (pe_ix (cr_ixT rfl) (pv 1) pe_int (fun _ _ => rfl)) (pv 4))) (pe_ix (cr_ixT rfl) (pv 1) pe_int (fun _ _ => rfl))) (pe_fld (pv 0) rfl)) pa_nil)))))))))), ?_⟩
  rintro ⟨self_, first_, second_, ⟨⟩⟩ F0 H0 Q KP L
  show Blk K F0 H0 KP _ [some (.im (toD self_)), some (.im (toD first_)), some (.im (toD second_)), none, none] (m_Curve_add self_ first_ second_)
  unfold m_Curve_add
  have ht_ := ((et_test (ev_op opx_isN mild_ok (ev_var (i := 1) (x := first_) rfl) ev_non)) : EvT K (W0 E) [some (.im (toD self_)), some (.im (toD first_)), some (.im (toD second_)), none, none] _ _)
  refine blk_seq (blk_if2 L trivial ht_ ?_ ?_)
  · have hr_ := ((ev_var (i := 2) (x := second_) rfl) : EvX K (W0 E) [some (.im (toD self_)), some (.im (toD first_)), some (.im (toD second_)), none, none] _ _)
    exact blk_ret L trivial hr_
  · refine blk_nil ?_
    try refine Blk.nx ?_
    have ht_ := ((et_test (ev_op opx_isN mild_ok (ev_var (i := 2) (x := second_) rfl) ev_non)) : EvT K (W0 E) [some (.im (toD self_)), some (.im (toD first_)), some (.im (toD second_)), none, none] _ _)
    refine blk_seq (blk_if2 L trivial ht_ ?_ ?_)
    · have hr_ := ((ev_var (i := 1) (x := first_) rfl) : EvX K (W0 E) [some (.im (toD self_)), some (.im (toD first_)), some (.im (toD second_)), none, none] _ _)
      exact blk_ret L trivial hr_
    · refine blk_nil ?_
      try refine Blk.nx ?_
      have ht_ := ((et_test (ev_op opx_eqD mild_need (ev_var (i := 2) (x := second_) rfl) (ev_meth (c := "Curve") (m := "negate") (ks := ["prime", "a", "b"]) (f := (fun (p : O_Curve × (Option (T2 Int Int)) × Unit) => m_Curve_negate p.1 p.2.1)) (ev_var (i := 0) (x := self_) rfl) (ea_cons (ev_var (i := 1) (x := first_) rfl) ea_nil) (by decide +kernel) (fun _ => ⟨_, rfl⟩)))) : EvT K (W0 E) [some (.im (toD self_)), some (.im (toD first_)), some (.im (toD second_)), none, none] _ _)
      refine blk_seq (blk_if2 L trivial ht_ ?_ ?_)
      · have hr_ := ((ev_noneO (α := (T2 Int Int))) : EvX K (W0 E) [some (.im (toD self_)), some (.im (toD first_)), some (.im (toD second_)), none, none] _ _)
        exact blk_ret L trivial hr_
      · refine blk_nil ?_
        try refine Blk.nx ?_
        have hs_ := ((ev_meth (c := "Curve") (m := "_slope") (ks := ["prime", "a", "b"]) (f := (fun (p : O_Curve × (T2 Int Int) × (T2 Int Int) × Unit) => m_Curve_u_slope p.1 p.2.1 p.2.2.1)) (ev_var (i := 0) (x := self_) rfl) (ea_cons (ev_castG (f := optGet) optGet_ok optGet_x (ev_var (i := 1) (x := first_) rfl)) (ea_cons (ev_castG (f := optGet) optGet_ok optGet_x (ev_var (i := 2) (x := second_) rfl)) ea_nil)) (by decide +kernel) (fun _ => ⟨_, rfl⟩)) : EvX K (W0 E) [some (.im (toD self_)), some (.im (toD first_)), some (.im (toD second_)), none, none] _ _)
        refine blk_seq (blk_set (i := 3) L trivial hs_ fun slope_ => ?_)
        show Blk _ _ _ _ _ [some (.im (toD self_)), some (.im (toD first_)), some (.im (toD second_)), some (.im (toD slope_)), none] _
        try refine Blk.nx ?_
        have hs_ := ((ev_op (opx_I (C := (fun _ j => 0 < j)) (g := fun i j => i % j)) mild_need (ev_op (opx_I0 (g := fun i j => i - j)) mild_ok (ev_op (opx_I0 (g := fun i j => i - j)) mild_ok (ev_op (opx_I (C := CPowX) (g := fun i j => i ^ j.toNat)) mild_need (ev_var (i := 3) (x := slope_) rfl) (ev_int (i := 2))) (ev_ixTC (i := 0) (f := fun x => x.a) (ev_castG (f := optGet) optGet_ok optGet_x (ev_var (i := 1) (x := first_) rfl)) (fun x => ⟨_, rfl, rfl⟩))) (ev_ixTC (i := 0) (f := fun x => x.a) (ev_castG (f := optGet) optGet_ok optGet_x (ev_var (i := 2) (x := second_) rfl)) (fun x => ⟨_, rfl, rfl⟩))) (ev_fld (g := fun (x : O_Curve) => x.f_prime) (c := "Curve") (ks := ["prime", "a", "b"]) (j := 0) (ev_var (i := 0) (x := self_) rfl) T.cl_Curve T.nf_Curve_prime (by decide +kernel) (fun _ => ⟨_, rfl, rfl⟩))) : EvX K (W0 E) [some (.im (toD self_)), some (.im (toD first_)), some (.im (toD second_)), some (.im (toD slope_)), none] _ _)
        refine blk_seq (blk_set (i := 4) L trivial hs_ fun x_ => ?_)
        show Blk _ _ _ _ _ [some (.im (toD self_)), some (.im (toD first_)), some (.im (toD second_)), some (.im (toD slope_)), some (.im (toD x_))] _
        try refine Blk.nx ?_
        have hr_ := ((ev_as (ev_tup (f := (fun y => T2.mk y.1 y.2.1)) (ea_cons (ev_var (i := 4) (x := x_) rfl) (ea_cons (ev_op (opx_I (C := (fun _ j => 0 < j)) (g := fun i j => i % j)) mild_need (ev_op (opx_I0 (g := fun i j => i - j)) mild_ok (ev_op (opx_I (C := CMulX) (g := fun i j => i * j)) mild_need (ev_var (i := 3) (x := slope_) rfl) (ev_op (opx_I0 (g := fun i j => i - j)) mild_ok (ev_ixTC (i := 0) (f := fun x => x.a) (ev_castG (f := optGet) optGet_ok optGet_x (ev_var (i := 1) (x := first_) rfl)) (fun x => ⟨_, rfl, rfl⟩)) (ev_var (i := 4) (x := x_) rfl))) (ev_ixTC (i := 1) (f := fun x => x.b) (ev_castG (f := optGet) optGet_ok optGet_x (ev_var (i := 1) (x := first_) rfl)) (fun x => ⟨_, rfl, rfl⟩))) (ev_fld (g := fun (x : O_Curve) => x.f_prime) (c := "Curve") (ks := ["prime", "a", "b"]) (j := 0) (ev_var (i := 0) (x := self_) rfl) T.cl_Curve T.nf_Curve_prime (by decide +kernel) (fun _ => ⟨_, rfl, rfl⟩))) ea_nil)) (fun _ => rfl) (fun _ => by show 2 ≤ 100000; decide)) some (fun _ => rfl) rfl) : EvX K (W0 E) [some (.im (toD self_)), some (.im (toD first_)), some (.im (toD second_)), some (.im (toD slope_)), some (.im (toD x_))] _ _)
        exact blk_ret L trivial hr_
noncomputable def m_multiply_by_bits_k3 (curve_ : O_Curve) (doubled_ : (Option (T2 Int Int))) (rest_ : Int) (g2 : (Option (T2 Int Int)) × (Option (T2 Int Int)) × Int → Res (Option (T2 Int Int))) : (Option (T2 Int Int)) → Res (Option (T2 Int Int)) := fun result_ =>   (((Res.ok curve_)).bind fun (o193 : O_Curve) => (((Res.ok doubled_)).bind fun a195 => (((Res.ok doubled_)).bind fun a197 => (Res.ok ()).bind fun a198 => Res.ok (a197, a198)).bind fun a196 => Res.ok (a195, a196)).bind fun p194 => m_Curve_add o193 p194.1 p194.2.1).bind fun (doubled_ : (Option (T2 Int Int))) =>   (((Res.ok rest_)).bind fun (t199 : Int) => ((Res.ok (1 : Int))).bind fun (t200 : Int) => Res.ok (t199 / 2 ^ t200.toNat)).bind fun (rest_ : Int) =>   g2 (result_, doubled_, rest_)
noncomputable def m_multiply_by_bits_w2 (curve_ : O_Curve) (k2 : (Option (T2 Int Int)) × (Option (T2 Int Int)) × Int → Res (Option (T2 Int Int))) : Nat → (Option (T2 Int Int)) × (Option (T2 Int Int)) × Int → Res (Option (T2 Int Int))
  | 0, _ => Res.stuck
  | n2 + 1, (result_, doubled_, rest_) => (((Res.ok rest_)).bind fun (t187 : Int) => ((Res.ok (0 : Int))).bind fun (t188 : Int) => Res.ok (decide (t188 < t187))).bind fun b => cond b   (((((Res.ok rest_)).bind fun (t189 : Int) => ((Res.ok (1 : Int))).bind fun (t190 : Int) => Res.ok (Builtin.bitAnd t189 t190)).bind fun (t191 : Int) => ((Res.ok (1 : Int))).bind fun (t192 : Int) => Res.ok (decide (t191 = t192))).bind fun b => cond b   ((((Res.ok curve_)).bind fun (o201 : O_Curve) => (((Res.ok result_)).bind fun a203 => (((Res.ok doubled_)).bind fun a205 => (Res.ok ()).bind fun a206 => Res.ok (a205, a206)).bind fun a204 => Res.ok (a203, a204)).bind fun p202 => m_Curve_add o201 p202.1 p202.2.1).bind fun (result_ : (Option (T2 Int Int))) =>   (m_multiply_by_bits_k3 curve_ doubled_ rest_ (m_multiply_by_bits_w2 curve_ k2 n2)) result_)   ((m_multiply_by_bits_k3 curve_ doubled_ rest_ (m_multiply_by_bits_w2 curve_ k2 n2)) result_))   (k2 (result_, doubled_, rest_))
noncomputable def m_multiply_by_bits_k4 : (Option (T2 Int Int)) × (Option (T2 Int Int)) × Int → Res (Option (T2 Int Int)) := fun (result_, doubled_, rest_) =>   (Res.ok result_)
noncomputable def m_multiply_by_bits_b (rec_ : O_Curve → (Option (T2 Int Int)) → Int → (Option (T2 Int Int)) → Res (Option (T2 Int Int))) (curve_ : O_Curve) (neutral_ : (Option (T2 Int Int))) (factor_ : Int) (point_ : (Option (T2 Int Int))) : Res (Option (T2 Int Int)) :=
  (((Res.ok factor_)).bind fun (t171 : Int) => ((Res.ok (0 : Int))).bind fun (t172 : Int) => Res.ok (decide (t171 < t172))).bind fun b => cond b   ((((Res.ok curve_)).bind fun a179 => (((Res.ok neutral_)).bind fun a181 => ((((Res.ok factor_)).bind fun (t173 : Int) => Res.ok (-t173)).bind fun a183 => ((((Res.ok curve_)).bind fun (o174 : O_Curve) => (((Res.ok point_)).bind fun a176 => (Res.ok ()).bind fun a177 => Res.ok (a176, a177)).bind fun p175 => m_Curve_negate o174 p175.1).bind fun a185 => (Res.ok ()).bind fun a186 => Res.ok (a185, a186)).bind fun a184 => Res.ok (a183, a184)).bind fun a182 => Res.ok (a181, a182)).bind fun a180 => Res.ok (a179, a180)).bind fun p178 => rec_ p178.1 p178.2.1 p178.2.2.1 p178.2.2.2.1)   (((Res.ok neutral_)).bind fun (result_ : (Option (T2 Int Int))) =>   ((Res.ok point_)).bind fun (doubled_ : (Option (T2 Int Int))) =>   ((Res.ok factor_)).bind fun (rest_ : Int) =>   m_multiply_by_bits_w2 curve_ (m_multiply_by_bits_k4) (rest_.toNat + 1) (result_, doubled_, rest_))
noncomputable def m_multiply_by_bits : Nat → O_Curve → (Option (T2 Int Int)) → Int → (Option (T2 Int Int)) → Res (Option (T2 Int Int))
  | 0, _, _, _, _ => Res.stuck
  | n_ + 1, curve_, neutral_, factor_, point_ => m_multiply_by_bits_b (m_multiply_by_bits n_) curve_ neutral_ factor_ point_
theorem ok_multiply_by_bits {P : Program} {w : World} {K : PySem.W.Frag} {mg : Str → Option Value} {base : Heap} (T : Facts K mg) {fd : FuncData} (F : FnP K "multiply_by_bits" "multiply_by_bits" s_multiply_by_bits (He.ga K "multiply_by_bits") fd) : ∀ n_ : Nat,
    FnOk P w K mg base (L2.CX P w) (4 + n_) (He.ga K "multiply_by_bits") fd ["curve", "neutral", "factor", "point"] (spM K (fun (p : O_Curve × (Option (T2 Int Int)) × Int × (Option (T2 Int Int)) × Unit) => m_multiply_by_bits n_ p.1 p.2.1 p.2.2.1 p.2.2.2.1)) := by
  obtain ⟨fd_Curve_add, F_Curve_add⟩ := T.d_Curve_add
  have G_Curve_add := ok_Curve_add (P := P) (w := w) (base := base) T F_Curve_add
  have b_Curve_add : Binds K fd_Curve_add ["self", "first", "second"] [] := F_Curve_add.bindsN fun _ _ _ _ _ _ us hl => match us, hl with | [_, _, _], _ => rfl
  obtain ⟨fd_Curve_negate, F_Curve_negate⟩ := T.d_Curve_negate
  have G_Curve_negate := ok_Curve_negate (P := P) (w := w) (base := base) T F_Curve_negate
  have b_Curve_negate : Binds K fd_Curve_negate ["self", "point"] [] := F_Curve_negate.bindsN fun _ _ _ _ _ _ us hl => match us, hl with | [_, _], _ => rfl
  have b_multiply_by_bits : Binds K fd ["curve", "neutral", "factor", "point"] [] := F.bindsN fun _ _ _ _ _ _ us hl => match us, hl with | [_, _, _, _], _ => rfl
  have F_multiply_by_bits := F
  intro n_
  induction n_ with
  | zero => exact fnok_stuck _ (fun _ => rfl)
  | succ n_ G_multiply_by_bits =>
  refine fn_ok (k := 4 + n_) F sc_multiply_by_bits (fun y => rfl) (fun cdv A outer s H E hr => ?_)
  refine ⟨_, (pss_cons (ps_if (pt_cmpR op_lt (pv 2) pe_int (nomark _)) (pss_one (ps_ret (pe_callS G_multiply_by_bits (hr.mono (by omega)) rfl T.g_multiply_by_bits F_multiply_by_bits.kp b_multiply_by_bits (fun σ => passAt (takes_of rfl rfl rfl rfl) σ) (pa_cons (pv 0) (pa_cons (pv 1) (pa_cons (pe_un un_neg (pv 2)) (pa_cons (pe_methQ (pv 0) T.cl_Curve T.mt_Curve_negate G_Curve_negate (hr.mono (by omega)) b_Curve_negate (fun σ => passAt (takes_of rfl rfl rfl rfl) σ) (pa_cons (pv 3) pa_nil)) pa_nil))))))) pss_nil) (pss_cons (ps_set (i := 4) sc_multiply_by_bits.nd rfl (Or.inl rfl) (pv 1)) (pss_cons (ps_set (i := 5) sc_multiply_by_bits.nd rfl (Or.inl rfl) (pv 3)) (pss_cons (ps_set (i := 6) sc_multiply_by_bits.nd rfl (Or.inl rfl) (pv 2)) (pss_cons (ps_while (passes_of rfl) (pt_cmpR op_gt (pv 6) pe_int (nomark _)) (pss_cons (ps_if (pt_cmpR op_eq (pe_op op_and (pv 6) pe_int) pe_int (nomark _)) (pss_one (ps_set (i := 4) sc_multiply_by_bits.nd rfl (Or.inl rfl) (pe_methQ (pv 0) T.cl_Curve T.mt_Curve_add G_Curve_add (hr.mono (by omega)) b_Curve_add (fun σ => passAt (takes_of rfl rfl rfl rfl) σ) (pa_cons (pv 4) (pa_cons (pv 5) pa_nil))))) pss_nil) (pss_cons (ps_set (i := 5) sc_multiply_by_bits.nd rfl (Or.inl rfl) (pe_methQ (pv 0) T.cl_Curve T.mt_Curve_add G_Curve_add (hr.mono (by omega)) b_Curve_add (fun σ => passAt (takes_of rfl rfl rfl rfl) σ) (pa_cons (pv 5) (pa_cons (pv 5) pa_nil)))) (pss_one (ps_set (i := 6) sc_multiply_by_bits.nd rfl (Or.inl rfl) (pe_op op_shr (pv 6) pe_int)))))) (pss_one (ps_ret (pv 4)))))))), ?_⟩
  rintro ⟨curve_, neutral_, factor_, point_, ⟨⟩⟩ F0 H0 Q KP L
  show Blk K F0 H0 KP _ [some (.im (toD curve_)), some (.im (toD neutral_)), some (.im (toD factor_)), some (.im (toD point_)), none, none, none] (m_multiply_by_bits_b (m_multiply_by_bits n_) curve_ neutral_ factor_ point_)
  unfold m_multiply_by_bits_b
  have ht_ := ((et_test (ev_op (opx_B0 (g := fun i j => decide (i < j))) mild_ok (ev_var (i := 2) (x := factor_) rfl) (ev_int (i := 0)))) : EvT K (W0 E) [some (.im (toD curve_)), some (.im (toD neutral_)), some (.im (toD factor_)), some (.im (toD point_)), none, none, none] _ _)
  refine blk_seq (blk_if2 L trivial ht_ ?_ ?_)
  · have hr_ := ((ev_call (f := (fun (p : O_Curve × (Option (T2 Int Int)) × Int × (Option (T2 Int Int)) × Unit) => (m_multiply_by_bits n_) p.1 p.2.1 p.2.2.1 p.2.2.2.1)) (ea_cons (ev_var (i := 0) (x := curve_) rfl) (ea_cons (ev_var (i := 1) (x := neutral_) rfl) (ea_cons (ev_un (g := fun i => -i) (ev_var (i := 2) (x := factor_) rfl)) (ea_cons (ev_meth (c := "Curve") (m := "negate") (ks := ["prime", "a", "b"]) (f := (fun (p : O_Curve × (Option (T2 Int Int)) × Unit) => m_Curve_negate p.1 p.2.1)) (ev_var (i := 0) (x := curve_) rfl) (ea_cons (ev_var (i := 3) (x := point_) rfl) ea_nil) (by decide +kernel) (fun _ => ⟨_, rfl⟩)) ea_nil))))) : EvX K (W0 E) [some (.im (toD curve_)), some (.im (toD neutral_)), some (.im (toD factor_)), some (.im (toD point_)), none, none, none] _ _)
    exact blk_ret L trivial hr_
  · refine blk_nil ?_
    try refine Blk.nx ?_
    have hs_ := ((ev_var (i := 1) (x := neutral_) rfl) : EvX K (W0 E) [some (.im (toD curve_)), some (.im (toD neutral_)), some (.im (toD factor_)), some (.im (toD point_)), none, none, none] _ _)
    refine blk_seq (blk_set (i := 4) L trivial hs_ fun result_ => ?_)
    show Blk _ _ _ _ _ [some (.im (toD curve_)), some (.im (toD neutral_)), some (.im (toD factor_)), some (.im (toD point_)), some (.im (toD result_)), none, none] _
    try refine Blk.nx ?_
    have hs_ := ((ev_var (i := 3) (x := point_) rfl) : EvX K (W0 E) [some (.im (toD curve_)), some (.im (toD neutral_)), some (.im (toD factor_)), some (.im (toD point_)), some (.im (toD result_)), none, none] _ _)
    refine blk_seq (blk_set (i := 5) L trivial hs_ fun doubled_ => ?_)
    show Blk _ _ _ _ _ [some (.im (toD curve_)), some (.im (toD neutral_)), some (.im (toD factor_)), some (.im (toD point_)), some (.im (toD result_)), some (.im (toD doubled_)), none] _
    try refine Blk.nx ?_
    have hs_ := ((ev_var (i := 2) (x := factor_) rfl) : EvX K (W0 E) [some (.im (toD curve_)), some (.im (toD neutral_)), some (.im (toD factor_)), some (.im (toD point_)), some (.im (toD result_)), some (.im (toD doubled_)), none] _ _)
    refine blk_seq (blk_set (i := 6) L trivial hs_ fun rest_ => ?_)
    show Blk _ _ _ _ _ [some (.im (toD curve_)), some (.im (toD neutral_)), some (.im (toD factor_)), some (.im (toD point_)), some (.im (toD result_)), some (.im (toD doubled_)), some (.im (toD rest_))] _
    try refine Blk.nx ?_
    refine blk_seq (blk_while (S := (Option (T2 Int Int)) × (Option (T2 Int Int)) × Int) (m_multiply_by_bits_w2 curve_ (m_multiply_by_bits_k4)) (fun (s : (Option (T2 Int Int)) × (Option (T2 Int Int)) × Int) => match s with | (result_, doubled_, rest_) => ((Res.ok rest_)).bind fun (t187 : Int) => ((Res.ok (0 : Int))).bind fun (t188 : Int) => Res.ok (decide (t188 < t187))) (fun n s => match s with | (result_, doubled_, rest_) => ((((Res.ok rest_)).bind fun (t189 : Int) => ((Res.ok (1 : Int))).bind fun (t190 : Int) => Res.ok (Builtin.bitAnd t189 t190)).bind fun (t191 : Int) => ((Res.ok (1 : Int))).bind fun (t192 : Int) => Res.ok (decide (t191 = t192))).bind fun b => cond b   ((((Res.ok curve_)).bind fun (o201 : O_Curve) => (((Res.ok result_)).bind fun a203 => (((Res.ok doubled_)).bind fun a205 => (Res.ok ()).bind fun a206 => Res.ok (a205, a206)).bind fun a204 => Res.ok (a203, a204)).bind fun p202 => m_Curve_add o201 p202.1 p202.2.1).bind fun (result_ : (Option (T2 Int Int))) =>   (m_multiply_by_bits_k3 curve_ doubled_ rest_ (m_multiply_by_bits_w2 curve_ (m_multiply_by_bits_k4) n)) result_)   ((m_multiply_by_bits_k3 curve_ doubled_ rest_ (m_multiply_by_bits_w2 curve_ (m_multiply_by_bits_k4) n)) result_)) (m_multiply_by_bits_k4) (fun (result_, doubled_, rest_) => [some (.im (toD curve_)), some (.im (toD neutral_)), some (.im (toD factor_)), some (.im (toD point_)), some (.im (toD result_)), some (.im (toD doubled_)), some (.im (toD rest_))]) (result_, doubled_, rest_) (rest_.toNat + 1) L ?_ (.same (.same (.same (.same (.same (.same (.same .nil))))))) ?_ (fun ⟨_, _, _⟩ => rfl) (fun _ ⟨_, _, _⟩ => rfl) ?_ ?_)
    · rintro ⟨result_, doubled_, rest_⟩
      exact trivial
    · rintro ⟨result_, doubled_, rest_⟩
      exact ((et_test (ev_op (opx_B0 (g := fun i j => decide (j < i))) mild_ok (ev_var (i := 6) (x := rest_) rfl) (ev_int (i := 0)))) : EvT K (W0 E) [some (.im (toD curve_)), some (.im (toD neutral_)), some (.im (toD factor_)), some (.im (toD point_)), some (.im (toD result_)), some (.im (toD doubled_)), some (.im (toD rest_))] _ _)
    · intro n2 s_ N_ hN2
      obtain ⟨result_, doubled_, rest_⟩ := s_
      show Blk _ _ _ _ _ [some (.im (toD curve_)), some (.im (toD neutral_)), some (.im (toD factor_)), some (.im (toD point_)), some (.im (toD result_)), some (.im (toD doubled_)), some (.im (toD rest_))] _
      have ht_ := ((et_test (ev_op opx_eqI mild_ok (ev_op (opx_I0 (g := Builtin.bitAnd)) mild_ok (ev_var (i := 6) (x := rest_) rfl) (ev_int (i := 1))) (ev_int (i := 1)))) : EvT K (W0 E) [some (.im (toD curve_)), some (.im (toD neutral_)), some (.im (toD factor_)), some (.im (toD point_)), some (.im (toD result_)), some (.im (toD doubled_)), some (.im (toD rest_))] _ _)
      refine blk_seq (blk_ifj (S := (Option (T2 Int Int))) (fun result_ => [some (.im (toD curve_)), some (.im (toD neutral_)), some (.im (toD factor_)), some (.im (toD point_)), some (.im (toD result_)), some (.im (toD doubled_)), some (.im (toD rest_))]) (m_multiply_by_bits_k3 curve_ doubled_ rest_ (m_multiply_by_bits_w2 curve_ (m_multiply_by_bits_k4) n2)) L trivial ht_ ?_ ?_ ?_)
      · intro result_
        show Blk _ _ _ _ _ [some (.im (toD curve_)), some (.im (toD neutral_)), some (.im (toD factor_)), some (.im (toD point_)), some (.im (toD result_)), some (.im (toD doubled_)), some (.im (toD rest_))] ((m_multiply_by_bits_k3 curve_ doubled_ rest_ (m_multiply_by_bits_w2 curve_ (m_multiply_by_bits_k4) n2)) result_)
        unfold m_multiply_by_bits_k3
        try refine Blk.nx ?_
        have hs_ := ((ev_meth (c := "Curve") (m := "add") (ks := ["prime", "a", "b"]) (f := (fun (p : O_Curve × (Option (T2 Int Int)) × (Option (T2 Int Int)) × Unit) => m_Curve_add p.1 p.2.1 p.2.2.1)) (ev_var (i := 0) (x := curve_) rfl) (ea_cons (ev_var (i := 5) (x := doubled_) rfl) (ea_cons (ev_var (i := 5) (x := doubled_) rfl) ea_nil)) (by decide +kernel) (fun _ => ⟨_, rfl⟩)) : EvX K (W0 E) [some (.im (toD curve_)), some (.im (toD neutral_)), some (.im (toD factor_)), some (.im (toD point_)), some (.im (toD result_)), some (.im (toD doubled_)), some (.im (toD rest_))] _ _)
        refine blk_seq (blk_set (i := 5) L trivial hs_ fun doubled_ => ?_)
        show Blk _ _ _ _ _ [some (.im (toD curve_)), some (.im (toD neutral_)), some (.im (toD factor_)), some (.im (toD point_)), some (.im (toD result_)), some (.im (toD doubled_)), some (.im (toD rest_))] _
        try refine Blk.nx ?_
        have hs_ := ((ev_opI (C := (fun _ j => 0 ≤ j)) (g := fun i j => i / 2 ^ j.toNat) (fun x y _ h => by cases h; (show (0 : Int) ≤ _; decide)) (ev_var (i := 6) (x := rest_) rfl) (ev_int (i := 1))) : EvX K (W0 E) [some (.im (toD curve_)), some (.im (toD neutral_)), some (.im (toD factor_)), some (.im (toD point_)), some (.im (toD result_)), some (.im (toD doubled_)), some (.im (toD rest_))] _ _)
        refine blk_set (i := 6) L trivial hs_ fun rest_ => ?_
        show Blk _ _ _ _ _ [some (.im (toD curve_)), some (.im (toD neutral_)), some (.im (toD factor_)), some (.im (toD point_)), some (.im (toD result_)), some (.im (toD doubled_)), some (.im (toD rest_))] _
        try refine Blk.nx ?_
        exact (hN2 (result_, doubled_, rest_)).weak (.same (.same (.same (.same (.same (.same (.same .nil)))))))
      · intro hk3
        have hs_ := ((ev_meth (c := "Curve") (m := "add") (ks := ["prime", "a", "b"]) (f := (fun (p : O_Curve × (Option (T2 Int Int)) × (Option (T2 Int Int)) × Unit) => m_Curve_add p.1 p.2.1 p.2.2.1)) (ev_var (i := 0) (x := curve_) rfl) (ea_cons (ev_var (i := 4) (x := result_) rfl) (ea_cons (ev_var (i := 5) (x := doubled_) rfl) ea_nil)) (by decide +kernel) (fun _ => ⟨_, rfl⟩)) : EvX K (W0 E) [some (.im (toD curve_)), some (.im (toD neutral_)), some (.im (toD factor_)), some (.im (toD point_)), some (.im (toD result_)), some (.im (toD doubled_)), some (.im (toD rest_))] _ _)
        refine blk_set (i := 4) L trivial hs_ fun result_ => ?_
        show Blk _ _ _ _ _ [some (.im (toD curve_)), some (.im (toD neutral_)), some (.im (toD factor_)), some (.im (toD point_)), some (.im (toD result_)), some (.im (toD doubled_)), some (.im (toD rest_))] _
        try refine Blk.nx ?_
        exact (hk3 result_).weak (.same (.same (.same (.same (.same (.same (.same .nil)))))))
      · intro hk3
        refine blk_nil ?_
        try refine Blk.nx ?_
        exact (hk3 result_).weak (.same (.same (.same (.same (.same (.same (.same .nil)))))))
    · rintro ⟨result_, doubled_, rest_⟩
      show Blk _ _ _ _ _ [some (.im (toD curve_)), some (.im (toD neutral_)), some (.im (toD factor_)), some (.im (toD point_)), some (.im (toD result_)), some (.im (toD doubled_)), some (.im (toD rest_))] ((m_multiply_by_bits_k4) (result_, doubled_, rest_))
      unfold m_multiply_by_bits_k4
      try refine Blk.nx ?_
      have hr_ := ((ev_var (i := 4) (x := result_) rfl) : EvX K (W0 E) [some (.im (toD curve_)), some (.im (toD neutral_)), some (.im (toD factor_)), some (.im (toD point_)), some (.im (toD result_)), some (.im (toD doubled_)), some (.im (toD rest_))] _ _)
      exact blk_ret L trivial hr_
noncomputable def m_Curve_init (prime_ : Int) (a_ : Int) (b_ : Int) : Res O_Curve :=
  ((((Res.ok prime_)).bind fun (t207 : Int) => ((Res.ok (5 : Int))).bind fun (t208 : Int) => Res.ok (decide (t207 < t208))).bind fun b213 => cond b213 (Res.ok true) ((((Res.ok prime_)).bind fun (t209 : Int) => ((Res.ok (2 : Int))).bind fun (t210 : Int) => Res.ok (t209 % t210)).bind fun (t211 : Int) => ((Res.ok (0 : Int))).bind fun (t212 : Int) => Res.ok (decide (t211 = t212)))).bind fun b => cond b   (Res.exc "OutOfRange")   (((Res.ok prime_)).bind fun (sf_prime : Int) =>   (((Res.ok a_)).bind fun (t214 : Int) => ((Res.ok prime_)).bind fun (t215 : Int) => Res.need (0 < t215) (Res.ok (t214 % t215))).bind fun (sf_a : Int) =>   (((Res.ok b_)).bind fun (t216 : Int) => ((Res.ok prime_)).bind fun (t217 : Int) => Res.need (0 < t217) (Res.ok (t216 % t217))).bind fun (sf_b : Int) =>   ((((((Res.ok (4 : Int))).bind fun (t220 : Int) => (((Res.ok sf_a)).bind fun (t218 : Int) => ((Res.ok (3 : Int))).bind fun (t219 : Int) => Res.need (CPowX t218 t219) (Res.ok (t218 ^ t219.toNat))).bind fun (t221 : Int) => Res.ok (t220 * t221)).bind fun (t226 : Int) => (((Res.ok (27 : Int))).bind fun (t224 : Int) => (((Res.ok sf_b)).bind fun (t222 : Int) => ((Res.ok (2 : Int))).bind fun (t223 : Int) => Res.need (CPowX t222 t223) (Res.ok (t222 ^ t223.toNat))).bind fun (t225 : Int) => Res.ok (t224 * t225)).bind fun (t227 : Int) => Res.ok (t226 + t227)).bind fun (t228 : Int) => ((Res.ok prime_)).bind fun (t229 : Int) => Res.need (0 < t229) (Res.ok (t228 % t229))).bind fun (t230 : Int) => ((Res.ok (0 : Int))).bind fun (t231 : Int) => Res.ok (decide (t230 = t231))).bind fun b => cond b   (Res.exc "Refused")   (Res.ok (O_Curve.mk sf_prime sf_a sf_b)))
theorem ok_Curve_init {P : Program} {w : World} {K : PySem.W.Frag} {mg : Str → Option Value} {base : Heap} (T : Facts K mg) {fd : FuncData} (F : FnP K "__init__" "Curve.__init__" s_Curve_init (He.ma K (He.ga K "Curve") "__init__") fd) :
    FnOk P w K mg base (L2.CX P w) 1 (He.ma K (He.ga K "Curve") "__init__") fd ["self", "prime", "a", "b"] (spI K "Curve" (fun (p : Int × Int × Int × Unit) => m_Curve_init p.1 p.2.1 p.2.2.1)) := by
  refine fn_okI (c := "Curve") F sc_Curve_init (fun y => rfl) (fun cdv A outer s H E hr => ?_)
  refine ⟨_, (pss_cons (ps_if (PW.pt (pw_or (pt_cmpR op_lt (pv 1) pe_int (nomark _)) (pw_or1 (pt_cmpR op_eq (pe_op op_mod (pv 1) pe_int) pe_int (nomark _))))) (pss_one (ps_raise rfl (takes_of rfl rfl rfl rfl) (pmk_own PySem.F.excBase_ValueError T.x_OutOfRange T.g_OutOfRange T.k_OutOfRange (raises_own T.b_OutOfRange T.t_OutOfRange) rfl))) pss_nil) (pss_cons (ps_fld (pv 0) (pv 1) rfl) (pss_cons (ps_fld (pv 0) (pe_op op_mod (pv 2) (pv 1)) rfl) (pss_cons (ps_fld (pv 0) (pe_op op_mod (pv 3) (pv 1)) rfl) (pss_one (ps_if (pt_cmpR op_eq (pe_op op_mod (pe_op op_add (pe_op op_mul pe_int (pe_op op_powX (pe_fld (pv 0) rfl) pe_int)) (pe_op op_mul pe_int (pe_op op_powX (pe_fld (pv 0) rfl) pe_int))) (pv 1)) pe_int (nomark _)) (pss_one (ps_raise rfl (takes_of rfl rfl rfl rfl) (pmk_own PySem.F.excBase_ValueError T.x_Refused T.g_Refused T.k_Refused (raises_own T.b_Refused T.t_Refused) rfl))) pss_nil)))))), ?_⟩
  rintro ⟨prime_, a_, b_, ⟨⟩⟩ p_ F0 H0 Q KP L
  show Blk K F0 H0 KP _ [some (.oi (some p_) "Curve" [] []), some (.im (toD prime_)), some (.im (toD a_)), some (.im (toD b_))] (m_Curve_init prime_ a_ b_)
  unfold m_Curve_init
  have ht_ := ((et_or (et_test (ev_op (opx_B0 (g := fun i j => decide (i < j))) mild_ok (ev_var (i := 1) (x := prime_) rfl) (ev_int (i := 5)))) (et_test (ev_op opx_eqI mild_ok (ev_opI (C := (fun _ j => 0 < j)) (g := fun i j => i % j) (fun x y _ h => by cases h; (show (0 : Int) < _; decide)) (ev_var (i := 1) (x := prime_) rfl) (ev_int (i := 2))) (ev_int (i := 0))))) : EvT K (W0 E) [some (.oi (some p_) "Curve" [] []), some (.im (toD prime_)), some (.im (toD a_)), some (.im (toD b_))] _ _)
  refine blk_seq (blk_if2 L trivial ht_ ?_ ?_)
  · exact blk_raise L trivial
  · refine blk_nil ?_
    try refine Blk.nx ?_
    have hs_ := ((ev_var (i := 1) (x := prime_) rfl) : EvX K (W0 E) [some (.oi (some p_) "Curve" [] []), some (.im (toD prime_)), some (.im (toD a_)), some (.im (toD b_))] _ _)
    refine blk_seq (blk_fldN (i := 0) L trivial hs_ rfl T.cl_Curve T.nf_Curve_prime (by decide +kernel) (by decide) fun sf_prime => ?_)
    show Blk _ _ _ _ _ [some (.oi (some p_) "Curve" ["prime"] [toD sf_prime]), some (.im (toD prime_)), some (.im (toD a_)), some (.im (toD b_))] _
    try refine Blk.nx ?_
    have hs_ := ((ev_op (opx_I (C := (fun _ j => 0 < j)) (g := fun i j => i % j)) mild_need (ev_var (i := 2) (x := a_) rfl) (ev_var (i := 1) (x := prime_) rfl)) : EvX K (W0 E) [some (.oi (some p_) "Curve" ["prime"] [toD sf_prime]), some (.im (toD prime_)), some (.im (toD a_)), some (.im (toD b_))] _ _)
    refine blk_seq (blk_fldN (i := 0) L trivial hs_ rfl T.cl_Curve T.nf_Curve_a (by decide +kernel) (by decide) fun sf_a => ?_)
    show Blk _ _ _ _ _ [some (.oi (some p_) "Curve" ["prime", "a"] [toD sf_prime, toD sf_a]), some (.im (toD prime_)), some (.im (toD a_)), some (.im (toD b_))] _
    try refine Blk.nx ?_
    have hs_ := ((ev_op (opx_I (C := (fun _ j => 0 < j)) (g := fun i j => i % j)) mild_need (ev_var (i := 3) (x := b_) rfl) (ev_var (i := 1) (x := prime_) rfl)) : EvX K (W0 E) [some (.oi (some p_) "Curve" ["prime", "a"] [toD sf_prime, toD sf_a]), some (.im (toD prime_)), some (.im (toD a_)), some (.im (toD b_))] _ _)
    refine blk_seq (blk_fldN (i := 0) L trivial hs_ rfl T.cl_Curve T.nf_Curve_b (by decide +kernel) (by decide) fun sf_b => ?_)
    show Blk _ _ _ _ _ [some (.oi (some p_) "Curve" ["prime", "a", "b"] [toD sf_prime, toD sf_a, toD sf_b]), some (.im (toD prime_)), some (.im (toD a_)), some (.im (toD b_))] _
    try refine Blk.nx ?_
    have ht_ := ((et_test (ev_op opx_eqI mild_ok (ev_op (opx_I (C := (fun _ j => 0 < j)) (g := fun i j => i % j)) mild_need (ev_op (opx_I0 (g := fun i j => i + j)) mild_ok (ev_opI (C := CMul) (g := fun i j => i * j) (fun x y h _ => by cases h; exact .inl (by decide)) (ev_int (i := 4)) (ev_op (opx_I (C := CPowX) (g := fun i j => i ^ j.toNat)) mild_need (ev_fldO (i := 0) (j := 1) (x := sf_a) rfl T.cl_Curve T.nf_Curve_a (by decide +kernel) rfl) (ev_int (i := 3)))) (ev_opI (C := CMul) (g := fun i j => i * j) (fun x y h _ => by cases h; exact .inl (by decide)) (ev_int (i := 27)) (ev_op (opx_I (C := CPowX) (g := fun i j => i ^ j.toNat)) mild_need (ev_fldO (i := 0) (j := 2) (x := sf_b) rfl T.cl_Curve T.nf_Curve_b (by decide +kernel) rfl) (ev_int (i := 2))))) (ev_var (i := 1) (x := prime_) rfl)) (ev_int (i := 0)))) : EvT K (W0 E) [some (.oi (some p_) "Curve" ["prime", "a", "b"] [toD sf_prime, toD sf_a, toD sf_b]), some (.im (toD prime_)), some (.im (toD a_)), some (.im (toD b_))] _ _)
    refine blk_if2 L trivial ht_ ?_ ?_
    · exact blk_raise L trivial
    · refine blk_nil ?_
      try refine Blk.nx ?_
      exact blk_finI (i := 0) L rfl rfl
noncomputable def m_Curve_multiply (self_ : O_Curve) (factor_ : Int) (point_ : (Option (T2 Int Int))) : Res (Option (T2 Int Int)) :=
  (((Res.ok self_)).bind fun a233 => (((Res.ok (none : (Option (T2 Int Int))))).bind fun a235 => (((Res.ok factor_)).bind fun a237 => (((Res.ok point_)).bind fun a239 => (Res.ok ()).bind fun a240 => Res.ok (a239, a240)).bind fun a238 => Res.ok (a237, a238)).bind fun a236 => Res.ok (a235, a236)).bind fun a234 => Res.ok (a233, a234)).bind fun p232 => m_multiply_by_bits 2 p232.1 p232.2.1 p232.2.2.1 p232.2.2.2.1
theorem ok_Curve_multiply {P : Program} {w : World} {K : PySem.W.Frag} {mg : Str → Option Value} {base : Heap} (T : Facts K mg) {fd : FuncData} (F : FnP K "multiply" "Curve.multiply" s_Curve_multiply (He.ma K (He.ga K "Curve") "multiply") fd) :
    FnOk P w K mg base (L2.CX P w) 7 (He.ma K (He.ga K "Curve") "multiply") fd ["self", "factor", "point"] (spM K (fun (p : O_Curve × Int × (Option (T2 Int Int)) × Unit) => m_Curve_multiply p.1 p.2.1 p.2.2.1)) := by
  obtain ⟨fd_multiply_by_bits, F_multiply_by_bits⟩ := T.d_multiply_by_bits
  have G_multiply_by_bits := ok_multiply_by_bits (P := P) (w := w) (base := base) T F_multiply_by_bits 2
  have b_multiply_by_bits : Binds K fd_multiply_by_bits ["curve", "neutral", "factor", "point"] [] := F_multiply_by_bits.bindsN fun _ _ _ _ _ _ us hl => match us, hl with | [_, _, _, _], _ => rfl
  refine fn_ok F sc_Curve_multiply (fun y => rfl) (fun cdv A outer s H E hr => ?_)
  refine ⟨_, (pss_one (ps_ret (pe_callS G_multiply_by_bits (hr.mono (by decide)) rfl T.g_multiply_by_bits F_multiply_by_bits.kp b_multiply_by_bits (fun σ => passAt (takes_of rfl rfl rfl rfl) σ) (pa_cons (pv 0) (pa_cons pe_non (pa_cons (pv 1) (pa_cons (pv 2) pa_nil))))))), ?_⟩
  rintro ⟨self_, factor_, point_, ⟨⟩⟩ F0 H0 Q KP L
  show Blk K F0 H0 KP _ [some (.im (toD self_)), some (.im (toD factor_)), some (.im (toD point_))] (m_Curve_multiply self_ factor_ point_)
  unfold m_Curve_multiply
  have hr_ := ((ev_call (f := (fun (p : O_Curve × (Option (T2 Int Int)) × Int × (Option (T2 Int Int)) × Unit) => m_multiply_by_bits 2 p.1 p.2.1 p.2.2.1 p.2.2.2.1)) (ea_cons (ev_var (i := 0) (x := self_) rfl) (ea_cons (ev_noneO (α := (T2 Int Int))) (ea_cons (ev_var (i := 1) (x := factor_) rfl) (ea_cons (ev_var (i := 2) (x := point_) rfl) ea_nil))))) : EvX K (W0 E) [some (.im (toD self_)), some (.im (toD factor_)), some (.im (toD point_))] _ _)
  exact blk_ret L trivial hr_
noncomputable def m_u_law_cell (script_ : (List Int)) (k_ : Int) : Res Int :=
  (((Res.ok k_)).bind fun (t244 : Int) => ((((Res.ok script_)).bind fun a242 => (Res.ok ()).bind fun a243 => Res.ok (a242, a243)).bind fun p241 => Res.ok ((p241.1).length : Int)).bind fun (t245 : Int) => Res.ok (decide (t244 < t245))).bind fun b => cond b   (((((Res.ok script_)).bind fun (t246 : (List Int)) => ((Res.ok k_)).bind fun (t247 : Int) => idx t246 t247).bind fun a249 => (Res.ok ()).bind fun a250 => Res.ok (a249, a250)).bind fun p248 => Res.ok p248.1)   ((Res.ok (0 : Int)))
theorem ok_u_law_cell {P : Program} {w : World} {K : PySem.W.Frag} {mg : Str → Option Value} {base : Heap} (T : Facts K mg) {fd : FuncData} (F : FnP K "_law_cell" "_law_cell" s_u_law_cell (He.ga K "_law_cell") fd) :
    FnOk P w K mg base (L2.CX P w) 1 (He.ga K "_law_cell") fd ["script", "k"] (spM K (fun (p : (List Int) × Int × Unit) => m_u_law_cell p.1 p.2.1)) := by
  refine fn_ok F sc_u_law_cell (fun y => rfl) (fun cdv A outer s H E hr => ?_)
  refine ⟨_, (pss_cons (ps_if (pt_cmpR op_lt (pv 1) (pe_callB (cr_len rfl) (by rfl) T.n_len (by decide +kernel) (pa_cons (pv 0) pa_nil)) (nomark _)) (pss_one (ps_ret (pe_callTy call_int1 (by rfl) T.n_int (by decide +kernel) (pa_cons (pe_ix (cr_ixL rfl) (pv 0) (pv 1) (fun _ _ => rfl)) pa_nil)))) pss_nil) (pss_one (ps_ret pe_int))), ?_⟩
  rintro ⟨script_, k_, ⟨⟩⟩ F0 H0 Q KP L
  show Blk K F0 H0 KP _ [some (.im (toD script_)), some (.im (toD k_))] (m_u_law_cell script_ k_)
  unfold m_u_law_cell
  have ht_ := ((et_test (ev_op (opx_B0 (g := fun i j => decide (i < j))) mild_ok (ev_var (i := 1) (x := k_) rfl) (ev_cb cx_len (fun _ _ h => nomatch h) (ea_cons (ev_var (i := 0) (x := script_) rfl) ea_nil)))) : EvT K (W0 E) [some (.im (toD script_)), some (.im (toD k_))] _ _)
  refine blk_seq (blk_if2 L trivial ht_ ?_ ?_)
  · have hr_ := ((ev_cb cx_int (fun _ _ h => nomatch h) (ea_cons (ev_op opx_ixL (fun x y => idx_mild x y) (ev_var (i := 0) (x := script_) rfl) (ev_var (i := 1) (x := k_) rfl)) ea_nil)) : EvX K (W0 E) [some (.im (toD script_)), some (.im (toD k_))] _ _)
    exact blk_ret L trivial hr_
  · refine blk_nil ?_
    try refine Blk.nx ?_
    have hr_ := ((ev_int (i := 0)) : EvX K (W0 E) [some (.im (toD script_)), some (.im (toD k_))] _ _)
    exact blk_ret L trivial hr_
noncomputable def m_u_law_is_integer (actual_ : D) : Res Bool :=
  (((Res.ok actual_)).bind fun (t251 : D) => Res.need ((toD t251).plain = true) (Res.ok (isI "int" (toD t251)))).bind fun b254 => cond b254 ((((Res.ok actual_)).bind fun (t252 : D) => Res.need ((toD t252).plain = true) (Res.ok (isI "bool" (toD t252)))).bind fun (t253 : Bool) => Res.ok (!t253)) (Res.ok false)
theorem ok_u_law_is_integer {P : Program} {w : World} {K : PySem.W.Frag} {mg : Str → Option Value} {base : Heap} (T : Facts K mg) {fd : FuncData} (F : FnP K "_law_is_integer" "_law_is_integer" s_u_law_is_integer (He.ga K "_law_is_integer") fd) :
    FnOk P w K mg base (L2.CX P w) 1 (He.ga K "_law_is_integer") fd ["actual"] (spM K (fun (p : D × Unit) => m_u_law_is_integer p.1)) := by
  refine fn_ok F sc_u_law_is_integer (fun y => rfl) (fun cdv A outer s H E hr => ?_)
  refine ⟨_, (pss_one (ps_ret (pe_and (pe_callB call_isi (by rfl) T.n_isinstance (by decide +kernel) (pa_cons (pv 0) (pa_cons (pe_bltn (v := .ty "int") (by rfl) T.n_int (by decide +kernel) rfl) pa_nil))) (pe_one (pe_not (pe_callB call_isi (by rfl) T.n_isinstance (by decide +kernel) (pa_cons (pv 0) (pa_cons (pe_bltn (v := .ty "bool") (by rfl) T.n_bool (by decide +kernel) rfl) pa_nil)))))))), ?_⟩
  rintro ⟨actual_, ⟨⟩⟩ F0 H0 Q KP L
  show Blk K F0 H0 KP _ [some (.im (toD actual_))] (m_u_law_is_integer actual_)
  unfold m_u_law_is_integer
  have hr_ := ((ev_andV (ev_isi isi_int (ev_var (i := 0) (x := actual_) rfl)) (ev_notV (ev_isi isi_bool (ev_var (i := 0) (x := actual_) rfl)))) : EvX K (W0 E) [some (.im (toD actual_))] _ _)
  exact blk_ret L trivial hr_
noncomputable def m_u_law_is_prime_l2 (n_ : Int) (k2 : Int → Res Bool) : List Int → Int → Res Bool
  | [], s => k2 s
  | x265 :: r2, divisor_ =>   (fun (k_ : Int) => ((((Res.ok divisor_)).bind fun (t266 : Int) => ((Res.ok divisor_)).bind fun (t267 : Int) => Res.need (CMulX t266 t267) (Res.ok (t266 * t267))).bind fun (t268 : Int) => ((Res.ok n_)).bind fun (t269 : Int) => Res.ok (decide (t269 < t268))).bind fun b => cond b   ((Res.ok true))   (((((Res.ok n_)).bind fun (t270 : Int) => ((Res.ok divisor_)).bind fun (t271 : Int) => Res.need (0 < t271) (Res.ok (t270 % t271))).bind fun (t272 : Int) => ((Res.ok (0 : Int))).bind fun (t273 : Int) => Res.ok (decide (t272 = t273))).bind fun b => cond b   ((Res.ok false))   ((((Res.ok divisor_)).bind fun (t274 : Int) => ((Res.ok (2 : Int))).bind fun (t275 : Int) => Res.ok (t274 + t275)).bind fun (divisor_ : Int) =>   m_u_law_is_prime_l2 n_ k2 r2 divisor_))) x265
noncomputable def m_u_law_is_prime_k5 : Int → Res Bool := fun divisor_ =>   (Res.ok true)
noncomputable def m_u_law_is_prime (n_ : Int) : Res Bool :=
  ((Res.ok (3 : Int))).bind fun (divisor_ : Int) =>   (((((Res.ok n_)).bind fun (t255 : Int) => ((Res.ok (2 : Int))).bind fun (t256 : Int) => Res.ok (t255 % t256)).bind fun (t257 : Int) => ((Res.ok (0 : Int))).bind fun (t258 : Int) => Res.ok (decide (t257 = t258))).bind fun b261 => cond b261 (Res.ok true) (((Res.ok n_)).bind fun (t259 : Int) => ((Res.ok (3 : Int))).bind fun (t260 : Int) => Res.ok (decide (t259 < t260)))).bind fun b => cond b   (((Res.ok n_)).bind fun (t262 : Int) => ((Res.ok (2 : Int))).bind fun (t263 : Int) => Res.ok (decide (t262 = t263)))   ((((Res.ok (1024 : Int))).bind fun (t264 : Int) => Res.need (okRange t264) (Res.ok (pyRange 0 t264))).bind fun (xs276 : List Int) => m_u_law_is_prime_l2 n_ (m_u_law_is_prime_k5) xs276 divisor_)
theorem ok_u_law_is_prime {P : Program} {w : World} {K : PySem.W.Frag} {mg : Str → Option Value} {base : Heap} (T : Facts K mg) {fd : FuncData} (F : FnP K "_law_is_prime" "_law_is_prime" s_u_law_is_prime (He.ga K "_law_is_prime") fd) :
    FnOk P w K mg base (L2.CX P w) 1 (He.ga K "_law_is_prime") fd ["n"] (spM K (fun (p : Int × Unit) => m_u_law_is_prime p.1)) := by
  refine fn_ok F sc_u_law_is_prime (fun y => rfl) (fun cdv A outer s H E hr => ?_)
  refine ⟨_, (pss_cons (ps_set (i := 1) sc_u_law_is_prime.nd rfl (Or.inl rfl) pe_int) (pss_cons (ps_if (PW.pt (pw_or (pt_cmpR op_eq (pe_op op_mod (pv 0) pe_int) pe_int (nomark _)) (pw_or1 (pt_cmpR op_lt (pv 0) pe_int (nomark _))))) (pss_one (ps_ret (pe_cmpR op_eq (pv 0) pe_int (nomark _)))) pss_nil) (pss_cons (ps_for (passes_of rfl) rfl (pi_range1 rfl T.n_range (pa_cons pe_int pa_nil)) (pg_name (i := 2) sc_u_law_is_prime.nd rfl (Or.inl rfl)) (pss_cons (ps_if (pt_cmpR op_gt (pe_op op_mulX (pv 1) (pv 1)) (pv 0) (nomark _)) (pss_one (ps_ret pe_bl)) pss_nil) (pss_cons (ps_if (pt_cmpR op_eq (pe_op op_mod (pv 0) (pv 1)) pe_int (nomark _)) (pss_one (ps_ret pe_bl)) pss_nil) (pss_one (ps_set (i := 1) sc_u_law_is_prime.nd rfl (Or.inl rfl) (pe_op op_add (pv 1) pe_int)))))) (pss_one (ps_ret pe_bl))))), ?_⟩
  rintro ⟨n_, ⟨⟩⟩ F0 H0 Q KP L
  show Blk K F0 H0 KP _ [some (.im (toD n_)), none, none] (m_u_law_is_prime n_)
  unfold m_u_law_is_prime
  have hs_ := ((ev_int (i := 3)) : EvX K (W0 E) [some (.im (toD n_)), none, none] _ _)
  refine blk_seq (blk_set (i := 1) L trivial hs_ fun divisor_ => ?_)
  show Blk _ _ _ _ _ [some (.im (toD n_)), some (.im (toD divisor_)), none] _
  try refine Blk.nx ?_
  have ht_ := ((et_or (et_test (ev_op opx_eqI mild_ok (ev_opI (C := (fun _ j => 0 < j)) (g := fun i j => i % j) (fun x y _ h => by cases h; (show (0 : Int) < _; decide)) (ev_var (i := 0) (x := n_) rfl) (ev_int (i := 2))) (ev_int (i := 0)))) (et_test (ev_op (opx_B0 (g := fun i j => decide (i < j))) mild_ok (ev_var (i := 0) (x := n_) rfl) (ev_int (i := 3))))) : EvT K (W0 E) [some (.im (toD n_)), some (.im (toD divisor_)), none] _ _)
  refine blk_seq (blk_if2 L trivial ht_ ?_ ?_)
  · have hr_ := ((ev_op opx_eqI mild_ok (ev_var (i := 0) (x := n_) rfl) (ev_int (i := 2))) : EvX K (W0 E) [some (.im (toD n_)), some (.im (toD divisor_)), none] _ _)
    exact blk_ret L trivial hr_
  · refine blk_nil ?_
    try refine Blk.nx ?_
    have hi_ := ((ei_range1 (ev_int (i := 1024))) : EvI K (W0 E) [some (.im (toD n_)), some (.im (toD divisor_)), none] _ _)
    refine blk_seq (blk_for (S := Int) (m_u_law_is_prime_l2 n_ (m_u_law_is_prime_k5)) (m_u_law_is_prime_k5) (fun divisor_ => [some (.im (toD n_)), some (.im (toD divisor_)), none]) divisor_ L trivial hi_ (fun _ => gx_name) (.same (.same (.same .nil))) (fun _ => rfl) ?_ ?_)
    · intro F2 L2 hB2 x265 r2 s_ N_ hN2
      revert s_; intro divisor_
      show Blk _ _ _ _ _ [some (.im (toD n_)), some (.im (toD divisor_)), some (.im (toD x265))] (m_u_law_is_prime_l2 n_ (m_u_law_is_prime_k5) (x265 :: r2) divisor_)
      rw [m_u_law_is_prime_l2]
      show Blk _ _ _ _ _ _ ((fun (k_ : Int) => _) x265)
      generalize x265 = k_
      show Blk _ _ _ _ _ [some (.im (toD n_)), some (.im (toD divisor_)), some (.im (toD k_))] _
      have ht_ := ((et_test (ev_op (opx_B0 (g := fun i j => decide (j < i))) mild_ok (ev_op (opx_I (C := CMulX) (g := fun i j => i * j)) mild_need (ev_var (i := 1) (x := divisor_) rfl) (ev_var (i := 1) (x := divisor_) rfl)) (ev_var (i := 0) (x := n_) rfl))) : EvT K (W0 E) [some (.im (toD n_)), some (.im (toD divisor_)), some (.im (toD k_))] _ _)
      refine blk_seq (blk_if2 L2 trivial ht_ ?_ ?_)
      · have hr_ := ((ev_bl (b := true)) : EvX K (W0 E) [some (.im (toD n_)), some (.im (toD divisor_)), some (.im (toD k_))] _ _)
        exact blk_ret L2 trivial hr_
      · refine blk_nil ?_
        try refine Blk.nx ?_
        have ht_ := ((et_test (ev_op opx_eqI mild_ok (ev_op (opx_I (C := (fun _ j => 0 < j)) (g := fun i j => i % j)) mild_need (ev_var (i := 0) (x := n_) rfl) (ev_var (i := 1) (x := divisor_) rfl)) (ev_int (i := 0)))) : EvT K (W0 E) [some (.im (toD n_)), some (.im (toD divisor_)), some (.im (toD k_))] _ _)
        refine blk_seq (blk_if2 L2 trivial ht_ ?_ ?_)
        · have hr_ := ((ev_bl (b := false)) : EvX K (W0 E) [some (.im (toD n_)), some (.im (toD divisor_)), some (.im (toD k_))] _ _)
          exact blk_ret L2 trivial hr_
        · refine blk_nil ?_
          try refine Blk.nx ?_
          have hs_ := ((ev_op (opx_I0 (g := fun i j => i + j)) mild_ok (ev_var (i := 1) (x := divisor_) rfl) (ev_int (i := 2))) : EvX K (W0 E) [some (.im (toD n_)), some (.im (toD divisor_)), some (.im (toD k_))] _ _)
          refine blk_set (i := 1) L2 trivial hs_ fun divisor_ => ?_
          show Blk _ _ _ _ _ [some (.im (toD n_)), some (.im (toD divisor_)), some (.im (toD k_))] _
          try refine Blk.nx ?_
          exact (hN2 divisor_).weak (.same (.same (.drop .nil)))
    · intro divisor_
      show Blk _ _ _ _ _ [some (.im (toD n_)), some (.im (toD divisor_)), none] ((m_u_law_is_prime_k5) divisor_)
      unfold m_u_law_is_prime_k5
      try refine Blk.nx ?_
      have hr_ := ((ev_bl (b := true)) : EvX K (W0 E) [some (.im (toD n_)), some (.im (toD divisor_)), none] _ _)
      exact blk_ret L trivial hr_
noncomputable def m_u_law_prime_l3 (k3 : Int → Res Int) : List Int → Int → Res Int
  | [], s => k3 s
  | x370 :: r3, number_ =>   (fun (k_ : Int) => ((((Res.ok number_)).bind fun a372 => (Res.ok ()).bind fun a373 => Res.ok (a372, a373)).bind fun p371 => m_u_law_is_prime p371.1).bind fun b => cond b   ((Res.ok number_))   ((((Res.ok number_)).bind fun (t374 : Int) => ((Res.ok (1 : Int))).bind fun (t375 : Int) => Res.ok (t374 + t375)).bind fun (number_ : Int) =>   m_u_law_prime_l3 k3 r3 number_)) x370
noncomputable def m_u_law_prime_k5 : Int → Res Int := fun number_ =>   (Res.ok (65537 : Int))
noncomputable def m_u_law_prime (cell_ : Int) (least_ : Int) : Res Int :=
  ((((Res.ok cell_)).bind fun a278 => (Res.ok ()).bind fun a279 => Res.ok (a278, a279)).bind fun p277 => Res.ok (Int.natAbs p277.1 : Int)).bind fun (rest_ : Int) =>   ((((Res.ok rest_)).bind fun (t280 : Int) => ((Res.ok (5 : Int))).bind fun (t281 : Int) => Res.ok (t280 % t281)).bind fun (t282 : Int) => ((Res.ok (1 : Int))).bind fun (t283 : Int) => Res.ok (decide (t282 = t283))).bind fun b => cond b   (((((Res.ok (5 : Int))).bind fun a285 => (((Res.ok (7 : Int))).bind fun a287 => (((Res.ok (11 : Int))).bind fun a289 => (((Res.ok (13 : Int))).bind fun a291 => (((Res.ok (17 : Int))).bind fun a293 => (((Res.ok (19 : Int))).bind fun a295 => (((Res.ok (23 : Int))).bind fun a297 => (((Res.ok (29 : Int))).bind fun a299 => (((Res.ok (31 : Int))).bind fun a301 => (((Res.ok (37 : Int))).bind fun a303 => (((Res.ok (41 : Int))).bind fun a305 => (((Res.ok (43 : Int))).bind fun a307 => (Res.ok ()).bind fun a308 => Res.ok (a307, a308)).bind fun a306 => Res.ok (a305, a306)).bind fun a304 => Res.ok (a303, a304)).bind fun a302 => Res.ok (a301, a302)).bind fun a300 => Res.ok (a299, a300)).bind fun a298 => Res.ok (a297, a298)).bind fun a296 => Res.ok (a295, a296)).bind fun a294 => Res.ok (a293, a294)).bind fun a292 => Res.ok (a291, a292)).bind fun a290 => Res.ok (a289, a290)).bind fun a288 => Res.ok (a287, a288)).bind fun a286 => Res.ok (a285, a286)).bind fun p284 => Res.ok ([p284.1, p284.2.1, p284.2.2.1, p284.2.2.2.1, p284.2.2.2.2.1, p284.2.2.2.2.2.1, p284.2.2.2.2.2.2.1, p284.2.2.2.2.2.2.2.1, p284.2.2.2.2.2.2.2.2.1, p284.2.2.2.2.2.2.2.2.2.1, p284.2.2.2.2.2.2.2.2.2.2.1, p284.2.2.2.2.2.2.2.2.2.2.2.1] : List Int)).bind fun (t313 : (List Int)) => ((((Res.ok rest_)).bind fun (t309 : Int) => ((Res.ok (5 : Int))).bind fun (t310 : Int) => Res.ok (t309 / t310)).bind fun (t311 : Int) => ((Res.ok (12 : Int))).bind fun (t312 : Int) => Res.ok (t311 % t312)).bind fun (t314 : Int) => idx t313 t314)   (((((Res.ok rest_)).bind fun (t315 : Int) => ((Res.ok (5 : Int))).bind fun (t316 : Int) => Res.ok (t315 % t316)).bind fun (t317 : Int) => ((Res.ok (2 : Int))).bind fun (t318 : Int) => Res.ok (decide (t317 = t318))).bind fun b => cond b   (((((Res.ok (97 : Int))).bind fun a320 => (((Res.ok (193 : Int))).bind fun a322 => (((Res.ok (257 : Int))).bind fun a324 => (((Res.ok (7681 : Int))).bind fun a326 => (((Res.ok (12289 : Int))).bind fun a328 => (((Res.ok (65537 : Int))).bind fun a330 => (((Res.ok (786433 : Int))).bind fun a332 => (((Res.ok (65521 : Int))).bind fun a334 => (((Res.ok (8191 : Int))).bind fun a336 => (((Res.ok (131071 : Int))).bind fun a338 => (((Res.ok (524287 : Int))).bind fun a340 => (((Res.ok (241 : Int))).bind fun a342 => (Res.ok ()).bind fun a343 => Res.ok (a342, a343)).bind fun a341 => Res.ok (a340, a341)).bind fun a339 => Res.ok (a338, a339)).bind fun a337 => Res.ok (a336, a337)).bind fun a335 => Res.ok (a334, a335)).bind fun a333 => Res.ok (a332, a333)).bind fun a331 => Res.ok (a330, a331)).bind fun a329 => Res.ok (a328, a329)).bind fun a327 => Res.ok (a326, a327)).bind fun a325 => Res.ok (a324, a325)).bind fun a323 => Res.ok (a322, a323)).bind fun a321 => Res.ok (a320, a321)).bind fun p319 => Res.ok ([p319.1, p319.2.1, p319.2.2.1, p319.2.2.2.1, p319.2.2.2.2.1, p319.2.2.2.2.2.1, p319.2.2.2.2.2.2.1, p319.2.2.2.2.2.2.2.1, p319.2.2.2.2.2.2.2.2.1, p319.2.2.2.2.2.2.2.2.2.1, p319.2.2.2.2.2.2.2.2.2.2.1, p319.2.2.2.2.2.2.2.2.2.2.2.1] : List Int)).bind fun (t348 : (List Int)) => ((((Res.ok rest_)).bind fun (t344 : Int) => ((Res.ok (5 : Int))).bind fun (t345 : Int) => Res.ok (t344 / t345)).bind fun (t346 : Int) => ((Res.ok (12 : Int))).bind fun (t347 : Int) => Res.ok (t346 % t347)).bind fun (t349 : Int) => idx t348 t349)   ((((Res.ok least_)).bind fun (t367 : Int) => ((((Res.ok rest_)).bind fun (t350 : Int) => ((Res.ok (5 : Int))).bind fun (t351 : Int) => Res.ok (t350 / t351)).bind fun (t365 : Int) => (((((Res.ok (60 : Int))).bind fun a353 => (((Res.ok (1000 : Int))).bind fun a355 => (((Res.ok (1000000 : Int))).bind fun a357 => (Res.ok ()).bind fun a358 => Res.ok (a357, a358)).bind fun a356 => Res.ok (a355, a356)).bind fun a354 => Res.ok (a353, a354)).bind fun p352 => Res.ok ([p352.1, p352.2.1, p352.2.2.1] : List Int)).bind fun (t363 : (List Int)) => ((((Res.ok rest_)).bind fun (t359 : Int) => ((Res.ok (15 : Int))).bind fun (t360 : Int) => Res.ok (t359 / t360)).bind fun (t361 : Int) => ((Res.ok (3 : Int))).bind fun (t362 : Int) => Res.ok (t361 % t362)).bind fun (t364 : Int) => idx t363 t364).bind fun (t366 : Int) => Res.need (0 < t366) (Res.ok (t365 % t366))).bind fun (t368 : Int) => Res.ok (t367 + t368)).bind fun (number_ : Int) =>   (((Res.ok (400 : Int))).bind fun (t369 : Int) => Res.need (okRange t369) (Res.ok (pyRange 0 t369))).bind fun (xs376 : List Int) => m_u_law_prime_l3 (m_u_law_prime_k5) xs376 number_))
theorem ok_u_law_prime {P : Program} {w : World} {K : PySem.W.Frag} {mg : Str → Option Value} {base : Heap} (T : Facts K mg) {fd : FuncData} (F : FnP K "_law_prime" "_law_prime" s_u_law_prime (He.ga K "_law_prime") fd) :
    FnOk P w K mg base (L2.CX P w) 2 (He.ga K "_law_prime") fd ["cell", "least"] (spM K (fun (p : Int × Int × Unit) => m_u_law_prime p.1 p.2.1)) := by
  obtain ⟨fd_u_law_is_prime, F_u_law_is_prime⟩ := T.d_u_law_is_prime
  have G_u_law_is_prime := ok_u_law_is_prime (P := P) (w := w) (base := base) T F_u_law_is_prime
  have b_u_law_is_prime : Binds K fd_u_law_is_prime ["n"] [] := F_u_law_is_prime.bindsN fun _ _ _ _ _ _ us hl => match us, hl with | [_], _ => rfl
  refine fn_ok F sc_u_law_prime (fun y => rfl) (fun cdv A outer s H E hr => ?_)
  refine ⟨_, (pss_cons (ps_set (i := 2) sc_u_law_prime.nd rfl (Or.inl rfl) (pe_callB call_abs (by rfl) T.n_abs (by decide +kernel) (pa_cons (pv 0) pa_nil))) (pss_cons (ps_if (pt_cmpR op_eq (pe_op op_mod (pv 2) pe_int) pe_int (nomark _)) (pss_one (ps_ret (pe_ix (cr_ixL rfl) (pe_lst (pa_cons pe_int (pa_cons pe_int (pa_cons pe_int (pa_cons pe_int (pa_cons pe_int (pa_cons pe_int (pa_cons pe_int (pa_cons pe_int (pa_cons pe_int (pa_cons pe_int (pa_cons pe_int (pa_cons pe_int pa_nil))))))))))))) (pe_op op_mod (pe_op op_fdiv (pv 2) pe_int) pe_int) (fun _ _ => rfl)))) pss_nil) (pss_cons (ps_if (pt_cmpR op_eq (pe_op op_mod (pv 2) pe_int) pe_int (nomark _)) (pss_one (ps_ret (pe_ix (cr_ixL rfl) (pe_lst (pa_cons pe_int (pa_cons pe_int (pa_cons pe_int (pa_cons pe_int (pa_cons pe_int (pa_cons pe_int (pa_cons pe_int (pa_cons pe_int (pa_cons pe_int (pa_cons pe_int (pa_cons pe_int (pa_cons pe_int pa_nil))))))))))))) (pe_op op_mod (pe_op op_fdiv (pv 2) pe_int) pe_int) (fun _ _ => rfl)))) pss_nil) (pss_cons (ps_set (i := 3) sc_u_law_prime.nd rfl (Or.inl rfl) (pe_op op_add (pv 1) (pe_op op_mod (pe_op op_fdiv (pv 2) pe_int) (pe_ix (cr_ixL rfl) (pe_lst (pa_cons pe_int (pa_cons pe_int (pa_cons pe_int pa_nil)))) (pe_op op_mod (pe_op op_fdiv (pv 2) pe_int) pe_int) (fun _ _ => rfl))))) (pss_cons (ps_for (passes_of rfl) rfl (pi_range1 rfl T.n_range (pa_cons pe_int pa_nil)) (pg_name (i := 4) sc_u_law_prime.nd rfl (Or.inl rfl)) (pss_cons (ps_if (pt_val (pe_callS G_u_law_is_prime (hr.mono (by decide)) rfl T.g_u_law_is_prime F_u_law_is_prime.kp b_u_law_is_prime (fun σ => passAt (takes_of rfl rfl rfl rfl) σ) (pa_cons (pv 3) pa_nil))) (pss_one (ps_ret (pv 3))) pss_nil) (pss_one (ps_set (i := 3) sc_u_law_prime.nd rfl (Or.inl rfl) (pe_op op_add (pv 3) pe_int))))) (pss_one (ps_ret pe_int))))))), ?_⟩
  rintro ⟨cell_, least_, ⟨⟩⟩ F0 H0 Q KP L
  show Blk K F0 H0 KP _ [some (.im (toD cell_)), some (.im (toD least_)), none, none, none] (m_u_law_prime cell_ least_)
  unfold m_u_law_prime
  have hs_ := ((ev_cb cx_abs (fun _ _ h => nomatch h) (ea_cons (ev_var (i := 0) (x := cell_) rfl) ea_nil)) : EvX K (W0 E) [some (.im (toD cell_)), some (.im (toD least_)), none, none, none] _ _)
  refine blk_seq (blk_set (i := 2) L trivial hs_ fun rest_ => ?_)
  show Blk _ _ _ _ _ [some (.im (toD cell_)), some (.im (toD least_)), some (.im (toD rest_)), none, none] _
  try refine Blk.nx ?_
  have ht_ := ((et_test (ev_op opx_eqI mild_ok (ev_opI (C := (fun _ j => 0 < j)) (g := fun i j => i % j) (fun x y _ h => by cases h; (show (0 : Int) < _; decide)) (ev_var (i := 2) (x := rest_) rfl) (ev_int (i := 5))) (ev_int (i := 1)))) : EvT K (W0 E) [some (.im (toD cell_)), some (.im (toD least_)), some (.im (toD rest_)), none, none] _ _)
  refine blk_seq (blk_if2 L trivial ht_ ?_ ?_)
  · have hr_ := ((ev_op opx_ixL (fun x y => idx_mild x y) (ev_ofN (en_lst (f := (fun y => ([y.1, y.2.1, y.2.2.1, y.2.2.2.1, y.2.2.2.2.1, y.2.2.2.2.2.1, y.2.2.2.2.2.2.1, y.2.2.2.2.2.2.2.1, y.2.2.2.2.2.2.2.2.1, y.2.2.2.2.2.2.2.2.2.1, y.2.2.2.2.2.2.2.2.2.2.1, y.2.2.2.2.2.2.2.2.2.2.2.1] : List Int))) (ea_cons (ev_int (i := 5)) (ea_cons (ev_int (i := 7)) (ea_cons (ev_int (i := 11)) (ea_cons (ev_int (i := 13)) (ea_cons (ev_int (i := 17)) (ea_cons (ev_int (i := 19)) (ea_cons (ev_int (i := 23)) (ea_cons (ev_int (i := 29)) (ea_cons (ev_int (i := 31)) (ea_cons (ev_int (i := 37)) (ea_cons (ev_int (i := 41)) (ea_cons (ev_int (i := 43)) ea_nil)))))))))))) (fun _ => rfl) (fun _ => by show 12 ≤ 100000; decide))) (ev_opI (C := (fun _ j => 0 < j)) (g := fun i j => i % j) (fun x y _ h => by cases h; (show (0 : Int) < _; decide)) (ev_opI (C := CDiv) (g := fun i j => i / j) (fun x y _ h => by cases h; exact ⟨by decide, by decide⟩) (ev_var (i := 2) (x := rest_) rfl) (ev_int (i := 5))) (ev_int (i := 12)))) : EvX K (W0 E) [some (.im (toD cell_)), some (.im (toD least_)), some (.im (toD rest_)), none, none] _ _)
    exact blk_ret L trivial hr_
  · refine blk_nil ?_
    try refine Blk.nx ?_
    have ht_ := ((et_test (ev_op opx_eqI mild_ok (ev_opI (C := (fun _ j => 0 < j)) (g := fun i j => i % j) (fun x y _ h => by cases h; (show (0 : Int) < _; decide)) (ev_var (i := 2) (x := rest_) rfl) (ev_int (i := 5))) (ev_int (i := 2)))) : EvT K (W0 E) [some (.im (toD cell_)), some (.im (toD least_)), some (.im (toD rest_)), none, none] _ _)
    refine blk_seq (blk_if2 L trivial ht_ ?_ ?_)
    · have hr_ := ((ev_op opx_ixL (fun x y => idx_mild x y) (ev_ofN (en_lst (f := (fun y => ([y.1, y.2.1, y.2.2.1, y.2.2.2.1, y.2.2.2.2.1, y.2.2.2.2.2.1, y.2.2.2.2.2.2.1, y.2.2.2.2.2.2.2.1, y.2.2.2.2.2.2.2.2.1, y.2.2.2.2.2.2.2.2.2.1, y.2.2.2.2.2.2.2.2.2.2.1, y.2.2.2.2.2.2.2.2.2.2.2.1] : List Int))) (ea_cons (ev_int (i := 97)) (ea_cons (ev_int (i := 193)) (ea_cons (ev_int (i := 257)) (ea_cons (ev_int (i := 7681)) (ea_cons (ev_int (i := 12289)) (ea_cons (ev_int (i := 65537)) (ea_cons (ev_int (i := 786433)) (ea_cons (ev_int (i := 65521)) (ea_cons (ev_int (i := 8191)) (ea_cons (ev_int (i := 131071)) (ea_cons (ev_int (i := 524287)) (ea_cons (ev_int (i := 241)) ea_nil)))))))))))) (fun _ => rfl) (fun _ => by show 12 ≤ 100000; decide))) (ev_opI (C := (fun _ j => 0 < j)) (g := fun i j => i % j) (fun x y _ h => by cases h; (show (0 : Int) < _; decide)) (ev_opI (C := CDiv) (g := fun i j => i / j) (fun x y _ h => by cases h; exact ⟨by decide, by decide⟩) (ev_var (i := 2) (x := rest_) rfl) (ev_int (i := 5))) (ev_int (i := 12)))) : EvX K (W0 E) [some (.im (toD cell_)), some (.im (toD least_)), some (.im (toD rest_)), none, none] _ _)
      exact blk_ret L trivial hr_
    · refine blk_nil ?_
      try refine Blk.nx ?_
      have hs_ := ((ev_op (opx_I0 (g := fun i j => i + j)) mild_ok (ev_var (i := 1) (x := least_) rfl) (ev_op (opx_I (C := (fun _ j => 0 < j)) (g := fun i j => i % j)) mild_need (ev_opI (C := CDiv) (g := fun i j => i / j) (fun x y _ h => by cases h; exact ⟨by decide, by decide⟩) (ev_var (i := 2) (x := rest_) rfl) (ev_int (i := 5))) (ev_op opx_ixL (fun x y => idx_mild x y) (ev_ofN (en_lst (f := (fun y => ([y.1, y.2.1, y.2.2.1] : List Int))) (ea_cons (ev_int (i := 60)) (ea_cons (ev_int (i := 1000)) (ea_cons (ev_int (i := 1000000)) ea_nil))) (fun _ => rfl) (fun _ => by show 3 ≤ 100000; decide))) (ev_opI (C := (fun _ j => 0 < j)) (g := fun i j => i % j) (fun x y _ h => by cases h; (show (0 : Int) < _; decide)) (ev_opI (C := CDiv) (g := fun i j => i / j) (fun x y _ h => by cases h; exact ⟨by decide, by decide⟩) (ev_var (i := 2) (x := rest_) rfl) (ev_int (i := 15))) (ev_int (i := 3)))))) : EvX K (W0 E) [some (.im (toD cell_)), some (.im (toD least_)), some (.im (toD rest_)), none, none] _ _)
      refine blk_seq (blk_set (i := 3) L trivial hs_ fun number_ => ?_)
      show Blk _ _ _ _ _ [some (.im (toD cell_)), some (.im (toD least_)), some (.im (toD rest_)), some (.im (toD number_)), none] _
      try refine Blk.nx ?_
      have hi_ := ((ei_range1 (ev_int (i := 400))) : EvI K (W0 E) [some (.im (toD cell_)), some (.im (toD least_)), some (.im (toD rest_)), some (.im (toD number_)), none] _ _)
      refine blk_seq (blk_for (S := Int) (m_u_law_prime_l3 (m_u_law_prime_k5)) (m_u_law_prime_k5) (fun number_ => [some (.im (toD cell_)), some (.im (toD least_)), some (.im (toD rest_)), some (.im (toD number_)), none]) number_ L trivial hi_ (fun _ => gx_name) (.same (.same (.same (.same (.same .nil))))) (fun _ => rfl) ?_ ?_)
      · intro F3 L3 hB3 x370 r3 s_ N_ hN3
        revert s_; intro number_
        show Blk _ _ _ _ _ [some (.im (toD cell_)), some (.im (toD least_)), some (.im (toD rest_)), some (.im (toD number_)), some (.im (toD x370))] (m_u_law_prime_l3 (m_u_law_prime_k5) (x370 :: r3) number_)
        rw [m_u_law_prime_l3]
        show Blk _ _ _ _ _ _ ((fun (k_ : Int) => _) x370)
        generalize x370 = k_
        show Blk _ _ _ _ _ [some (.im (toD cell_)), some (.im (toD least_)), some (.im (toD rest_)), some (.im (toD number_)), some (.im (toD k_))] _
        have ht_ := ((et_B (ev_call (f := (fun (p : Int × Unit) => m_u_law_is_prime p.1)) (ea_cons (ev_var (i := 3) (x := number_) rfl) ea_nil))) : EvT K (W0 E) [some (.im (toD cell_)), some (.im (toD least_)), some (.im (toD rest_)), some (.im (toD number_)), some (.im (toD k_))] _ _)
        refine blk_seq (blk_if2 L3 trivial ht_ ?_ ?_)
        · have hr_ := ((ev_var (i := 3) (x := number_) rfl) : EvX K (W0 E) [some (.im (toD cell_)), some (.im (toD least_)), some (.im (toD rest_)), some (.im (toD number_)), some (.im (toD k_))] _ _)
          exact blk_ret L3 trivial hr_
        · refine blk_nil ?_
          try refine Blk.nx ?_
          have hs_ := ((ev_op (opx_I0 (g := fun i j => i + j)) mild_ok (ev_var (i := 3) (x := number_) rfl) (ev_int (i := 1))) : EvX K (W0 E) [some (.im (toD cell_)), some (.im (toD least_)), some (.im (toD rest_)), some (.im (toD number_)), some (.im (toD k_))] _ _)
          refine blk_set (i := 3) L3 trivial hs_ fun number_ => ?_
          show Blk _ _ _ _ _ [some (.im (toD cell_)), some (.im (toD least_)), some (.im (toD rest_)), some (.im (toD number_)), some (.im (toD k_))] _
          try refine Blk.nx ?_
          exact (hN3 number_).weak (.same (.same (.same (.same (.drop .nil)))))
      · intro number_
        show Blk _ _ _ _ _ [some (.im (toD cell_)), some (.im (toD least_)), some (.im (toD rest_)), some (.im (toD number_)), none] ((m_u_law_prime_k5) number_)
        unfold m_u_law_prime_k5
        try refine Blk.nx ?_
        have hr_ := ((ev_int (i := 65537)) : EvX K (W0 E) [some (.im (toD cell_)), some (.im (toD least_)), some (.im (toD rest_)), some (.im (toD number_)), none] _ _)
        exact blk_ret L trivial hr_
noncomputable def m_u_law_power_k3 (exponent_ : Int) (modulus_ : Int) (square_ : Int) (g1 : Int × Int × Int → Res Int) : Int → Res Int := fun result_ =>   ((((Res.ok square_)).bind fun (t387 : Int) => ((Res.ok square_)).bind fun (t388 : Int) => Res.need (CMulX t387 t388) (Res.ok (t387 * t388))).bind fun (t389 : Int) => ((Res.ok modulus_)).bind fun (t390 : Int) => Res.need (0 < t390) (Res.ok (t389 % t390))).bind fun (square_ : Int) =>   (((Res.ok exponent_)).bind fun (t391 : Int) => ((Res.ok (2 : Int))).bind fun (t392 : Int) => Res.ok (t391 / t392)).bind fun (exponent_ : Int) =>   g1 (exponent_, result_, square_)
noncomputable def m_u_law_power_l1 (modulus_ : Int) (k1 : Int × Int × Int → Res Int) : List Int → Int × Int × Int → Res Int
  | [], s => k1 s
  | x380 :: r1, (exponent_, result_, square_) =>   (fun (k_ : Int) => (((Res.ok exponent_)).bind fun (t381 : Int) => ((Res.ok (0 : Int))).bind fun (t382 : Int) => Res.ok (decide (t381 = t382))).bind fun b => cond b   (k1 (exponent_, result_, square_))   (((((Res.ok exponent_)).bind fun (t383 : Int) => ((Res.ok (2 : Int))).bind fun (t384 : Int) => Res.ok (t383 % t384)).bind fun (t385 : Int) => ((Res.ok (1 : Int))).bind fun (t386 : Int) => Res.ok (decide (t385 = t386))).bind fun b => cond b   (((((Res.ok result_)).bind fun (t393 : Int) => ((Res.ok square_)).bind fun (t394 : Int) => Res.need (CMulX t393 t394) (Res.ok (t393 * t394))).bind fun (t395 : Int) => ((Res.ok modulus_)).bind fun (t396 : Int) => Res.need (0 < t396) (Res.ok (t395 % t396))).bind fun (result_ : Int) =>   (m_u_law_power_k3 exponent_ modulus_ square_ (m_u_law_power_l1 modulus_ k1 r1)) result_)   ((m_u_law_power_k3 exponent_ modulus_ square_ (m_u_law_power_l1 modulus_ k1 r1)) result_))) x380
noncomputable def m_u_law_power_k4 : Int × Int × Int → Res Int := fun (exponent_, result_, square_) =>   (Res.ok result_)
noncomputable def m_u_law_power (a_ : Int) (exponent_ : Int) (modulus_ : Int) : Res Int :=
  ((Res.ok (1 : Int))).bind fun (result_ : Int) =>   (((Res.ok a_)).bind fun (t377 : Int) => ((Res.ok modulus_)).bind fun (t378 : Int) => Res.need (0 < t378) (Res.ok (t377 % t378))).bind fun (square_ : Int) =>   (((Res.ok (260 : Int))).bind fun (t379 : Int) => Res.need (okRange t379) (Res.ok (pyRange 0 t379))).bind fun (xs397 : List Int) => m_u_law_power_l1 modulus_ (m_u_law_power_k4) xs397 (exponent_, result_, square_)
theorem ok_u_law_power {P : Program} {w : World} {K : PySem.W.Frag} {mg : Str → Option Value} {base : Heap} (T : Facts K mg) {fd : FuncData} (F : FnP K "_law_power" "_law_power" s_u_law_power (He.ga K "_law_power") fd) :
    FnOk P w K mg base (L2.CX P w) 1 (He.ga K "_law_power") fd ["a", "exponent", "modulus"] (spM K (fun (p : Int × Int × Int × Unit) => m_u_law_power p.1 p.2.1 p.2.2.1)) := by
  refine fn_ok F sc_u_law_power (fun y => rfl) (fun cdv A outer s H E hr => ?_)
  refine ⟨_, (pss_cons (ps_set (i := 3) sc_u_law_power.nd rfl (Or.inl rfl) pe_int) (pss_cons (ps_set (i := 4) sc_u_law_power.nd rfl (Or.inl rfl) (pe_op op_mod (pv 0) (pv 2))) (pss_cons (ps_for (passes_of rfl) rfl (pi_range1 rfl T.n_range (pa_cons pe_int pa_nil)) (pg_name (i := 5) sc_u_law_power.nd rfl (Or.inl rfl)) (pss_cons (ps_if (pt_cmpR op_eq (pv 1) pe_int (nomark _)) (pss_one ps_break) pss_nil) (pss_cons (ps_if (pt_cmpR op_eq (pe_op op_mod (pv 1) pe_int) pe_int (nomark _)) (pss_one (ps_set (i := 3) sc_u_law_power.nd rfl (Or.inl rfl) (pe_op op_mod (pe_op op_mulX (pv 3) (pv 4)) (pv 2)))) pss_nil) (pss_cons (ps_set (i := 4) sc_u_law_power.nd rfl (Or.inl rfl) (pe_op op_mod (pe_op op_mulX (pv 4) (pv 4)) (pv 2))) (pss_one (ps_set (i := 1) sc_u_law_power.nd rfl (Or.inl rfl) (pe_op op_fdiv (pv 1) pe_int))))))) (pss_one (ps_ret (pv 3)))))), ?_⟩
  rintro ⟨a_, exponent_, modulus_, ⟨⟩⟩ F0 H0 Q KP L
  show Blk K F0 H0 KP _ [some (.im (toD a_)), some (.im (toD exponent_)), some (.im (toD modulus_)), none, none, none] (m_u_law_power a_ exponent_ modulus_)
  unfold m_u_law_power
  have hs_ := ((ev_int (i := 1)) : EvX K (W0 E) [some (.im (toD a_)), some (.im (toD exponent_)), some (.im (toD modulus_)), none, none, none] _ _)
  refine blk_seq (blk_set (i := 3) L trivial hs_ fun result_ => ?_)
  show Blk _ _ _ _ _ [some (.im (toD a_)), some (.im (toD exponent_)), some (.im (toD modulus_)), some (.im (toD result_)), none, none] _
  try refine Blk.nx ?_
  have hs_ := ((ev_op (opx_I (C := (fun _ j => 0 < j)) (g := fun i j => i % j)) mild_need (ev_var (i := 0) (x := a_) rfl) (ev_var (i := 2) (x := modulus_) rfl)) : EvX K (W0 E) [some (.im (toD a_)), some (.im (toD exponent_)), some (.im (toD modulus_)), some (.im (toD result_)), none, none] _ _)
  refine blk_seq (blk_set (i := 4) L trivial hs_ fun square_ => ?_)
  show Blk _ _ _ _ _ [some (.im (toD a_)), some (.im (toD exponent_)), some (.im (toD modulus_)), some (.im (toD result_)), some (.im (toD square_)), none] _
  try refine Blk.nx ?_
  have hi_ := ((ei_range1 (ev_int (i := 260))) : EvI K (W0 E) [some (.im (toD a_)), some (.im (toD exponent_)), some (.im (toD modulus_)), some (.im (toD result_)), some (.im (toD square_)), none] _ _)
  refine blk_seq (blk_for (S := Int × Int × Int) (m_u_law_power_l1 modulus_ (m_u_law_power_k4)) (m_u_law_power_k4) (fun (exponent_, result_, square_) => [some (.im (toD a_)), some (.im (toD exponent_)), some (.im (toD modulus_)), some (.im (toD result_)), some (.im (toD square_)), none]) (exponent_, result_, square_) L trivial hi_ (fun _ => gx_name) (.same (.same (.same (.same (.same (.same .nil)))))) (fun _ => rfl) ?_ ?_)
  · intro F1 L1 hB1 x380 r1 s_ N_ hN1
    obtain ⟨exponent_, result_, square_⟩ := s_
    show Blk _ _ _ _ _ [some (.im (toD a_)), some (.im (toD exponent_)), some (.im (toD modulus_)), some (.im (toD result_)), some (.im (toD square_)), some (.im (toD x380))] (m_u_law_power_l1 modulus_ (m_u_law_power_k4) (x380 :: r1) (exponent_, result_, square_))
    rw [m_u_law_power_l1]
    show Blk _ _ _ _ _ _ ((fun (k_ : Int) => _) x380)
    generalize x380 = k_
    show Blk _ _ _ _ _ [some (.im (toD a_)), some (.im (toD exponent_)), some (.im (toD modulus_)), some (.im (toD result_)), some (.im (toD square_)), some (.im (toD k_))] _
    have ht_ := ((et_test (ev_op opx_eqI mild_ok (ev_var (i := 1) (x := exponent_) rfl) (ev_int (i := 0)))) : EvT K (W0 E) [some (.im (toD a_)), some (.im (toD exponent_)), some (.im (toD modulus_)), some (.im (toD result_)), some (.im (toD square_)), some (.im (toD k_))] _ _)
    refine blk_seq (blk_if2 L1 trivial ht_ ?_ ?_)
    · exact (hB1 (exponent_, result_, square_)).weak (.same (.same (.same (.same (.same (.drop .nil))))))
    · refine blk_nil ?_
      try refine Blk.nx ?_
      have ht_ := ((et_test (ev_op opx_eqI mild_ok (ev_opI (C := (fun _ j => 0 < j)) (g := fun i j => i % j) (fun x y _ h => by cases h; (show (0 : Int) < _; decide)) (ev_var (i := 1) (x := exponent_) rfl) (ev_int (i := 2))) (ev_int (i := 1)))) : EvT K (W0 E) [some (.im (toD a_)), some (.im (toD exponent_)), some (.im (toD modulus_)), some (.im (toD result_)), some (.im (toD square_)), some (.im (toD k_))] _ _)
      refine blk_seq (blk_ifj (S := Int) (fun result_ => [some (.im (toD a_)), some (.im (toD exponent_)), some (.im (toD modulus_)), some (.im (toD result_)), some (.im (toD square_)), some (.im (toD k_))]) (m_u_law_power_k3 exponent_ modulus_ square_ (m_u_law_power_l1 modulus_ (m_u_law_power_k4) r1)) L1 trivial ht_ ?_ ?_ ?_)
      · intro result_
        show Blk _ _ _ _ _ [some (.im (toD a_)), some (.im (toD exponent_)), some (.im (toD modulus_)), some (.im (toD result_)), some (.im (toD square_)), some (.im (toD k_))] ((m_u_law_power_k3 exponent_ modulus_ square_ (m_u_law_power_l1 modulus_ (m_u_law_power_k4) r1)) result_)
        unfold m_u_law_power_k3
        try refine Blk.nx ?_
        have hs_ := ((ev_op (opx_I (C := (fun _ j => 0 < j)) (g := fun i j => i % j)) mild_need (ev_op (opx_I (C := CMulX) (g := fun i j => i * j)) mild_need (ev_var (i := 4) (x := square_) rfl) (ev_var (i := 4) (x := square_) rfl)) (ev_var (i := 2) (x := modulus_) rfl)) : EvX K (W0 E) [some (.im (toD a_)), some (.im (toD exponent_)), some (.im (toD modulus_)), some (.im (toD result_)), some (.im (toD square_)), some (.im (toD k_))] _ _)
        refine blk_seq (blk_set (i := 4) L1 trivial hs_ fun square_ => ?_)
        show Blk _ _ _ _ _ [some (.im (toD a_)), some (.im (toD exponent_)), some (.im (toD modulus_)), some (.im (toD result_)), some (.im (toD square_)), some (.im (toD k_))] _
        try refine Blk.nx ?_
        have hs_ := ((ev_opI (C := CDiv) (g := fun i j => i / j) (fun x y _ h => by cases h; exact ⟨by decide, by decide⟩) (ev_var (i := 1) (x := exponent_) rfl) (ev_int (i := 2))) : EvX K (W0 E) [some (.im (toD a_)), some (.im (toD exponent_)), some (.im (toD modulus_)), some (.im (toD result_)), some (.im (toD square_)), some (.im (toD k_))] _ _)
        refine blk_set (i := 1) L1 trivial hs_ fun exponent_ => ?_
        show Blk _ _ _ _ _ [some (.im (toD a_)), some (.im (toD exponent_)), some (.im (toD modulus_)), some (.im (toD result_)), some (.im (toD square_)), some (.im (toD k_))] _
        try refine Blk.nx ?_
        exact (hN1 (exponent_, result_, square_)).weak (.same (.same (.same (.same (.same (.drop .nil))))))
      · intro hk3
        have hs_ := ((ev_op (opx_I (C := (fun _ j => 0 < j)) (g := fun i j => i % j)) mild_need (ev_op (opx_I (C := CMulX) (g := fun i j => i * j)) mild_need (ev_var (i := 3) (x := result_) rfl) (ev_var (i := 4) (x := square_) rfl)) (ev_var (i := 2) (x := modulus_) rfl)) : EvX K (W0 E) [some (.im (toD a_)), some (.im (toD exponent_)), some (.im (toD modulus_)), some (.im (toD result_)), some (.im (toD square_)), some (.im (toD k_))] _ _)
        refine blk_set (i := 3) L1 trivial hs_ fun result_ => ?_
        show Blk _ _ _ _ _ [some (.im (toD a_)), some (.im (toD exponent_)), some (.im (toD modulus_)), some (.im (toD result_)), some (.im (toD square_)), some (.im (toD k_))] _
        try refine Blk.nx ?_
        exact (hk3 result_).weak (.same (.same (.same (.same (.same (.same .nil))))))
      · intro hk3
        refine blk_nil ?_
        try refine Blk.nx ?_
        exact (hk3 result_).weak (.same (.same (.same (.same (.same (.same .nil))))))
  · rintro ⟨exponent_, result_, square_⟩
    show Blk _ _ _ _ _ [some (.im (toD a_)), some (.im (toD exponent_)), some (.im (toD modulus_)), some (.im (toD result_)), some (.im (toD square_)), none] ((m_u_law_power_k4) (exponent_, result_, square_))
    unfold m_u_law_power_k4
    try refine Blk.nx ?_
    have hr_ := ((ev_var (i := 3) (x := result_) rfl) : EvX K (W0 E) [some (.im (toD a_)), some (.im (toD exponent_)), some (.im (toD modulus_)), some (.im (toD result_)), some (.im (toD square_)), none] _ _)
    exact blk_ret L trivial hr_
noncomputable def m_u_law_inverse (a_ : Int) (prime_ : Int) : Res Int :=
  (((Res.ok a_)).bind fun a401 => ((((Res.ok prime_)).bind fun (t398 : Int) => ((Res.ok (2 : Int))).bind fun (t399 : Int) => Res.ok (t398 - t399)).bind fun a403 => (((Res.ok prime_)).bind fun a405 => (Res.ok ()).bind fun a406 => Res.ok (a405, a406)).bind fun a404 => Res.ok (a403, a404)).bind fun a402 => Res.ok (a401, a402)).bind fun p400 => m_u_law_power p400.1 p400.2.1 p400.2.2.1
theorem ok_u_law_inverse {P : Program} {w : World} {K : PySem.W.Frag} {mg : Str → Option Value} {base : Heap} (T : Facts K mg) {fd : FuncData} (F : FnP K "_law_inverse" "_law_inverse" s_u_law_inverse (He.ga K "_law_inverse") fd) :
    FnOk P w K mg base (L2.CX P w) 2 (He.ga K "_law_inverse") fd ["a", "prime"] (spM K (fun (p : Int × Int × Unit) => m_u_law_inverse p.1 p.2.1)) := by
  obtain ⟨fd_u_law_power, F_u_law_power⟩ := T.d_u_law_power
  have G_u_law_power := ok_u_law_power (P := P) (w := w) (base := base) T F_u_law_power
  have b_u_law_power : Binds K fd_u_law_power ["a", "exponent", "modulus"] [] := F_u_law_power.bindsN fun _ _ _ _ _ _ us hl => match us, hl with | [_, _, _], _ => rfl
  refine fn_ok F sc_u_law_inverse (fun y => rfl) (fun cdv A outer s H E hr => ?_)
  refine ⟨_, (pss_one (ps_ret (pe_callS G_u_law_power (hr.mono (by decide)) rfl T.g_u_law_power F_u_law_power.kp b_u_law_power (fun σ => passAt (takes_of rfl rfl rfl rfl) σ) (pa_cons (pv 0) (pa_cons (pe_op op_sub (pv 1) pe_int) (pa_cons (pv 1) pa_nil)))))), ?_⟩
  rintro ⟨a_, prime_, ⟨⟩⟩ F0 H0 Q KP L
  show Blk K F0 H0 KP _ [some (.im (toD a_)), some (.im (toD prime_))] (m_u_law_inverse a_ prime_)
  unfold m_u_law_inverse
  have hr_ := ((ev_call (f := (fun (p : Int × Int × Int × Unit) => m_u_law_power p.1 p.2.1 p.2.2.1)) (ea_cons (ev_var (i := 0) (x := a_) rfl) (ea_cons (ev_op (opx_I0 (g := fun i j => i - j)) mild_ok (ev_var (i := 1) (x := prime_) rfl) (ev_int (i := 2))) (ea_cons (ev_var (i := 1) (x := prime_) rfl) ea_nil)))) : EvX K (W0 E) [some (.im (toD a_)), some (.im (toD prime_))] _ _)
  exact blk_ret L trivial hr_
noncomputable def m_u_law_residue (cell_ : Int) (prime_ : Int) : Res Int :=
  ((((Res.ok cell_)).bind fun a408 => (Res.ok ()).bind fun a409 => Res.ok (a408, a409)).bind fun p407 => Res.ok (Int.natAbs p407.1 : Int)).bind fun (rest_ : Int) =>   (((Res.ok rest_)).bind fun (t412 : Int) => (((Res.ok (10 : Int))).bind fun (t410 : Int) => ((Res.ok (18 : Int))).bind fun (t411 : Int) => Res.ok (t410 ^ t411.toNat)).bind fun (t413 : Int) => Res.ok (decide (t413 ≤ t412))).bind fun b => cond b   (((Res.ok rest_)).bind fun (t414 : Int) => ((Res.ok prime_)).bind fun (t415 : Int) => Res.need (0 < t415) (Res.ok (t414 % t415)))   (((((Res.ok rest_)).bind fun (t416 : Int) => ((Res.ok (3 : Int))).bind fun (t417 : Int) => Res.ok (t416 % t417)).bind fun (t418 : Int) => ((Res.ok (1 : Int))).bind fun (t419 : Int) => Res.ok (decide (t418 = t419))).bind fun b => cond b   ((((((Res.ok (0 : Int))).bind fun a425 => (((Res.ok (1 : Int))).bind fun a427 => (((Res.ok (2 : Int))).bind fun a429 => ((((Res.ok prime_)).bind fun (t420 : Int) => ((Res.ok (1 : Int))).bind fun (t421 : Int) => Res.ok (t420 - t421)).bind fun a431 => ((((Res.ok prime_)).bind fun (t422 : Int) => ((Res.ok (2 : Int))).bind fun (t423 : Int) => Res.ok (t422 - t423)).bind fun a433 => (((Res.ok (3 : Int))).bind fun a435 => (Res.ok ()).bind fun a436 => Res.ok (a435, a436)).bind fun a434 => Res.ok (a433, a434)).bind fun a432 => Res.ok (a431, a432)).bind fun a430 => Res.ok (a429, a430)).bind fun a428 => Res.ok (a427, a428)).bind fun a426 => Res.ok (a425, a426)).bind fun p424 => Res.ok ([p424.1, p424.2.1, p424.2.2.1, p424.2.2.2.1, p424.2.2.2.2.1, p424.2.2.2.2.2.1] : List Int)).bind fun (t441 : (List Int)) => ((((Res.ok rest_)).bind fun (t437 : Int) => ((Res.ok (3 : Int))).bind fun (t438 : Int) => Res.ok (t437 / t438)).bind fun (t439 : Int) => ((Res.ok (6 : Int))).bind fun (t440 : Int) => Res.ok (t439 % t440)).bind fun (t442 : Int) => idx t441 t442).bind fun (t443 : Int) => ((Res.ok prime_)).bind fun (t444 : Int) => Res.need (0 < t444) (Res.ok (t443 % t444)))   (((((((Res.ok rest_)).bind fun (t445 : Int) => ((Res.ok (48271 : Int))).bind fun (t446 : Int) => Res.ok (t445 * t446)).bind fun (t447 : Int) => ((Res.ok (69621 : Int))).bind fun (t448 : Int) => Res.ok (t447 * t448)).bind fun (t453 : Int) => ((((Res.ok (7919 : Int))).bind fun (t449 : Int) => ((Res.ok rest_)).bind fun (t450 : Int) => Res.ok (t449 * t450)).bind fun (t451 : Int) => ((Res.ok rest_)).bind fun (t452 : Int) => Res.need (CMulX t451 t452) (Res.ok (t451 * t452))).bind fun (t454 : Int) => Res.ok (t453 + t454)).bind fun (t455 : Int) => ((Res.ok (5 : Int))).bind fun (t456 : Int) => Res.ok (t455 + t456)).bind fun (t457 : Int) => ((Res.ok prime_)).bind fun (t458 : Int) => Res.need (0 < t458) (Res.ok (t457 % t458))))
theorem ok_u_law_residue {P : Program} {w : World} {K : PySem.W.Frag} {mg : Str → Option Value} {base : Heap} (T : Facts K mg) {fd : FuncData} (F : FnP K "_law_residue" "_law_residue" s_u_law_residue (He.ga K "_law_residue") fd) :
    FnOk P w K mg base (L2.CX P w) 1 (He.ga K "_law_residue") fd ["cell", "prime"] (spM K (fun (p : Int × Int × Unit) => m_u_law_residue p.1 p.2.1)) := by
  refine fn_ok F sc_u_law_residue (fun y => rfl) (fun cdv A outer s H E hr => ?_)
  refine ⟨_, (pss_cons (ps_set (i := 2) sc_u_law_residue.nd rfl (Or.inl rfl) (pe_callB call_abs (by rfl) T.n_abs (by decide +kernel) (pa_cons (pv 0) pa_nil))) (pss_cons (ps_if (pt_cmpR op_ge (pv 2) (pe_op op_pow pe_int pe_int) (nomark _)) (pss_one (ps_ret (pe_op op_mod (pv 2) (pv 1)))) pss_nil) (pss_cons (ps_if (pt_cmpR op_eq (pe_op op_mod (pv 2) pe_int) pe_int (nomark _)) (pss_one (ps_ret (pe_op op_mod (pe_ix (cr_ixL rfl) (pe_lst (pa_cons pe_int (pa_cons pe_int (pa_cons pe_int (pa_cons (pe_op op_sub (pv 1) pe_int) (pa_cons (pe_op op_sub (pv 1) pe_int) (pa_cons pe_int pa_nil))))))) (pe_op op_mod (pe_op op_fdiv (pv 2) pe_int) pe_int) (fun _ _ => rfl)) (pv 1)))) pss_nil) (pss_one (ps_ret (pe_op op_mod (pe_op op_add (pe_op op_add (pe_op op_mul (pe_op op_mul (pv 2) pe_int) pe_int) (pe_op op_mulX (pe_op op_mul pe_int (pv 2)) (pv 2))) pe_int) (pv 1))))))), ?_⟩
  rintro ⟨cell_, prime_, ⟨⟩⟩ F0 H0 Q KP L
  show Blk K F0 H0 KP _ [some (.im (toD cell_)), some (.im (toD prime_)), none] (m_u_law_residue cell_ prime_)
  unfold m_u_law_residue
  have hs_ := ((ev_cb cx_abs (fun _ _ h => nomatch h) (ea_cons (ev_var (i := 0) (x := cell_) rfl) ea_nil)) : EvX K (W0 E) [some (.im (toD cell_)), some (.im (toD prime_)), none] _ _)
  refine blk_seq (blk_set (i := 2) L trivial hs_ fun rest_ => ?_)
  show Blk _ _ _ _ _ [some (.im (toD cell_)), some (.im (toD prime_)), some (.im (toD rest_))] _
  try refine Blk.nx ?_
  have ht_ := ((et_test (ev_op (opx_B0 (g := fun i j => decide (j ≤ i))) mild_ok (ev_var (i := 2) (x := rest_) rfl) (ev_opI (C := CPow) (g := fun i j => i ^ j.toNat) (fun x y h1 h2 => by cases h1; cases h2; exact ⟨by decide, by decide, by decide⟩) (ev_int (i := 10)) (ev_int (i := 18))))) : EvT K (W0 E) [some (.im (toD cell_)), some (.im (toD prime_)), some (.im (toD rest_))] _ _)
  refine blk_seq (blk_if2 L trivial ht_ ?_ ?_)
  · have hr_ := ((ev_op (opx_I (C := (fun _ j => 0 < j)) (g := fun i j => i % j)) mild_need (ev_var (i := 2) (x := rest_) rfl) (ev_var (i := 1) (x := prime_) rfl)) : EvX K (W0 E) [some (.im (toD cell_)), some (.im (toD prime_)), some (.im (toD rest_))] _ _)
    exact blk_ret L trivial hr_
  · refine blk_nil ?_
    try refine Blk.nx ?_
    have ht_ := ((et_test (ev_op opx_eqI mild_ok (ev_opI (C := (fun _ j => 0 < j)) (g := fun i j => i % j) (fun x y _ h => by cases h; (show (0 : Int) < _; decide)) (ev_var (i := 2) (x := rest_) rfl) (ev_int (i := 3))) (ev_int (i := 1)))) : EvT K (W0 E) [some (.im (toD cell_)), some (.im (toD prime_)), some (.im (toD rest_))] _ _)
    refine blk_seq (blk_if2 L trivial ht_ ?_ ?_)
    · have hr_ := ((ev_op (opx_I (C := (fun _ j => 0 < j)) (g := fun i j => i % j)) mild_need (ev_op opx_ixL (fun x y => idx_mild x y) (ev_ofN (en_lst (f := (fun y => ([y.1, y.2.1, y.2.2.1, y.2.2.2.1, y.2.2.2.2.1, y.2.2.2.2.2.1] : List Int))) (ea_cons (ev_int (i := 0)) (ea_cons (ev_int (i := 1)) (ea_cons (ev_int (i := 2)) (ea_cons (ev_op (opx_I0 (g := fun i j => i - j)) mild_ok (ev_var (i := 1) (x := prime_) rfl) (ev_int (i := 1))) (ea_cons (ev_op (opx_I0 (g := fun i j => i - j)) mild_ok (ev_var (i := 1) (x := prime_) rfl) (ev_int (i := 2))) (ea_cons (ev_int (i := 3)) ea_nil)))))) (fun _ => rfl) (fun _ => by show 6 ≤ 100000; decide))) (ev_opI (C := (fun _ j => 0 < j)) (g := fun i j => i % j) (fun x y _ h => by cases h; (show (0 : Int) < _; decide)) (ev_opI (C := CDiv) (g := fun i j => i / j) (fun x y _ h => by cases h; exact ⟨by decide, by decide⟩) (ev_var (i := 2) (x := rest_) rfl) (ev_int (i := 3))) (ev_int (i := 6)))) (ev_var (i := 1) (x := prime_) rfl)) : EvX K (W0 E) [some (.im (toD cell_)), some (.im (toD prime_)), some (.im (toD rest_))] _ _)
      exact blk_ret L trivial hr_
    · refine blk_nil ?_
      try refine Blk.nx ?_
      have hr_ := ((ev_op (opx_I (C := (fun _ j => 0 < j)) (g := fun i j => i % j)) mild_need (ev_op (opx_I0 (g := fun i j => i + j)) mild_ok (ev_op (opx_I0 (g := fun i j => i + j)) mild_ok (ev_opI (C := CMul) (g := fun i j => i * j) (fun x y _ h => by cases h; exact .inr (by decide)) (ev_opI (C := CMul) (g := fun i j => i * j) (fun x y _ h => by cases h; exact .inr (by decide)) (ev_var (i := 2) (x := rest_) rfl) (ev_int (i := 48271))) (ev_int (i := 69621))) (ev_op (opx_I (C := CMulX) (g := fun i j => i * j)) mild_need (ev_opI (C := CMul) (g := fun i j => i * j) (fun x y h _ => by cases h; exact .inl (by decide)) (ev_int (i := 7919)) (ev_var (i := 2) (x := rest_) rfl)) (ev_var (i := 2) (x := rest_) rfl))) (ev_int (i := 5))) (ev_var (i := 1) (x := prime_) rfl)) : EvX K (W0 E) [some (.im (toD cell_)), some (.im (toD prime_)), some (.im (toD rest_))] _ _)
      exact blk_ret L trivial hr_
noncomputable def m_u_law_curve_and_points_k1 (prime_ : Int) (x1_ : Int) (y1_ : Int) (x2_ : Int) : Int × Int → Res (T4 Int Int (T2 Int Int) (T2 Int Int)) := fun (y2_, a_) =>   ((((((Res.ok y1_)).bind fun (t519 : Int) => ((Res.ok y1_)).bind fun (t520 : Int) => Res.need (CMulX t519 t520) (Res.ok (t519 * t520))).bind fun (t525 : Int) => ((((Res.ok x1_)).bind fun (t521 : Int) => ((Res.ok x1_)).bind fun (t522 : Int) => Res.need (CMulX t521 t522) (Res.ok (t521 * t522))).bind fun (t523 : Int) => ((Res.ok x1_)).bind fun (t524 : Int) => Res.need (CMulX t523 t524) (Res.ok (t523 * t524))).bind fun (t526 : Int) => Res.ok (t525 - t526)).bind fun (t529 : Int) => (((Res.ok a_)).bind fun (t527 : Int) => ((Res.ok x1_)).bind fun (t528 : Int) => Res.need (CMulX t527 t528) (Res.ok (t527 * t528))).bind fun (t530 : Int) => Res.ok (t529 - t530)).bind fun (t531 : Int) => ((Res.ok prime_)).bind fun (t532 : Int) => Res.need (0 < t532) (Res.ok (t531 % t532))).bind fun (b_ : Int) =>   (((Res.ok a_)).bind fun a544 => (((Res.ok b_)).bind fun a546 => (((((Res.ok x1_)).bind fun a534 => (((Res.ok y1_)).bind fun a536 => (Res.ok ()).bind fun a537 => Res.ok (a536, a537)).bind fun a535 => Res.ok (a534, a535)).bind fun p533 => Res.ok (T2.mk p533.1 p533.2.1)).bind fun a548 => (((((Res.ok x2_)).bind fun a539 => (((Res.ok y2_)).bind fun a541 => (Res.ok ()).bind fun a542 => Res.ok (a541, a542)).bind fun a540 => Res.ok (a539, a540)).bind fun p538 => Res.ok (T2.mk p538.1 p538.2.1)).bind fun a550 => (Res.ok ()).bind fun a551 => Res.ok (a550, a551)).bind fun a549 => Res.ok (a548, a549)).bind fun a547 => Res.ok (a546, a547)).bind fun a545 => Res.ok (a544, a545)).bind fun p543 => Res.ok (T4.mk p543.1 p543.2.1 p543.2.2.1 p543.2.2.2.1)
noncomputable def m_u_law_curve_and_points (script_ : (List Int)) (at_ : Int) (prime_ : Int) : Res (T4 Int Int (T2 Int Int) (T2 Int Int)) :=
  ((((((Res.ok script_)).bind fun a460 => (((Res.ok at_)).bind fun a462 => (Res.ok ()).bind fun a463 => Res.ok (a462, a463)).bind fun a461 => Res.ok (a460, a461)).bind fun p459 => m_u_law_cell p459.1 p459.2.1).bind fun a465 => (((Res.ok prime_)).bind fun a467 => (Res.ok ()).bind fun a468 => Res.ok (a467, a468)).bind fun a466 => Res.ok (a465, a466)).bind fun p464 => m_u_law_residue p464.1 p464.2.1).bind fun (x1_ : Int) =>   ((((((Res.ok script_)).bind fun a472 => ((((Res.ok at_)).bind fun (t469 : Int) => ((Res.ok (1 : Int))).bind fun (t470 : Int) => Res.ok (t469 + t470)).bind fun a474 => (Res.ok ()).bind fun a475 => Res.ok (a474, a475)).bind fun a473 => Res.ok (a472, a473)).bind fun p471 => m_u_law_cell p471.1 p471.2.1).bind fun a477 => (((Res.ok prime_)).bind fun a479 => (Res.ok ()).bind fun a480 => Res.ok (a479, a480)).bind fun a478 => Res.ok (a477, a478)).bind fun p476 => m_u_law_residue p476.1 p476.2.1).bind fun (y1_ : Int) =>   ((((((Res.ok script_)).bind fun a484 => ((((Res.ok at_)).bind fun (t481 : Int) => ((Res.ok (2 : Int))).bind fun (t482 : Int) => Res.ok (t481 + t482)).bind fun a486 => (Res.ok ()).bind fun a487 => Res.ok (a486, a487)).bind fun a485 => Res.ok (a484, a485)).bind fun p483 => m_u_law_cell p483.1 p483.2.1).bind fun a489 => (((Res.ok prime_)).bind fun a491 => (Res.ok ()).bind fun a492 => Res.ok (a491, a492)).bind fun a490 => Res.ok (a489, a490)).bind fun p488 => m_u_law_residue p488.1 p488.2.1).bind fun (x2_ : Int) =>   ((((((Res.ok script_)).bind fun a496 => ((((Res.ok at_)).bind fun (t493 : Int) => ((Res.ok (3 : Int))).bind fun (t494 : Int) => Res.ok (t493 + t494)).bind fun a498 => (Res.ok ()).bind fun a499 => Res.ok (a498, a499)).bind fun a497 => Res.ok (a496, a497)).bind fun p495 => m_u_law_cell p495.1 p495.2.1).bind fun a501 => (((Res.ok prime_)).bind fun a503 => (Res.ok ()).bind fun a504 => Res.ok (a503, a504)).bind fun a502 => Res.ok (a501, a502)).bind fun p500 => m_u_law_residue p500.1 p500.2.1).bind fun (y2_ : Int) =>   ((((((Res.ok script_)).bind fun a508 => ((((Res.ok at_)).bind fun (t505 : Int) => ((Res.ok (4 : Int))).bind fun (t506 : Int) => Res.ok (t505 + t506)).bind fun a510 => (Res.ok ()).bind fun a511 => Res.ok (a510, a511)).bind fun a509 => Res.ok (a508, a509)).bind fun p507 => m_u_law_cell p507.1 p507.2.1).bind fun a513 => (((Res.ok prime_)).bind fun a515 => (Res.ok ()).bind fun a516 => Res.ok (a515, a516)).bind fun a514 => Res.ok (a513, a514)).bind fun p512 => m_u_law_residue p512.1 p512.2.1).bind fun (a_ : Int) =>   (((Res.ok x1_)).bind fun (t517 : Int) => ((Res.ok x2_)).bind fun (t518 : Int) => Res.ok (decide (t517 = t518))).bind fun b => cond b   ((((((Res.ok y1_)).bind fun a556 => (((((Res.ok y1_)).bind fun (t552 : Int) => Res.ok (-t552)).bind fun (t553 : Int) => ((Res.ok prime_)).bind fun (t554 : Int) => Res.need (0 < t554) (Res.ok (t553 % t554))).bind fun a558 => (Res.ok ()).bind fun a559 => Res.ok (a558, a559)).bind fun a557 => Res.ok (a556, a557)).bind fun p555 => Res.ok ([p555.1, p555.2.1] : List Int)).bind fun (t572 : (List Int)) => (((((((Res.ok script_)).bind fun a563 => ((((Res.ok at_)).bind fun (t560 : Int) => ((Res.ok (3 : Int))).bind fun (t561 : Int) => Res.ok (t560 + t561)).bind fun a565 => (Res.ok ()).bind fun a566 => Res.ok (a565, a566)).bind fun a564 => Res.ok (a563, a564)).bind fun p562 => m_u_law_cell p562.1 p562.2.1).bind fun a568 => (Res.ok ()).bind fun a569 => Res.ok (a568, a569)).bind fun p567 => Res.ok (Int.natAbs p567.1 : Int)).bind fun (t570 : Int) => ((Res.ok (2 : Int))).bind fun (t571 : Int) => Res.ok (t570 % t571)).bind fun (t573 : Int) => idx t572 t573).bind fun (y2_ : Int) =>   (m_u_law_curve_and_points_k1 prime_ x1_ y1_ x2_) (y2_, a_))   (((((((((Res.ok y2_)).bind fun (t574 : Int) => ((Res.ok y2_)).bind fun (t575 : Int) => Res.need (CMulX t574 t575) (Res.ok (t574 * t575))).bind fun (t580 : Int) => ((((Res.ok x2_)).bind fun (t576 : Int) => ((Res.ok x2_)).bind fun (t577 : Int) => Res.need (CMulX t576 t577) (Res.ok (t576 * t577))).bind fun (t578 : Int) => ((Res.ok x2_)).bind fun (t579 : Int) => Res.need (CMulX t578 t579) (Res.ok (t578 * t579))).bind fun (t581 : Int) => Res.ok (t580 - t581)).bind fun (t584 : Int) => (((Res.ok y1_)).bind fun (t582 : Int) => ((Res.ok y1_)).bind fun (t583 : Int) => Res.need (CMulX t582 t583) (Res.ok (t582 * t583))).bind fun (t585 : Int) => Res.ok (t584 - t585)).bind fun (t590 : Int) => ((((Res.ok x1_)).bind fun (t586 : Int) => ((Res.ok x1_)).bind fun (t587 : Int) => Res.need (CMulX t586 t587) (Res.ok (t586 * t587))).bind fun (t588 : Int) => ((Res.ok x1_)).bind fun (t589 : Int) => Res.need (CMulX t588 t589) (Res.ok (t588 * t589))).bind fun (t591 : Int) => Res.ok (t590 + t591)).bind fun (t599 : Int) => (((((Res.ok x2_)).bind fun (t592 : Int) => ((Res.ok x1_)).bind fun (t593 : Int) => Res.ok (t592 - t593)).bind fun a595 => (((Res.ok prime_)).bind fun a597 => (Res.ok ()).bind fun a598 => Res.ok (a597, a598)).bind fun a596 => Res.ok (a595, a596)).bind fun p594 => m_u_law_inverse p594.1 p594.2.1).bind fun (t600 : Int) => Res.need (CMulX t599 t600) (Res.ok (t599 * t600))).bind fun (t601 : Int) => ((Res.ok prime_)).bind fun (t602 : Int) => Res.need (0 < t602) (Res.ok (t601 % t602))).bind fun (a_ : Int) =>   (m_u_law_curve_and_points_k1 prime_ x1_ y1_ x2_) (y2_, a_))
theorem ok_u_law_curve_and_points {P : Program} {w : World} {K : PySem.W.Frag} {mg : Str → Option Value} {base : Heap} (T : Facts K mg) {fd : FuncData} (F : FnP K "_law_curve_and_points" "_law_curve_and_points" s_u_law_curve_and_points (He.ga K "_law_curve_and_points") fd) :
    FnOk P w K mg base (L2.CX P w) 3 (He.ga K "_law_curve_and_points") fd ["script", "at", "prime"] (spM K (fun (p : (List Int) × Int × Int × Unit) => m_u_law_curve_and_points p.1 p.2.1 p.2.2.1)) := by
  obtain ⟨fd_u_law_cell, F_u_law_cell⟩ := T.d_u_law_cell
  have G_u_law_cell := ok_u_law_cell (P := P) (w := w) (base := base) T F_u_law_cell
  have b_u_law_cell : Binds K fd_u_law_cell ["script", "k"] [] := F_u_law_cell.bindsN fun _ _ _ _ _ _ us hl => match us, hl with | [_, _], _ => rfl
  obtain ⟨fd_u_law_inverse, F_u_law_inverse⟩ := T.d_u_law_inverse
  have G_u_law_inverse := ok_u_law_inverse (P := P) (w := w) (base := base) T F_u_law_inverse
  have b_u_law_inverse : Binds K fd_u_law_inverse ["a", "prime"] [] := F_u_law_inverse.bindsN fun _ _ _ _ _ _ us hl => match us, hl with | [_, _], _ => rfl
  obtain ⟨fd_u_law_residue, F_u_law_residue⟩ := T.d_u_law_residue
  have G_u_law_residue := ok_u_law_residue (P := P) (w := w) (base := base) T F_u_law_residue
  have b_u_law_residue : Binds K fd_u_law_residue ["cell", "prime"] [] := F_u_law_residue.bindsN fun _ _ _ _ _ _ us hl => match us, hl with | [_, _], _ => rfl
  refine fn_ok F sc_u_law_curve_and_points (fun y => rfl) (fun cdv A outer s H E hr => ?_)
  refine ⟨_, (pss_cons (ps_set (i := 3) sc_u_law_curve_and_points.nd rfl (Or.inl rfl) (pe_callS G_u_law_residue (hr.mono (by decide)) rfl T.g_u_law_residue F_u_law_residue.kp b_u_law_residue (fun σ => passAt (takes_of rfl rfl rfl rfl) σ) (pa_cons (pe_callS G_u_law_cell (hr.mono (by decide)) rfl T.g_u_law_cell F_u_law_cell.kp b_u_law_cell (fun σ => passAt (takes_of rfl rfl rfl rfl) σ) (pa_cons (pv 0) (pa_cons (pv 1) pa_nil))) (pa_cons (pv 2) pa_nil)))) (pss_cons (ps_set (i := 4) sc_u_law_curve_and_points.nd rfl (Or.inl rfl) (pe_callS G_u_law_residue (hr.mono (by decide)) rfl T.g_u_law_residue F_u_law_residue.kp b_u_law_residue (fun σ => passAt (takes_of rfl rfl rfl rfl) σ) (pa_cons (pe_callS G_u_law_cell (hr.mono (by decide)) rfl T.g_u_law_cell F_u_law_cell.kp b_u_law_cell (fun σ => passAt (takes_of rfl rfl rfl rfl) σ) (pa_cons (pv 0) (pa_cons (pe_op op_add (pv 1) pe_int) pa_nil))) (pa_cons (pv 2) pa_nil)))) (pss_cons (ps_set (i := 5) sc_u_law_curve_and_points.nd rfl (Or.inl rfl) (pe_callS G_u_law_residue (hr.mono (by decide)) rfl T.g_u_law_residue F_u_law_residue.kp b_u_law_residue (fun σ => passAt (takes_of rfl rfl rfl rfl) σ) (pa_cons (pe_callS G_u_law_cell (hr.mono (by decide)) rfl T.g_u_law_cell F_u_law_cell.kp b_u_law_cell (fun σ => passAt (takes_of rfl rfl rfl rfl) σ) (pa_cons (pv 0) (pa_cons (pe_op op_add (pv 1) pe_int) pa_nil))) (pa_cons (pv 2) pa_nil)))) (pss_cons (ps_set (i := 6) sc_u_law_curve_and_points.nd rfl (Or.inl rfl) (pe_callS G_u_law_residue (hr.mono (by decide)) rfl T.g_u_law_residue F_u_law_residue.kp b_u_law_residue (fun σ => passAt (takes_of rfl rfl rfl rfl) σ) (pa_cons (pe_callS G_u_law_cell (hr.mono (by decide)) rfl T.g_u_law_cell F_u_law_cell.kp b_u_law_cell (fun σ => passAt (takes_of rfl rfl rfl rfl) σ) (pa_cons (pv 0) (pa_cons (pe_op op_add (pv 1) pe_int) pa_nil))) (pa_cons (pv 2) pa_nil)))) (pss_cons (ps_set (i := 7) sc_u_law_curve_and_points.nd rfl (Or.inl rfl) (pe_callS G_u_law_residue (hr.mono (by decide)) rfl T.g_u_law_residue F_u_law_residue.kp b_u_law_residue (fun σ => passAt (takes_of rfl rfl rfl rfl) σ) (pa_cons (pe_callS G_u_law_cell (hr.mono (by decide)) rfl T.g_u_law_cell F_u_law_cell.kp b_u_law_cell (fun σ => passAt (takes_of rfl rfl rfl rfl) σ) (pa_cons (pv 0) (pa_cons (pe_op op_add (pv 1) pe_int) pa_nil))) (pa_cons (pv 2) pa_nil)))) (pss_cons (ps_if (pt_cmpR op_eq (pv 3) (pv 5) (nomark _)) (pss_one (ps_set (i := 6) sc_u_law_curve_and_points.nd rfl (Or.inl rfl) (pe_ix (cr_ixL rfl) (pe_lst (pa_cons (pv 4) (pa_cons (pe_op op_mod (pe_un un_neg (pv 4)) (pv 2)) pa_nil))) (pe_op op_mod (pe_callB call_abs (by rfl) T.n_abs (by decide +kernel) (pa_cons (pe_callS G_u_law_cell (hr.mono (by decide)) rfl T.g_u_law_cell F_u_law_cell.kp b_u_law_cell (fun σ => passAt (takes_of rfl rfl rfl rfl) σ) (pa_cons (pv 0) (pa_cons (pe_op op_add (pv 1) pe_int) pa_nil))) pa_nil)) pe_int) (fun _ _ => rfl)))) (pss_one (ps_set (i := 7) sc_u_law_curve_and_points.nd rfl (Or.inl rfl) (pe_op op_mod (pe_op op_mulX (pe_op op_add (pe_op op_sub (pe_op op_sub (pe_op op_mulX (pv 6) (pv 6)) (pe_op op_mulX (pe_op op_mulX (pv 5) (pv 5)) (pv 5))) (pe_op op_mulX (pv 4) (pv 4))) (pe_op op_mulX (pe_op op_mulX (pv 3) (pv 3)) (pv 3))) (pe_callS G_u_law_inverse (hr.mono (by decide)) rfl T.g_u_law_inverse F_u_law_inverse.kp b_u_law_inverse (fun σ => passAt (takes_of rfl rfl rfl rfl) σ) (pa_cons (pe_op op_sub (pv 5) (pv 3)) (pa_cons (pv 2) pa_nil)))) (pv 2))))) (pss_cons (ps_set (i := 8) sc_u_law_curve_and_points.nd rfl (Or.inl rfl) (pe_op op_mod (pe_op op_sub (pe_op op_sub (pe_op op_mulX (pv 4) (pv 4)) (pe_op op_mulX (pe_op op_mulX (pv 3) (pv 3)) (pv 3))) (pe_op op_mulX (pv 7) (pv 3))) (pv 2))) (pss_one (ps_ret (pe_tup (pa_cons (pv 7) (pa_cons (pv 8) (pa_cons (pe_tup (pa_cons (pv 3) (pa_cons (pv 4) pa_nil))) (pa_cons (pe_tup (pa_cons (pv 5) (pa_cons (pv 6) pa_nil))) pa_nil)))))))))))))), ?_⟩
  rintro ⟨script_, at_, prime_, ⟨⟩⟩ F0 H0 Q KP L
  show Blk K F0 H0 KP _ [some (.im (toD script_)), some (.im (toD at_)), some (.im (toD prime_)), none, none, none, none, none, none] (m_u_law_curve_and_points script_ at_ prime_)
  unfold m_u_law_curve_and_points
  have hs_ := ((ev_call (f := (fun (p : Int × Int × Unit) => m_u_law_residue p.1 p.2.1)) (ea_cons (ev_call (f := (fun (p : (List Int) × Int × Unit) => m_u_law_cell p.1 p.2.1)) (ea_cons (ev_var (i := 0) (x := script_) rfl) (ea_cons (ev_var (i := 1) (x := at_) rfl) ea_nil))) (ea_cons (ev_var (i := 2) (x := prime_) rfl) ea_nil))) : EvX K (W0 E) [some (.im (toD script_)), some (.im (toD at_)), some (.im (toD prime_)), none, none, none, none, none, none] _ _)
  refine blk_seq (blk_set (i := 3) L trivial hs_ fun x1_ => ?_)
  show Blk _ _ _ _ _ [some (.im (toD script_)), some (.im (toD at_)), some (.im (toD prime_)), some (.im (toD x1_)), none, none, none, none, none] _
  try refine Blk.nx ?_
  have hs_ := ((ev_call (f := (fun (p : Int × Int × Unit) => m_u_law_residue p.1 p.2.1)) (ea_cons (ev_call (f := (fun (p : (List Int) × Int × Unit) => m_u_law_cell p.1 p.2.1)) (ea_cons (ev_var (i := 0) (x := script_) rfl) (ea_cons (ev_op (opx_I0 (g := fun i j => i + j)) mild_ok (ev_var (i := 1) (x := at_) rfl) (ev_int (i := 1))) ea_nil))) (ea_cons (ev_var (i := 2) (x := prime_) rfl) ea_nil))) : EvX K (W0 E) [some (.im (toD script_)), some (.im (toD at_)), some (.im (toD prime_)), some (.im (toD x1_)), none, none, none, none, none] _ _)
  refine blk_seq (blk_set (i := 4) L trivial hs_ fun y1_ => ?_)
  show Blk _ _ _ _ _ [some (.im (toD script_)), some (.im (toD at_)), some (.im (toD prime_)), some (.im (toD x1_)), some (.im (toD y1_)), none, none, none, none] _
  try refine Blk.nx ?_
  have hs_ := ((ev_call (f := (fun (p : Int × Int × Unit) => m_u_law_residue p.1 p.2.1)) (ea_cons (ev_call (f := (fun (p : (List Int) × Int × Unit) => m_u_law_cell p.1 p.2.1)) (ea_cons (ev_var (i := 0) (x := script_) rfl) (ea_cons (ev_op (opx_I0 (g := fun i j => i + j)) mild_ok (ev_var (i := 1) (x := at_) rfl) (ev_int (i := 2))) ea_nil))) (ea_cons (ev_var (i := 2) (x := prime_) rfl) ea_nil))) : EvX K (W0 E) [some (.im (toD script_)), some (.im (toD at_)), some (.im (toD prime_)), some (.im (toD x1_)), some (.im (toD y1_)), none, none, none, none] _ _)
  refine blk_seq (blk_set (i := 5) L trivial hs_ fun x2_ => ?_)
  show Blk _ _ _ _ _ [some (.im (toD script_)), some (.im (toD at_)), some (.im (toD prime_)), some (.im (toD x1_)), some (.im (toD y1_)), some (.im (toD x2_)), none, none, none] _
  try refine Blk.nx ?_
  have hs_ := ((ev_call (f := (fun (p : Int × Int × Unit) => m_u_law_residue p.1 p.2.1)) (ea_cons (ev_call (f := (fun (p : (List Int) × Int × Unit) => m_u_law_cell p.1 p.2.1)) (ea_cons (ev_var (i := 0) (x := script_) rfl) (ea_cons (ev_op (opx_I0 (g := fun i j => i + j)) mild_ok (ev_var (i := 1) (x := at_) rfl) (ev_int (i := 3))) ea_nil))) (ea_cons (ev_var (i := 2) (x := prime_) rfl) ea_nil))) : EvX K (W0 E) [some (.im (toD script_)), some (.im (toD at_)), some (.im (toD prime_)), some (.im (toD x1_)), some (.im (toD y1_)), some (.im (toD x2_)), none, none, none] _ _)
  refine blk_seq (blk_set (i := 6) L trivial hs_ fun y2_ => ?_)
  show Blk _ _ _ _ _ [some (.im (toD script_)), some (.im (toD at_)), some (.im (toD prime_)), some (.im (toD x1_)), some (.im (toD y1_)), some (.im (toD x2_)), some (.im (toD y2_)), none, none] _
  try refine Blk.nx ?_
  have hs_ := ((ev_call (f := (fun (p : Int × Int × Unit) => m_u_law_residue p.1 p.2.1)) (ea_cons (ev_call (f := (fun (p : (List Int) × Int × Unit) => m_u_law_cell p.1 p.2.1)) (ea_cons (ev_var (i := 0) (x := script_) rfl) (ea_cons (ev_op (opx_I0 (g := fun i j => i + j)) mild_ok (ev_var (i := 1) (x := at_) rfl) (ev_int (i := 4))) ea_nil))) (ea_cons (ev_var (i := 2) (x := prime_) rfl) ea_nil))) : EvX K (W0 E) [some (.im (toD script_)), some (.im (toD at_)), some (.im (toD prime_)), some (.im (toD x1_)), some (.im (toD y1_)), some (.im (toD x2_)), some (.im (toD y2_)), none, none] _ _)
  refine blk_seq (blk_set (i := 7) L trivial hs_ fun a_ => ?_)
  show Blk _ _ _ _ _ [some (.im (toD script_)), some (.im (toD at_)), some (.im (toD prime_)), some (.im (toD x1_)), some (.im (toD y1_)), some (.im (toD x2_)), some (.im (toD y2_)), some (.im (toD a_)), none] _
  try refine Blk.nx ?_
  have ht_ := ((et_test (ev_op opx_eqI mild_ok (ev_var (i := 3) (x := x1_) rfl) (ev_var (i := 5) (x := x2_) rfl))) : EvT K (W0 E) [some (.im (toD script_)), some (.im (toD at_)), some (.im (toD prime_)), some (.im (toD x1_)), some (.im (toD y1_)), some (.im (toD x2_)), some (.im (toD y2_)), some (.im (toD a_)), none] _ _)
  refine blk_seq (blk_ifj (S := Int × Int) (fun (y2_, a_) => [some (.im (toD script_)), some (.im (toD at_)), some (.im (toD prime_)), some (.im (toD x1_)), some (.im (toD y1_)), some (.im (toD x2_)), some (.im (toD y2_)), some (.im (toD a_)), none]) (m_u_law_curve_and_points_k1 prime_ x1_ y1_ x2_) L trivial ht_ ?_ ?_ ?_)
  · rintro ⟨y2_, a_⟩
    show Blk _ _ _ _ _ [some (.im (toD script_)), some (.im (toD at_)), some (.im (toD prime_)), some (.im (toD x1_)), some (.im (toD y1_)), some (.im (toD x2_)), some (.im (toD y2_)), some (.im (toD a_)), none] ((m_u_law_curve_and_points_k1 prime_ x1_ y1_ x2_) (y2_, a_))
    unfold m_u_law_curve_and_points_k1
    try refine Blk.nx ?_
    have hs_ := ((ev_op (opx_I (C := (fun _ j => 0 < j)) (g := fun i j => i % j)) mild_need (ev_op (opx_I0 (g := fun i j => i - j)) mild_ok (ev_op (opx_I0 (g := fun i j => i - j)) mild_ok (ev_op (opx_I (C := CMulX) (g := fun i j => i * j)) mild_need (ev_var (i := 4) (x := y1_) rfl) (ev_var (i := 4) (x := y1_) rfl)) (ev_op (opx_I (C := CMulX) (g := fun i j => i * j)) mild_need (ev_op (opx_I (C := CMulX) (g := fun i j => i * j)) mild_need (ev_var (i := 3) (x := x1_) rfl) (ev_var (i := 3) (x := x1_) rfl)) (ev_var (i := 3) (x := x1_) rfl))) (ev_op (opx_I (C := CMulX) (g := fun i j => i * j)) mild_need (ev_var (i := 7) (x := a_) rfl) (ev_var (i := 3) (x := x1_) rfl))) (ev_var (i := 2) (x := prime_) rfl)) : EvX K (W0 E) [some (.im (toD script_)), some (.im (toD at_)), some (.im (toD prime_)), some (.im (toD x1_)), some (.im (toD y1_)), some (.im (toD x2_)), some (.im (toD y2_)), some (.im (toD a_)), none] _ _)
    refine blk_seq (blk_set (i := 8) L trivial hs_ fun b_ => ?_)
    show Blk _ _ _ _ _ [some (.im (toD script_)), some (.im (toD at_)), some (.im (toD prime_)), some (.im (toD x1_)), some (.im (toD y1_)), some (.im (toD x2_)), some (.im (toD y2_)), some (.im (toD a_)), some (.im (toD b_))] _
    try refine Blk.nx ?_
    have hr_ := ((ev_tup (f := (fun y => T4.mk y.1 y.2.1 y.2.2.1 y.2.2.2.1)) (ea_cons (ev_var (i := 7) (x := a_) rfl) (ea_cons (ev_var (i := 8) (x := b_) rfl) (ea_cons (ev_tup (f := (fun y => T2.mk y.1 y.2.1)) (ea_cons (ev_var (i := 3) (x := x1_) rfl) (ea_cons (ev_var (i := 4) (x := y1_) rfl) ea_nil)) (fun _ => rfl) (fun _ => by show 2 ≤ 100000; decide)) (ea_cons (ev_tup (f := (fun y => T2.mk y.1 y.2.1)) (ea_cons (ev_var (i := 5) (x := x2_) rfl) (ea_cons (ev_var (i := 6) (x := y2_) rfl) ea_nil)) (fun _ => rfl) (fun _ => by show 2 ≤ 100000; decide)) ea_nil)))) (fun _ => rfl) (fun _ => by show 4 ≤ 100000; decide)) : EvX K (W0 E) [some (.im (toD script_)), some (.im (toD at_)), some (.im (toD prime_)), some (.im (toD x1_)), some (.im (toD y1_)), some (.im (toD x2_)), some (.im (toD y2_)), some (.im (toD a_)), some (.im (toD b_))] _ _)
    exact blk_ret L trivial hr_
  · intro hk1
    have hs_ := ((ev_op opx_ixL (fun x y => idx_mild x y) (ev_ofN (en_lst (f := (fun y => ([y.1, y.2.1] : List Int))) (ea_cons (ev_var (i := 4) (x := y1_) rfl) (ea_cons (ev_op (opx_I (C := (fun _ j => 0 < j)) (g := fun i j => i % j)) mild_need (ev_un (g := fun i => -i) (ev_var (i := 4) (x := y1_) rfl)) (ev_var (i := 2) (x := prime_) rfl)) ea_nil)) (fun _ => rfl) (fun _ => by show 2 ≤ 100000; decide))) (ev_opI (C := (fun _ j => 0 < j)) (g := fun i j => i % j) (fun x y _ h => by cases h; (show (0 : Int) < _; decide)) (ev_cb cx_abs (fun _ _ h => nomatch h) (ea_cons (ev_call (f := (fun (p : (List Int) × Int × Unit) => m_u_law_cell p.1 p.2.1)) (ea_cons (ev_var (i := 0) (x := script_) rfl) (ea_cons (ev_op (opx_I0 (g := fun i j => i + j)) mild_ok (ev_var (i := 1) (x := at_) rfl) (ev_int (i := 3))) ea_nil))) ea_nil)) (ev_int (i := 2)))) : EvX K (W0 E) [some (.im (toD script_)), some (.im (toD at_)), some (.im (toD prime_)), some (.im (toD x1_)), some (.im (toD y1_)), some (.im (toD x2_)), some (.im (toD y2_)), some (.im (toD a_)), none] _ _)
    refine blk_set (i := 6) L trivial hs_ fun y2_ => ?_
    show Blk _ _ _ _ _ [some (.im (toD script_)), some (.im (toD at_)), some (.im (toD prime_)), some (.im (toD x1_)), some (.im (toD y1_)), some (.im (toD x2_)), some (.im (toD y2_)), some (.im (toD a_)), none] _
    try refine Blk.nx ?_
    exact (hk1 (y2_, a_)).weak (.same (.same (.same (.same (.same (.same (.same (.same (.same .nil)))))))))
  · intro hk1
    have hs_ := ((ev_op (opx_I (C := (fun _ j => 0 < j)) (g := fun i j => i % j)) mild_need (ev_op (opx_I (C := CMulX) (g := fun i j => i * j)) mild_need (ev_op (opx_I0 (g := fun i j => i + j)) mild_ok (ev_op (opx_I0 (g := fun i j => i - j)) mild_ok (ev_op (opx_I0 (g := fun i j => i - j)) mild_ok (ev_op (opx_I (C := CMulX) (g := fun i j => i * j)) mild_need (ev_var (i := 6) (x := y2_) rfl) (ev_var (i := 6) (x := y2_) rfl)) (ev_op (opx_I (C := CMulX) (g := fun i j => i * j)) mild_need (ev_op (opx_I (C := CMulX) (g := fun i j => i * j)) mild_need (ev_var (i := 5) (x := x2_) rfl) (ev_var (i := 5) (x := x2_) rfl)) (ev_var (i := 5) (x := x2_) rfl))) (ev_op (opx_I (C := CMulX) (g := fun i j => i * j)) mild_need (ev_var (i := 4) (x := y1_) rfl) (ev_var (i := 4) (x := y1_) rfl))) (ev_op (opx_I (C := CMulX) (g := fun i j => i * j)) mild_need (ev_op (opx_I (C := CMulX) (g := fun i j => i * j)) mild_need (ev_var (i := 3) (x := x1_) rfl) (ev_var (i := 3) (x := x1_) rfl)) (ev_var (i := 3) (x := x1_) rfl))) (ev_call (f := (fun (p : Int × Int × Unit) => m_u_law_inverse p.1 p.2.1)) (ea_cons (ev_op (opx_I0 (g := fun i j => i - j)) mild_ok (ev_var (i := 5) (x := x2_) rfl) (ev_var (i := 3) (x := x1_) rfl)) (ea_cons (ev_var (i := 2) (x := prime_) rfl) ea_nil)))) (ev_var (i := 2) (x := prime_) rfl)) : EvX K (W0 E) [some (.im (toD script_)), some (.im (toD at_)), some (.im (toD prime_)), some (.im (toD x1_)), some (.im (toD y1_)), some (.im (toD x2_)), some (.im (toD y2_)), some (.im (toD a_)), none] _ _)
    refine blk_set (i := 7) L trivial hs_ fun a_ => ?_
    show Blk _ _ _ _ _ [some (.im (toD script_)), some (.im (toD at_)), some (.im (toD prime_)), some (.im (toD x1_)), some (.im (toD y1_)), some (.im (toD x2_)), some (.im (toD y2_)), some (.im (toD a_)), none] _
    try refine Blk.nx ?_
    exact (hk1 (y2_, a_)).weak (.same (.same (.same (.same (.same (.same (.same (.same (.same .nil)))))))))
noncomputable def m_u_law_add_k4 (prime_ : Int) (x1_ : Int) (y1_ : Int) (x2_ : Int) : Int → Res (Option (T2 Int Int)) := fun slope_ =>   ((((((Res.ok slope_)).bind fun (t637 : Int) => ((Res.ok slope_)).bind fun (t638 : Int) => Res.need (CMulX t637 t638) (Res.ok (t637 * t638))).bind fun (t639 : Int) => ((Res.ok x1_)).bind fun (t640 : Int) => Res.ok (t639 - t640)).bind fun (t641 : Int) => ((Res.ok x2_)).bind fun (t642 : Int) => Res.ok (t641 - t642)).bind fun (t643 : Int) => ((Res.ok prime_)).bind fun (t644 : Int) => Res.need (0 < t644) (Res.ok (t643 % t644))).bind fun (x3_ : Int) =>   ((((Res.ok x3_)).bind fun a654 => ((((((Res.ok slope_)).bind fun (t647 : Int) => (((Res.ok x1_)).bind fun (t645 : Int) => ((Res.ok x3_)).bind fun (t646 : Int) => Res.ok (t645 - t646)).bind fun (t648 : Int) => Res.need (CMulX t647 t648) (Res.ok (t647 * t648))).bind fun (t649 : Int) => ((Res.ok y1_)).bind fun (t650 : Int) => Res.ok (t649 - t650)).bind fun (t651 : Int) => ((Res.ok prime_)).bind fun (t652 : Int) => Res.need (0 < t652) (Res.ok (t651 % t652))).bind fun a656 => (Res.ok ()).bind fun a657 => Res.ok (a656, a657)).bind fun a655 => Res.ok (a654, a655)).bind fun p653 => Res.ok (T2.mk p653.1 p653.2.1)).bind fun (x : (T2 Int Int)) => Res.ok (some x)
noncomputable def m_u_law_add (prime_ : Int) (a_ : Int) (first_ : (Option (T2 Int Int))) (second_ : (Option (T2 Int Int))) : Res (Option (T2 Int Int)) :=
  (((Res.ok first_)).bind fun (t603 : (Option (T2 Int Int))) => ((Res.ok ())).bind fun (t604 : Unit) => Res.ok (toD t603).isNon).bind fun b => cond b   ((Res.ok second_))   ((((Res.ok second_)).bind fun (t605 : (Option (T2 Int Int))) => ((Res.ok ())).bind fun (t606 : Unit) => Res.ok (toD t605).isNon).bind fun b => cond b   ((Res.ok first_))   ((((Res.ok first_)).bind optGet).bind fun (u607 : (T2 Int Int)) =>   (fun (x1_ : Int) (y1_ : Int) => (((Res.ok second_)).bind optGet).bind fun (u608 : (T2 Int Int)) =>   (fun (x2_ : Int) (y2_ : Int) => ((((Res.ok x1_)).bind fun (t609 : Int) => ((Res.ok x2_)).bind fun (t610 : Int) => Res.ok (decide (t609 = t610))).bind fun b617 => cond b617 (((((Res.ok y1_)).bind fun (t611 : Int) => ((Res.ok y2_)).bind fun (t612 : Int) => Res.ok (t611 + t612)).bind fun (t613 : Int) => ((Res.ok prime_)).bind fun (t614 : Int) => Res.need (0 < t614) (Res.ok (t613 % t614))).bind fun (t615 : Int) => ((Res.ok (0 : Int))).bind fun (t616 : Int) => Res.ok (decide (t615 = t616))) (Res.ok false)).bind fun b => cond b   ((Res.ok (none : (Option (T2 Int Int)))))   ((((Res.ok x1_)).bind fun (t618 : Int) => ((Res.ok x2_)).bind fun (t619 : Int) => Res.ok (decide (t618 = t619))).bind fun b => cond b   ((((((((Res.ok (3 : Int))).bind fun (t658 : Int) => ((Res.ok x1_)).bind fun (t659 : Int) => Res.ok (t658 * t659)).bind fun (t660 : Int) => ((Res.ok x1_)).bind fun (t661 : Int) => Res.need (CMulX t660 t661) (Res.ok (t660 * t661))).bind fun (t662 : Int) => ((Res.ok a_)).bind fun (t663 : Int) => Res.ok (t662 + t663)).bind fun (t671 : Int) => (((((Res.ok (2 : Int))).bind fun (t664 : Int) => ((Res.ok y1_)).bind fun (t665 : Int) => Res.ok (t664 * t665)).bind fun a667 => (((Res.ok prime_)).bind fun a669 => (Res.ok ()).bind fun a670 => Res.ok (a669, a670)).bind fun a668 => Res.ok (a667, a668)).bind fun p666 => m_u_law_inverse p666.1 p666.2.1).bind fun (t672 : Int) => Res.need (CMulX t671 t672) (Res.ok (t671 * t672))).bind fun (t673 : Int) => ((Res.ok prime_)).bind fun (t674 : Int) => Res.need (0 < t674) (Res.ok (t673 % t674))).bind fun (slope_ : Int) =>   (m_u_law_add_k4 prime_ x1_ y1_ x2_) slope_)   ((((((Res.ok y2_)).bind fun (t675 : Int) => ((Res.ok y1_)).bind fun (t676 : Int) => Res.ok (t675 - t676)).bind fun (t684 : Int) => (((((Res.ok x2_)).bind fun (t677 : Int) => ((Res.ok x1_)).bind fun (t678 : Int) => Res.ok (t677 - t678)).bind fun a680 => (((Res.ok prime_)).bind fun a682 => (Res.ok ()).bind fun a683 => Res.ok (a682, a683)).bind fun a681 => Res.ok (a680, a681)).bind fun p679 => m_u_law_inverse p679.1 p679.2.1).bind fun (t685 : Int) => Res.need (CMulX t684 t685) (Res.ok (t684 * t685))).bind fun (t686 : Int) => ((Res.ok prime_)).bind fun (t687 : Int) => Res.need (0 < t687) (Res.ok (t686 % t687))).bind fun (slope_ : Int) =>   (m_u_law_add_k4 prime_ x1_ y1_ x2_) slope_))) u608.a u608.b) u607.a u607.b))
theorem ok_u_law_add {P : Program} {w : World} {K : PySem.W.Frag} {mg : Str → Option Value} {base : Heap} (T : Facts K mg) {fd : FuncData} (F : FnP K "_law_add" "_law_add" s_u_law_add (He.ga K "_law_add") fd) :
    FnOk P w K mg base (L2.CX P w) 3 (He.ga K "_law_add") fd ["prime", "a", "first", "second"] (spM K (fun (p : Int × Int × (Option (T2 Int Int)) × (Option (T2 Int Int)) × Unit) => m_u_law_add p.1 p.2.1 p.2.2.1 p.2.2.2.1)) := by
  obtain ⟨fd_u_law_inverse, F_u_law_inverse⟩ := T.d_u_law_inverse
  have G_u_law_inverse := ok_u_law_inverse (P := P) (w := w) (base := base) T F_u_law_inverse
  have b_u_law_inverse : Binds K fd_u_law_inverse ["a", "prime"] [] := F_u_law_inverse.bindsN fun _ _ _ _ _ _ us hl => match us, hl with | [_, _], _ => rfl
  refine fn_ok F sc_u_law_add (fun y => rfl) (fun cdv A outer s H E hr => ?_)
  refine ⟨_, (pss_cons (ps_if (pt_cmpR op_isN (pv 2) pe_non (nomark _)) (pss_one (ps_ret (pv 3))) pss_nil) (pss_cons (ps_if (pt_cmpR op_isN (pv 3) pe_non (nomark _)) (pss_one (ps_ret (pv 2))) pss_nil) (pss_cons (ps_asg (pv 2) (pg_tup rfl (pgs_cons (pg_name (i := 4) sc_u_law_add.nd rfl (Or.inl rfl)) (pgs_cons (pg_name (i := 5) sc_u_law_add.nd rfl (Or.inl rfl)) pgs_nil)))) (pss_cons (ps_asg (pv 3) (pg_tup rfl (pgs_cons (pg_name (i := 6) sc_u_law_add.nd rfl (Or.inl rfl)) (pgs_cons (pg_name (i := 7) sc_u_law_add.nd rfl (Or.inl rfl)) pgs_nil)))) (pss_cons (ps_if (PW.pt (pw_and (pt_cmpR op_eq (pv 4) (pv 6) (nomark _)) (pw_and1 (pt_cmpR op_eq (pe_op op_mod (pe_op op_add (pv 5) (pv 7)) (pv 0)) pe_int (nomark _))))) (pss_one (ps_ret pe_non)) pss_nil) (pss_cons (ps_if (pt_cmpR op_eq (pv 4) (pv 6) (nomark _)) (pss_one (ps_set (i := 8) sc_u_law_add.nd rfl (Or.inl rfl) (pe_op op_mod (pe_op op_mulX (pe_op op_add (pe_op op_mulX (pe_op op_mul pe_int (pv 4)) (pv 4)) (pv 1)) (pe_callS G_u_law_inverse (hr.mono (by decide)) rfl T.g_u_law_inverse F_u_law_inverse.kp b_u_law_inverse (fun σ => passAt (takes_of rfl rfl rfl rfl) σ) (pa_cons (pe_op op_mul pe_int (pv 5)) (pa_cons (pv 0) pa_nil)))) (pv 0)))) (pss_one (ps_set (i := 8) sc_u_law_add.nd rfl (Or.inl rfl) (pe_op op_mod (pe_op op_mulX (pe_op op_sub (pv 7) (pv 5)) (pe_callS G_u_law_inverse (hr.mono (by decide)) rfl T.g_u_law_inverse F_u_law_inverse.kp b_u_law_inverse (fun σ => passAt (takes_of rfl rfl rfl rfl) σ) (pa_cons (pe_op op_sub (pv 6) (pv 4)) (pa_cons (pv 0) pa_nil)))) (pv 0))))) (pss_cons (ps_set (i := 9) sc_u_law_add.nd rfl (Or.inl rfl) (pe_op op_mod (pe_op op_sub (pe_op op_sub (pe_op op_mulX (pv 8) (pv 8)) (pv 4)) (pv 6)) (pv 0))) (pss_one (ps_ret (pe_tup (pa_cons (pv 9) (pa_cons (pe_op op_mod (pe_op op_sub (pe_op op_mulX (pv 8) (pe_op op_sub (pv 4) (pv 9))) (pv 5)) (pv 0)) pa_nil)))))))))))), ?_⟩
  rintro ⟨prime_, a_, first_, second_, ⟨⟩⟩ F0 H0 Q KP L
  show Blk K F0 H0 KP _ [some (.im (toD prime_)), some (.im (toD a_)), some (.im (toD first_)), some (.im (toD second_)), none, none, none, none, none, none] (m_u_law_add prime_ a_ first_ second_)
  unfold m_u_law_add
  have ht_ := ((et_test (ev_op opx_isN mild_ok (ev_var (i := 2) (x := first_) rfl) ev_non)) : EvT K (W0 E) [some (.im (toD prime_)), some (.im (toD a_)), some (.im (toD first_)), some (.im (toD second_)), none, none, none, none, none, none] _ _)
  refine blk_seq (blk_if2 L trivial ht_ ?_ ?_)
  · have hr_ := ((ev_var (i := 3) (x := second_) rfl) : EvX K (W0 E) [some (.im (toD prime_)), some (.im (toD a_)), some (.im (toD first_)), some (.im (toD second_)), none, none, none, none, none, none] _ _)
    exact blk_ret L trivial hr_
  · refine blk_nil ?_
    try refine Blk.nx ?_
    have ht_ := ((et_test (ev_op opx_isN mild_ok (ev_var (i := 3) (x := second_) rfl) ev_non)) : EvT K (W0 E) [some (.im (toD prime_)), some (.im (toD a_)), some (.im (toD first_)), some (.im (toD second_)), none, none, none, none, none, none] _ _)
    refine blk_seq (blk_if2 L trivial ht_ ?_ ?_)
    · have hr_ := ((ev_var (i := 2) (x := first_) rfl) : EvX K (W0 E) [some (.im (toD prime_)), some (.im (toD a_)), some (.im (toD first_)), some (.im (toD second_)), none, none, none, none, none, none] _ _)
      exact blk_ret L trivial hr_
    · refine blk_nil ?_
      try refine Blk.nx ?_
      have hs_ := ((ev_castG (f := optGet) optGet_ok optGet_x (ev_var (i := 2) (x := first_) rfl)) : EvX K (W0 E) [some (.im (toD prime_)), some (.im (toD a_)), some (.im (toD first_)), some (.im (toD second_)), none, none, none, none, none, none] _ _)
      refine blk_seq (blk_asg L trivial hs_ (fun _ => (gx_tup (gxs_cons gx_name (gxs_cons gx_name gxs_nil)) rfl)) fun u607 => ?_)
      show Blk _ _ _ _ _ [some (.im (toD prime_)), some (.im (toD a_)), some (.im (toD first_)), some (.im (toD second_)), some (.im (toD u607.a)), some (.im (toD u607.b)), none, none, none, none] ((fun (x1_ : Int) (y1_ : Int) => _) u607.a u607.b)
      generalize u607.a = x1_
      generalize u607.b = y1_
      show Blk _ _ _ _ _ [some (.im (toD prime_)), some (.im (toD a_)), some (.im (toD first_)), some (.im (toD second_)), some (.im (toD x1_)), some (.im (toD y1_)), none, none, none, none] _
      try refine Blk.nx ?_
      have hs_ := ((ev_castG (f := optGet) optGet_ok optGet_x (ev_var (i := 3) (x := second_) rfl)) : EvX K (W0 E) [some (.im (toD prime_)), some (.im (toD a_)), some (.im (toD first_)), some (.im (toD second_)), some (.im (toD x1_)), some (.im (toD y1_)), none, none, none, none] _ _)
      refine blk_seq (blk_asg L trivial hs_ (fun _ => (gx_tup (gxs_cons gx_name (gxs_cons gx_name gxs_nil)) rfl)) fun u608 => ?_)
      show Blk _ _ _ _ _ [some (.im (toD prime_)), some (.im (toD a_)), some (.im (toD first_)), some (.im (toD second_)), some (.im (toD x1_)), some (.im (toD y1_)), some (.im (toD u608.a)), some (.im (toD u608.b)), none, none] ((fun (x2_ : Int) (y2_ : Int) => _) u608.a u608.b)
      generalize u608.a = x2_
      generalize u608.b = y2_
      show Blk _ _ _ _ _ [some (.im (toD prime_)), some (.im (toD a_)), some (.im (toD first_)), some (.im (toD second_)), some (.im (toD x1_)), some (.im (toD y1_)), some (.im (toD x2_)), some (.im (toD y2_)), none, none] _
      try refine Blk.nx ?_
      have ht_ := ((et_and (et_test (ev_op opx_eqI mild_ok (ev_var (i := 4) (x := x1_) rfl) (ev_var (i := 6) (x := x2_) rfl))) (et_test (ev_op opx_eqI mild_ok (ev_op (opx_I (C := (fun _ j => 0 < j)) (g := fun i j => i % j)) mild_need (ev_op (opx_I0 (g := fun i j => i + j)) mild_ok (ev_var (i := 5) (x := y1_) rfl) (ev_var (i := 7) (x := y2_) rfl)) (ev_var (i := 0) (x := prime_) rfl)) (ev_int (i := 0))))) : EvT K (W0 E) [some (.im (toD prime_)), some (.im (toD a_)), some (.im (toD first_)), some (.im (toD second_)), some (.im (toD x1_)), some (.im (toD y1_)), some (.im (toD x2_)), some (.im (toD y2_)), none, none] _ _)
      refine blk_seq (blk_if2 L trivial ht_ ?_ ?_)
      · have hr_ := ((ev_noneO (α := (T2 Int Int))) : EvX K (W0 E) [some (.im (toD prime_)), some (.im (toD a_)), some (.im (toD first_)), some (.im (toD second_)), some (.im (toD x1_)), some (.im (toD y1_)), some (.im (toD x2_)), some (.im (toD y2_)), none, none] _ _)
        exact blk_ret L trivial hr_
      · refine blk_nil ?_
        try refine Blk.nx ?_
        have ht_ := ((et_test (ev_op opx_eqI mild_ok (ev_var (i := 4) (x := x1_) rfl) (ev_var (i := 6) (x := x2_) rfl))) : EvT K (W0 E) [some (.im (toD prime_)), some (.im (toD a_)), some (.im (toD first_)), some (.im (toD second_)), some (.im (toD x1_)), some (.im (toD y1_)), some (.im (toD x2_)), some (.im (toD y2_)), none, none] _ _)
        refine blk_seq (blk_ifj (S := Int) (fun slope_ => [some (.im (toD prime_)), some (.im (toD a_)), some (.im (toD first_)), some (.im (toD second_)), some (.im (toD x1_)), some (.im (toD y1_)), some (.im (toD x2_)), some (.im (toD y2_)), some (.im (toD slope_)), none]) (m_u_law_add_k4 prime_ x1_ y1_ x2_) L trivial ht_ ?_ ?_ ?_)
        · intro slope_
          show Blk _ _ _ _ _ [some (.im (toD prime_)), some (.im (toD a_)), some (.im (toD first_)), some (.im (toD second_)), some (.im (toD x1_)), some (.im (toD y1_)), some (.im (toD x2_)), some (.im (toD y2_)), some (.im (toD slope_)), none] ((m_u_law_add_k4 prime_ x1_ y1_ x2_) slope_)
          unfold m_u_law_add_k4
          try refine Blk.nx ?_
          have hs_ := ((ev_op (opx_I (C := (fun _ j => 0 < j)) (g := fun i j => i % j)) mild_need (ev_op (opx_I0 (g := fun i j => i - j)) mild_ok (ev_op (opx_I0 (g := fun i j => i - j)) mild_ok (ev_op (opx_I (C := CMulX) (g := fun i j => i * j)) mild_need (ev_var (i := 8) (x := slope_) rfl) (ev_var (i := 8) (x := slope_) rfl)) (ev_var (i := 4) (x := x1_) rfl)) (ev_var (i := 6) (x := x2_) rfl)) (ev_var (i := 0) (x := prime_) rfl)) : EvX K (W0 E) [some (.im (toD prime_)), some (.im (toD a_)), some (.im (toD first_)), some (.im (toD second_)), some (.im (toD x1_)), some (.im (toD y1_)), some (.im (toD x2_)), some (.im (toD y2_)), some (.im (toD slope_)), none] _ _)
          refine blk_seq (blk_set (i := 9) L trivial hs_ fun x3_ => ?_)
          show Blk _ _ _ _ _ [some (.im (toD prime_)), some (.im (toD a_)), some (.im (toD first_)), some (.im (toD second_)), some (.im (toD x1_)), some (.im (toD y1_)), some (.im (toD x2_)), some (.im (toD y2_)), some (.im (toD slope_)), some (.im (toD x3_))] _
          try refine Blk.nx ?_
          have hr_ := ((ev_as (ev_tup (f := (fun y => T2.mk y.1 y.2.1)) (ea_cons (ev_var (i := 9) (x := x3_) rfl) (ea_cons (ev_op (opx_I (C := (fun _ j => 0 < j)) (g := fun i j => i % j)) mild_need (ev_op (opx_I0 (g := fun i j => i - j)) mild_ok (ev_op (opx_I (C := CMulX) (g := fun i j => i * j)) mild_need (ev_var (i := 8) (x := slope_) rfl) (ev_op (opx_I0 (g := fun i j => i - j)) mild_ok (ev_var (i := 4) (x := x1_) rfl) (ev_var (i := 9) (x := x3_) rfl))) (ev_var (i := 5) (x := y1_) rfl)) (ev_var (i := 0) (x := prime_) rfl)) ea_nil)) (fun _ => rfl) (fun _ => by show 2 ≤ 100000; decide)) some (fun _ => rfl) rfl) : EvX K (W0 E) [some (.im (toD prime_)), some (.im (toD a_)), some (.im (toD first_)), some (.im (toD second_)), some (.im (toD x1_)), some (.im (toD y1_)), some (.im (toD x2_)), some (.im (toD y2_)), some (.im (toD slope_)), some (.im (toD x3_))] _ _)
          exact blk_ret L trivial hr_
        · intro hk4
          have hs_ := ((ev_op (opx_I (C := (fun _ j => 0 < j)) (g := fun i j => i % j)) mild_need (ev_op (opx_I (C := CMulX) (g := fun i j => i * j)) mild_need (ev_op (opx_I0 (g := fun i j => i + j)) mild_ok (ev_op (opx_I (C := CMulX) (g := fun i j => i * j)) mild_need (ev_opI (C := CMul) (g := fun i j => i * j) (fun x y h _ => by cases h; exact .inl (by decide)) (ev_int (i := 3)) (ev_var (i := 4) (x := x1_) rfl)) (ev_var (i := 4) (x := x1_) rfl)) (ev_var (i := 1) (x := a_) rfl)) (ev_call (f := (fun (p : Int × Int × Unit) => m_u_law_inverse p.1 p.2.1)) (ea_cons (ev_opI (C := CMul) (g := fun i j => i * j) (fun x y h _ => by cases h; exact .inl (by decide)) (ev_int (i := 2)) (ev_var (i := 5) (x := y1_) rfl)) (ea_cons (ev_var (i := 0) (x := prime_) rfl) ea_nil)))) (ev_var (i := 0) (x := prime_) rfl)) : EvX K (W0 E) [some (.im (toD prime_)), some (.im (toD a_)), some (.im (toD first_)), some (.im (toD second_)), some (.im (toD x1_)), some (.im (toD y1_)), some (.im (toD x2_)), some (.im (toD y2_)), none, none] _ _)
          refine blk_set (i := 8) L trivial hs_ fun slope_ => ?_
          show Blk _ _ _ _ _ [some (.im (toD prime_)), some (.im (toD a_)), some (.im (toD first_)), some (.im (toD second_)), some (.im (toD x1_)), some (.im (toD y1_)), some (.im (toD x2_)), some (.im (toD y2_)), some (.im (toD slope_)), none] _
          try refine Blk.nx ?_
          exact (hk4 slope_).weak (.same (.same (.same (.same (.same (.same (.same (.same (.same (.same .nil))))))))))
        · intro hk4
          have hs_ := ((ev_op (opx_I (C := (fun _ j => 0 < j)) (g := fun i j => i % j)) mild_need (ev_op (opx_I (C := CMulX) (g := fun i j => i * j)) mild_need (ev_op (opx_I0 (g := fun i j => i - j)) mild_ok (ev_var (i := 7) (x := y2_) rfl) (ev_var (i := 5) (x := y1_) rfl)) (ev_call (f := (fun (p : Int × Int × Unit) => m_u_law_inverse p.1 p.2.1)) (ea_cons (ev_op (opx_I0 (g := fun i j => i - j)) mild_ok (ev_var (i := 6) (x := x2_) rfl) (ev_var (i := 4) (x := x1_) rfl)) (ea_cons (ev_var (i := 0) (x := prime_) rfl) ea_nil)))) (ev_var (i := 0) (x := prime_) rfl)) : EvX K (W0 E) [some (.im (toD prime_)), some (.im (toD a_)), some (.im (toD first_)), some (.im (toD second_)), some (.im (toD x1_)), some (.im (toD y1_)), some (.im (toD x2_)), some (.im (toD y2_)), none, none] _ _)
          refine blk_set (i := 8) L trivial hs_ fun slope_ => ?_
          show Blk _ _ _ _ _ [some (.im (toD prime_)), some (.im (toD a_)), some (.im (toD first_)), some (.im (toD second_)), some (.im (toD x1_)), some (.im (toD y1_)), some (.im (toD x2_)), some (.im (toD y2_)), some (.im (toD slope_)), none] _
          try refine Blk.nx ?_
          exact (hk4 slope_).weak (.same (.same (.same (.same (.same (.same (.same (.same (.same (.same .nil))))))))))
noncomputable def m_u_law_on (prime_ : Int) (a_ : Int) (b_ : Int) (point_ : D) : Res Bool :=
  (((Res.ok point_)).bind fun (t688 : D) => ((Res.ok ())).bind fun (t689 : Unit) => Res.ok (toD t688).isNon).bind fun b => cond b   ((Res.ok true))   ((((((Res.ok point_)).bind fun (t690 : D) => Res.need ((toD t690).plain = true) (Res.ok (isI "tuple" (toD t690)))).bind fun (t691 : Bool) => Res.ok (!t691)).bind fun b695 => cond b695 (Res.ok true) ((((Res.ok point_)).bind fun (t692 : D) => D.lenR t692).bind fun (t693 : Int) => ((Res.ok (2 : Int))).bind fun (t694 : Int) => Res.ok (!decide (t693 = t694)))).bind fun b => cond b   ((Res.ok false))   ((((Res.ok point_)).bind D.asT2).bind fun (u696 : (T2 D D)) =>   (fun (x_ : D) (y_ : D) => ((((((Res.ok x_)).bind fun a698 => (Res.ok ()).bind fun a699 => Res.ok (a698, a699)).bind fun p697 => m_u_law_is_integer p697.1).bind fun (t700 : Bool) => Res.ok (!t700)).bind fun b717 => cond b717 (Res.ok true) ((((((Res.ok y_)).bind fun a702 => (Res.ok ()).bind fun a703 => Res.ok (a702, a703)).bind fun p701 => m_u_law_is_integer p701.1).bind fun (t704 : Bool) => Res.ok (!t704)).bind fun b716 => cond b716 (Res.ok true) (((((Res.ok (0 : Int))).bind fun (t705 : Int) => (((Res.ok x_)).bind D.asInt).bind fun (t706 : Int) => (Res.ok (decide (t705 ≤ t706))).bind fun b708 => cond b708 (((Res.ok prime_)).bind fun (t707 : Int) => Res.ok (decide (t706 < t707))) (Res.ok false)).bind fun (t709 : Bool) => Res.ok (!t709)).bind fun b715 => cond b715 (Res.ok true) ((((Res.ok (0 : Int))).bind fun (t710 : Int) => (((Res.ok y_)).bind D.asInt).bind fun (t711 : Int) => (Res.ok (decide (t710 ≤ t711))).bind fun b713 => cond b713 (((Res.ok prime_)).bind fun (t712 : Int) => Res.ok (decide (t711 < t712))) (Res.ok false)).bind fun (t714 : Bool) => Res.ok (!t714))))).bind fun b => cond b   ((Res.ok false))   (((((((((Res.ok y_)).bind D.asInt).bind fun (t718 : Int) => (((Res.ok y_)).bind D.asInt).bind fun (t719 : Int) => Res.need (CMulX t718 t719) (Res.ok (t718 * t719))).bind fun (t724 : Int) => (((((Res.ok x_)).bind D.asInt).bind fun (t720 : Int) => (((Res.ok x_)).bind D.asInt).bind fun (t721 : Int) => Res.need (CMulX t720 t721) (Res.ok (t720 * t721))).bind fun (t722 : Int) => (((Res.ok x_)).bind D.asInt).bind fun (t723 : Int) => Res.need (CMulX t722 t723) (Res.ok (t722 * t723))).bind fun (t725 : Int) => Res.ok (t724 - t725)).bind fun (t728 : Int) => (((Res.ok a_)).bind fun (t726 : Int) => (((Res.ok x_)).bind D.asInt).bind fun (t727 : Int) => Res.need (CMulX t726 t727) (Res.ok (t726 * t727))).bind fun (t729 : Int) => Res.ok (t728 - t729)).bind fun (t730 : Int) => ((Res.ok b_)).bind fun (t731 : Int) => Res.ok (t730 - t731)).bind fun (t732 : Int) => ((Res.ok prime_)).bind fun (t733 : Int) => Res.need (0 < t733) (Res.ok (t732 % t733))).bind fun (t734 : Int) => ((Res.ok (0 : Int))).bind fun (t735 : Int) => Res.ok (decide (t734 = t735)))) u696.a u696.b))
theorem ok_u_law_on {P : Program} {w : World} {K : PySem.W.Frag} {mg : Str → Option Value} {base : Heap} (T : Facts K mg) {fd : FuncData} (F : FnP K "_law_on" "_law_on" s_u_law_on (He.ga K "_law_on") fd) :
    FnOk P w K mg base (L2.CX P w) 2 (He.ga K "_law_on") fd ["prime", "a", "b", "point"] (spM K (fun (p : Int × Int × Int × D × Unit) => m_u_law_on p.1 p.2.1 p.2.2.1 p.2.2.2.1)) := by
  obtain ⟨fd_u_law_is_integer, F_u_law_is_integer⟩ := T.d_u_law_is_integer
  have G_u_law_is_integer := ok_u_law_is_integer (P := P) (w := w) (base := base) T F_u_law_is_integer
  have b_u_law_is_integer : Binds K fd_u_law_is_integer ["actual"] [] := F_u_law_is_integer.bindsN fun _ _ _ _ _ _ us hl => match us, hl with | [_], _ => rfl
  refine fn_ok F sc_u_law_on (fun y => rfl) (fun cdv A outer s H E hr => ?_)
  refine ⟨_, (pss_cons (ps_if (pt_cmpR op_isN (pv 3) pe_non (nomark _)) (pss_one (ps_ret pe_bl)) pss_nil) (pss_cons (ps_if (PW.pt (pw_or (pt_not (pt_val (pe_callB call_isi (by rfl) T.n_isinstance (by decide +kernel) (pa_cons (pv 3) (pa_cons (pe_bltn (v := .ty "tuple") (by rfl) T.n_tuple (by decide +kernel) rfl) pa_nil))))) (pw_or1 (pt_cmpR op_ne (pe_callB (cr_len rfl) (by rfl) T.n_len (by decide +kernel) (pa_cons (pv 3) pa_nil)) pe_int (nomark _))))) (pss_one (ps_ret pe_bl)) pss_nil) (pss_cons (ps_asg (pv 3) (pg_tup rfl (pgs_cons (pg_name (i := 4) sc_u_law_on.nd rfl (Or.inl rfl)) (pgs_cons (pg_name (i := 5) sc_u_law_on.nd rfl (Or.inl rfl)) pgs_nil)))) (pss_cons (ps_if (PW.pt (pw_or (pt_not (pt_val (pe_callS G_u_law_is_integer (hr.mono (by decide)) rfl T.g_u_law_is_integer F_u_law_is_integer.kp b_u_law_is_integer (fun σ => passAt (takes_of rfl rfl rfl rfl) σ) (pa_cons (pv 4) pa_nil)))) (pw_or (pt_not (pt_val (pe_callS G_u_law_is_integer (hr.mono (by decide)) rfl T.g_u_law_is_integer F_u_law_is_integer.kp b_u_law_is_integer (fun σ => passAt (takes_of rfl rfl rfl rfl) σ) (pa_cons (pv 5) pa_nil)))) (pw_or (pt_not (pt_chain op_le op_lt pe_int (pv 4) (pv 0))) (pw_or1 (pt_not (pt_chain op_le op_lt pe_int (pv 5) (pv 0)))))))) (pss_one (ps_ret pe_bl)) pss_nil) (pss_one (ps_ret (pe_cmpR op_eq (pe_op op_mod (pe_op op_sub (pe_op op_sub (pe_op op_sub (pe_op op_mulX (pv 5) (pv 5)) (pe_op op_mulX (pe_op op_mulX (pv 4) (pv 4)) (pv 4))) (pe_op op_mulX (pv 1) (pv 4))) (pv 2)) (pv 0)) pe_int (nomark _)))))))), ?_⟩
  rintro ⟨prime_, a_, b_, point_, ⟨⟩⟩ F0 H0 Q KP L
  show Blk K F0 H0 KP _ [some (.im (toD prime_)), some (.im (toD a_)), some (.im (toD b_)), some (.im (toD point_)), none, none] (m_u_law_on prime_ a_ b_ point_)
  unfold m_u_law_on
  have ht_ := ((et_test (ev_op opx_isN mild_ok (ev_var (i := 3) (x := point_) rfl) ev_non)) : EvT K (W0 E) [some (.im (toD prime_)), some (.im (toD a_)), some (.im (toD b_)), some (.im (toD point_)), none, none] _ _)
  refine blk_seq (blk_if2 L trivial ht_ ?_ ?_)
  · have hr_ := ((ev_bl (b := true)) : EvX K (W0 E) [some (.im (toD prime_)), some (.im (toD a_)), some (.im (toD b_)), some (.im (toD point_)), none, none] _ _)
    exact blk_ret L trivial hr_
  · refine blk_nil ?_
    try refine Blk.nx ?_
    have ht_ := ((et_or (et_not (et_B (ev_isi isi_tuple (ev_var (i := 3) (x := point_) rfl)))) (et_test (ev_op opx_neI mild_ok (ev_lenD (ev_var (i := 3) (x := point_) rfl)) (ev_int (i := 2))))) : EvT K (W0 E) [some (.im (toD prime_)), some (.im (toD a_)), some (.im (toD b_)), some (.im (toD point_)), none, none] _ _)
    refine blk_seq (blk_if2 L trivial ht_ ?_ ?_)
    · have hr_ := ((ev_bl (b := false)) : EvX K (W0 E) [some (.im (toD prime_)), some (.im (toD a_)), some (.im (toD b_)), some (.im (toD point_)), none, none] _ _)
      exact blk_ret L trivial hr_
    · refine blk_nil ?_
      try refine Blk.nx ?_
      have hs_ := ((ev_cast (f := D.asT2) asT2_ok asT2_x (ev_var (i := 3) (x := point_) rfl)) : EvX K (W0 E) [some (.im (toD prime_)), some (.im (toD a_)), some (.im (toD b_)), some (.im (toD point_)), none, none] _ _)
      refine blk_seq (blk_asg L trivial hs_ (fun _ => (gx_tup (gxs_cons gx_name (gxs_cons gx_name gxs_nil)) rfl)) fun u696 => ?_)
      show Blk _ _ _ _ _ [some (.im (toD prime_)), some (.im (toD a_)), some (.im (toD b_)), some (.im (toD point_)), some (.im (toD u696.a)), some (.im (toD u696.b))] ((fun (x_ : D) (y_ : D) => _) u696.a u696.b)
      generalize u696.a = x_
      generalize u696.b = y_
      show Blk _ _ _ _ _ [some (.im (toD prime_)), some (.im (toD a_)), some (.im (toD b_)), some (.im (toD point_)), some (.im (toD x_)), some (.im (toD y_))] _
      try refine Blk.nx ?_
      have ht_ := ((et_or (et_not (et_B (ev_call (f := (fun (p : D × Unit) => m_u_law_is_integer p.1)) (ea_cons (ev_var (i := 4) (x := x_) rfl) ea_nil)))) (et_or (et_not (et_B (ev_call (f := (fun (p : D × Unit) => m_u_law_is_integer p.1)) (ea_cons (ev_var (i := 5) (x := y_) rfl) ea_nil)))) (et_or (et_not (et_test (ev_chain (opx_B0 (g := fun i j => decide (i ≤ j))) mild_ok (opx_B0 (g := fun i j => decide (i < j))) mild_ok (ev_int (i := 0)) (ev_cast (f := D.asInt) asInt_ok asInt_x (ev_var (i := 4) (x := x_) rfl)) (ev_var (i := 0) (x := prime_) rfl)))) (et_not (et_test (ev_chain (opx_B0 (g := fun i j => decide (i ≤ j))) mild_ok (opx_B0 (g := fun i j => decide (i < j))) mild_ok (ev_int (i := 0)) (ev_cast (f := D.asInt) asInt_ok asInt_x (ev_var (i := 5) (x := y_) rfl)) (ev_var (i := 0) (x := prime_) rfl))))))) : EvT K (W0 E) [some (.im (toD prime_)), some (.im (toD a_)), some (.im (toD b_)), some (.im (toD point_)), some (.im (toD x_)), some (.im (toD y_))] _ _)
      refine blk_seq (blk_if2 L trivial ht_ ?_ ?_)
      · have hr_ := ((ev_bl (b := false)) : EvX K (W0 E) [some (.im (toD prime_)), some (.im (toD a_)), some (.im (toD b_)), some (.im (toD point_)), some (.im (toD x_)), some (.im (toD y_))] _ _)
        exact blk_ret L trivial hr_
      · refine blk_nil ?_
        try refine Blk.nx ?_
        have hr_ := ((ev_op opx_eqI mild_ok (ev_op (opx_I (C := (fun _ j => 0 < j)) (g := fun i j => i % j)) mild_need (ev_op (opx_I0 (g := fun i j => i - j)) mild_ok (ev_op (opx_I0 (g := fun i j => i - j)) mild_ok (ev_op (opx_I0 (g := fun i j => i - j)) mild_ok (ev_op (opx_I (C := CMulX) (g := fun i j => i * j)) mild_need (ev_cast (f := D.asInt) asInt_ok asInt_x (ev_var (i := 5) (x := y_) rfl)) (ev_cast (f := D.asInt) asInt_ok asInt_x (ev_var (i := 5) (x := y_) rfl))) (ev_op (opx_I (C := CMulX) (g := fun i j => i * j)) mild_need (ev_op (opx_I (C := CMulX) (g := fun i j => i * j)) mild_need (ev_cast (f := D.asInt) asInt_ok asInt_x (ev_var (i := 4) (x := x_) rfl)) (ev_cast (f := D.asInt) asInt_ok asInt_x (ev_var (i := 4) (x := x_) rfl))) (ev_cast (f := D.asInt) asInt_ok asInt_x (ev_var (i := 4) (x := x_) rfl)))) (ev_op (opx_I (C := CMulX) (g := fun i j => i * j)) mild_need (ev_var (i := 1) (x := a_) rfl) (ev_cast (f := D.asInt) asInt_ok asInt_x (ev_var (i := 4) (x := x_) rfl)))) (ev_var (i := 2) (x := b_) rfl)) (ev_var (i := 0) (x := prime_) rfl)) (ev_int (i := 0))) : EvX K (W0 E) [some (.im (toD prime_)), some (.im (toD a_)), some (.im (toD b_)), some (.im (toD point_)), some (.im (toD x_)), some (.im (toD y_))] _ _)
        exact blk_ret L trivial hr_
noncomputable def m_u_law_singular (prime_ : Int) (a_ : Int) (b_ : Int) : Res Bool :=
  (((((((Res.ok (4 : Int))).bind fun (t736 : Int) => ((Res.ok a_)).bind fun (t737 : Int) => Res.ok (t736 * t737)).bind fun (t738 : Int) => ((Res.ok a_)).bind fun (t739 : Int) => Res.need (CMulX t738 t739) (Res.ok (t738 * t739))).bind fun (t740 : Int) => ((Res.ok a_)).bind fun (t741 : Int) => Res.need (CMulX t740 t741) (Res.ok (t740 * t741))).bind fun (t746 : Int) => ((((Res.ok (27 : Int))).bind fun (t742 : Int) => ((Res.ok b_)).bind fun (t743 : Int) => Res.ok (t742 * t743)).bind fun (t744 : Int) => ((Res.ok b_)).bind fun (t745 : Int) => Res.need (CMulX t744 t745) (Res.ok (t744 * t745))).bind fun (t747 : Int) => Res.ok (t746 + t747)).bind fun (t748 : Int) => ((Res.ok prime_)).bind fun (t749 : Int) => Res.need (0 < t749) (Res.ok (t748 % t749))).bind fun (t750 : Int) => ((Res.ok (0 : Int))).bind fun (t751 : Int) => Res.ok (decide (t750 = t751))
theorem ok_u_law_singular {P : Program} {w : World} {K : PySem.W.Frag} {mg : Str → Option Value} {base : Heap} (T : Facts K mg) {fd : FuncData} (F : FnP K "_law_singular" "_law_singular" s_u_law_singular (He.ga K "_law_singular") fd) :
    FnOk P w K mg base (L2.CX P w) 1 (He.ga K "_law_singular") fd ["prime", "a", "b"] (spM K (fun (p : Int × Int × Int × Unit) => m_u_law_singular p.1 p.2.1 p.2.2.1)) := by
  refine fn_ok F sc_u_law_singular (fun y => rfl) (fun cdv A outer s H E hr => ?_)
  refine ⟨_, (pss_one (ps_ret (pe_cmpR op_eq (pe_op op_mod (pe_op op_add (pe_op op_mulX (pe_op op_mulX (pe_op op_mul pe_int (pv 1)) (pv 1)) (pv 1)) (pe_op op_mulX (pe_op op_mul pe_int (pv 2)) (pv 2))) (pv 0)) pe_int (nomark _)))), ?_⟩
  rintro ⟨prime_, a_, b_, ⟨⟩⟩ F0 H0 Q KP L
  show Blk K F0 H0 KP _ [some (.im (toD prime_)), some (.im (toD a_)), some (.im (toD b_))] (m_u_law_singular prime_ a_ b_)
  unfold m_u_law_singular
  have hr_ := ((ev_op opx_eqI mild_ok (ev_op (opx_I (C := (fun _ j => 0 < j)) (g := fun i j => i % j)) mild_need (ev_op (opx_I0 (g := fun i j => i + j)) mild_ok (ev_op (opx_I (C := CMulX) (g := fun i j => i * j)) mild_need (ev_op (opx_I (C := CMulX) (g := fun i j => i * j)) mild_need (ev_opI (C := CMul) (g := fun i j => i * j) (fun x y h _ => by cases h; exact .inl (by decide)) (ev_int (i := 4)) (ev_var (i := 1) (x := a_) rfl)) (ev_var (i := 1) (x := a_) rfl)) (ev_var (i := 1) (x := a_) rfl)) (ev_op (opx_I (C := CMulX) (g := fun i j => i * j)) mild_need (ev_opI (C := CMul) (g := fun i j => i * j) (fun x y h _ => by cases h; exact .inl (by decide)) (ev_int (i := 27)) (ev_var (i := 2) (x := b_) rfl)) (ev_var (i := 2) (x := b_) rfl))) (ev_var (i := 0) (x := prime_) rfl)) (ev_int (i := 0))) : EvX K (W0 E) [some (.im (toD prime_)), some (.im (toD a_)), some (.im (toD b_))] _ _)
  exact blk_ret L trivial hr_
noncomputable def m_u_law_factor (cell_ : Int) : Res Int :=
  ((((Res.ok cell_)).bind fun a753 => (Res.ok ()).bind fun a754 => Res.ok (a753, a754)).bind fun p752 => Res.ok (Int.natAbs p752.1 : Int)).bind fun (rest_ : Int) =>   (((Res.ok rest_)).bind fun (t757 : Int) => (((Res.ok (10 : Int))).bind fun (t755 : Int) => ((Res.ok (18 : Int))).bind fun (t756 : Int) => Res.ok (t755 ^ t756.toNat)).bind fun (t758 : Int) => Res.ok (decide (t758 ≤ t757))).bind fun b => cond b   ((((Res.ok cell_)).bind fun (t765 : Int) => ((((Res.ok (2 : Int))).bind fun (t759 : Int) => ((Res.ok (60 : Int))).bind fun (t760 : Int) => Res.ok (t759 ^ t760.toNat)).bind fun (t763 : Int) => (((Res.ok (2 : Int))).bind fun (t761 : Int) => ((Res.ok (11 : Int))).bind fun (t762 : Int) => Res.ok (t761 ^ t762.toNat)).bind fun (t764 : Int) => Res.need (CMulX t763 t764) (Res.ok (t763 * t764))).bind fun (t766 : Int) => Res.need (0 < t766) (Res.ok (t765 % t766))).bind fun (t773 : Int) => ((((Res.ok (2 : Int))).bind fun (t767 : Int) => ((Res.ok (60 : Int))).bind fun (t768 : Int) => Res.ok (t767 ^ t768.toNat)).bind fun (t771 : Int) => (((Res.ok (2 : Int))).bind fun (t769 : Int) => ((Res.ok (10 : Int))).bind fun (t770 : Int) => Res.ok (t769 ^ t770.toNat)).bind fun (t772 : Int) => Res.need (CMulX t771 t772) (Res.ok (t771 * t772))).bind fun (t774 : Int) => Res.ok (t773 - t774))   (((((((Res.ok rest_)).bind fun (t775 : Int) => ((Res.ok (4 : Int))).bind fun (t776 : Int) => Res.ok (t775 / t776)).bind fun (t777 : Int) => ((Res.ok (12 : Int))).bind fun (t778 : Int) => Res.ok (t777 % t778)).bind fun a797 => (((((Res.ok rest_)).bind fun (t779 : Int) => ((Res.ok (4 : Int))).bind fun (t780 : Int) => Res.ok (t779 / t780)).bind fun (t781 : Int) => ((Res.ok (5000 : Int))).bind fun (t782 : Int) => Res.ok (t781 % t782)).bind fun a799 => ((((((Res.ok rest_)).bind fun (t783 : Int) => ((Res.ok (4 : Int))).bind fun (t784 : Int) => Res.ok (t783 / t784)).bind fun (t785 : Int) => ((Res.ok (300 : Int))).bind fun (t786 : Int) => Res.ok (t785 % t786)).bind fun (t787 : Int) => Res.ok (-t787)).bind fun a801 => ((((((Res.ok rest_)).bind fun (t788 : Int) => ((Res.ok (48271 : Int))).bind fun (t789 : Int) => Res.ok (t788 * t789)).bind fun (t790 : Int) => ((Res.ok (69621 : Int))).bind fun (t791 : Int) => Res.ok (t790 * t791)).bind fun (t794 : Int) => (((Res.ok (2 : Int))).bind fun (t792 : Int) => ((Res.ok (61 : Int))).bind fun (t793 : Int) => Res.ok (t792 ^ t793.toNat)).bind fun (t795 : Int) => Res.need (0 < t795) (Res.ok (t794 % t795))).bind fun a803 => (Res.ok ()).bind fun a804 => Res.ok (a803, a804)).bind fun a802 => Res.ok (a801, a802)).bind fun a800 => Res.ok (a799, a800)).bind fun a798 => Res.ok (a797, a798)).bind fun p796 => Res.ok ([p796.1, p796.2.1, p796.2.2.1, p796.2.2.2.1] : List Int)).bind fun (t807 : (List Int)) => (((Res.ok rest_)).bind fun (t805 : Int) => ((Res.ok (4 : Int))).bind fun (t806 : Int) => Res.ok (t805 % t806)).bind fun (t808 : Int) => idx t807 t808)
theorem ok_u_law_factor {P : Program} {w : World} {K : PySem.W.Frag} {mg : Str → Option Value} {base : Heap} (T : Facts K mg) {fd : FuncData} (F : FnP K "_law_factor" "_law_factor" s_u_law_factor (He.ga K "_law_factor") fd) :
    FnOk P w K mg base (L2.CX P w) 1 (He.ga K "_law_factor") fd ["cell"] (spM K (fun (p : Int × Unit) => m_u_law_factor p.1)) := by
  refine fn_ok F sc_u_law_factor (fun y => rfl) (fun cdv A outer s H E hr => ?_)
  refine ⟨_, (pss_cons (ps_set (i := 1) sc_u_law_factor.nd rfl (Or.inl rfl) (pe_callB call_abs (by rfl) T.n_abs (by decide +kernel) (pa_cons (pv 0) pa_nil))) (pss_cons (ps_if (pt_cmpR op_ge (pv 1) (pe_op op_pow pe_int pe_int) (nomark _)) (pss_one (ps_ret (pe_op op_sub (pe_op op_mod (pv 0) (pe_op op_mulX (pe_op op_pow pe_int pe_int) (pe_op op_pow pe_int pe_int))) (pe_op op_mulX (pe_op op_pow pe_int pe_int) (pe_op op_pow pe_int pe_int))))) pss_nil) (pss_one (ps_ret (pe_ix (cr_ixL rfl) (pe_lst (pa_cons (pe_op op_mod (pe_op op_fdiv (pv 1) pe_int) pe_int) (pa_cons (pe_op op_mod (pe_op op_fdiv (pv 1) pe_int) pe_int) (pa_cons (pe_un un_neg (pe_op op_mod (pe_op op_fdiv (pv 1) pe_int) pe_int)) (pa_cons (pe_op op_mod (pe_op op_mul (pe_op op_mul (pv 1) pe_int) pe_int) (pe_op op_pow pe_int pe_int)) pa_nil))))) (pe_op op_mod (pv 1) pe_int) (fun _ _ => rfl)))))), ?_⟩
  rintro ⟨cell_, ⟨⟩⟩ F0 H0 Q KP L
  show Blk K F0 H0 KP _ [some (.im (toD cell_)), none] (m_u_law_factor cell_)
  unfold m_u_law_factor
  have hs_ := ((ev_cb cx_abs (fun _ _ h => nomatch h) (ea_cons (ev_var (i := 0) (x := cell_) rfl) ea_nil)) : EvX K (W0 E) [some (.im (toD cell_)), none] _ _)
  refine blk_seq (blk_set (i := 1) L trivial hs_ fun rest_ => ?_)
  show Blk _ _ _ _ _ [some (.im (toD cell_)), some (.im (toD rest_))] _
  try refine Blk.nx ?_
  have ht_ := ((et_test (ev_op (opx_B0 (g := fun i j => decide (j ≤ i))) mild_ok (ev_var (i := 1) (x := rest_) rfl) (ev_opI (C := CPow) (g := fun i j => i ^ j.toNat) (fun x y h1 h2 => by cases h1; cases h2; exact ⟨by decide, by decide, by decide⟩) (ev_int (i := 10)) (ev_int (i := 18))))) : EvT K (W0 E) [some (.im (toD cell_)), some (.im (toD rest_))] _ _)
  refine blk_seq (blk_if2 L trivial ht_ ?_ ?_)
  · have hr_ := ((ev_op (opx_I0 (g := fun i j => i - j)) mild_ok (ev_op (opx_I (C := (fun _ j => 0 < j)) (g := fun i j => i % j)) mild_need (ev_var (i := 0) (x := cell_) rfl) (ev_op (opx_I (C := CMulX) (g := fun i j => i * j)) mild_need (ev_opI (C := CPow) (g := fun i j => i ^ j.toNat) (fun x y h1 h2 => by cases h1; cases h2; exact ⟨by decide, by decide, by decide⟩) (ev_int (i := 2)) (ev_int (i := 60))) (ev_opI (C := CPow) (g := fun i j => i ^ j.toNat) (fun x y h1 h2 => by cases h1; cases h2; exact ⟨by decide, by decide, by decide⟩) (ev_int (i := 2)) (ev_int (i := 11))))) (ev_op (opx_I (C := CMulX) (g := fun i j => i * j)) mild_need (ev_opI (C := CPow) (g := fun i j => i ^ j.toNat) (fun x y h1 h2 => by cases h1; cases h2; exact ⟨by decide, by decide, by decide⟩) (ev_int (i := 2)) (ev_int (i := 60))) (ev_opI (C := CPow) (g := fun i j => i ^ j.toNat) (fun x y h1 h2 => by cases h1; cases h2; exact ⟨by decide, by decide, by decide⟩) (ev_int (i := 2)) (ev_int (i := 10))))) : EvX K (W0 E) [some (.im (toD cell_)), some (.im (toD rest_))] _ _)
    exact blk_ret L trivial hr_
  · refine blk_nil ?_
    try refine Blk.nx ?_
    have hr_ := ((ev_op opx_ixL (fun x y => idx_mild x y) (ev_ofN (en_lst (f := (fun y => ([y.1, y.2.1, y.2.2.1, y.2.2.2.1] : List Int))) (ea_cons (ev_opI (C := (fun _ j => 0 < j)) (g := fun i j => i % j) (fun x y _ h => by cases h; (show (0 : Int) < _; decide)) (ev_opI (C := CDiv) (g := fun i j => i / j) (fun x y _ h => by cases h; exact ⟨by decide, by decide⟩) (ev_var (i := 1) (x := rest_) rfl) (ev_int (i := 4))) (ev_int (i := 12))) (ea_cons (ev_opI (C := (fun _ j => 0 < j)) (g := fun i j => i % j) (fun x y _ h => by cases h; (show (0 : Int) < _; decide)) (ev_opI (C := CDiv) (g := fun i j => i / j) (fun x y _ h => by cases h; exact ⟨by decide, by decide⟩) (ev_var (i := 1) (x := rest_) rfl) (ev_int (i := 4))) (ev_int (i := 5000))) (ea_cons (ev_un (g := fun i => -i) (ev_opI (C := (fun _ j => 0 < j)) (g := fun i j => i % j) (fun x y _ h => by cases h; (show (0 : Int) < _; decide)) (ev_opI (C := CDiv) (g := fun i j => i / j) (fun x y _ h => by cases h; exact ⟨by decide, by decide⟩) (ev_var (i := 1) (x := rest_) rfl) (ev_int (i := 4))) (ev_int (i := 300)))) (ea_cons (ev_op (opx_I (C := (fun _ j => 0 < j)) (g := fun i j => i % j)) mild_need (ev_opI (C := CMul) (g := fun i j => i * j) (fun x y _ h => by cases h; exact .inr (by decide)) (ev_opI (C := CMul) (g := fun i j => i * j) (fun x y _ h => by cases h; exact .inr (by decide)) (ev_var (i := 1) (x := rest_) rfl) (ev_int (i := 48271))) (ev_int (i := 69621))) (ev_opI (C := CPow) (g := fun i j => i ^ j.toNat) (fun x y h1 h2 => by cases h1; cases h2; exact ⟨by decide, by decide, by decide⟩) (ev_int (i := 2)) (ev_int (i := 61)))) ea_nil)))) (fun _ => rfl) (fun _ => by show 4 ≤ 100000; decide))) (ev_opI (C := (fun _ j => 0 < j)) (g := fun i j => i % j) (fun x y _ h => by cases h; (show (0 : Int) < _; decide)) (ev_var (i := 1) (x := rest_) rfl) (ev_int (i := 4)))) : EvX K (W0 E) [some (.im (toD cell_)), some (.im (toD rest_))] _ _)
    exact blk_ret L trivial hr_
noncomputable def m_law_l2 (prime_ : Int) (a_ : Int) (first_ : (T2 Int Int)) (k2 : (Option (T2 Int Int)) → Res Bool) : List Int → (Option (T2 Int Int)) → Res Bool
  | [], s => k2 s
  | x896 :: r2, total_ =>   (fun (k_ : Int) => ((((Res.ok prime_)).bind fun a898 => (((Res.ok a_)).bind fun a900 => (((Res.ok total_)).bind fun a902 => ((((Res.ok first_)).bind fun (x : (T2 Int Int)) => Res.ok (some x)).bind fun a904 => (Res.ok ()).bind fun a905 => Res.ok (a904, a905)).bind fun a903 => Res.ok (a902, a903)).bind fun a901 => Res.ok (a900, a901)).bind fun a899 => Res.ok (a898, a899)).bind fun p897 => m_u_law_add p897.1 p897.2.1 p897.2.2.1 p897.2.2.2.1).bind fun (total_ : (Option (T2 Int Int))) =>   m_law_l2 prime_ a_ first_ k2 r2 total_) x896
noncomputable def m_law_k7 (prime_ : Int) (a_ : Int) (b_ : Int) (first_ : (T2 Int Int)) (second_ : (T2 Int Int)) (curve_ : O_Curve) (m_ : Int) (n_ : Int) (small_ : Int) : (Option (T2 Int Int)) → Res Bool := fun total_ =>   (((((Res.ok curve_)).bind fun (o906 : O_Curve) => (((Res.ok small_)).bind fun a908 => ((((Res.ok first_)).bind fun (x : (T2 Int Int)) => Res.ok (some x)).bind fun a910 => (Res.ok ()).bind fun a911 => Res.ok (a910, a911)).bind fun a909 => Res.ok (a908, a909)).bind fun p907 => m_Curve_multiply o906 p907.1 p907.2.1).bind fun (t912 : (Option (T2 Int Int))) => ((Res.ok total_)).bind fun (t913 : (Option (T2 Int Int))) => Res.need ((toD t912).okq = true ∧ (toD t913).okq = true) (Res.ok (!pyEq (toD t912) (toD t913)))).bind fun b927 => cond b927 (Res.ok true) ((((Res.ok curve_)).bind fun (o915 : O_Curve) => ((((Res.ok small_)).bind fun (t914 : Int) => Res.ok (-t914)).bind fun a917 => ((((Res.ok first_)).bind fun (x : (T2 Int Int)) => Res.ok (some x)).bind fun a919 => (Res.ok ()).bind fun a920 => Res.ok (a919, a920)).bind fun a918 => Res.ok (a917, a918)).bind fun p916 => m_Curve_multiply o915 p916.1 p916.2.1).bind fun (t925 : (Option (T2 Int Int))) => (((Res.ok curve_)).bind fun (o921 : O_Curve) => (((Res.ok total_)).bind fun a923 => (Res.ok ()).bind fun a924 => Res.ok (a923, a924)).bind fun p922 => m_Curve_negate o921 p922.1).bind fun (t926 : (Option (T2 Int Int))) => Res.need ((toD t925).okq = true ∧ (toD t926).okq = true) (Res.ok (!pyEq (toD t925) (toD t926))))).bind fun b => cond b   ((Res.ok false))   ((((Res.ok curve_)).bind fun (o928 : O_Curve) => (((Res.ok m_)).bind fun a930 => ((((Res.ok first_)).bind fun (x : (T2 Int Int)) => Res.ok (some x)).bind fun a932 => (Res.ok ()).bind fun a933 => Res.ok (a932, a933)).bind fun a931 => Res.ok (a930, a931)).bind fun p929 => m_Curve_multiply o928 p929.1 p929.2.1).bind fun (one_ : (Option (T2 Int Int))) =>   (((Res.ok curve_)).bind fun (o934 : O_Curve) => (((Res.ok n_)).bind fun a936 => ((((Res.ok first_)).bind fun (x : (T2 Int Int)) => Res.ok (some x)).bind fun a938 => (Res.ok ()).bind fun a939 => Res.ok (a938, a939)).bind fun a937 => Res.ok (a936, a937)).bind fun p935 => m_Curve_multiply o934 p935.1 p935.2.1).bind fun (other_ : (Option (T2 Int Int))) =>   ((((((Res.ok prime_)).bind fun a941 => (((Res.ok a_)).bind fun a943 => (((Res.ok b_)).bind fun a945 => ((((Res.ok one_)).bind fun (x : (Option (T2 Int Int))) => Res.ok (toD x)).bind fun a947 => (Res.ok ()).bind fun a948 => Res.ok (a947, a948)).bind fun a946 => Res.ok (a945, a946)).bind fun a944 => Res.ok (a943, a944)).bind fun a942 => Res.ok (a941, a942)).bind fun p940 => m_u_law_on p940.1 p940.2.1 p940.2.2.1 p940.2.2.2.1).bind fun (t949 : Bool) => Res.ok (!t949)).bind fun b966 => cond b966 (Res.ok true) ((((Res.ok curve_)).bind fun (o952 : O_Curve) => ((((Res.ok m_)).bind fun (t950 : Int) => ((Res.ok n_)).bind fun (t951 : Int) => Res.ok (t950 + t951)).bind fun a954 => ((((Res.ok first_)).bind fun (x : (T2 Int Int)) => Res.ok (some x)).bind fun a956 => (Res.ok ()).bind fun a957 => Res.ok (a956, a957)).bind fun a955 => Res.ok (a954, a955)).bind fun p953 => m_Curve_multiply o952 p953.1 p953.2.1).bind fun (t964 : (Option (T2 Int Int))) => (((Res.ok curve_)).bind fun (o958 : O_Curve) => (((Res.ok one_)).bind fun a960 => (((Res.ok other_)).bind fun a962 => (Res.ok ()).bind fun a963 => Res.ok (a962, a963)).bind fun a961 => Res.ok (a960, a961)).bind fun p959 => m_Curve_add o958 p959.1 p959.2.1).bind fun (t965 : (Option (T2 Int Int))) => Res.need ((toD t964).okq = true ∧ (toD t965).okq = true) (Res.ok (!pyEq (toD t964) (toD t965))))).bind fun b => cond b   ((Res.ok false))   ((((Res.ok curve_)).bind fun (o969 : O_Curve) => ((((Res.ok m_)).bind fun (t967 : Int) => ((Res.ok n_)).bind fun (t968 : Int) => Res.need (CMulX t967 t968) (Res.ok (t967 * t968))).bind fun a971 => ((((Res.ok first_)).bind fun (x : (T2 Int Int)) => Res.ok (some x)).bind fun a973 => (Res.ok ()).bind fun a974 => Res.ok (a973, a974)).bind fun a972 => Res.ok (a971, a972)).bind fun p970 => m_Curve_multiply o969 p970.1 p970.2.1).bind fun (whole_ : (Option (T2 Int Int))) =>   (((((Res.ok curve_)).bind fun (o975 : O_Curve) => (((Res.ok n_)).bind fun a977 => (((Res.ok one_)).bind fun a979 => (Res.ok ()).bind fun a980 => Res.ok (a979, a980)).bind fun a978 => Res.ok (a977, a978)).bind fun p976 => m_Curve_multiply o975 p976.1 p976.2.1).bind fun (t981 : (Option (T2 Int Int))) => ((Res.ok whole_)).bind fun (t982 : (Option (T2 Int Int))) => Res.need ((toD t981).okq = true ∧ (toD t982).okq = true) (Res.ok (!pyEq (toD t981) (toD t982)))).bind fun b991 => cond b991 (Res.ok true) ((((Res.ok curve_)).bind fun (o983 : O_Curve) => (((Res.ok m_)).bind fun a985 => (((Res.ok other_)).bind fun a987 => (Res.ok ()).bind fun a988 => Res.ok (a987, a988)).bind fun a986 => Res.ok (a985, a986)).bind fun p984 => m_Curve_multiply o983 p984.1 p984.2.1).bind fun (t989 : (Option (T2 Int Int))) => ((Res.ok whole_)).bind fun (t990 : (Option (T2 Int Int))) => Res.need ((toD t989).okq = true ∧ (toD t990).okq = true) (Res.ok (!pyEq (toD t989) (toD t990))))).bind fun b => cond b   ((Res.ok false))   (((((Res.ok curve_)).bind fun (o998 : O_Curve) => (((Res.ok m_)).bind fun a1000 => ((((Res.ok curve_)).bind fun (o992 : O_Curve) => ((((Res.ok first_)).bind fun (x : (T2 Int Int)) => Res.ok (some x)).bind fun a994 => ((((Res.ok second_)).bind fun (x : (T2 Int Int)) => Res.ok (some x)).bind fun a996 => (Res.ok ()).bind fun a997 => Res.ok (a996, a997)).bind fun a995 => Res.ok (a994, a995)).bind fun p993 => m_Curve_add o992 p993.1 p993.2.1).bind fun a1002 => (Res.ok ()).bind fun a1003 => Res.ok (a1002, a1003)).bind fun a1001 => Res.ok (a1000, a1001)).bind fun p999 => m_Curve_multiply o998 p999.1 p999.2.1).bind fun (t1016 : (Option (T2 Int Int))) => (((Res.ok curve_)).bind fun (o1010 : O_Curve) => (((Res.ok one_)).bind fun a1012 => ((((Res.ok curve_)).bind fun (o1004 : O_Curve) => (((Res.ok m_)).bind fun a1006 => ((((Res.ok second_)).bind fun (x : (T2 Int Int)) => Res.ok (some x)).bind fun a1008 => (Res.ok ()).bind fun a1009 => Res.ok (a1008, a1009)).bind fun a1007 => Res.ok (a1006, a1007)).bind fun p1005 => m_Curve_multiply o1004 p1005.1 p1005.2.1).bind fun a1014 => (Res.ok ()).bind fun a1015 => Res.ok (a1014, a1015)).bind fun a1013 => Res.ok (a1012, a1013)).bind fun p1011 => m_Curve_add o1010 p1011.1 p1011.2.1).bind fun (t1017 : (Option (T2 Int Int))) => Res.need ((toD t1016).okq = true ∧ (toD t1017).okq = true) (Res.ok (!pyEq (toD t1016) (toD t1017)))).bind fun b => cond b   ((Res.ok false))   (((((Res.ok curve_)).bind fun (o1018 : O_Curve) => (((Res.ok m_)).bind fun a1020 => (((Res.ok (none : (Option (T2 Int Int))))).bind fun a1022 => (Res.ok ()).bind fun a1023 => Res.ok (a1022, a1023)).bind fun a1021 => Res.ok (a1020, a1021)).bind fun p1019 => m_Curve_multiply o1018 p1019.1 p1019.2.1).bind fun (t1024 : (Option (T2 Int Int))) => ((Res.ok ())).bind fun (t1025 : Unit) => Res.ok (toD t1024).isNon).bind fun b1048 => cond b1048 (((((Res.ok curve_)).bind fun (o1027 : O_Curve) => ((((Res.ok m_)).bind fun (t1026 : Int) => Res.ok (-t1026)).bind fun a1029 => ((((Res.ok first_)).bind fun (x : (T2 Int Int)) => Res.ok (some x)).bind fun a1031 => (Res.ok ()).bind fun a1032 => Res.ok (a1031, a1032)).bind fun a1030 => Res.ok (a1029, a1030)).bind fun p1028 => m_Curve_multiply o1027 p1028.1 p1028.2.1).bind fun (t1037 : (Option (T2 Int Int))) => (((Res.ok curve_)).bind fun (o1033 : O_Curve) => (((Res.ok one_)).bind fun a1035 => (Res.ok ()).bind fun a1036 => Res.ok (a1035, a1036)).bind fun p1034 => m_Curve_negate o1033 p1034.1).bind fun (t1038 : (Option (T2 Int Int))) => Res.need ((toD t1037).okq = true ∧ (toD t1038).okq = true) (Res.ok (pyEq (toD t1037) (toD t1038)))).bind fun b1047 => cond b1047 ((((Res.ok curve_)).bind fun (o1039 : O_Curve) => (((Res.ok (0 : Int))).bind fun a1041 => ((((Res.ok second_)).bind fun (x : (T2 Int Int)) => Res.ok (some x)).bind fun a1043 => (Res.ok ()).bind fun a1044 => Res.ok (a1043, a1044)).bind fun a1042 => Res.ok (a1041, a1042)).bind fun p1040 => m_Curve_multiply o1039 p1040.1 p1040.2.1).bind fun (t1045 : (Option (T2 Int Int))) => ((Res.ok ())).bind fun (t1046 : Unit) => Res.ok (toD t1045).isNon) (Res.ok false)) (Res.ok false)))))
noncomputable def m_law (script_ : (List Int)) : Res Bool :=
  ((((((((((Res.ok script_)).bind fun a810 => (((Res.ok (0 : Int))).bind fun a812 => (Res.ok ()).bind fun a813 => Res.ok (a812, a813)).bind fun a811 => Res.ok (a810, a811)).bind fun p809 => m_u_law_cell p809.1 p809.2.1).bind fun (t814 : Int) => ((Res.ok (5 : Int))).bind fun (t815 : Int) => Res.ok (t814 / t815)).bind fun a817 => (((Res.ok (5 : Int))).bind fun a819 => (Res.ok ()).bind fun a820 => Res.ok (a819, a820)).bind fun a818 => Res.ok (a817, a818)).bind fun p816 => m_u_law_prime p816.1 p816.2.1).bind fun a826 => (((((Res.ok (2 : Int))).bind fun (t821 : Int) => ((Res.ok (61 : Int))).bind fun (t822 : Int) => Res.ok (t821 ^ t822.toNat)).bind fun (t823 : Int) => ((Res.ok (1 : Int))).bind fun (t824 : Int) => Res.ok (t823 - t824)).bind fun a828 => (Res.ok ()).bind fun a829 => Res.ok (a828, a829)).bind fun a827 => Res.ok (a826, a827)).bind fun p825 => Res.ok ([p825.1, p825.2.1] : List Int)).bind fun (t845 : (List Int)) => ((((((((((Res.ok script_)).bind fun a831 => (((Res.ok (0 : Int))).bind fun a833 => (Res.ok ()).bind fun a834 => Res.ok (a833, a834)).bind fun a832 => Res.ok (a831, a832)).bind fun p830 => m_u_law_cell p830.1 p830.2.1).bind fun a836 => (Res.ok ()).bind fun a837 => Res.ok (a836, a837)).bind fun p835 => Res.ok (Int.natAbs p835.1 : Int)).bind fun (t838 : Int) => ((Res.ok (5 : Int))).bind fun (t839 : Int) => Res.ok (t838 % t839)).bind fun (t840 : Int) => ((Res.ok (4 : Int))).bind fun (t841 : Int) => Res.ok (decide (t840 = t841))).bind fun a843 => (Res.ok ()).bind fun a844 => Res.ok (a843, a844)).bind fun p842 => Res.ok (if p842.1 = true then (1 : Int) else 0)).bind fun (t846 : Int) => idx t845 t846).bind fun (prime_ : Int) =>   ((((Res.ok script_)).bind fun a848 => (((Res.ok (1 : Int))).bind fun a850 => (((Res.ok prime_)).bind fun a852 => (Res.ok ()).bind fun a853 => Res.ok (a852, a853)).bind fun a851 => Res.ok (a850, a851)).bind fun a849 => Res.ok (a848, a849)).bind fun p847 => m_u_law_curve_and_points p847.1 p847.2.1 p847.2.2.1).bind fun (u854 : (T4 Int Int (T2 Int Int) (T2 Int Int))) =>   (fun (a_ : Int) (b_ : Int) (first_ : (T2 Int Int)) (second_ : (T2 Int Int)) => ((((Res.ok prime_)).bind fun a856 => (((Res.ok a_)).bind fun a858 => (((Res.ok b_)).bind fun a860 => (Res.ok ()).bind fun a861 => Res.ok (a860, a861)).bind fun a859 => Res.ok (a858, a859)).bind fun a857 => Res.ok (a856, a857)).bind fun p855 => m_u_law_singular p855.1 p855.2.1 p855.2.2.1).bind fun b => cond b   ((Res.ok true))   (((((Res.ok prime_)).bind fun a863 => (((Res.ok a_)).bind fun a865 => (((Res.ok b_)).bind fun a867 => (Res.ok ()).bind fun a868 => Res.ok (a867, a868)).bind fun a866 => Res.ok (a865, a866)).bind fun a864 => Res.ok (a863, a864)).bind fun p862 => m_Curve_init p862.1 p862.2.1 p862.2.2.1).bind fun (curve_ : O_Curve) =>   ((((((Res.ok script_)).bind fun a870 => (((Res.ok (6 : Int))).bind fun a872 => (Res.ok ()).bind fun a873 => Res.ok (a872, a873)).bind fun a871 => Res.ok (a870, a871)).bind fun p869 => m_u_law_cell p869.1 p869.2.1).bind fun a875 => (Res.ok ()).bind fun a876 => Res.ok (a875, a876)).bind fun p874 => m_u_law_factor p874.1).bind fun (m_ : Int) =>   ((((((Res.ok script_)).bind fun a878 => (((Res.ok (7 : Int))).bind fun a880 => (Res.ok ()).bind fun a881 => Res.ok (a880, a881)).bind fun a879 => Res.ok (a878, a879)).bind fun p877 => m_u_law_cell p877.1 p877.2.1).bind fun a883 => (Res.ok ()).bind fun a884 => Res.ok (a883, a884)).bind fun p882 => m_u_law_factor p882.1).bind fun (n_ : Int) =>   (((((((Res.ok script_)).bind fun a886 => (((Res.ok (8 : Int))).bind fun a888 => (Res.ok ()).bind fun a889 => Res.ok (a888, a889)).bind fun a887 => Res.ok (a886, a887)).bind fun p885 => m_u_law_cell p885.1 p885.2.1).bind fun a891 => (Res.ok ()).bind fun a892 => Res.ok (a891, a892)).bind fun p890 => Res.ok (Int.natAbs p890.1 : Int)).bind fun (t893 : Int) => ((Res.ok (14 : Int))).bind fun (t894 : Int) => Res.ok (t893 % t894)).bind fun (small_ : Int) =>   ((Res.ok (none : (Option (T2 Int Int))))).bind fun (total_ : (Option (T2 Int Int))) =>   (((Res.ok small_)).bind fun (t895 : Int) => Res.need (okRange t895) (Res.ok (pyRange 0 t895))).bind fun (xs1049 : List Int) => m_law_l2 prime_ a_ first_ (m_law_k7 prime_ a_ b_ first_ second_ curve_ m_ n_ small_) xs1049 total_)) u854.a u854.b u854.c u854.e
theorem ok_law {P : Program} {w : World} {K : PySem.W.Frag} {mg : Str → Option Value} {base : Heap} (T : Facts K mg) {fd : FuncData} (F : FnP K "law" "law" s_law (He.ga K "law") fd) :
    FnOk P w K mg base (L2.CX P w) 8 (He.ga K "law") fd ["script"] (spM K (fun (p : (List Int) × Unit) => m_law p.1)) := by
  obtain ⟨fd_Curve_init, F_Curve_init⟩ := T.d_Curve_init
  have G_Curve_init := ok_Curve_init (P := P) (w := w) (base := base) T F_Curve_init
  have b_Curve_init : Binds K fd_Curve_init ["self", "prime", "a", "b"] [] := F_Curve_init.bindsN fun _ _ _ _ _ _ us hl => match us, hl with | [_, _, _, _], _ => rfl
  obtain ⟨fd_Curve_add, F_Curve_add⟩ := T.d_Curve_add
  have G_Curve_add := ok_Curve_add (P := P) (w := w) (base := base) T F_Curve_add
  have b_Curve_add : Binds K fd_Curve_add ["self", "first", "second"] [] := F_Curve_add.bindsN fun _ _ _ _ _ _ us hl => match us, hl with | [_, _, _], _ => rfl
  obtain ⟨fd_Curve_multiply, F_Curve_multiply⟩ := T.d_Curve_multiply
  have G_Curve_multiply := ok_Curve_multiply (P := P) (w := w) (base := base) T F_Curve_multiply
  have b_Curve_multiply : Binds K fd_Curve_multiply ["self", "factor", "point"] [] := F_Curve_multiply.bindsN fun _ _ _ _ _ _ us hl => match us, hl with | [_, _, _], _ => rfl
  obtain ⟨fd_Curve_negate, F_Curve_negate⟩ := T.d_Curve_negate
  have G_Curve_negate := ok_Curve_negate (P := P) (w := w) (base := base) T F_Curve_negate
  have b_Curve_negate : Binds K fd_Curve_negate ["self", "point"] [] := F_Curve_negate.bindsN fun _ _ _ _ _ _ us hl => match us, hl with | [_, _], _ => rfl
  obtain ⟨fd_u_law_add, F_u_law_add⟩ := T.d_u_law_add
  have G_u_law_add := ok_u_law_add (P := P) (w := w) (base := base) T F_u_law_add
  have b_u_law_add : Binds K fd_u_law_add ["prime", "a", "first", "second"] [] := F_u_law_add.bindsN fun _ _ _ _ _ _ us hl => match us, hl with | [_, _, _, _], _ => rfl
  obtain ⟨fd_u_law_cell, F_u_law_cell⟩ := T.d_u_law_cell
  have G_u_law_cell := ok_u_law_cell (P := P) (w := w) (base := base) T F_u_law_cell
  have b_u_law_cell : Binds K fd_u_law_cell ["script", "k"] [] := F_u_law_cell.bindsN fun _ _ _ _ _ _ us hl => match us, hl with | [_, _], _ => rfl
  obtain ⟨fd_u_law_curve_and_points, F_u_law_curve_and_points⟩ := T.d_u_law_curve_and_points
  have G_u_law_curve_and_points := ok_u_law_curve_and_points (P := P) (w := w) (base := base) T F_u_law_curve_and_points
  have b_u_law_curve_and_points : Binds K fd_u_law_curve_and_points ["script", "at", "prime"] [] := F_u_law_curve_and_points.bindsN fun _ _ _ _ _ _ us hl => match us, hl with | [_, _, _], _ => rfl
  obtain ⟨fd_u_law_factor, F_u_law_factor⟩ := T.d_u_law_factor
  have G_u_law_factor := ok_u_law_factor (P := P) (w := w) (base := base) T F_u_law_factor
  have b_u_law_factor : Binds K fd_u_law_factor ["cell"] [] := F_u_law_factor.bindsN fun _ _ _ _ _ _ us hl => match us, hl with | [_], _ => rfl
  obtain ⟨fd_u_law_on, F_u_law_on⟩ := T.d_u_law_on
  have G_u_law_on := ok_u_law_on (P := P) (w := w) (base := base) T F_u_law_on
  have b_u_law_on : Binds K fd_u_law_on ["prime", "a", "b", "point"] [] := F_u_law_on.bindsN fun _ _ _ _ _ _ us hl => match us, hl with | [_, _, _, _], _ => rfl
  obtain ⟨fd_u_law_prime, F_u_law_prime⟩ := T.d_u_law_prime
  have G_u_law_prime := ok_u_law_prime (P := P) (w := w) (base := base) T F_u_law_prime
  have b_u_law_prime : Binds K fd_u_law_prime ["cell", "least"] [] := F_u_law_prime.bindsN fun _ _ _ _ _ _ us hl => match us, hl with | [_, _], _ => rfl
  obtain ⟨fd_u_law_singular, F_u_law_singular⟩ := T.d_u_law_singular
  have G_u_law_singular := ok_u_law_singular (P := P) (w := w) (base := base) T F_u_law_singular
  have b_u_law_singular : Binds K fd_u_law_singular ["prime", "a", "b"] [] := F_u_law_singular.bindsN fun _ _ _ _ _ _ us hl => match us, hl with | [_, _, _], _ => rfl
  refine fn_ok F sc_law (fun y => rfl) (fun cdv A outer s H E hr => ?_)
  refine ⟨_, (pss_cons (ps_set (i := 1) sc_law.nd rfl (Or.inl rfl) (pe_ix (cr_ixL rfl) (pe_lst (pa_cons (pe_callS G_u_law_prime (hr.mono (by decide)) rfl T.g_u_law_prime F_u_law_prime.kp b_u_law_prime (fun σ => passAt (takes_of rfl rfl rfl rfl) σ) (pa_cons (pe_op op_fdiv (pe_callS G_u_law_cell (hr.mono (by decide)) rfl T.g_u_law_cell F_u_law_cell.kp b_u_law_cell (fun σ => passAt (takes_of rfl rfl rfl rfl) σ) (pa_cons (pv 0) (pa_cons pe_int pa_nil))) pe_int) (pa_cons pe_int pa_nil))) (pa_cons (pe_op op_sub (pe_op op_pow pe_int pe_int) pe_int) pa_nil))) (pe_callTy call_int1 (by rfl) T.n_int (by decide +kernel) (pa_cons (pe_cmpR op_eq (pe_op op_mod (pe_callB call_abs (by rfl) T.n_abs (by decide +kernel) (pa_cons (pe_callS G_u_law_cell (hr.mono (by decide)) rfl T.g_u_law_cell F_u_law_cell.kp b_u_law_cell (fun σ => passAt (takes_of rfl rfl rfl rfl) σ) (pa_cons (pv 0) (pa_cons pe_int pa_nil))) pa_nil)) pe_int) pe_int (nomark _)) pa_nil)) (fun _ _ => rfl))) (pss_cons (ps_asg (pe_callS G_u_law_curve_and_points (hr.mono (by decide)) rfl T.g_u_law_curve_and_points F_u_law_curve_and_points.kp b_u_law_curve_and_points (fun σ => passAt (takes_of rfl rfl rfl rfl) σ) (pa_cons (pv 0) (pa_cons pe_int (pa_cons (pv 1) pa_nil)))) (pg_tup rfl (pgs_cons (pg_name (i := 2) sc_law.nd rfl (Or.inl rfl)) (pgs_cons (pg_name (i := 3) sc_law.nd rfl (Or.inl rfl)) (pgs_cons (pg_name (i := 4) sc_law.nd rfl (Or.inl rfl)) (pgs_cons (pg_name (i := 5) sc_law.nd rfl (Or.inl rfl)) pgs_nil)))))) (pss_cons (ps_if (pt_val (pe_callS G_u_law_singular (hr.mono (by decide)) rfl T.g_u_law_singular F_u_law_singular.kp b_u_law_singular (fun σ => passAt (takes_of rfl rfl rfl rfl) σ) (pa_cons (pv 1) (pa_cons (pv 2) (pa_cons (pv 3) pa_nil))))) (pss_one (ps_ret pe_bl)) pss_nil) (pss_cons (ps_set (i := 6) sc_law.nd rfl (Or.inl rfl) (pe_makeQ T.mk_Curve G_Curve_init (hr.mono (by decide)) rfl T.g_Curve b_Curve_init (fun σ => passAt (takes_of rfl rfl rfl rfl) σ) (pa_cons (pv 1) (pa_cons (pv 2) (pa_cons (pv 3) pa_nil))))) (pss_cons (ps_set (i := 7) sc_law.nd rfl (Or.inl rfl) (pe_callS G_u_law_factor (hr.mono (by decide)) rfl T.g_u_law_factor F_u_law_factor.kp b_u_law_factor (fun σ => passAt (takes_of rfl rfl rfl rfl) σ) (pa_cons (pe_callS G_u_law_cell (hr.mono (by decide)) rfl T.g_u_law_cell F_u_law_cell.kp b_u_law_cell (fun σ => passAt (takes_of rfl rfl rfl rfl) σ) (pa_cons (pv 0) (pa_cons pe_int pa_nil))) pa_nil))) (pss_cons (ps_set (i := 8) sc_law.nd rfl (Or.inl rfl) (pe_callS G_u_law_factor (hr.mono (by decide)) rfl T.g_u_law_factor F_u_law_factor.kp b_u_law_factor (fun σ => passAt (takes_of rfl rfl rfl rfl) σ) (pa_cons (pe_callS G_u_law_cell (hr.mono (by decide)) rfl T.g_u_law_cell F_u_law_cell.kp b_u_law_cell (fun σ => passAt (takes_of rfl rfl rfl rfl) σ) (pa_cons (pv 0) (pa_cons pe_int pa_nil))) pa_nil))) (pss_cons (ps_set (i := 9) sc_law.nd rfl (Or.inl rfl) (pe_op op_mod (pe_callB call_abs (by rfl) T.n_abs (by decide +kernel) (pa_cons (pe_callS G_u_law_cell (hr.mono (by decide)) rfl T.g_u_law_cell F_u_law_cell.kp b_u_law_cell (fun σ => passAt (takes_of rfl rfl rfl rfl) σ) (pa_cons (pv 0) (pa_cons pe_int pa_nil))) pa_nil)) pe_int)) (pss_cons (ps_set (i := 10) sc_law.nd rfl (Or.inl rfl) pe_non) (pss_cons (ps_for (passes_of rfl) rfl (pi_range1 rfl T.n_range (pa_cons (pv 9) pa_nil)) (pg_name (i := 11) sc_law.nd rfl (Or.inl rfl)) (pss_one (ps_set (i := 10) sc_law.nd rfl (Or.inl rfl) (pe_callS G_u_law_add (hr.mono (by decide)) rfl T.g_u_law_add F_u_law_add.kp b_u_law_add (fun σ => passAt (takes_of rfl rfl rfl rfl) σ) (pa_cons (pv 1) (pa_cons (pv 2) (pa_cons (pv 10) (pa_cons (pv 4) pa_nil)))))))) (pss_cons (ps_if (PW.pt (pw_or (pt_cmpR (op_neD (Room.units hr)) (pe_methQ (pv 6) T.cl_Curve T.mt_Curve_multiply G_Curve_multiply (hr.mono (by decide)) b_Curve_multiply (fun σ => passAt (takes_of rfl rfl rfl rfl) σ) (pa_cons (pv 9) (pa_cons (pv 4) pa_nil))) (pv 10) (nomark _)) (pw_or1 (pt_cmpR (op_neD (Room.units hr)) (pe_methQ (pv 6) T.cl_Curve T.mt_Curve_multiply G_Curve_multiply (hr.mono (by decide)) b_Curve_multiply (fun σ => passAt (takes_of rfl rfl rfl rfl) σ) (pa_cons (pe_un un_neg (pv 9)) (pa_cons (pv 4) pa_nil))) (pe_methQ (pv 6) T.cl_Curve T.mt_Curve_negate G_Curve_negate (hr.mono (by decide)) b_Curve_negate (fun σ => passAt (takes_of rfl rfl rfl rfl) σ) (pa_cons (pv 10) pa_nil)) (nomark _))))) (pss_one (ps_ret pe_bl)) pss_nil) (pss_cons (ps_set (i := 12) sc_law.nd rfl (Or.inl rfl) (pe_methQ (pv 6) T.cl_Curve T.mt_Curve_multiply G_Curve_multiply (hr.mono (by decide)) b_Curve_multiply (fun σ => passAt (takes_of rfl rfl rfl rfl) σ) (pa_cons (pv 7) (pa_cons (pv 4) pa_nil)))) (pss_cons (ps_set (i := 13) sc_law.nd rfl (Or.inl rfl) (pe_methQ (pv 6) T.cl_Curve T.mt_Curve_multiply G_Curve_multiply (hr.mono (by decide)) b_Curve_multiply (fun σ => passAt (takes_of rfl rfl rfl rfl) σ) (pa_cons (pv 8) (pa_cons (pv 4) pa_nil)))) (pss_cons (ps_if (PW.pt (pw_or (pt_not (pt_val (pe_callS G_u_law_on (hr.mono (by decide)) rfl T.g_u_law_on F_u_law_on.kp b_u_law_on (fun σ => passAt (takes_of rfl rfl rfl rfl) σ) (pa_cons (pv 1) (pa_cons (pv 2) (pa_cons (pv 3) (pa_cons (pv 12) pa_nil))))))) (pw_or1 (pt_cmpR (op_neD (Room.units hr)) (pe_methQ (pv 6) T.cl_Curve T.mt_Curve_multiply G_Curve_multiply (hr.mono (by decide)) b_Curve_multiply (fun σ => passAt (takes_of rfl rfl rfl rfl) σ) (pa_cons (pe_op op_add (pv 7) (pv 8)) (pa_cons (pv 4) pa_nil))) (pe_methQ (pv 6) T.cl_Curve T.mt_Curve_add G_Curve_add (hr.mono (by decide)) b_Curve_add (fun σ => passAt (takes_of rfl rfl rfl rfl) σ) (pa_cons (pv 12) (pa_cons (pv 13) pa_nil))) (nomark _))))) (pss_one (ps_ret pe_bl)) pss_nil) (pss_cons (ps_set (i := 14) sc_law.nd rfl (Or.inl rfl) (pe_methQ (pv 6) T.cl_Curve T.mt_Curve_multiply G_Curve_multiply (hr.mono (by decide)) b_Curve_multiply (fun σ => passAt (takes_of rfl rfl rfl rfl) σ) (pa_cons (pe_op op_mulX (pv 7) (pv 8)) (pa_cons (pv 4) pa_nil)))) (pss_cons (ps_if (PW.pt (pw_or (pt_cmpR (op_neD (Room.units hr)) (pe_methQ (pv 6) T.cl_Curve T.mt_Curve_multiply G_Curve_multiply (hr.mono (by decide)) b_Curve_multiply (fun σ => passAt (takes_of rfl rfl rfl rfl) σ) (pa_cons (pv 8) (pa_cons (pv 12) pa_nil))) (pv 14) (nomark _)) (pw_or1 (pt_cmpR (op_neD (Room.units hr)) (pe_methQ (pv 6) T.cl_Curve T.mt_Curve_multiply G_Curve_multiply (hr.mono (by decide)) b_Curve_multiply (fun σ => passAt (takes_of rfl rfl rfl rfl) σ) (pa_cons (pv 7) (pa_cons (pv 13) pa_nil))) (pv 14) (nomark _))))) (pss_one (ps_ret pe_bl)) pss_nil) (pss_cons (ps_if (pt_cmpR (op_neD (Room.units hr)) (pe_methQ (pv 6) T.cl_Curve T.mt_Curve_multiply G_Curve_multiply (hr.mono (by decide)) b_Curve_multiply (fun σ => passAt (takes_of rfl rfl rfl rfl) σ) (pa_cons (pv 7) (pa_cons (pe_methQ (pv 6) T.cl_Curve T.mt_Curve_add G_Curve_add (hr.mono (by decide)) b_Curve_add (fun σ => passAt (takes_of rfl rfl rfl rfl) σ) (pa_cons (pv 4) (pa_cons (pv 5) pa_nil))) pa_nil))) (pe_methQ (pv 6) T.cl_Curve T.mt_Curve_add G_Curve_add (hr.mono (by decide)) b_Curve_add (fun σ => passAt (takes_of rfl rfl rfl rfl) σ) (pa_cons (pv 12) (pa_cons (pe_methQ (pv 6) T.cl_Curve T.mt_Curve_multiply G_Curve_multiply (hr.mono (by decide)) b_Curve_multiply (fun σ => passAt (takes_of rfl rfl rfl rfl) σ) (pa_cons (pv 7) (pa_cons (pv 5) pa_nil))) pa_nil))) (nomark _)) (pss_one (ps_ret pe_bl)) pss_nil) (pss_one (ps_ret (pe_and (pe_cmpR op_isN (pe_methQ (pv 6) T.cl_Curve T.mt_Curve_multiply G_Curve_multiply (hr.mono (by decide)) b_Curve_multiply (fun σ => passAt (takes_of rfl rfl rfl rfl) σ) (pa_cons (pv 7) (pa_cons pe_non pa_nil))) pe_non (nomark _)) (pe_and (pe_cmpR (op_eqD (Room.units hr)) (pe_methQ (pv 6) T.cl_Curve T.mt_Curve_multiply G_Curve_multiply (hr.mono (by decide)) b_Curve_multiply (fun σ => passAt (takes_of rfl rfl rfl rfl) σ) (pa_cons (pe_un un_neg (pv 7)) (pa_cons (pv 4) pa_nil))) (pe_methQ (pv 6) T.cl_Curve T.mt_Curve_negate G_Curve_negate (hr.mono (by decide)) b_Curve_negate (fun σ => passAt (takes_of rfl rfl rfl rfl) σ) (pa_cons (pv 12) pa_nil)) (nomark _)) (pe_one (pe_cmpR op_isN (pe_methQ (pv 6) T.cl_Curve T.mt_Curve_multiply G_Curve_multiply (hr.mono (by decide)) b_Curve_multiply (fun σ => passAt (takes_of rfl rfl rfl rfl) σ) (pa_cons pe_int (pa_cons (pv 5) pa_nil))) pe_non (nomark _))))))))))))))))))))))), ?_⟩
  rintro ⟨script_, ⟨⟩⟩ F0 H0 Q KP L
  show Blk K F0 H0 KP _ [some (.im (toD script_)), none, none, none, none, none, none, none, none, none, none, none, none, none, none] (m_law script_)
  unfold m_law
  have hs_ := ((ev_op opx_ixL (fun x y => idx_mild x y) (ev_ofN (en_lst (f := (fun y => ([y.1, y.2.1] : List Int))) (ea_cons (ev_call (f := (fun (p : Int × Int × Unit) => m_u_law_prime p.1 p.2.1)) (ea_cons (ev_opI (C := CDiv) (g := fun i j => i / j) (fun x y _ h => by cases h; exact ⟨by decide, by decide⟩) (ev_call (f := (fun (p : (List Int) × Int × Unit) => m_u_law_cell p.1 p.2.1)) (ea_cons (ev_var (i := 0) (x := script_) rfl) (ea_cons (ev_int (i := 0)) ea_nil))) (ev_int (i := 5))) (ea_cons (ev_int (i := 5)) ea_nil))) (ea_cons (ev_op (opx_I0 (g := fun i j => i - j)) mild_ok (ev_opI (C := CPow) (g := fun i j => i ^ j.toNat) (fun x y h1 h2 => by cases h1; cases h2; exact ⟨by decide, by decide, by decide⟩) (ev_int (i := 2)) (ev_int (i := 61))) (ev_int (i := 1))) ea_nil)) (fun _ => rfl) (fun _ => by show 2 ≤ 100000; decide))) (ev_cb cx_intB (fun _ _ h => nomatch h) (ea_cons (ev_op opx_eqI mild_ok (ev_opI (C := (fun _ j => 0 < j)) (g := fun i j => i % j) (fun x y _ h => by cases h; (show (0 : Int) < _; decide)) (ev_cb cx_abs (fun _ _ h => nomatch h) (ea_cons (ev_call (f := (fun (p : (List Int) × Int × Unit) => m_u_law_cell p.1 p.2.1)) (ea_cons (ev_var (i := 0) (x := script_) rfl) (ea_cons (ev_int (i := 0)) ea_nil))) ea_nil)) (ev_int (i := 5))) (ev_int (i := 4))) ea_nil))) : EvX K (W0 E) [some (.im (toD script_)), none, none, none, none, none, none, none, none, none, none, none, none, none, none] _ _)
  refine blk_seq (blk_set (i := 1) L trivial hs_ fun prime_ => ?_)
  show Blk _ _ _ _ _ [some (.im (toD script_)), some (.im (toD prime_)), none, none, none, none, none, none, none, none, none, none, none, none, none] _
  try refine Blk.nx ?_
  have hs_ := ((ev_call (f := (fun (p : (List Int) × Int × Int × Unit) => m_u_law_curve_and_points p.1 p.2.1 p.2.2.1)) (ea_cons (ev_var (i := 0) (x := script_) rfl) (ea_cons (ev_int (i := 1)) (ea_cons (ev_var (i := 1) (x := prime_) rfl) ea_nil)))) : EvX K (W0 E) [some (.im (toD script_)), some (.im (toD prime_)), none, none, none, none, none, none, none, none, none, none, none, none, none] _ _)
  refine blk_seq (blk_asg L trivial hs_ (fun _ => (gx_tup (gxs_cons gx_name (gxs_cons gx_name (gxs_cons gx_name (gxs_cons gx_name gxs_nil)))) rfl)) fun u854 => ?_)
  show Blk _ _ _ _ _ [some (.im (toD script_)), some (.im (toD prime_)), some (.im (toD u854.a)), some (.im (toD u854.b)), some (.im (toD u854.c)), some (.im (toD u854.e)), none, none, none, none, none, none, none, none, none] ((fun (a_ : Int) (b_ : Int) (first_ : (T2 Int Int)) (second_ : (T2 Int Int)) => _) u854.a u854.b u854.c u854.e)
  generalize u854.a = a_
  generalize u854.b = b_
  generalize u854.c = first_
  generalize u854.e = second_
  show Blk _ _ _ _ _ [some (.im (toD script_)), some (.im (toD prime_)), some (.im (toD a_)), some (.im (toD b_)), some (.im (toD first_)), some (.im (toD second_)), none, none, none, none, none, none, none, none, none] _
  try refine Blk.nx ?_
  have ht_ := ((et_B (ev_call (f := (fun (p : Int × Int × Int × Unit) => m_u_law_singular p.1 p.2.1 p.2.2.1)) (ea_cons (ev_var (i := 1) (x := prime_) rfl) (ea_cons (ev_var (i := 2) (x := a_) rfl) (ea_cons (ev_var (i := 3) (x := b_) rfl) ea_nil))))) : EvT K (W0 E) [some (.im (toD script_)), some (.im (toD prime_)), some (.im (toD a_)), some (.im (toD b_)), some (.im (toD first_)), some (.im (toD second_)), none, none, none, none, none, none, none, none, none] _ _)
  refine blk_seq (blk_if2 L trivial ht_ ?_ ?_)
  · have hr_ := ((ev_bl (b := true)) : EvX K (W0 E) [some (.im (toD script_)), some (.im (toD prime_)), some (.im (toD a_)), some (.im (toD b_)), some (.im (toD first_)), some (.im (toD second_)), none, none, none, none, none, none, none, none, none] _ _)
    exact blk_ret L trivial hr_
  · refine blk_nil ?_
    try refine Blk.nx ?_
    have hs_ := ((ev_make (c := "Curve") (f := (fun (p : Int × Int × Int × Unit) => m_Curve_init p.1 p.2.1 p.2.2.1)) (ea_cons (ev_var (i := 1) (x := prime_) rfl) (ea_cons (ev_var (i := 2) (x := a_) rfl) (ea_cons (ev_var (i := 3) (x := b_) rfl) ea_nil)))) : EvX K (W0 E) [some (.im (toD script_)), some (.im (toD prime_)), some (.im (toD a_)), some (.im (toD b_)), some (.im (toD first_)), some (.im (toD second_)), none, none, none, none, none, none, none, none, none] _ _)
    refine blk_seq (blk_set (i := 6) L trivial hs_ fun curve_ => ?_)
    show Blk _ _ _ _ _ [some (.im (toD script_)), some (.im (toD prime_)), some (.im (toD a_)), some (.im (toD b_)), some (.im (toD first_)), some (.im (toD second_)), some (.im (toD curve_)), none, none, none, none, none, none, none, none] _
    try refine Blk.nx ?_
    have hs_ := ((ev_call (f := (fun (p : Int × Unit) => m_u_law_factor p.1)) (ea_cons (ev_call (f := (fun (p : (List Int) × Int × Unit) => m_u_law_cell p.1 p.2.1)) (ea_cons (ev_var (i := 0) (x := script_) rfl) (ea_cons (ev_int (i := 6)) ea_nil))) ea_nil)) : EvX K (W0 E) [some (.im (toD script_)), some (.im (toD prime_)), some (.im (toD a_)), some (.im (toD b_)), some (.im (toD first_)), some (.im (toD second_)), some (.im (toD curve_)), none, none, none, none, none, none, none, none] _ _)
    refine blk_seq (blk_set (i := 7) L trivial hs_ fun m_ => ?_)
    show Blk _ _ _ _ _ [some (.im (toD script_)), some (.im (toD prime_)), some (.im (toD a_)), some (.im (toD b_)), some (.im (toD first_)), some (.im (toD second_)), some (.im (toD curve_)), some (.im (toD m_)), none, none, none, none, none, none, none] _
    try refine Blk.nx ?_
    have hs_ := ((ev_call (f := (fun (p : Int × Unit) => m_u_law_factor p.1)) (ea_cons (ev_call (f := (fun (p : (List Int) × Int × Unit) => m_u_law_cell p.1 p.2.1)) (ea_cons (ev_var (i := 0) (x := script_) rfl) (ea_cons (ev_int (i := 7)) ea_nil))) ea_nil)) : EvX K (W0 E) [some (.im (toD script_)), some (.im (toD prime_)), some (.im (toD a_)), some (.im (toD b_)), some (.im (toD first_)), some (.im (toD second_)), some (.im (toD curve_)), some (.im (toD m_)), none, none, none, none, none, none, none] _ _)
    refine blk_seq (blk_set (i := 8) L trivial hs_ fun n_ => ?_)
    show Blk _ _ _ _ _ [some (.im (toD script_)), some (.im (toD prime_)), some (.im (toD a_)), some (.im (toD b_)), some (.im (toD first_)), some (.im (toD second_)), some (.im (toD curve_)), some (.im (toD m_)), some (.im (toD n_)), none, none, none, none, none, none] _
    try refine Blk.nx ?_
    have hs_ := ((ev_opI (C := (fun _ j => 0 < j)) (g := fun i j => i % j) (fun x y _ h => by cases h; (show (0 : Int) < _; decide)) (ev_cb cx_abs (fun _ _ h => nomatch h) (ea_cons (ev_call (f := (fun (p : (List Int) × Int × Unit) => m_u_law_cell p.1 p.2.1)) (ea_cons (ev_var (i := 0) (x := script_) rfl) (ea_cons (ev_int (i := 8)) ea_nil))) ea_nil)) (ev_int (i := 14))) : EvX K (W0 E) [some (.im (toD script_)), some (.im (toD prime_)), some (.im (toD a_)), some (.im (toD b_)), some (.im (toD first_)), some (.im (toD second_)), some (.im (toD curve_)), some (.im (toD m_)), some (.im (toD n_)), none, none, none, none, none, none] _ _)
    refine blk_seq (blk_set (i := 9) L trivial hs_ fun small_ => ?_)
    show Blk _ _ _ _ _ [some (.im (toD script_)), some (.im (toD prime_)), some (.im (toD a_)), some (.im (toD b_)), some (.im (toD first_)), some (.im (toD second_)), some (.im (toD curve_)), some (.im (toD m_)), some (.im (toD n_)), some (.im (toD small_)), none, none, none, none, none] _
    try refine Blk.nx ?_
    have hs_ := ((ev_noneO (α := (T2 Int Int))) : EvX K (W0 E) [some (.im (toD script_)), some (.im (toD prime_)), some (.im (toD a_)), some (.im (toD b_)), some (.im (toD first_)), some (.im (toD second_)), some (.im (toD curve_)), some (.im (toD m_)), some (.im (toD n_)), some (.im (toD small_)), none, none, none, none, none] _ _)
    refine blk_seq (blk_set (i := 10) L trivial hs_ fun total_ => ?_)
    show Blk _ _ _ _ _ [some (.im (toD script_)), some (.im (toD prime_)), some (.im (toD a_)), some (.im (toD b_)), some (.im (toD first_)), some (.im (toD second_)), some (.im (toD curve_)), some (.im (toD m_)), some (.im (toD n_)), some (.im (toD small_)), some (.im (toD total_)), none, none, none, none] _
    try refine Blk.nx ?_
    have hi_ := ((ei_range1 (ev_var (i := 9) (x := small_) rfl)) : EvI K (W0 E) [some (.im (toD script_)), some (.im (toD prime_)), some (.im (toD a_)), some (.im (toD b_)), some (.im (toD first_)), some (.im (toD second_)), some (.im (toD curve_)), some (.im (toD m_)), some (.im (toD n_)), some (.im (toD small_)), some (.im (toD total_)), none, none, none, none] _ _)
    refine blk_seq (blk_for (S := (Option (T2 Int Int))) (m_law_l2 prime_ a_ first_ (m_law_k7 prime_ a_ b_ first_ second_ curve_ m_ n_ small_)) (m_law_k7 prime_ a_ b_ first_ second_ curve_ m_ n_ small_) (fun total_ => [some (.im (toD script_)), some (.im (toD prime_)), some (.im (toD a_)), some (.im (toD b_)), some (.im (toD first_)), some (.im (toD second_)), some (.im (toD curve_)), some (.im (toD m_)), some (.im (toD n_)), some (.im (toD small_)), some (.im (toD total_)), none, none, none, none]) total_ L trivial hi_ (fun _ => gx_name) (.same (.same (.same (.same (.same (.same (.same (.same (.same (.same (.same (.same (.same (.same (.same .nil))))))))))))))) (fun _ => rfl) ?_ ?_)
    · intro F2 L2 hB2 x896 r2 s_ N_ hN2
      revert s_; intro total_
      show Blk _ _ _ _ _ [some (.im (toD script_)), some (.im (toD prime_)), some (.im (toD a_)), some (.im (toD b_)), some (.im (toD first_)), some (.im (toD second_)), some (.im (toD curve_)), some (.im (toD m_)), some (.im (toD n_)), some (.im (toD small_)), some (.im (toD total_)), some (.im (toD x896)), none, none, none] (m_law_l2 prime_ a_ first_ (m_law_k7 prime_ a_ b_ first_ second_ curve_ m_ n_ small_) (x896 :: r2) total_)
      rw [m_law_l2]
      show Blk _ _ _ _ _ _ ((fun (k_ : Int) => _) x896)
      generalize x896 = k_
      show Blk _ _ _ _ _ [some (.im (toD script_)), some (.im (toD prime_)), some (.im (toD a_)), some (.im (toD b_)), some (.im (toD first_)), some (.im (toD second_)), some (.im (toD curve_)), some (.im (toD m_)), some (.im (toD n_)), some (.im (toD small_)), some (.im (toD total_)), some (.im (toD k_)), none, none, none] _
      have hs_ := ((ev_call (f := (fun (p : Int × Int × (Option (T2 Int Int)) × (Option (T2 Int Int)) × Unit) => m_u_law_add p.1 p.2.1 p.2.2.1 p.2.2.2.1)) (ea_cons (ev_var (i := 1) (x := prime_) rfl) (ea_cons (ev_var (i := 2) (x := a_) rfl) (ea_cons (ev_var (i := 10) (x := total_) rfl) (ea_cons (ev_as (ev_var (i := 4) (x := first_) rfl) some (fun _ => rfl) rfl) ea_nil))))) : EvX K (W0 E) [some (.im (toD script_)), some (.im (toD prime_)), some (.im (toD a_)), some (.im (toD b_)), some (.im (toD first_)), some (.im (toD second_)), some (.im (toD curve_)), some (.im (toD m_)), some (.im (toD n_)), some (.im (toD small_)), some (.im (toD total_)), some (.im (toD k_)), none, none, none] _ _)
      refine blk_set (i := 10) L2 trivial hs_ fun total_ => ?_
      show Blk _ _ _ _ _ [some (.im (toD script_)), some (.im (toD prime_)), some (.im (toD a_)), some (.im (toD b_)), some (.im (toD first_)), some (.im (toD second_)), some (.im (toD curve_)), some (.im (toD m_)), some (.im (toD n_)), some (.im (toD small_)), some (.im (toD total_)), some (.im (toD k_)), none, none, none] _
      try refine Blk.nx ?_
      exact (hN2 total_).weak (.same (.same (.same (.same (.same (.same (.same (.same (.same (.same (.same (.drop (.same (.same (.same .nil)))))))))))))))
    · intro total_
      show Blk _ _ _ _ _ [some (.im (toD script_)), some (.im (toD prime_)), some (.im (toD a_)), some (.im (toD b_)), some (.im (toD first_)), some (.im (toD second_)), some (.im (toD curve_)), some (.im (toD m_)), some (.im (toD n_)), some (.im (toD small_)), some (.im (toD total_)), none, none, none, none] ((m_law_k7 prime_ a_ b_ first_ second_ curve_ m_ n_ small_) total_)
      unfold m_law_k7
      try refine Blk.nx ?_
      have ht_ := ((et_or (et_test (ev_op opx_neD mild_need (ev_meth (c := "Curve") (m := "multiply") (ks := ["prime", "a", "b"]) (f := (fun (p : O_Curve × Int × (Option (T2 Int Int)) × Unit) => m_Curve_multiply p.1 p.2.1 p.2.2.1)) (ev_var (i := 6) (x := curve_) rfl) (ea_cons (ev_var (i := 9) (x := small_) rfl) (ea_cons (ev_as (ev_var (i := 4) (x := first_) rfl) some (fun _ => rfl) rfl) ea_nil)) (by decide +kernel) (fun _ => ⟨_, rfl⟩)) (ev_var (i := 10) (x := total_) rfl))) (et_test (ev_op opx_neD mild_need (ev_meth (c := "Curve") (m := "multiply") (ks := ["prime", "a", "b"]) (f := (fun (p : O_Curve × Int × (Option (T2 Int Int)) × Unit) => m_Curve_multiply p.1 p.2.1 p.2.2.1)) (ev_var (i := 6) (x := curve_) rfl) (ea_cons (ev_un (g := fun i => -i) (ev_var (i := 9) (x := small_) rfl)) (ea_cons (ev_as (ev_var (i := 4) (x := first_) rfl) some (fun _ => rfl) rfl) ea_nil)) (by decide +kernel) (fun _ => ⟨_, rfl⟩)) (ev_meth (c := "Curve") (m := "negate") (ks := ["prime", "a", "b"]) (f := (fun (p : O_Curve × (Option (T2 Int Int)) × Unit) => m_Curve_negate p.1 p.2.1)) (ev_var (i := 6) (x := curve_) rfl) (ea_cons (ev_var (i := 10) (x := total_) rfl) ea_nil) (by decide +kernel) (fun _ => ⟨_, rfl⟩))))) : EvT K (W0 E) [some (.im (toD script_)), some (.im (toD prime_)), some (.im (toD a_)), some (.im (toD b_)), some (.im (toD first_)), some (.im (toD second_)), some (.im (toD curve_)), some (.im (toD m_)), some (.im (toD n_)), some (.im (toD small_)), some (.im (toD total_)), none, none, none, none] _ _)
      refine blk_seq (blk_if2 L trivial ht_ ?_ ?_)
      · have hr_ := ((ev_bl (b := false)) : EvX K (W0 E) [some (.im (toD script_)), some (.im (toD prime_)), some (.im (toD a_)), some (.im (toD b_)), some (.im (toD first_)), some (.im (toD second_)), some (.im (toD curve_)), some (.im (toD m_)), some (.im (toD n_)), some (.im (toD small_)), some (.im (toD total_)), none, none, none, none] _ _)
        exact blk_ret L trivial hr_
      · refine blk_nil ?_
        try refine Blk.nx ?_
        have hs_ := ((ev_meth (c := "Curve") (m := "multiply") (ks := ["prime", "a", "b"]) (f := (fun (p : O_Curve × Int × (Option (T2 Int Int)) × Unit) => m_Curve_multiply p.1 p.2.1 p.2.2.1)) (ev_var (i := 6) (x := curve_) rfl) (ea_cons (ev_var (i := 7) (x := m_) rfl) (ea_cons (ev_as (ev_var (i := 4) (x := first_) rfl) some (fun _ => rfl) rfl) ea_nil)) (by decide +kernel) (fun _ => ⟨_, rfl⟩)) : EvX K (W0 E) [some (.im (toD script_)), some (.im (toD prime_)), some (.im (toD a_)), some (.im (toD b_)), some (.im (toD first_)), some (.im (toD second_)), some (.im (toD curve_)), some (.im (toD m_)), some (.im (toD n_)), some (.im (toD small_)), some (.im (toD total_)), none, none, none, none] _ _)
        refine blk_seq (blk_set (i := 12) L trivial hs_ fun one_ => ?_)
        show Blk _ _ _ _ _ [some (.im (toD script_)), some (.im (toD prime_)), some (.im (toD a_)), some (.im (toD b_)), some (.im (toD first_)), some (.im (toD second_)), some (.im (toD curve_)), some (.im (toD m_)), some (.im (toD n_)), some (.im (toD small_)), some (.im (toD total_)), none, some (.im (toD one_)), none, none] _
        try refine Blk.nx ?_
        have hs_ := ((ev_meth (c := "Curve") (m := "multiply") (ks := ["prime", "a", "b"]) (f := (fun (p : O_Curve × Int × (Option (T2 Int Int)) × Unit) => m_Curve_multiply p.1 p.2.1 p.2.2.1)) (ev_var (i := 6) (x := curve_) rfl) (ea_cons (ev_var (i := 8) (x := n_) rfl) (ea_cons (ev_as (ev_var (i := 4) (x := first_) rfl) some (fun _ => rfl) rfl) ea_nil)) (by decide +kernel) (fun _ => ⟨_, rfl⟩)) : EvX K (W0 E) [some (.im (toD script_)), some (.im (toD prime_)), some (.im (toD a_)), some (.im (toD b_)), some (.im (toD first_)), some (.im (toD second_)), some (.im (toD curve_)), some (.im (toD m_)), some (.im (toD n_)), some (.im (toD small_)), some (.im (toD total_)), none, some (.im (toD one_)), none, none] _ _)
        refine blk_seq (blk_set (i := 13) L trivial hs_ fun other_ => ?_)
        show Blk _ _ _ _ _ [some (.im (toD script_)), some (.im (toD prime_)), some (.im (toD a_)), some (.im (toD b_)), some (.im (toD first_)), some (.im (toD second_)), some (.im (toD curve_)), some (.im (toD m_)), some (.im (toD n_)), some (.im (toD small_)), some (.im (toD total_)), none, some (.im (toD one_)), some (.im (toD other_)), none] _
        try refine Blk.nx ?_
        have ht_ := ((et_or (et_not (et_B (ev_call (f := (fun (p : Int × Int × Int × D × Unit) => m_u_law_on p.1 p.2.1 p.2.2.1 p.2.2.2.1)) (ea_cons (ev_var (i := 1) (x := prime_) rfl) (ea_cons (ev_var (i := 2) (x := a_) rfl) (ea_cons (ev_var (i := 3) (x := b_) rfl) (ea_cons (ev_as (ev_var (i := 12) (x := one_) rfl) toD (fun _ => rfl) rfl) ea_nil))))))) (et_test (ev_op opx_neD mild_need (ev_meth (c := "Curve") (m := "multiply") (ks := ["prime", "a", "b"]) (f := (fun (p : O_Curve × Int × (Option (T2 Int Int)) × Unit) => m_Curve_multiply p.1 p.2.1 p.2.2.1)) (ev_var (i := 6) (x := curve_) rfl) (ea_cons (ev_op (opx_I0 (g := fun i j => i + j)) mild_ok (ev_var (i := 7) (x := m_) rfl) (ev_var (i := 8) (x := n_) rfl)) (ea_cons (ev_as (ev_var (i := 4) (x := first_) rfl) some (fun _ => rfl) rfl) ea_nil)) (by decide +kernel) (fun _ => ⟨_, rfl⟩)) (ev_meth (c := "Curve") (m := "add") (ks := ["prime", "a", "b"]) (f := (fun (p : O_Curve × (Option (T2 Int Int)) × (Option (T2 Int Int)) × Unit) => m_Curve_add p.1 p.2.1 p.2.2.1)) (ev_var (i := 6) (x := curve_) rfl) (ea_cons (ev_var (i := 12) (x := one_) rfl) (ea_cons (ev_var (i := 13) (x := other_) rfl) ea_nil)) (by decide +kernel) (fun _ => ⟨_, rfl⟩))))) : EvT K (W0 E) [some (.im (toD script_)), some (.im (toD prime_)), some (.im (toD a_)), some (.im (toD b_)), some (.im (toD first_)), some (.im (toD second_)), some (.im (toD curve_)), some (.im (toD m_)), some (.im (toD n_)), some (.im (toD small_)), some (.im (toD total_)), none, some (.im (toD one_)), some (.im (toD other_)), none] _ _)
        refine blk_seq (blk_if2 L trivial ht_ ?_ ?_)
        · have hr_ := ((ev_bl (b := false)) : EvX K (W0 E) [some (.im (toD script_)), some (.im (toD prime_)), some (.im (toD a_)), some (.im (toD b_)), some (.im (toD first_)), some (.im (toD second_)), some (.im (toD curve_)), some (.im (toD m_)), some (.im (toD n_)), some (.im (toD small_)), some (.im (toD total_)), none, some (.im (toD one_)), some (.im (toD other_)), none] _ _)
          exact blk_ret L trivial hr_
        · refine blk_nil ?_
          try refine Blk.nx ?_
          have hs_ := ((ev_meth (c := "Curve") (m := "multiply") (ks := ["prime", "a", "b"]) (f := (fun (p : O_Curve × Int × (Option (T2 Int Int)) × Unit) => m_Curve_multiply p.1 p.2.1 p.2.2.1)) (ev_var (i := 6) (x := curve_) rfl) (ea_cons (ev_op (opx_I (C := CMulX) (g := fun i j => i * j)) mild_need (ev_var (i := 7) (x := m_) rfl) (ev_var (i := 8) (x := n_) rfl)) (ea_cons (ev_as (ev_var (i := 4) (x := first_) rfl) some (fun _ => rfl) rfl) ea_nil)) (by decide +kernel) (fun _ => ⟨_, rfl⟩)) : EvX K (W0 E) [some (.im (toD script_)), some (.im (toD prime_)), some (.im (toD a_)), some (.im (toD b_)), some (.im (toD first_)), some (.im (toD second_)), some (.im (toD curve_)), some (.im (toD m_)), some (.im (toD n_)), some (.im (toD small_)), some (.im (toD total_)), none, some (.im (toD one_)), some (.im (toD other_)), none] _ _)
          refine blk_seq (blk_set (i := 14) L trivial hs_ fun whole_ => ?_)
          show Blk _ _ _ _ _ [some (.im (toD script_)), some (.im (toD prime_)), some (.im (toD a_)), some (.im (toD b_)), some (.im (toD first_)), some (.im (toD second_)), some (.im (toD curve_)), some (.im (toD m_)), some (.im (toD n_)), some (.im (toD small_)), some (.im (toD total_)), none, some (.im (toD one_)), some (.im (toD other_)), some (.im (toD whole_))] _
          try refine Blk.nx ?_
          have ht_ := ((et_or (et_test (ev_op opx_neD mild_need (ev_meth (c := "Curve") (m := "multiply") (ks := ["prime", "a", "b"]) (f := (fun (p : O_Curve × Int × (Option (T2 Int Int)) × Unit) => m_Curve_multiply p.1 p.2.1 p.2.2.1)) (ev_var (i := 6) (x := curve_) rfl) (ea_cons (ev_var (i := 8) (x := n_) rfl) (ea_cons (ev_var (i := 12) (x := one_) rfl) ea_nil)) (by decide +kernel) (fun _ => ⟨_, rfl⟩)) (ev_var (i := 14) (x := whole_) rfl))) (et_test (ev_op opx_neD mild_need (ev_meth (c := "Curve") (m := "multiply") (ks := ["prime", "a", "b"]) (f := (fun (p : O_Curve × Int × (Option (T2 Int Int)) × Unit) => m_Curve_multiply p.1 p.2.1 p.2.2.1)) (ev_var (i := 6) (x := curve_) rfl) (ea_cons (ev_var (i := 7) (x := m_) rfl) (ea_cons (ev_var (i := 13) (x := other_) rfl) ea_nil)) (by decide +kernel) (fun _ => ⟨_, rfl⟩)) (ev_var (i := 14) (x := whole_) rfl)))) : EvT K (W0 E) [some (.im (toD script_)), some (.im (toD prime_)), some (.im (toD a_)), some (.im (toD b_)), some (.im (toD first_)), some (.im (toD second_)), some (.im (toD curve_)), some (.im (toD m_)), some (.im (toD n_)), some (.im (toD small_)), some (.im (toD total_)), none, some (.im (toD one_)), some (.im (toD other_)), some (.im (toD whole_))] _ _)
          refine blk_seq (blk_if2 L trivial ht_ ?_ ?_)
          · have hr_ := ((ev_bl (b := false)) : EvX K (W0 E) [some (.im (toD script_)), some (.im (toD prime_)), some (.im (toD a_)), some (.im (toD b_)), some (.im (toD first_)), some (.im (toD second_)), some (.im (toD curve_)), some (.im (toD m_)), some (.im (toD n_)), some (.im (toD small_)), some (.im (toD total_)), none, some (.im (toD one_)), some (.im (toD other_)), some (.im (toD whole_))] _ _)
            exact blk_ret L trivial hr_
          · refine blk_nil ?_
            try refine Blk.nx ?_
            have ht_ := ((et_test (ev_op opx_neD mild_need (ev_meth (c := "Curve") (m := "multiply") (ks := ["prime", "a", "b"]) (f := (fun (p : O_Curve × Int × (Option (T2 Int Int)) × Unit) => m_Curve_multiply p.1 p.2.1 p.2.2.1)) (ev_var (i := 6) (x := curve_) rfl) (ea_cons (ev_var (i := 7) (x := m_) rfl) (ea_cons (ev_meth (c := "Curve") (m := "add") (ks := ["prime", "a", "b"]) (f := (fun (p : O_Curve × (Option (T2 Int Int)) × (Option (T2 Int Int)) × Unit) => m_Curve_add p.1 p.2.1 p.2.2.1)) (ev_var (i := 6) (x := curve_) rfl) (ea_cons (ev_as (ev_var (i := 4) (x := first_) rfl) some (fun _ => rfl) rfl) (ea_cons (ev_as (ev_var (i := 5) (x := second_) rfl) some (fun _ => rfl) rfl) ea_nil)) (by decide +kernel) (fun _ => ⟨_, rfl⟩)) ea_nil)) (by decide +kernel) (fun _ => ⟨_, rfl⟩)) (ev_meth (c := "Curve") (m := "add") (ks := ["prime", "a", "b"]) (f := (fun (p : O_Curve × (Option (T2 Int Int)) × (Option (T2 Int Int)) × Unit) => m_Curve_add p.1 p.2.1 p.2.2.1)) (ev_var (i := 6) (x := curve_) rfl) (ea_cons (ev_var (i := 12) (x := one_) rfl) (ea_cons (ev_meth (c := "Curve") (m := "multiply") (ks := ["prime", "a", "b"]) (f := (fun (p : O_Curve × Int × (Option (T2 Int Int)) × Unit) => m_Curve_multiply p.1 p.2.1 p.2.2.1)) (ev_var (i := 6) (x := curve_) rfl) (ea_cons (ev_var (i := 7) (x := m_) rfl) (ea_cons (ev_as (ev_var (i := 5) (x := second_) rfl) some (fun _ => rfl) rfl) ea_nil)) (by decide +kernel) (fun _ => ⟨_, rfl⟩)) ea_nil)) (by decide +kernel) (fun _ => ⟨_, rfl⟩)))) : EvT K (W0 E) [some (.im (toD script_)), some (.im (toD prime_)), some (.im (toD a_)), some (.im (toD b_)), some (.im (toD first_)), some (.im (toD second_)), some (.im (toD curve_)), some (.im (toD m_)), some (.im (toD n_)), some (.im (toD small_)), some (.im (toD total_)), none, some (.im (toD one_)), some (.im (toD other_)), some (.im (toD whole_))] _ _)
            refine blk_seq (blk_if2 L trivial ht_ ?_ ?_)
            · have hr_ := ((ev_bl (b := false)) : EvX K (W0 E) [some (.im (toD script_)), some (.im (toD prime_)), some (.im (toD a_)), some (.im (toD b_)), some (.im (toD first_)), some (.im (toD second_)), some (.im (toD curve_)), some (.im (toD m_)), some (.im (toD n_)), some (.im (toD small_)), some (.im (toD total_)), none, some (.im (toD one_)), some (.im (toD other_)), some (.im (toD whole_))] _ _)
              exact blk_ret L trivial hr_
            · refine blk_nil ?_
              try refine Blk.nx ?_
              have hr_ := ((ev_andV (ev_op opx_isN mild_ok (ev_meth (c := "Curve") (m := "multiply") (ks := ["prime", "a", "b"]) (f := (fun (p : O_Curve × Int × (Option (T2 Int Int)) × Unit) => m_Curve_multiply p.1 p.2.1 p.2.2.1)) (ev_var (i := 6) (x := curve_) rfl) (ea_cons (ev_var (i := 7) (x := m_) rfl) (ea_cons (ev_noneO (α := (T2 Int Int))) ea_nil)) (by decide +kernel) (fun _ => ⟨_, rfl⟩)) ev_non) (ev_andV (ev_op opx_eqD mild_need (ev_meth (c := "Curve") (m := "multiply") (ks := ["prime", "a", "b"]) (f := (fun (p : O_Curve × Int × (Option (T2 Int Int)) × Unit) => m_Curve_multiply p.1 p.2.1 p.2.2.1)) (ev_var (i := 6) (x := curve_) rfl) (ea_cons (ev_un (g := fun i => -i) (ev_var (i := 7) (x := m_) rfl)) (ea_cons (ev_as (ev_var (i := 4) (x := first_) rfl) some (fun _ => rfl) rfl) ea_nil)) (by decide +kernel) (fun _ => ⟨_, rfl⟩)) (ev_meth (c := "Curve") (m := "negate") (ks := ["prime", "a", "b"]) (f := (fun (p : O_Curve × (Option (T2 Int Int)) × Unit) => m_Curve_negate p.1 p.2.1)) (ev_var (i := 6) (x := curve_) rfl) (ea_cons (ev_var (i := 12) (x := one_) rfl) ea_nil) (by decide +kernel) (fun _ => ⟨_, rfl⟩))) (ev_op opx_isN mild_ok (ev_meth (c := "Curve") (m := "multiply") (ks := ["prime", "a", "b"]) (f := (fun (p : O_Curve × Int × (Option (T2 Int Int)) × Unit) => m_Curve_multiply p.1 p.2.1 p.2.2.1)) (ev_var (i := 6) (x := curve_) rfl) (ea_cons (ev_int (i := 0)) (ea_cons (ev_as (ev_var (i := 5) (x := second_) rfl) some (fun _ => rfl) rfl) ea_nil)) (by decide +kernel) (fun _ => ⟨_, rfl⟩)) ev_non))) : EvX K (W0 E) [some (.im (toD script_)), some (.im (toD prime_)), some (.im (toD a_)), some (.im (toD b_)), some (.im (toD first_)), some (.im (toD second_)), some (.im (toD curve_)), some (.im (toD m_)), some (.im (toD n_)), some (.im (toD small_)), some (.im (toD total_)), none, some (.im (toD one_)), some (.im (toD other_)), some (.im (toD whole_))] _ _)
              exact blk_ret L trivial hr_
/-! ### the head -/
def dfs : List He.DefD := [⟨("multiply_by_bits", none), "multiply_by_bits", "multiply_by_bits", defArgs s_multiply_by_bits, defBody s_multiply_by_bits, defScope s_multiply_by_bits, [], []⟩, ⟨("bezout", none), "bezout", "bezout", defArgs s_bezout, defBody s_bezout, defScope s_bezout, [], []⟩, ⟨("inverse", none), "inverse", "inverse", defArgs s_inverse, defBody s_inverse, defScope s_inverse, [], []⟩, ⟨("Curve", some "__init__"), "__init__", "Curve.__init__", defArgs s_Curve_init, defBody s_Curve_init, defScope s_Curve_init, [], []⟩, ⟨("Curve", some "negate"), "negate", "Curve.negate", defArgs s_Curve_negate, defBody s_Curve_negate, defScope s_Curve_negate, [], []⟩, ⟨("Curve", some "add"), "add", "Curve.add", defArgs s_Curve_add, defBody s_Curve_add, defScope s_Curve_add, [], []⟩, ⟨("Curve", some "_slope"), "_slope", "Curve._slope", defArgs s_Curve_u_slope, defBody s_Curve_u_slope, defScope s_Curve_u_slope, [], []⟩, ⟨("Curve", some "multiply"), "multiply", "Curve.multiply", defArgs s_Curve_multiply, defBody s_Curve_multiply, defScope s_Curve_multiply, [], []⟩, ⟨("_law_cell", none), "_law_cell", "_law_cell", defArgs s_u_law_cell, defBody s_u_law_cell, defScope s_u_law_cell, [], []⟩, ⟨("_law_is_integer", none), "_law_is_integer", "_law_is_integer", defArgs s_u_law_is_integer, defBody s_u_law_is_integer, defScope s_u_law_is_integer, [], []⟩, ⟨("_law_is_prime", none), "_law_is_prime", "_law_is_prime", defArgs s_u_law_is_prime, defBody s_u_law_is_prime, defScope s_u_law_is_prime, [], []⟩, ⟨("_law_prime", none), "_law_prime", "_law_prime", defArgs s_u_law_prime, defBody s_u_law_prime, defScope s_u_law_prime, [], []⟩, ⟨("_law_power", none), "_law_power", "_law_power", defArgs s_u_law_power, defBody s_u_law_power, defScope s_u_law_power, [], []⟩, ⟨("_law_inverse", none), "_law_inverse", "_law_inverse", defArgs s_u_law_inverse, defBody s_u_law_inverse, defScope s_u_law_inverse, [], []⟩, ⟨("_law_residue", none), "_law_residue", "_law_residue", defArgs s_u_law_residue, defBody s_u_law_residue, defScope s_u_law_residue, [], []⟩, ⟨("_law_curve_and_points", none), "_law_curve_and_points", "_law_curve_and_points", defArgs s_u_law_curve_and_points, defBody s_u_law_curve_and_points, defScope s_u_law_curve_and_points, [], []⟩, ⟨("_law_add", none), "_law_add", "_law_add", defArgs s_u_law_add, defBody s_u_law_add, defScope s_u_law_add, [], []⟩, ⟨("_law_on", none), "_law_on", "_law_on", defArgs s_u_law_on, defBody s_u_law_on, defScope s_u_law_on, [], []⟩, ⟨("_law_singular", none), "_law_singular", "_law_singular", defArgs s_u_law_singular, defBody s_u_law_singular, defScope s_u_law_singular, [], []⟩, ⟨("_law_factor", none), "_law_factor", "_law_factor", defArgs s_u_law_factor, defBody s_u_law_factor, defScope s_u_law_factor, [], []⟩, ⟨("law", none), "law", "law", defArgs s_law, defBody s_law, defScope s_law, [], []⟩]
def fas : List He.Fa := [.glo "multiply_by_bits", .glo "bezout", .glo "inverse", .glo "_law_cell", .glo "_law_is_integer", .glo "_law_is_prime", .glo "_law_prime", .glo "_law_power", .glo "_law_inverse", .glo "_law_residue", .glo "_law_curve_and_points", .glo "_law_add", .glo "_law_on", .glo "_law_singular", .glo "_law_factor", .glo "law", .glo "Curve", .cls "Curve", .noat "Curve" "a", .noat "Curve" "b", .noat "Curve" "prime", .meth "Curve" "_slope", .meth "Curve" "add", .meth "Curve" "multiply", .meth "Curve" "negate", .mkr "Curve", .glo "CurveError", .glo "OutOfRange", .glo "NoInverse", .glo "Refused", .exc "NoInverse", .exc "OutOfRange", .exc "Refused", .free "abs", .free "bool", .free "int", .free "isinstance", .free "len", .free "range", .free "tuple", .exm "CurveError" "CurveError" true, .exm "CurveError" "OutOfRange" false, .exm "CurveError" "NoInverse" false, .exm "CurveError" "Refused" false, .exm "OutOfRange" "CurveError" true, .exm "OutOfRange" "OutOfRange" true, .exm "OutOfRange" "NoInverse" false, .exm "OutOfRange" "Refused" false, .exm "NoInverse" "CurveError" true, .exm "NoInverse" "OutOfRange" false, .exm "NoInverse" "NoInverse" true, .exm "NoInverse" "Refused" false, .exm "Refused" "CurveError" true, .exm "Refused" "OutOfRange" false, .exm "Refused" "NoInverse" false, .exm "Refused" "Refused" true]
def exB (K : PySem.W.Frag) : Bool := clsB K errs subE
abbrev Rw : PySem.W.OpenRow := PySem.W.OpenLaw.row PySem.Challenge.rw_curveseal_k11_multiples_of_points
abbrev hk : PySem.W.Hook := He.hookX 5 fas dfs [] [] exB
def ob (s : PySem.W.SharedT) : He.AlX := He.obsX 5 fas dfs [] [] exB (HandSHeadRun.getT s)
theorem ob_eq (s : PySem.W.SharedT) : ob s = hk.obs s.abs := He.obsX_eq (HandSHeadRun.getT_eq s)
theorem run_ (w : World) : HandSHeadRun.RunEq Rw (PySem.W.view Rw.prog [30]) hk ob 20000 ["multiply_by_bits", "is_whole", "is_residue", "is_residue_pair", "bezout", "inverse", "_law_cell", "_law_is_integer", "_law_is_prime", "_law_prime", "_law_power", "_law_inverse", "_law_residue", "_law_curve_and_points", "_law_add", "_law_on", "_law_singular", "_law_factor", "_wall", "CurveError", "OutOfRange", "NoInverse", "Refused", "Curve"] w := by
  intro os
  kernel_rfl
theorem facts_of {K : PySem.W.Frag} {h : Heap} {w : World} {mg : Str → Option Value} (X : K.In h) (G : h.Ns mainGlobals mg) (c : He.SaysX fas dfs [] [] exB w h K) : Facts K mg := by
  have cd : He.SaysD fas dfs K := c.t.d
  exact {
    d_multiply_by_bits := cd.def_ 0 (d := ⟨("multiply_by_bits", none), "multiply_by_bits", "multiply_by_bits", defArgs s_multiply_by_bits, defBody s_multiply_by_bits, defScope s_multiply_by_bits, [], []⟩) rfl
    g_multiply_by_bits := He.glo_ok X G (cd.fact 0 rfl)
    d_bezout := cd.def_ 1 (d := ⟨("bezout", none), "bezout", "bezout", defArgs s_bezout, defBody s_bezout, defScope s_bezout, [], []⟩) rfl
    g_bezout := He.glo_ok X G (cd.fact 1 rfl)
    d_inverse := cd.def_ 2 (d := ⟨("inverse", none), "inverse", "inverse", defArgs s_inverse, defBody s_inverse, defScope s_inverse, [], []⟩) rfl
    g_inverse := He.glo_ok X G (cd.fact 2 rfl)
    d_Curve_init := cd.def_ 3 (d := ⟨("Curve", some "__init__"), "__init__", "Curve.__init__", defArgs s_Curve_init, defBody s_Curve_init, defScope s_Curve_init, [], []⟩) rfl
    d_Curve_negate := cd.def_ 4 (d := ⟨("Curve", some "negate"), "negate", "Curve.negate", defArgs s_Curve_negate, defBody s_Curve_negate, defScope s_Curve_negate, [], []⟩) rfl
    d_Curve_add := cd.def_ 5 (d := ⟨("Curve", some "add"), "add", "Curve.add", defArgs s_Curve_add, defBody s_Curve_add, defScope s_Curve_add, [], []⟩) rfl
    d_Curve_u_slope := cd.def_ 6 (d := ⟨("Curve", some "_slope"), "_slope", "Curve._slope", defArgs s_Curve_u_slope, defBody s_Curve_u_slope, defScope s_Curve_u_slope, [], []⟩) rfl
    d_Curve_multiply := cd.def_ 7 (d := ⟨("Curve", some "multiply"), "multiply", "Curve.multiply", defArgs s_Curve_multiply, defBody s_Curve_multiply, defScope s_Curve_multiply, [], []⟩) rfl
    d_u_law_cell := cd.def_ 8 (d := ⟨("_law_cell", none), "_law_cell", "_law_cell", defArgs s_u_law_cell, defBody s_u_law_cell, defScope s_u_law_cell, [], []⟩) rfl
    g_u_law_cell := He.glo_ok X G (cd.fact 3 rfl)
    d_u_law_is_integer := cd.def_ 9 (d := ⟨("_law_is_integer", none), "_law_is_integer", "_law_is_integer", defArgs s_u_law_is_integer, defBody s_u_law_is_integer, defScope s_u_law_is_integer, [], []⟩) rfl
    g_u_law_is_integer := He.glo_ok X G (cd.fact 4 rfl)
    d_u_law_is_prime := cd.def_ 10 (d := ⟨("_law_is_prime", none), "_law_is_prime", "_law_is_prime", defArgs s_u_law_is_prime, defBody s_u_law_is_prime, defScope s_u_law_is_prime, [], []⟩) rfl
    g_u_law_is_prime := He.glo_ok X G (cd.fact 5 rfl)
    d_u_law_prime := cd.def_ 11 (d := ⟨("_law_prime", none), "_law_prime", "_law_prime", defArgs s_u_law_prime, defBody s_u_law_prime, defScope s_u_law_prime, [], []⟩) rfl
    g_u_law_prime := He.glo_ok X G (cd.fact 6 rfl)
    d_u_law_power := cd.def_ 12 (d := ⟨("_law_power", none), "_law_power", "_law_power", defArgs s_u_law_power, defBody s_u_law_power, defScope s_u_law_power, [], []⟩) rfl
    g_u_law_power := He.glo_ok X G (cd.fact 7 rfl)
    d_u_law_inverse := cd.def_ 13 (d := ⟨("_law_inverse", none), "_law_inverse", "_law_inverse", defArgs s_u_law_inverse, defBody s_u_law_inverse, defScope s_u_law_inverse, [], []⟩) rfl
    g_u_law_inverse := He.glo_ok X G (cd.fact 8 rfl)
    d_u_law_residue := cd.def_ 14 (d := ⟨("_law_residue", none), "_law_residue", "_law_residue", defArgs s_u_law_residue, defBody s_u_law_residue, defScope s_u_law_residue, [], []⟩) rfl
    g_u_law_residue := He.glo_ok X G (cd.fact 9 rfl)
    d_u_law_curve_and_points := cd.def_ 15 (d := ⟨("_law_curve_and_points", none), "_law_curve_and_points", "_law_curve_and_points", defArgs s_u_law_curve_and_points, defBody s_u_law_curve_and_points, defScope s_u_law_curve_and_points, [], []⟩) rfl
    g_u_law_curve_and_points := He.glo_ok X G (cd.fact 10 rfl)
    d_u_law_add := cd.def_ 16 (d := ⟨("_law_add", none), "_law_add", "_law_add", defArgs s_u_law_add, defBody s_u_law_add, defScope s_u_law_add, [], []⟩) rfl
    g_u_law_add := He.glo_ok X G (cd.fact 11 rfl)
    d_u_law_on := cd.def_ 17 (d := ⟨("_law_on", none), "_law_on", "_law_on", defArgs s_u_law_on, defBody s_u_law_on, defScope s_u_law_on, [], []⟩) rfl
    g_u_law_on := He.glo_ok X G (cd.fact 12 rfl)
    d_u_law_singular := cd.def_ 18 (d := ⟨("_law_singular", none), "_law_singular", "_law_singular", defArgs s_u_law_singular, defBody s_u_law_singular, defScope s_u_law_singular, [], []⟩) rfl
    g_u_law_singular := He.glo_ok X G (cd.fact 13 rfl)
    d_u_law_factor := cd.def_ 19 (d := ⟨("_law_factor", none), "_law_factor", "_law_factor", defArgs s_u_law_factor, defBody s_u_law_factor, defScope s_u_law_factor, [], []⟩) rfl
    g_u_law_factor := He.glo_ok X G (cd.fact 14 rfl)
    d_law := cd.def_ 20 (d := ⟨("law", none), "law", "law", defArgs s_law, defBody s_law, defScope s_law, [], []⟩) rfl
    g_law := He.glo_ok X G (cd.fact 15 rfl)
    g_Curve := He.glo_ok X G (cd.fact 16 rfl)
    cl_Curve := He.cls_ok (x := "Curve") (cd.fact 17 rfl)
    nf_Curve_a := He.noat_ok (x := "Curve") (f := "a") (cd.fact 18 rfl)
    nf_Curve_b := He.noat_ok (x := "Curve") (f := "b") (cd.fact 19 rfl)
    nf_Curve_prime := He.noat_ok (x := "Curve") (f := "prime") (cd.fact 20 rfl)
    mt_Curve_u_slope := He.meth_ok (x := "Curve") (m := "_slope") (cd.fact 21 rfl)
    mt_Curve_add := He.meth_ok (x := "Curve") (m := "add") (cd.fact 22 rfl)
    mt_Curve_multiply := He.meth_ok (x := "Curve") (m := "multiply") (cd.fact 23 rfl)
    mt_Curve_negate := He.meth_ok (x := "Curve") (m := "negate") (cd.fact 24 rfl)
    mk_Curve := He.mkr_ok (x := "Curve") (cd.fact 25 rfl)
    g_CurveError := He.glo_ok X G (cd.fact 26 rfl)
    g_OutOfRange := He.glo_ok X G (cd.fact 27 rfl)
    g_NoInverse := He.glo_ok X G (cd.fact 28 rfl)
    g_Refused := He.glo_ok X G (cd.fact 29 rfl)
    x_NoInverse := (He.exc_ok (x := "NoInverse") (cd.fact 30 rfl)).1
    k_NoInverse := (He.exc_ok (x := "NoInverse") (cd.fact 30 rfl)).2.1
    b_NoInverse := (He.exc_ok (x := "NoInverse") (cd.fact 30 rfl)).2.2.1
    t_NoInverse := (He.exc_ok (x := "NoInverse") (cd.fact 30 rfl)).2.2.2
    x_OutOfRange := (He.exc_ok (x := "OutOfRange") (cd.fact 31 rfl)).1
    k_OutOfRange := (He.exc_ok (x := "OutOfRange") (cd.fact 31 rfl)).2.1
    b_OutOfRange := (He.exc_ok (x := "OutOfRange") (cd.fact 31 rfl)).2.2.1
    t_OutOfRange := (He.exc_ok (x := "OutOfRange") (cd.fact 31 rfl)).2.2.2
    x_Refused := (He.exc_ok (x := "Refused") (cd.fact 32 rfl)).1
    k_Refused := (He.exc_ok (x := "Refused") (cd.fact 32 rfl)).2.1
    b_Refused := (He.exc_ok (x := "Refused") (cd.fact 32 rfl)).2.2.1
    t_Refused := (He.exc_ok (x := "Refused") (cd.fact 32 rfl)).2.2.2
    n_abs := He.free_ok X G (cd.fact 33 rfl)
    n_bool := He.free_ok X G (cd.fact 34 rfl)
    n_int := He.free_ok X G (cd.fact 35 rfl)
    n_isinstance := He.free_ok X G (cd.fact 36 rfl)
    n_len := He.free_ok X G (cd.fact 37 rfl)
    n_range := He.free_ok X G (cd.fact 38 rfl)
    n_tuple := He.free_ok X G (cd.fact 39 rfl)
    cls := cls_of c.more }
end Mi
namespace Mi
open PySem PySem.Spec L2
/-! ### the law's own helpers -/
theorem cell_ok (ns : List Int) (k : Nat) : m_u_law_cell ns (k : Int) = .ok (ns.getD k 0) := by
  unfold m_u_law_cell
  simp only [Res.bind_ok, cond_dec]
  by_cases h : (k : Int) < (ns.length : Int)
  · rw [if_pos h]
    have h' : k < ns.length := by omega
    rw [idx_nat (List.getElem?_eq_getElem h')]
    simp [Res.bind_ok, h']
  · rw [if_neg h]
    have h' : ¬ k < ns.length := by omega
    simp [h']
theorem cell_bits {ns : List Int} {B : Nat} (hb : ∀ i ∈ ns, Builtin.Int.intBits i ≤ B) (k : Nat) : (ns.getD k 0).natAbs < 2 ^ B := by
  rw [List.getD_eq_getElem?_getD]
  by_cases h : k < ns.length
  · rw [List.getElem?_eq_getElem h]
    exact ibits_le (hb _ (List.getElem_mem h))
  · rw [List.getElem?_eq_none (by omega)]
    exact Nat.two_pow_pos _
theorem isint_ok (i : Int) : m_u_law_is_integer (D.int i) = .ok true := by
  unfold m_u_law_is_integer
  simp [Res.bind_ok, toD, ToD.d, D.plain, isI, tyName, Res.need_pos]

theorem ipow2 (x : Int) : x ^ 2 = x * x := by rw [Int.pow_succ, Int.pow_succ, Int.pow_zero, Int.one_mul]
theorem pyDown_nil {i j : Int} (h : i ≤ j) : pyDown i j = [] := by
  unfold pyDown; rw [show (i - j).toNat = 0 by omega]; rfl
theorem pyDown_cons {i j : Int} (h : j < i) : pyDown i j = i :: pyDown (i - 1) j := by
  unfold pyDown
  rw [show (i - j).toNat = (i - 1 - j).toNat + 1 by omega, List.range_succ_eq_map, List.map_cons, List.map_map]
  congr 1
  · omega
  · refine List.map_congr_left fun a _ => ?_
    show i - ((a + 1 : Nat) : Int) = i - 1 - (a : Int)
    omega
structure Pr (p : Nat) : Prop where
  pr : IsP p
  odd : p % 2 = 1
  lt : p < 2 ^ 256
theorem Pr.ge {p : Nat} (h : Pr p) : 3 ≤ p := by have := h.pr.1; have := h.odd; omega
theorem Pr.pos {p : Nat} (h : Pr p) : (0 : Int) < (p : Int) := by have := h.ge; omega
theorem res_lt {p : Nat} (h : Pr p) {x : Int} (h0 : 0 ≤ x) (h1 : x < p) : x.natAbs < 2 ^ 256 := by have := h.lt; omega
theorem mul_res {p : Nat} (h : Pr p) {x y : Int} (h0 : 0 ≤ x) (h1 : x < p) (h2 : 0 ≤ y) (h3 : y < p) : CMulX x y := cmulx (res_lt h h0 h1) (res_lt h h2 h3) (by decide)

abbrev hf (p : Nat) : Nat := (p - 1) / 2
theorem bits_pow (t : Nat) : Builtin.Int.intBits (2 ^ t : Int) = t + 1 := by
  have hp : (0 : Int) < 2 ^ t := Int.pow_pos (by decide)
  unfold Builtin.Int.intBits
  rw [if_neg (by simp; omega)]
  have : (2 ^ t : Int).natAbs = 2 ^ t := by rw [Int.natAbs_pow]; rfl
  rw [this, Nat.log2_two_pow]
/-! ### the root -/
theorem pow_dbl (x : Int) (k : Nat) : x ^ 2 ^ (k + 1) = (x * x) ^ 2 ^ k := by
  rw [Nat.pow_succ, Nat.mul_comm, Int.pow_mul, ipow2]
theorem no_zero {p : Nat} (h : Pr p) {r a : Int} (hr : r * r % p = a % p) (ha : a % p ≠ 0) : r ≠ 0 := fun z => by
  subst z
  rw [Int.zero_mul, Int.zero_emod] at hr
  exact ha hr.symm
/-! ### the primes -/
theorem lt4 : 4000000 < 2 ^ 256 := by decide +kernel
theorem lt1 : 1000000 < 2 ^ 256 := by decide +kernel
theorem lt60 : 4000000 < 2 ^ 60 := by decide +kernel
def tp (v : Nat) : Bool := decide (2 ≤ v) && decide (v < 1000000) && decide (v % 2 = 1) && (List.range 1000).all fun d => decide (d < 2) || decide (v < d * d) || !decide (v % d = 0)
theorem tp_ok {v : Nat} (h : tp v = true) : Pr v := by
  simp only [tp, Bool.and_eq_true, decide_eq_true_eq] at h
  obtain ⟨⟨⟨h1, h2⟩, h3⟩, h4⟩ := h
  refine ⟨small_prime h1 fun d d1 d2 d3 => ?_, h3, Nat.lt_trans h2 lt1⟩
  have hd : d < 1000 := by
    refine Nat.lt_of_not_le fun z => ?_
    have := Nat.mul_le_mul z z
    omega
  have := List.all_eq_true.mp h4 d (List.mem_range.mpr hd)
  have e : v % d = 0 := Nat.mod_eq_zero_of_dvd d3
  simp only [e, Bool.or_eq_true, decide_eq_true_eq, decide_true, Bool.not_true] at this
  rcases this with (z | z) | z
  · omega
  · omega
  · cases z
theorem ip_loop (n : Nat) (h2 : 2 ≤ n) (ho : n % 2 = 1) (hn : n < 2 ^ 60) (k : Int → Res Bool) (hk : ∀ d, k d = .ok true) : ∀ (ks : List Int) (d : Nat), d % 2 = 1 → 3 ≤ d → d + 2 * ks.length < 4000 → n < (d + 2 * ks.length) * (d + 2 * ks.length) → (∀ q, 2 ≤ q → q < d → ¬ q ∣ n) → ∃ b, m_u_law_is_prime_l2 (n : Int) k ks (d : Int) = .ok b ∧ (b = true → IsP n) := by
  intro ks
  induction ks with
  | nil =>
    intro d d1 d2 d3 d4 d5
    refine ⟨true, hk _, fun _ => small_prime h2 fun q q1 q2 => d5 q q1 (Nat.lt_of_not_le fun z => ?_)⟩
    have := Nat.mul_le_mul z z
    simp at d4; omega
  | cons x r ih =>
    intro d d1 d2 d3 d4 d5
    rw [List.length_cons] at d3 d4
    rw [m_u_law_is_prime_l2]
    have hm : CMulX (d : Int) (d : Int) := cmulx (a := 20) (b := 20) (by omega) (by omega) (by decide)
    simp only [Res.bind_ok, need_bind, cond_dec, Res.need_pos hm, Res.need_pos (show (0 : Int) < (d : Int) by omega)]
    by_cases c1 : (n : Int) < (d : Int) * d
    · rw [if_pos c1]
      have c1 : n < d * d := by
        have e : ((d * d : Nat) : Int) = (d : Int) * d := Int.natCast_mul ..
        omega
      refine ⟨true, rfl, fun _ => small_prime h2 fun q q1 q2 => d5 q q1 (Nat.lt_of_not_le fun z => ?_)⟩
      have := Nat.mul_le_mul z z
      omega
    · rw [if_neg c1]
      by_cases c2 : (n : Int) % (d : Int) = 0
      · rw [if_pos c2]; exact ⟨false, rfl, fun z => by cases z⟩
      · rw [if_neg c2]
        refine ih (d + 2) (by omega) (by omega) (by omega) (by rw [show d + 2 + 2 * r.length = d + 2 * (r.length + 1) by omega]; exact d4) fun q q1 q2 q3 => ?_
        by_cases e1 : q < d
        · exact d5 q q1 e1 q3
        · by_cases e2 : q = d
          · subst e2
            exact c2 (by rw [← Int.natCast_emod, Nat.mod_eq_zero_of_dvd q3]; rfl)
          · have : q % 2 = 0 := by omega
            have : 2 ∣ n := Nat.dvd_trans (Nat.dvd_of_mod_eq_zero this) q3
            have := Nat.mod_eq_zero_of_dvd this
            omega
theorem ip_ok (n : Nat) (h3 : 3 ≤ n) (hn : n < 4000000) : ∃ b, m_u_law_is_prime (n : Int) = .ok b ∧ (b = true → Pr n) := by
  have hr : okRange (1024 : Int) := ⟨by decide, by decide⟩
  have hl : (pyRange 0 1024).length = 1024 := by rw [pyRange_len]; rfl
  unfold m_u_law_is_prime
  simp only [Res.bind_ok, need_bind, Res.need_pos hr]
  generalize pyRange 0 1024 = ks at *
  by_cases ho : n % 2 = 1
  · have a1 : decide ((n : Int) % 2 = 0) = false := decide_eq_false (by omega)
    have a2 : decide ((n : Int) < 3) = false := decide_eq_false (by omega)
    rw [a1, a2, cond_false, Res.bind_ok, cond_false]
    obtain ⟨b, q1, q2⟩ := ip_loop n (by omega) ho (Nat.lt_trans hn lt60) m_u_law_is_prime_k5 (fun _ => rfl) ks 3 (by decide) (by decide) (by rw [hl]; omega) (by rw [hl]; omega) (fun q q1 q2 q3 => by
      have : q = 2 := by omega
      subst this
      have := Nat.mod_eq_zero_of_dvd q3
      omega)
    rw [show ((3 : Nat) : Int) = 3 from rfl] at q1
    exact ⟨b, q1, fun z => ⟨q2 z, ho, Nat.lt_trans hn lt4⟩⟩
  · rw [decide_eq_true (show (n : Int) % 2 = 0 by omega)]
    simp only [cond_true, Res.bind_ok]
    refine ⟨_, rfl, fun z => ?_⟩
    have := of_decide_eq_true z
    omega
theorem np_loop (k : Int → Res Int) (hk : ∀ d, k d = .ok 65537) : ∀ (ks : List Int) (n : Nat), 5 ≤ n → n + ks.length < 4000000 → ∃ p : Nat, m_u_law_prime_l3 k ks (n : Int) = .ok (p : Int) ∧ Pr p ∧ 5 ≤ p := by
  intro ks
  induction ks with
  | nil => intro n h1 h2; exact ⟨65537, hk _, tp_ok (by decide +kernel), by decide⟩
  | cons x r ih =>
    intro n h1 h2
    rw [List.length_cons] at h2
    rw [m_u_law_prime_l3]
    obtain ⟨b, q1, q2⟩ := ip_ok n (by omega) (by omega)
    simp only [Res.bind_ok, q1]
    cases b with
    | true => exact ⟨n, rfl, q2 rfl, h1⟩
    | false => exact ih (n + 1) (by omega) (by omega)
theorem list1 {z : Int} (h0 : 0 ≤ z) (h1 : z < 12) : ∃ v : Int, idx ([5, 7, 11, 13, 17, 19, 23, 29, 31, 37, 41, 43] : List Int) z = .ok v ∧ 5 ≤ v ∧ tp v.toNat = true := by
  rcases (by omega : z = 0 ∨ z = 1 ∨ z = 2 ∨ z = 3 ∨ z = 4 ∨ z = 5 ∨ z = 6 ∨ z = 7 ∨ z = 8 ∨ z = 9 ∨ z = 10 ∨ z = 11) with rfl | rfl | rfl | rfl | rfl | rfl | rfl | rfl | rfl | rfl | rfl | rfl <;> exact ⟨_, rfl, by decide, by decide +kernel⟩
theorem list2 {z : Int} (h0 : 0 ≤ z) (h1 : z < 12) : ∃ v : Int, idx ([97, 193, 257, 7681, 12289, 65537, 786433, 65521, 8191, 131071, 524287, 241] : List Int) z = .ok v ∧ 5 ≤ v ∧ tp v.toNat = true := by
  rcases (by omega : z = 0 ∨ z = 1 ∨ z = 2 ∨ z = 3 ∨ z = 4 ∨ z = 5 ∨ z = 6 ∨ z = 7 ∨ z = 8 ∨ z = 9 ∨ z = 10 ∨ z = 11) with rfl | rfl | rfl | rfl | rfl | rfl | rfl | rfl | rfl | rfl | rfl | rfl <;> exact ⟨_, rfl, by decide, by decide +kernel⟩
theorem prime_ok (c : Int) {least : Nat} (h3 : 5 ≤ least) (h4 : least ≤ 100) : ∃ p : Nat, m_u_law_prime c (least : Int) = .ok (p : Int) ∧ Pr p ∧ 5 ≤ p := by
  have z0 := Int.emod_nonneg ((c.natAbs : Int) / 5) (show (12 : Int) ≠ 0 by decide)
  have z1 := Int.emod_lt_of_pos ((c.natAbs : Int) / 5) (show (0 : Int) < 12 by decide)
  have hr : okRange (400 : Int) := ⟨by decide, by decide⟩
  have hl : (pyRange 0 400).length = 400 := by rw [pyRange_len]; rfl
  unfold m_u_law_prime
  simp only [Res.bind_ok, need_bind, cond_dec, Res.need_pos hr]
  by_cases c1 : (c.natAbs : Int) % 5 = 1
  · rw [if_pos c1]
    obtain ⟨v, v1, v2, v3⟩ := list1 z0 z1
    exact ⟨v.toNat, by rw [v1, Int.toNat_of_nonneg (by omega)], tp_ok v3, by omega⟩
  rw [if_neg c1]
  by_cases c2 : (c.natAbs : Int) % 5 = 2
  · rw [if_pos c2]
    obtain ⟨v, v1, v2, v3⟩ := list2 z0 z1
    exact ⟨v.toNat, by rw [v1, Int.toNat_of_nonneg (by omega)], tp_ok v3, by omega⟩
  rw [if_neg c2]
  have ht : ∃ v : Int, idx ([60, 1000, 1000000] : List Int) ((c.natAbs : Int) / 15 % 3) = .ok v ∧ 0 < v ∧ v ≤ 1000000 := by
    have h0 := Int.emod_nonneg ((c.natAbs : Int) / 15) (show (3 : Int) ≠ 0 by decide)
    have h1 := Int.emod_lt_of_pos ((c.natAbs : Int) / 15) (show (0 : Int) < 3 by decide)
    generalize (c.natAbs : Int) / 15 % 3 = z at *
    rcases (by omega : z = 0 ∨ z = 1 ∨ z = 2) with rfl | rfl | rfl <;> exact ⟨_, rfl, by decide, by decide⟩
  obtain ⟨v, v1, v2, v3⟩ := ht
  simp only [v1, Res.bind_ok, Res.need_pos v2]
  generalize pyRange 0 400 = ks at *
  have w0 := Int.emod_nonneg ((c.natAbs : Int) / 5) (show v ≠ 0 by omega)
  have w1 := Int.emod_lt_of_pos ((c.natAbs : Int) / 5) v2
  generalize (c.natAbs : Int) / 5 % v = w at *
  obtain ⟨m, hm⟩ := Int.eq_ofNat_of_zero_le w0
  subst hm
  have q := np_loop m_u_law_prime_k5 (fun _ => rfl) ks (least + m) (by omega) (by omega)
  rw [Int.natCast_add] at q
  exact q
theorem nm {x y z : Int} {α : Type} {f : Int → Res α} (a b : Nat) (ha : x.natAbs < 2 ^ a) (hb : y.natAbs < 2 ^ b) (h : a + b ≤ 134217728) (e : x * y = z) : Res.need (CMulX x y) (f (x * y)) = f z := by
  rw [Res.need_pos (cmulx ha hb h), e]

/-! ### the five great primes -/
abbrev g0 : Nat := 57896044618658097711785492504343953926634992332820282019728792003956564819949
abbrev g1 : Nat := 115792089237316195423570985008687907853269984665640564039457584007908834671663
abbrev g2 : Nat := 2305843009213693951
abbrev g3 : Nat := 2147483647
abbrev g4 : Nat := 115792089210356248762697446949407573530086143415290314195533631308867097853951
theorem great_get {z : Int} (h0 : 0 ≤ z) (h1 : z < 5) : ∃ p : Nat, idx ([(g0 : Int), g1, g2, g3, g4] : List Int) z = .ok (p : Int) ∧ Pr p ∧ 5 ≤ p := by
  rcases (by omega : z = 0 ∨ z = 1 ∨ z = 2 ∨ z = 3 ∨ z = 4) with rfl | rfl | rfl | rfl | rfl
  · exact ⟨g0, rfl, ⟨pr_57896044618658097711785492504343953926634992332820282019728792003956564819949, by decide +kernel, by decide +kernel⟩, by decide +kernel⟩
  · exact ⟨g1, rfl, ⟨pr_115792089237316195423570985008687907853269984665640564039457584007908834671663, by decide +kernel, by decide +kernel⟩, by decide +kernel⟩
  · exact ⟨g2, rfl, ⟨prime_m61, by decide +kernel, by decide +kernel⟩, by decide +kernel⟩
  · exact ⟨g3, rfl, ⟨prime_m31, by decide +kernel, by decide +kernel⟩, by decide +kernel⟩
  · exact ⟨g4, rfl, ⟨pr_115792089210356248762697446949407573530086143415290314195533631308867097853951, by decide +kernel, by decide +kernel⟩, by decide +kernel⟩
/-! ### powers and inverses, the law's own -/
theorem Pr.pb {p : Nat} (h : Pr p) : Pb p := ⟨by have := h.ge; omega, h.lt⟩
theorem lpw_loop {p : Nat} (h : Pr p) (k : Int × Int × Int → Res Int) : ∀ (ks : List Int) (v s : Int) (e : Nat), 0 ≤ v → v < p → 0 ≤ s → s < p → e < 2 ^ ks.length → ∃ e' s', m_u_law_power_l1 (p : Int) k ks ((e : Int), v, s) = k (e', v * s ^ e % p, s') := by
  have hp := h.pos
  intro ks
  induction ks with
  | nil =>
    intro v s e v0 v1 s0 s1 he
    have : e = 0 := by simpa using he
    subst this
    exact ⟨0, s, by rw [m_u_law_power_l1, Int.pow_zero, Int.mul_one, Int.emod_eq_of_lt v0 v1]; rfl⟩
  | cons x r ih =>
    intro v s e v0 v1 s0 s1 he
    rw [List.length_cons, Nat.pow_succ] at he
    rw [m_u_law_power_l1]
    have e2 : ((e : Nat) : Int) / 2 = ((e / 2 : Nat) : Int) := by omega
    have t0 := Int.emod_nonneg (s * s) (show (p : Int) ≠ 0 by omega)
    have t1 := Int.emod_lt_of_pos (s * s) hp
    have u0 := Int.emod_nonneg (v * s) (show (p : Int) ≠ 0 by omega)
    have u1 := Int.emod_lt_of_pos (v * s) hp
    have a1 : (s * s % p) ^ (e / 2) % p = (s * s) ^ (e / 2) % p := em_pow (em_em _ _) _
    have a2 : s ^ e = s ^ (e % 2) * (s * s) ^ (e / 2) := by
      rw [← ipow2 s, ← Int.pow_mul, ← Int.pow_add, Nat.mod_add_div]
    unfold m_u_law_power_k3
    simp only [Res.bind_ok, need_bind, cond_dec, Res.need_pos (mul_res h s0 s1 s0 s1), Res.need_pos (mul_res h v0 v1 s0 s1), Res.need_pos hp, e2]
    by_cases hz : (e : Int) = 0
    · rw [if_pos hz]
      have : e = 0 := by omega
      subst this
      exact ⟨0, s, by rw [Int.pow_zero, Int.mul_one, Int.emod_eq_of_lt v0 v1]; rfl⟩
    · rw [if_neg hz]
      by_cases ho : (e : Int) % 2 = 1
      · rw [if_pos ho]
        obtain ⟨e', s', q⟩ := ih (v * s % p) (s * s % p) (e / 2) u0 u1 t0 t1 (by omega)
        refine ⟨e', s', ?_⟩
        rw [q]
        congr 2
        rw [em_mul (em_em _ _) a1, a2, show e % 2 = 1 by omega, Int.pow_one, ← Int.mul_assoc]
      · rw [if_neg ho]
        obtain ⟨e', s', q⟩ := ih v (s * s % p) (e / 2) v0 v1 t0 t1 (by omega)
        refine ⟨e', s', ?_⟩
        rw [q]
        congr 2
        rw [em_mul rfl a1, a2, show e % 2 = 0 by omega, Int.pow_zero, Int.one_mul]
theorem lpower_ok {p : Nat} (h : Pr p) (a : Int) (e : Nat) (he : e < 2 ^ 256) : m_u_law_power a (e : Int) (p : Int) = .ok (a ^ e % p) := by
  have hp := h.pos
  have h3 := h.ge
  have hr : okRange (260 : Int) := ⟨by decide, by decide⟩
  have hl : (pyRange 0 260).length = 260 := by rw [pyRange_len]; rfl
  unfold m_u_law_power
  simp only [Res.bind_ok, need_bind, Res.need_pos hp, Res.need_pos hr]
  generalize pyRange 0 260 = ks at *
  obtain ⟨e', s', q⟩ := lpw_loop h m_u_law_power_k4 ks 1 (a % p) e (by decide) (by omega) (Int.emod_nonneg _ (by omega)) (Int.emod_lt_of_pos _ hp) (by rw [hl]; exact Nat.lt_trans he (by decide +kernel))
  rw [q]
  unfold m_u_law_power_k4
  rw [Int.one_mul, em_pow (em_em a p) e]
theorem linv_ok {p : Nat} (h : Pr p) (a : Int) : m_u_law_inverse a (p : Int) = .ok (a ^ (p - 2) % p) := by
  have h3 := h.ge
  have hlt := h.lt
  unfold m_u_law_inverse
  have e : (p : Int) - 2 = ((p - 2 : Nat) : Int) := by omega
  simp only [Res.bind_ok, e, lpower_ok h _ _ (show p - 2 < 2 ^ 256 by omega)]

/-! ### residues of cells -/
theorem residue_ok {m : Int} (hm : 0 < m) (c : Int) : ∃ r, m_u_law_residue c m = .ok r ∧ 0 ≤ r ∧ r < m := by
  unfold m_u_law_residue
  simp only [Res.bind_ok, need_bind, cond_dec, pow18, Res.need_pos hm]
  have F : ∀ x : Int, ∃ r, (Res.ok (x % m) : Res Int) = .ok r ∧ 0 ≤ r ∧ r < m := fun x => ⟨_, rfl, Int.emod_nonneg _ (by omega), Int.emod_lt_of_pos _ hm⟩
  by_cases h1 : 1000000000000000000 ≤ (c.natAbs : Int)
  · rw [if_pos h1]; exact F _
  rw [if_neg h1]
  by_cases h2 : (c.natAbs : Int) % 3 = 1
  · rw [if_pos h2]
    have z0 := Int.emod_nonneg ((c.natAbs : Int) / 3) (show (6 : Int) ≠ 0 by decide)
    have z1 := Int.emod_lt_of_pos ((c.natAbs : Int) / 3) (show (0 : Int) < 6 by decide)
    generalize (c.natAbs : Int) / 3 % 6 = z at *
    rcases (by omega : z = 0 ∨ z = 1 ∨ z = 2 ∨ z = 3 ∨ z = 4 ∨ z = 5) with rfl | rfl | rfl | rfl | rfl | rfl <;> exact F _
  · rw [if_neg h2, Res.need_pos (cmulx (a := 80) (b := 60) (by omega) (by omega) (by decide))]
    exact F _
theorem cell_ex (ns : List Int) {k : Int} (hk : 0 ≤ k) : ∃ c, m_u_law_cell ns k = .ok c := by
  obtain ⟨j, rfl⟩ := Int.eq_ofNat_of_zero_le hk
  exact ⟨_, cell_ok ns j⟩

/-! ### a curve through two points -/
def Rs (p : Nat) (x : Int) : Prop := 0 ≤ x ∧ x < p
def On (p : Nat) (a b x y : Int) : Prop := (y * y - x * x * x - a * x - b) % (p : Int) = 0
instance (p : Nat) (a b x y : Int) : Decidable (On p a b x y) := inferInstanceAs (Decidable (_ = _))
theorem Rs.bd {p : Nat} [P : Pb p] {x : Int} (h : Rs p x) : Bd x 256 := ⟨by
  have := P.lt; have := h.1; have := h.2; omega⟩
theorem rs_mod {p : Nat} [P : Pb p] (x : Int) : Rs p (x % p) := ⟨Int.emod_nonneg _ (by have := P.pos; omega), Int.emod_lt_of_pos _ (by have := P.pos; omega)⟩
theorem on_z {p : Nat} {a b x y : Int} : On p a b x y ↔ zm p y * zm p y = zm p x * zm p x * zm p x + zm p a * zm p x + zm p b := by
  unfold On
  rw [← zm_zero]
  simp only [zm_sub, zm_mul]
  constructor <;> intro h <;> grind
theorem linv_z {p : Nat} (h : Pr p) (x : Int) (hx : zm p x ≠ 0) : zm p (x ^ (p - 2) % p) * zm p x = 1 := by
  rw [zm_mod, zm_pow]; exact z_inv h.pr hx
theorem zm_ne_of {p : Nat} {x y : Int} (hx : Rs p x) (hy : Rs p y) (h : x ≠ y) : zm p (x - y) ≠ 0 := fun e => h (res_eq hx.1 hx.2 hy.1 hy.2 (by
  rw [zm_sub] at e; grind))
theorem cap_ok {p : Nat} (h : Pr p) (ns : List Int) {at_ : Int} (ha : 0 ≤ at_) : ∃ a b x1 y1 x2 y2 : Int, m_u_law_curve_and_points ns at_ (p : Int) = .ok (T4.mk a b (T2.mk x1 y1) (T2.mk x2 y2)) ∧ Rs p a ∧ Rs p b ∧ Rs p x1 ∧ Rs p y1 ∧ Rs p x2 ∧ Rs p y2 ∧ On p a b x1 y1 ∧ On p a b x2 y2 := by
  have P : Pb p := h.pb
  have hp := h.pos
  obtain ⟨c0, d0⟩ := cell_ex ns ha
  obtain ⟨c1, d1⟩ := cell_ex ns (show 0 ≤ at_ + 1 by omega)
  obtain ⟨c2, d2⟩ := cell_ex ns (show 0 ≤ at_ + 2 by omega)
  obtain ⟨c3, d3⟩ := cell_ex ns (show 0 ≤ at_ + 3 by omega)
  obtain ⟨c4, d4⟩ := cell_ex ns (show 0 ≤ at_ + 4 by omega)
  obtain ⟨x1, e1, X1⟩ := residue_ok hp c0
  obtain ⟨y1, e2, Y1⟩ := residue_ok hp c1
  obtain ⟨x2, e3, X2⟩ := residue_ok hp c2
  obtain ⟨y2, e4, Y2⟩ := residue_ok hp c3
  obtain ⟨a, e5, A⟩ := residue_ok hp c4
  have X1 : Rs p x1 := X1
  have Y1 : Rs p y1 := Y1
  have X2 : Rs p x2 := X2
  have Y2 : Rs p y2 := Y2
  have A : Rs p a := A
  have := X1.bd
  have := Y1.bd
  have := X2.bd
  have := Y2.bd
  have := A.bd
  unfold m_u_law_curve_and_points
  simp (decide := true) only [Res.bind_ok, need_bind, d0, d1, d2, d3, d4, e1, e2, e3, e4, e5, need_bd, need_p, cond_dec, linv_ok h]
  have fin : ∀ (a y2 : Int), Rs p a → Rs p y2 → (∀ b, zm p b = zm p y1 * zm p y1 - zm p x1 * zm p x1 * zm p x1 - zm p a * zm p x1 → On p a b x2 y2) → ∃ a' b x1' y1' x2' y2' : Int, m_u_law_curve_and_points_k1 (p : Int) x1 y1 x2 (y2, a) = .ok (T4.mk a' b (T2.mk x1' y1') (T2.mk x2' y2')) ∧ Rs p a' ∧ Rs p b ∧ Rs p x1' ∧ Rs p y1' ∧ Rs p x2' ∧ Rs p y2' ∧ On p a' b x1' y1' ∧ On p a' b x2' y2' := by
    intro a y2 A Y2 hb
    have := A.bd
    unfold m_u_law_curve_and_points_k1
    simp (decide := true) only [Res.bind_ok, need_bind, need_bd, need_p]
    have zb : zm p ((y1 * y1 - x1 * x1 * x1 - a * x1) % p) = zm p y1 * zm p y1 - zm p x1 * zm p x1 * zm p x1 - zm p a * zm p x1 := by
      simp only [zm_mod, zm_sub, zm_mul]
    exact ⟨a, _, x1, y1, x2, y2, rfl, A, rs_mod _, X1, Y1, X2, Y2, on_z.mpr (by rw [zb]; grind), hb _ zb⟩
  by_cases hx : x1 = x2
  · subst hx
    rw [if_pos rfl]
    have z0 := Int.emod_nonneg (c3.natAbs : Int) (show (2 : Int) ≠ 0 by decide)
    have z1 := Int.emod_lt_of_pos (c3.natAbs : Int) (show (0 : Int) < 2 by decide)
    generalize (c3.natAbs : Int) % 2 = z at *
    rcases (by omega : z = 0 ∨ z = 1) with rfl | rfl
    · exact fin a y1 A Y1 fun b hb => on_z.mpr (by rw [hb]; grind)
    · exact fin a (-y1 % p) A (rs_mod _) fun b hb => on_z.mpr (by rw [hb, zm_mod, zm_neg]; grind)
  · rw [if_neg hx]
    have iv := linv_z h _ (zm_ne_of X2 X1 fun e => hx e.symm)
    refine fin _ y2 (rs_mod _) Y2 fun b hb => on_z.mpr ?_
    rw [hb]
    simp only [zm_mod, zm_mul, zm_sub, zm_add] at iv ⊢
    grind

/-! ### the greatest common divisor -/
theorem cof (p q X Y V M : Nat) (hq : 0 < q) (h : Y * p + X * q ≤ M) (hV : V ≤ X + p / q * Y) : V * q + Y * (p % q) ≤ M ∧ V ≤ M ∧ p / q * Y ≤ M := by
  have e : q * (p / q) + p % q = p := Nat.div_add_mod p q
  generalize p / q = t at *
  generalize p % q = r at *
  subst e
  have a1 : V * q ≤ (X + t * Y) * q := Nat.mul_le_mul_right q hV
  have a2 : (X + t * Y) * q = X * q + Y * (q * t) := by rw [Nat.add_mul]; congr 1; ac_rfl
  have a3 : Y * (q * t + r) = Y * (q * t) + Y * r := Nat.mul_add ..
  have a4 : V ≤ V * q := Nat.le_mul_of_pos_right _ hq
  have a5 : Y * (q * t) = q * (t * Y) := by ac_rfl
  have a6 : t * Y ≤ q * (t * Y) := Nat.le_mul_of_pos_left _ hq
  omega
theorem bez_step (k : (T3 Int Int Int) × (T3 Int Int Int) → Res (T3 Int Int Int)) (n : Nat) (f s : T3 Int Int Int) : m_bezout_w1 k (n + 1) (f, s) = if s.a = 0 then k (f, s) else Res.need (CDivW f.a s.a) (Res.need (CMulX (f.a / s.a) s.a) (Res.need (CMulX (f.a / s.a) s.b) (Res.need (CMulX (f.a / s.a) s.c) (m_bezout_w1 k n (s, T3.mk (f.a - f.a / s.a * s.a) (f.b - f.a / s.a * s.b) (f.c - f.a / s.a * s.c)))))) := by
  rw [m_bezout_w1]
  simp only [Res.bind_ok, need_bind, cond_not, cond_dec]
theorem natAbs_sub_mul (u t v : Int) : (u - t * v).natAbs ≤ u.natAbs + t.natAbs * v.natAbs := by
  rw [← Int.natAbs_mul]; omega
theorem gcd_step {p q : Int} : Int.gcd q (p - p / q * q) = Int.gcd p q := by
  rw [Int.mul_comm, Int.gcd_sub_mul_left_right, Int.gcd_comm]
theorem bez_loop {a b : Int} {M B : Nat} (hM : M < 2 ^ B) (hB0 : 0 < B) (hB : B ≤ 8000) (k : (T3 Int Int Int) × (T3 Int Int Int) → Res (T3 Int Int Int)) : ∀ (fuel : Nat) (f s : T3 Int Int Int), 0 ≤ f.a → 0 ≤ s.a → s.a < fuel → f.a.natAbs ≤ M → s.a.natAbs ≤ M → f.b.natAbs ≤ M → s.b.natAbs ≤ M → f.c.natAbs ≤ M → s.c.natAbs ≤ M →
    s.b.natAbs * f.a.natAbs + f.b.natAbs * s.a.natAbs ≤ M → s.c.natAbs * f.a.natAbs + f.c.natAbs * s.a.natAbs ≤ M → f.a = a * f.b + b * f.c → s.a = a * s.b + b * s.c →
    ∃ g s', m_bezout_w1 k fuel (f, s) = k (g, s') ∧ g.a = (Int.gcd f.a s.a : Int) ∧ g.a = a * g.b + b * g.c := by
  intro fuel
  induction fuel with
  | zero => intro f s h0 h1 h2; omega
  | succ n ih =>
    intro f s h0 h1 h2 h3 h4 h5 h6 h7 h8 h9 h10 h11 h12
    rw [bez_step]
    by_cases hs : s.a = 0
    · rw [if_pos hs]
      exact ⟨f, s, rfl, by rw [hs, Int.gcd_zero_right]; omega, h11⟩
    · rw [if_neg hs]
      have hp : 0 < s.a := by omega
      have ht : (f.a / s.a).natAbs = f.a.natAbs / s.a.natAbs := by
        rw [Int.natAbs_ediv_of_nonneg h0]
      have hr : f.a - f.a / s.a * s.a = f.a % s.a := by
        have := Int.emod_add_mul_ediv f.a s.a
        rw [Int.mul_comm (f.a / s.a)]; omega
      have hrn : (f.a % s.a).natAbs = f.a.natAbs % s.a.natAbs := by
        rw [Int.natAbs_emod_of_nonneg h0]
      have hq : 0 < s.a.natAbs := by omega
      have c1 := cof f.a.natAbs s.a.natAbs f.b.natAbs s.b.natAbs (f.b - f.a / s.a * s.b).natAbs M hq h9 (by rw [← ht]; exact natAbs_sub_mul ..)
      have c2 := cof f.a.natAbs s.a.natAbs f.c.natAbs s.c.natAbs (f.c - f.a / s.a * s.c).natAbs M hq h10 (by rw [← ht]; exact natAbs_sub_mul ..)
      have ht2 : (f.a / s.a).natAbs ≤ M := by rw [ht]; exact Nat.le_trans (Nat.div_le_self ..) h3
      have lt := fun {x : Int} (h : x.natAbs ≤ M) => (show x.natAbs < 2 ^ B by omega)
      rw [Res.need_pos (wide_div hp (lt h4) hB0 (by omega)), need_mulx (lt ht2) (lt h4) (by omega), need_mulx (lt ht2) (lt h6) (by omega), need_mulx (lt ht2) (lt h8) (by omega)]
      have e0 := Int.emod_nonneg f.a (show s.a ≠ 0 by omega)
      have e1 := Int.emod_lt_of_pos f.a hp
      obtain ⟨g, s', q1, q2, q3⟩ := ih s (T3.mk (f.a - f.a / s.a * s.a) (f.b - f.a / s.a * s.b) (f.c - f.a / s.a * s.c)) h1 (by show 0 ≤ f.a - f.a / s.a * s.a; rw [hr]; exact e0) (by show f.a - f.a / s.a * s.a < _; rw [hr]; omega) h4 (by show (f.a - f.a / s.a * s.a).natAbs ≤ M; rw [hr]; omega) h6 c1.2.1 h8 c2.2.1
        (by show (f.b - f.a / s.a * s.b).natAbs * s.a.natAbs + s.b.natAbs * (f.a - f.a / s.a * s.a).natAbs ≤ M; rw [hr, hrn]; exact c1.1)
        (by show (f.c - f.a / s.a * s.c).natAbs * s.a.natAbs + s.c.natAbs * (f.a - f.a / s.a * s.a).natAbs ≤ M; rw [hr, hrn]; exact c2.1)
        h12 (by
          show f.a - f.a / s.a * s.a = a * (f.b - f.a / s.a * s.b) + b * (f.c - f.a / s.a * s.c)
          generalize f.a / s.a = t
          rw [h11, h12]; grind)
      exact ⟨g, s', q1, by rw [q2]; show ((Int.gcd s.a (f.a - f.a / s.a * s.a) : Nat) : Int) = _; rw [gcd_step], q3⟩
theorem inv_ok {a m : Int} {B : Nat} (hm : 0 < m) (hb : m.natAbs < 2 ^ B) (hB : B ≤ 8000) : (Int.gcd a m = 1 → ∃ i, m_inverse a m = .ok i ∧ 0 ≤ i ∧ i < m ∧ m ∣ a * i - 1) ∧ (Int.gcd a m ≠ 1 → m_inverse a m = .exc "NoInverse") := by
  have e0 := Int.emod_nonneg a (show m ≠ 0 by omega)
  have e1 := Int.emod_lt_of_pos a hm
  have hB0 : 0 < B := by
    rcases Nat.eq_zero_or_pos B with z | z
    · subst z; simp at hb; omega
    · exact z
  obtain ⟨g, s', q1, q2, q3⟩ := bez_loop (a := a % m) (b := m) (M := m.natAbs) hb hB0 hB m_bezout_k3 (m.natAbs + 1) (T3.mk (a % m) 1 0) (T3.mk m 0 1) e0 (by show 0 ≤ m; omega) (by show m < _; omega) (by show (a % m).natAbs ≤ _; omega) (by show m.natAbs ≤ _; omega) (by show 1 ≤ _; omega) (by show 0 ≤ _; omega) (by show 0 ≤ _; omega) (by show 1 ≤ _; omega)
    (by show 0 * (a % m).natAbs + 1 * m.natAbs ≤ _; omega) (by show 1 * (a % m).natAbs + 0 * m.natAbs ≤ _; omega) (by show a % m = a % m * 1 + m * 0; omega) (by show m = a % m * 0 + m * 1; omega)
  have q2 : g.a = (Int.gcd (a % m) m : Int) := q2
  have eg : Int.gcd (a % m) m = Int.gcd a m := by
    have : a % m = a - m * (a / m) := by have := Int.emod_add_mul_ediv a m; omega
    rw [this, Int.gcd_comm, Int.gcd_sub_mul_left_right, Int.gcd_comm]
  rw [eg] at q2
  have hbz : m_bezout (a % m) m = .ok g := by
    unfold m_bezout
    simp only [Res.bind_ok]
    rw [q1]
    unfold m_bezout_k3
    simp only [Res.bind_ok, cond_dec]
    rw [if_neg (by omega)]
  clear q1
  unfold m_inverse
  simp only [Res.bind_ok, need_bind, cond_not, cond_dec, Res.need_pos hm, hbz]
  constructor
  · intro h1
    rw [if_pos (by omega)]
    refine ⟨_, rfl, Int.emod_nonneg _ (by omega), Int.emod_lt_of_pos _ hm, ?_⟩
    have h2 : a % m * g.b + m * g.c = 1 := by omega
    have h3 := Int.emod_add_mul_ediv a m
    have h4 := Int.emod_add_mul_ediv g.b m
    generalize a % m = r at *
    generalize a / m = t at *
    generalize g.b % m = u at *
    generalize g.b / m = v at *
    refine ⟨t * u - r * v - g.c, ?_⟩
    rw [← h3]
    have h5 : u = g.b - m * v := by omega
    rw [h5]
    grind
  · intro h1
    rw [if_neg (by omega)]

theorem lon_ok {p : Nat} [Pb p] {a b x y : Int} (ha : Rs p a) (hx : Rs p x) (hy : Rs p y) : m_u_law_on (p : Int) a b (D.tup [D.int x, D.int y]) = .ok (decide (On p a b x y)) := by
  have := ha.bd
  have := hx.bd
  have := hy.bd
  have e0 : (toD (D.tup [D.int x, D.int y])).isNon = false := rfl
  have e1 : (toD (D.tup [D.int x, D.int y])).plain = true := rfl
  have e2 : isI "tuple" (toD (D.tup [D.int x, D.int y])) = true := rfl
  have e3 : D.lenR (D.tup [D.int x, D.int y]) = .ok 2 := rfl
  have e4 : D.asT2 (D.tup [D.int x, D.int y]) = .ok ⟨D.int x, D.int y⟩ := rfl
  have ai : ∀ i, D.asInt (D.int i) = .ok i := fun _ => rfl
  have n2 : (!decide ((2 : Int) = 2)) = false := by decide
  have b1 : ∀ {i : Int}, Rs p i → (decide (0 ≤ i)) = true := fun h => decide_eq_true h.1
  have b2 : ∀ {i : Int}, Rs p i → (decide (i < (p : Int))) = true := fun h => decide_eq_true h.2
  unfold m_u_law_on
  simp (decide := true) only [Res.bind_ok, e0, e1, e2, e3, e4, Res.need_pos e1, Bool.not_true, cond_false, n2, isint_ok, ai, b1 hx, b2 hx, b1 hy, b2 hy, cond_true, need_bind, need_bd, need_p, need_true, decide_true, Bool.not_true, cond_false]
  rfl
theorem init_ok {p : Nat} (h : Pr p) (h5 : 5 ≤ p) (a b : Int) : m_Curve_init (p : Int) a b = if (4 * (a % p) ^ 3 + 27 * (b % p) ^ 2) % (p : Int) = 0 then .exc "Refused" else .ok ⟨p, a % p, b % p⟩ := by
  have P := h.pb
  have ho := h.odd
  have c1 : decide ((p : Int) < 5) = false := decide_eq_false (by omega)
  have c2 : decide ((p : Int) % 2 = 0) = false := decide_eq_false (by omega)
  unfold m_Curve_init
  simp (decide := true) only [Res.bind_ok, c1, c2, cond_false, need_bind, need_p, need_pw3, need_pw2, tn3, tn2, cond_dec]
theorem init_bad {m : Int} (h : m < 5 ∨ m % 2 = 0) (a b : Int) : m_Curve_init m a b = .exc "OutOfRange" := by
  unfold m_Curve_init
  simp only [Res.bind_ok]
  by_cases c : m < 5
  · simp only [decide_eq_true c, cond_true, Res.bind_ok]
  · simp only [decide_eq_false c, cond_false, Res.bind_ok, decide_eq_true (h.resolve_left c), cond_true]
theorem lsing_ok {p : Nat} [Pb p] {a b : Int} [Bd a 256] [Bd b 256] : m_u_law_singular (p : Int) a b = .ok (decide ((4 * a ^ 3 + 27 * b ^ 2) % (p : Int) = 0)) := by
  unfold m_u_law_singular
  simp (decide := true) only [Res.bind_ok, need_bind, need_bd, need_p]
  rw [Int.pow_succ, ipow2, ipow2, show 4 * a * a * a + 27 * b * b = 4 * (a * a * a) + 27 * (b * b) by grind]
theorem neg_some {p : Nat} [Pb p] {a b x y : Int} : m_Curve_negate ⟨p, a, b⟩ (some (T2.mk x y)) = .ok (some (T2.mk x (-y % p))) := by
  have o1 : (toD (some (T2.mk x y))).isNon = false := rfl
  have og : optGet (some (T2.mk x y)) = .ok (T2.mk x y) := rfl
  unfold m_Curve_negate
  simp only [Res.bind_ok, o1, cond_false, og, need_bind, need_p]
theorem on_neg {p : Nat} {a b x y : Int} (h : On p a b x y) : On p a b x (-y % p) := by
  rw [on_z] at h ⊢
  rw [zm_mod, zm_neg]; grind
/-! ### the inverse modulo a prime -/
theorem pinv {p : Nat} (h : Pr p) (a : Int) (ha : zm p a ≠ 0) : ∃ i, m_inverse a (p : Int) = .ok i ∧ Rs p i ∧ zm p i * zm p a = 1 := by
  have hp := h.pos
  have hg : Int.gcd a (p : Int) = 1 := by
    have : Nat.Coprime p a.natAbs := h.pr.cop fun d => ha (zm_dvd.mpr (Int.ofNat_dvd_left.mpr d))
    show Nat.gcd a.natAbs p = 1
    rw [Nat.gcd_comm]; exact this
  obtain ⟨i, e, i0, i1, i2⟩ := (inv_ok (a := a) (m := p) (B := 256) hp (by rw [Int.natAbs_natCast]; exact h.lt) (by decide)).1 hg
  refine ⟨i, e, ⟨i0, i1⟩, ?_⟩
  have := zm_dvd.mpr i2
  rw [zm_sub, zm_mul] at this
  have t : zm p 1 = 1 := rfl
  rw [t] at this
  grind
theorem pinv_f {p : Nat} [Prm p] (h : Pr p) (a : Int) (ha : zm p a ≠ 0) : ∃ i, m_inverse a (p : Int) = .ok i ∧ Rs p i ∧ zm p i = (zm p a)⁻¹ := by
  obtain ⟨i, e, r, q⟩ := pinv h a ha
  refine ⟨i, e, r, ?_⟩
  have := z_mul_inv ha
  grind
/-! ### points as the program keeps them -/
class CvP (C : Cv) : Prop where
  pr : Pr C.p
instance (C : Cv) [h : CvP C] : Pb C.p := h.pr.pb
abbrev P2 := Option (T2 Int Int)
def lfv {p : Nat} : Mi.Pt (Zp p) → P2
  | none => none
  | some (x, y) => some (T2.mk (zv x) (zv y))
def lf {C : Cv} (P : C.Pt) : P2 := lfv P.v
abbrev Cv.o (C : Cv) : O_Curve := ⟨C.p, C.a, C.b⟩
theorem lfv_inj {p : Nat} {P Q : Mi.Pt (Zp p)} (h : lfv P = lfv Q) : P = Q := by
  cases P with
  | none => cases Q with
    | none => rfl
    | some q => cases h
  | some r => cases Q with
    | none => cases h
    | some q =>
      obtain ⟨x1, y1⟩ := r
      obtain ⟨x2, y2⟩ := q
      have h := Option.some.inj h
      rw [zv_inj (congrArg T2.a h), zv_inj (congrArg T2.b h)]
section
variable {C : Cv}
theorem lf_inj {P Q : C.Pt} (h : lf P = lf Q) : P = Q := Cv.ext (lfv_inj h)
theorem lf_zero : lf (0 : C.Pt) = none := rfl
theorem lf_none {P : C.Pt} (h : lf P = none) : P = 0 := lf_inj h
theorem toD_some2 (x y : Int) : toD (some (T2.mk x y)) = D.tup [D.int x, D.int y] := rfl
theorem toD_T2 (x y : Int) : toD (T2.mk x y) = D.tup [D.int x, D.int y] := rfl
theorem toD_none2 : toD (none : P2) = D.non := rfl
theorem okq_p2 (P : P2) : (toD P).okq = true := by
  cases P with
  | none => rfl
  | some q => obtain ⟨x, y⟩ := q; rfl
theorem okq_t2 (q : T2 Int Int) : (toD q).okq = true := by obtain ⟨x, y⟩ := q; rfl
theorem nob_p2 (P : P2) : (toD P).nob = true := by
  cases P with
  | none => rfl
  | some q => obtain ⟨x, y⟩ := q; rfl
theorem toD_p2_inj {P Q : P2} (h : toD P = toD Q) : P = Q := by
  cases P with
  | none => cases Q with
    | none => rfl
    | some q => obtain ⟨x, y⟩ := q; rw [toD_none2, toD_some2] at h; cases h
  | some r => cases Q with
    | none => obtain ⟨x, y⟩ := r; rw [toD_none2, toD_some2] at h; cases h
    | some q =>
      obtain ⟨x1, y1⟩ := r
      obtain ⟨x2, y2⟩ := q
      rw [toD_some2, toD_some2] at h
      simp only [D.tup.injEq, List.cons.injEq, D.int.injEq, and_true] at h
      rw [h.1, h.2]
theorem pyEq_p2 (P Q : P2) : pyEq (toD P) (toD Q) = true ↔ P = Q := (pyEq_dec (nob_p2 P) (nob_p2 Q)).trans ⟨toD_p2_inj, fun h => by rw [h]⟩
noncomputable instance : DecidableEq C.Pt := fun a b => Classical.propDecidable _
theorem pyEq_lf (P Q : C.Pt) : pyEq (toD (lf P)) (toD (lf Q)) = decide (P = Q) := by
  by_cases h : P = Q
  · rw [decide_eq_true h, h]; exact (pyEq_p2 _ _).mpr rfl
  · rw [decide_eq_false h]
    cases e : pyEq (toD (lf P)) (toD (lf Q)) with
    | false => rfl
    | true => exact absurd (lf_inj ((pyEq_p2 _ _).mp e)) h
theorem pyEq_t2 (P Q : T2 Int Int) : pyEq (toD P) (toD Q) = true ↔ P = Q := (pyEq_p2 (some P) (some Q)).trans ⟨Option.some.inj, fun h => by rw [h]⟩
theorem isNon_lf0 : (toD (lf (0 : C.Pt))).isNon = true := rfl
theorem isNon_lf {P : C.Pt} (h : P ≠ 0) : (toD (lf P)).isNon = false := by
  cases e : lf P with
  | none => exact absurd (lf_none e) h
  | some q => obtain ⟨x, y⟩ := q; rfl
/-- the coordinates of a point -/
theorem lf_some {P : C.Pt} {x y : Int} (h : lf P = some (T2.mk x y)) : Rs C.p x ∧ Rs C.p y ∧ On C.p C.a C.b x y ∧ P.v = some (zm C.p x, zm C.p y) := by
  obtain ⟨v, on⟩ := P
  cases v with
  | none => cases h
  | some q =>
    obtain ⟨u, w⟩ := q
    have h : T2.mk (zv u) (zv w) = T2.mk x y := Option.some.inj h
    have hx : zv u = x := congrArg T2.a h
    have hy : zv w = y := congrArg T2.b h
    subst hx hy
    refine ⟨⟨zv_ge u, zv_lt u⟩, ⟨zv_ge w, zv_lt w⟩, ?_, ?_⟩
    · rw [on_z, zm_zv, zm_zv]; exact on
    · show some (u, w) = some (_, _)
      rw [zm_zv, zm_zv]
theorem lf_ex {x y : Int} (hx : Rs C.p x) (hy : Rs C.p y) (ho : On C.p C.a C.b x y) : ∃ P : C.Pt, lf P = some (T2.mk x y) ∧ P.v = some (zm C.p x, zm C.p y) :=
  ⟨⟨some (zm C.p x, zm C.p y), on_z.mp ho⟩, by
    show some (T2.mk (zv (zm C.p x)) (zv (zm C.p y))) = _
    rw [zv_of hx.1 hx.2, zv_of hy.1 hy.2], rfl⟩
theorem Cv.A (C : Cv) : Rs C.p C.a := ⟨C.a0, C.a1⟩
theorem Cv.B (C : Cv) : Rs C.p C.b := ⟨C.b0, C.b1⟩
theorem lf_neg {P : C.Pt} {x y : Int} (h : lf P = some (T2.mk x y)) : lf (-P) = some (T2.mk x (-y % C.p)) := by
  obtain ⟨hx, hy, ho, hv⟩ := lf_some h
  have : (-P).v = some (zm C.p x, -zm C.p y) := by
    show pneg P.v = _
    rw [hv]; rfl
  show lfv (-P).v = _
  rw [this]
  show some (T2.mk (zv (zm C.p x)) (zv (-zm C.p y))) = _
  rw [zv_of hx.1 hx.2, ← zm_neg, zv_zm]
theorem neg_ok [CvP C] (P : C.Pt) : m_Curve_negate C.o (lf P) = .ok (lf (-P)) := by
  cases e : lf P with
  | none =>
    rw [lf_none e, g_neg_zero]
    rfl
  | some q =>
    obtain ⟨x, y⟩ := q
    rw [neg_some, lf_neg e]
def IsSl (C : Cv) (x1 y1 x2 y2 s : Int) : Prop := (zm C.p x1 = zm C.p x2 → zm C.p s = (3 * zm C.p x1 * zm C.p x1 + zm C.p C.a) * (2 * zm C.p y1)⁻¹) ∧ (zm C.p x1 ≠ zm C.p x2 → zm C.p s = (zm C.p y2 - zm C.p y1) * (zm C.p x2 - zm C.p x1)⁻¹)
/-- the sum by its coordinates -/
theorem lf_add {P Q : C.Pt} {x1 y1 x2 y2 s : Int} (h1 : lf P = some (T2.mk x1 y1)) (h2 : lf Q = some (T2.mk x2 y2)) (hn : Q ≠ -P)
    (hs : IsSl C x1 y1 x2 y2 s) :
    lf (P + Q) = some (T2.mk ((s * s - x1 - x2) % C.p) ((s * (x1 - (s * s - x1 - x2) % C.p) - y1) % C.p)) := by
  obtain ⟨X1, Y1, O1, v1⟩ := lf_some h1
  obtain ⟨X2, Y2, O2, v2⟩ := lf_some h2
  have e : (P + Q).v = padd (zm C.p C.a) P.v Q.v := rfl
  rw [v1, v2, padd_eq, if_neg] at e
  · dsimp only at e
    have hs2 : zm C.p s = @ite _ (zm C.p x1 = zm C.p x2) (Classical.propDecidable _) ((3 * zm C.p x1 * zm C.p x1 + zm C.p C.a) * (2 * zm C.p y1)⁻¹) ((zm C.p y2 - zm C.p y1) * (zm C.p x2 - zm C.p x1)⁻¹) := by
      by_cases c : zm C.p x1 = zm C.p x2
      · rw [if_pos c]; exact hs.1 c
      · rw [if_neg c]; exact hs.2 c
    rw [← hs2] at e
    show lfv (P + Q).v = _
    rw [e]
    show some (T2.mk (zv _) (zv _)) = _
    congr 2
    rw [← zv_zm]
    congr 1
    simp only [zm_sub, zm_mul, zm_mod]
  · rintro ⟨c1, c2⟩
    apply hn
    apply Cv.ext
    show Q.v = pneg P.v
    rw [v1, v2]
    show some (_, _) = some (_, _)
    rw [c1, show zm C.p y2 = -zm C.p y1 by grind]
theorem lf_ne {P Q : C.Pt} {x1 y1 x2 y2 : Int} (h1 : lf P = some (T2.mk x1 y1)) (h2 : lf Q = some (T2.mk x2 y2)) (hn : Q ≠ -P) (hx : x1 = x2) : P = Q ∧ y1 = y2 ∧ zm C.p y1 ≠ 0 := by
  subst hx
  obtain ⟨X1, Y1, O1, v1⟩ := lf_some h1
  obtain ⟨X2, Y2, O2, v2⟩ := lf_some h2
  have o1 := on_z.mp O1
  have o2 := on_z.mp O2
  have d : (zm C.p y1 - zm C.p y2) * (zm C.p y1 + zm C.p y2) = 0 := by grind
  have hneg : zm C.p y1 + zm C.p y2 ≠ 0 := by
    intro c2
    apply hn
    apply Cv.ext
    show Q.v = pneg P.v
    rw [v1, v2]
    show some (_, _) = some (_, _)
    rw [show zm C.p y2 = -zm C.p y1 by grind]
  have e : zm C.p y1 = zm C.p y2 := by
    rcases z_dom C.pr d with q | q
    · grind
    · exact absurd q hneg
  refine ⟨Cv.ext (by rw [v1, v2, e]), res_eq Y1.1 Y1.2 Y2.1 Y2.2 e, fun z => hneg ?_⟩
  rw [← e, z]; grind
theorem slope_ok [hC : CvP C] {P Q : C.Pt} {x1 y1 x2 y2 : Int} (h1 : lf P = some (T2.mk x1 y1)) (h2 : lf Q = some (T2.mk x2 y2)) (hn : Q ≠ -P) :
    ∃ s, m_Curve_u_slope C.o (T2.mk x1 y1) (T2.mk x2 y2) = .ok s ∧ Rs C.p s ∧ IsSl C x1 y1 x2 y2 s := by
  obtain ⟨X1, Y1, O1, v1⟩ := lf_some h1
  obtain ⟨X2, Y2, O2, v2⟩ := lf_some h2
  have := X1.bd
  have := X2.bd
  have := Y1.bd
  have := Y2.bd
  have := (Cv.A C).bd
  have ok0 : (toD (T2.mk x1 y1)).okq = true ∧ (toD (T2.mk x2 y2)).okq = true := ⟨okq_t2 _, okq_t2 _⟩
  have fin : ∀ rise run : Int, Bd rise 600 → zm C.p run ≠ 0 → ∃ s, m_Curve_u_slope_k1 C.o (rise, run) = .ok s ∧ Rs C.p s ∧ zm C.p s = zm C.p rise * (zm C.p run)⁻¹ := by
    intro rise run hb hr
    obtain ⟨i, e, ri, z⟩ := pinv_f hC.pr run hr
    have := ri.bd
    unfold m_Curve_u_slope_k1
    simp (decide := true) only [Res.bind_ok, e, need_bind, need_bd, need_p]
    exact ⟨_, rfl, rs_mod _, by rw [zm_mod, zm_mul, z]⟩
  unfold m_Curve_u_slope
  simp (decide := true) only [Res.bind_ok, Res.need_pos ok0, need_bind, need_pw2, tn2]
  by_cases hx : x1 = x2
  · obtain ⟨e1, e2, e3⟩ := lf_ne h1 h2 hn hx
    subst hx e2
    rw [(pyEq_t2 _ _).mpr rfl, cond_true]
    have hr : zm C.p (2 * y1) ≠ 0 := by rw [zm_mul]; exact z_mul_ne C.pr C.two e3
    obtain ⟨s, a1, a2, a3⟩ := fin (3 * x1 ^ 2 + C.a) (2 * y1) ⟨Bd.up (bd_add (x := 3 * x1 ^ 2) (y := C.a)).lt (by decide)⟩ hr
    refine ⟨s, a1, a2, fun _ => ?_, fun z => absurd rfl z⟩
    rw [a3]
    have t : zm C.p (3 * x1 ^ 2 + C.a) = 3 * zm C.p x1 * zm C.p x1 + zm C.p C.a := by
      rw [ipow2, zm_add, zm_mul, zm_mul]
      show (3 : Zp C.p) * _ + _ = _
      grind
    rw [t]; rfl
  · have hne : zm C.p x1 ≠ zm C.p x2 := fun e => hx (res_eq X1.1 X1.2 X2.1 X2.2 e)
    have hq : pyEq (toD (T2.mk x1 y1)) (toD (T2.mk x2 y2)) = false := by
      cases e : pyEq (toD (T2.mk x1 y1)) (toD (T2.mk x2 y2)) with
      | false => rfl
      | true => exact absurd (congrArg T2.a ((pyEq_t2 _ _).mp e)) hx
    rw [hq, cond_false]
    have hr : zm C.p (x2 - x1) ≠ 0 := by rw [zm_sub]; grind
    obtain ⟨s, a1, a2, a3⟩ := fin (y2 - y1) (x2 - x1) ⟨Bd.up (bd_sub (x := y2) (y := y1)).lt (by decide)⟩ hr
    exact ⟨s, a1, a2, fun z => absurd z hne, fun _ => by rw [a3, zm_sub, zm_sub]⟩
theorem add_ok [hC : CvP C] (P Q : C.Pt) : m_Curve_add C.o (lf P) (lf Q) = .ok (lf (P + Q)) := by
  unfold m_Curve_add
  by_cases hP : P = 0
  · subst hP
    simp only [Res.bind_ok, isNon_lf0, cond_true, g_zero_add]
  by_cases hQ : Q = 0
  · subst hQ
    simp only [Res.bind_ok, isNon_lf0, isNon_lf hP, cond_true, cond_false, g_add_zero]
  have ok0 : (toD (lf Q)).okq = true ∧ (toD (lf (-P))).okq = true := ⟨okq_p2 _, okq_p2 _⟩
  simp only [Res.bind_ok, isNon_lf hP, isNon_lf hQ, cond_false, neg_ok, Res.need_pos ok0, pyEq_lf]
  by_cases hn : Q = -P
  · rw [decide_eq_true hn, cond_true, hn, g_add_neg]; rfl
  · rw [decide_eq_false hn, cond_false]
    cases e1 : lf P with
    | none => exact absurd (lf_none e1) hP
    | some q =>
    cases e2 : lf Q with
    | none => exact absurd (lf_none e2) hQ
    | some r =>
    obtain ⟨x1, y1⟩ := q
    obtain ⟨x2, y2⟩ := r
    obtain ⟨X1, Y1, O1, v1⟩ := lf_some e1
    obtain ⟨X2, Y2, O2, v2⟩ := lf_some e2
    obtain ⟨s, a1, a2, a3⟩ := slope_ok e1 e2 hn
    have := X1.bd
    have := X2.bd
    have := Y1.bd
    have := Y2.bd
    have := a2.bd
    have og : ∀ z : T2 Int Int, optGet (some z) = .ok z := fun _ => rfl
    simp (decide := true) only [Res.bind_ok, og, a1, need_bind, need_bd, need_p, need_pw2, tn2]
    rw [lf_add e1 e2 hn a3, ipow2]
/-! ### the law's own sum -/
theorem linv_f {p : Nat} [Prm p] (h : Pr p) (x : Int) (hx : zm p x ≠ 0) : ∃ i, m_u_law_inverse x (p : Int) = .ok i ∧ Rs p i ∧ zm p i = (zm p x)⁻¹ := by
  have P := h.pb
  refine ⟨_, linv_ok h x, rs_mod _, ?_⟩
  have a := linv_z h x hx
  have := z_mul_inv hx
  grind
theorem ladd_ok [hC : CvP C] (P Q : C.Pt) : m_u_law_add (C.p : Int) C.a (lf P) (lf Q) = .ok (lf (P + Q)) := by
  unfold m_u_law_add
  by_cases hP : P = 0
  · subst hP
    simp only [Res.bind_ok, isNon_lf0, cond_true, g_zero_add]
  by_cases hQ : Q = 0
  · subst hQ
    simp only [Res.bind_ok, isNon_lf0, isNon_lf hP, cond_true, cond_false, g_add_zero]
  simp only [Res.bind_ok, isNon_lf hP, isNon_lf hQ, cond_false]
  cases e1 : lf P with
  | none => exact absurd (lf_none e1) hP
  | some q =>
  cases e2 : lf Q with
  | none => exact absurd (lf_none e2) hQ
  | some r =>
  obtain ⟨x1, y1⟩ := q
  obtain ⟨x2, y2⟩ := r
  obtain ⟨X1, Y1, O1, v1⟩ := lf_some e1
  obtain ⟨X2, Y2, O2, v2⟩ := lf_some e2
  have := X1.bd
  have := X2.bd
  have := Y1.bd
  have := Y2.bd
  have := (Cv.A C).bd
  have og : ∀ z : T2 Int Int, optGet (some z) = .ok z := fun _ => rfl
  have dg : (x1 = x2 ∧ (y1 + y2) % (C.p : Int) = 0) ↔ Q = -P := by
    constructor
    · rintro ⟨c1, c2⟩
      apply lf_inj
      rw [e2, lf_neg e1, c1]
      have : y2 = -y1 % C.p := res_eq Y2.1 Y2.2 (rs_mod _).1 (rs_mod _).2 (by
        have := zm_zero.mpr c2
        rw [zm_add] at this
        rw [zm_mod, zm_neg]; grind)
      rw [this]
    · intro c
      rw [c, lf_neg e1] at e2
      have e2 := Option.some.inj e2
      refine ⟨congrArg T2.a e2, ?_⟩
      have : -y1 % (C.p : Int) = y2 := congrArg T2.b e2
      rw [← this, ← zm_zero, zm_add, zm_mod, zm_neg]; grind
  have fin : ∀ s : Int, Rs C.p s → IsSl C x1 y1 x2 y2 s → Q ≠ -P → m_u_law_add_k4 (C.p : Int) x1 y1 x2 s = .ok (lf (P + Q)) := by
    intro s rs hs hn
    have := rs.bd
    unfold m_u_law_add_k4
    simp (decide := true) only [Res.bind_ok, need_bind, need_bd, need_p]
    rw [lf_add e1 e2 hn hs]
  by_cases hn : Q = -P
  · obtain ⟨c1, c2⟩ := dg.mpr hn
    simp (decide := true) only [Res.bind_ok, og, need_bind, need_bd, need_p, decide_eq_true c1, decide_eq_true c2, cond_true]
    rw [hn, g_add_neg]; rfl
  · have hd := mt dg.mp hn
    by_cases hx : x1 = x2
    · have c2 : ¬ (y1 + y2) % (C.p : Int) = 0 := fun z => hd ⟨hx, z⟩
      obtain ⟨f1, f2, f3⟩ := lf_ne e1 e2 hn hx
      have hr : zm C.p (2 * y1) ≠ 0 := by rw [zm_mul]; exact z_mul_ne C.pr C.two f3
      obtain ⟨i, a1, a2, a3⟩ := linv_f hC.pr (2 * y1) hr
      have := a2.bd
      simp (decide := true) only [Res.bind_ok, og, need_bind, need_bd, need_p, decide_eq_true hx, decide_eq_false c2, cond_true, cond_false, a1]
      refine fin _ (rs_mod _) ⟨fun _ => ?_, fun z => absurd (by rw [hx]) z⟩ hn
      rw [zm_mod, zm_mul, a3, zm_add, zm_mul, zm_mul]
      rfl
    · have hne : zm C.p x1 ≠ zm C.p x2 := fun e => hx (res_eq X1.1 X1.2 X2.1 X2.2 e)
      have hr : zm C.p (x2 - x1) ≠ 0 := by rw [zm_sub]; grind
      obtain ⟨i, a1, a2, a3⟩ := linv_f hC.pr (x2 - x1) hr
      have := a2.bd
      simp (decide := true) only [Res.bind_ok, og, need_bind, need_bd, need_p, decide_eq_false hx, cond_false, a1]
      refine fin _ (rs_mod _) ⟨fun z => absurd z hne, fun _ => ?_⟩ hn
      rw [zm_mod, zm_mul, a3, zm_sub, zm_sub]
theorem lon_lf [hC : CvP C] (P : C.Pt) : m_u_law_on (C.p : Int) C.a C.b (toD (lf P)) = .ok true := by
  cases e : lf P with
  | none =>
    rw [toD_none2]
    unfold m_u_law_on
    rfl
  | some q =>
    obtain ⟨x, y⟩ := q
    obtain ⟨X, Y, O, v⟩ := lf_some e
    rw [toD_some2, lon_ok C.A X Y, decide_eq_true O]
end

/-! ### the curve of a law -/
theorem nosing_of {p : Nat} {a b : Int} (h : ¬ (4 * a ^ 3 + 27 * b ^ 2) % (p : Int) = 0) : NoSing (zm p a) (zm p b) := by
  intro e
  apply h
  rw [← zm_zero, Int.pow_succ, ipow2, ipow2, zm_add, zm_mul, zm_mul, zm_mul, zm_mul, zm_mul]
  have e : (4 : Zp p) * zm p a * zm p a * zm p a + 27 * zm p b * zm p b = 0 := e
  show (4 : Zp p) * _ + (27 : Zp p) * _ = 0
  grind
theorem cv_ex {p : Nat} (h : Pr p) (h5 : 5 ≤ p) {a b : Int} (A : Rs p a) (B : Rs p b) (hs : ¬ (4 * a ^ 3 + 27 * b ^ 2) % (p : Int) = 0) : ∃ C : Cv, CvP C ∧ C.p = p ∧ C.a = a ∧ C.b = b :=
  ⟨⟨p, a, b, h.pr, h5, A.1, A.2, B.1, B.2, nosing_of hs⟩, ⟨h⟩, rfl, rfl, rfl⟩
/-- the law's curve: singular, or a curve with two points -/
theorem curve_ex {p : Nat} (h : Pr p) (h5 : 5 ≤ p) (ns : List Int) {at_ : Int} (hat : 0 ≤ at_) : ∃ a b x1 y1 x2 y2 : Int, m_u_law_curve_and_points ns at_ (p : Int) = .ok (T4.mk a b (T2.mk x1 y1) (T2.mk x2 y2)) ∧
    (m_u_law_singular (p : Int) a b = .ok true ∨ m_u_law_singular (p : Int) a b = .ok false ∧ ∃ (C : Cv) (P Q : C.Pt), CvP C ∧ C.p = p ∧ C.a = a ∧ C.b = b ∧ m_Curve_init (p : Int) a b = .ok C.o ∧ lf P = some (T2.mk x1 y1) ∧ lf Q = some (T2.mk x2 y2)) := by
  have Pb := h.pb
  obtain ⟨a, b, x1, y1, x2, y2, cp, A, B, X1, Y1, X2, Y2, O1, O2⟩ := cap_ok h ns hat
  refine ⟨a, b, x1, y1, x2, y2, cp, ?_⟩
  have := A.bd
  have := B.bd
  by_cases hs : (4 * a ^ 3 + 27 * b ^ 2) % (p : Int) = 0
  · exact .inl (by rw [lsing_ok, decide_eq_true hs])
  · refine .inr ⟨by rw [lsing_ok, decide_eq_false hs], ?_⟩
    have ini := init_ok h h5 a b
    rw [Int.emod_eq_of_lt A.1 A.2, Int.emod_eq_of_lt B.1 B.2, if_neg hs] at ini
    obtain ⟨C, hc, e1, e2, e3⟩ := cv_ex h h5 A B hs
    subst e1 e2 e3
    obtain ⟨P, p1, _⟩ := lf_ex X1 Y1 O1
    obtain ⟨Q, q1, _⟩ := lf_ex X2 Y2 O2
    exact ⟨C, P, Q, hc, rfl, rfl, rfl, ini, p1, q1⟩

/-! ### multiples -/
theorem half_lt {n : Nat} (h : 0 < n) : n / 2 < n := Nat.div_lt_self h (by decide)
section
variable {C : Cv} [hC : CvP C]
theorem mbb_loop (k : P2 × P2 × Int → Res P2) : ∀ (fuel n : Nat) (R D : C.Pt), n < fuel → ∃ D' : C.Pt, m_multiply_by_bits_w2 C.o k fuel (lf R, lf D, (n : Int)) = k (lf (R + nsm n D), lf D', 0) := by
  intro fuel
  induction fuel with
  | zero => intro n R D h; omega
  | succ f ih =>
    intro n R D h
    rw [m_multiply_by_bits_w2]
    have t1 : (n : Int) / 2 ^ (1 : Int).toNat = ((n / 2 : Nat) : Int) := by show (n : Int) / 2 = _; omega
    have e2 : nsm n D = nsm (n % 2) D + nsm (n / 2) (D + D) := by
      have : D + D = nsm 2 D := by rw [nsm_succ, nsm_one]
      rw [this, ← nsm_mul, ← nsm_add]
      congr 1
      omega
    unfold m_multiply_by_bits_k3
    simp only [Res.bind_ok, bit1, add_ok, t1]
    by_cases hn : n = 0
    · subst hn
      exact ⟨D, by simp [nsm_zero, g_add_zero]⟩
    · rw [decide_eq_true (show (0 : Int) < (n : Int) by omega), cond_true]
      by_cases ho : (n : Int) % 2 = 1
      · obtain ⟨D', q⟩ := ih (n / 2) (R + D) (D + D) (by have := half_lt (Nat.pos_of_ne_zero hn); omega)
        rw [decide_eq_true ho, cond_true, q, e2, show n % 2 = 1 by omega, nsm_one, g_add_assoc]
        exact ⟨D', rfl⟩
      · obtain ⟨D', q⟩ := ih (n / 2) R (D + D) (by have := half_lt (Nat.pos_of_ne_zero hn); omega)
        rw [decide_eq_false ho, cond_false, q, e2, show n % 2 = 0 by omega, nsm_zero, g_zero_add]
        exact ⟨D', rfl⟩
theorem mbb_nat (n k : Nat) (P : C.Pt) : m_multiply_by_bits (k + 1) C.o none (n : Int) (lf P) = .ok (lf (nsm n P)) := by
  have h0 : (none : P2) = lf (0 : C.Pt) := rfl
  rw [m_multiply_by_bits]
  unfold m_multiply_by_bits_b
  rw [h0]
  obtain ⟨D', q⟩ := mbb_loop (C := C) m_multiply_by_bits_k4 ((n : Int).toNat + 1) n 0 P (by omega)
  simp only [Res.bind_ok, decide_eq_false (show ¬ (n : Int) < 0 by omega), cond_false, q]
  unfold m_multiply_by_bits_k4
  rw [g_zero_add]
theorem mbb_ok (n : Int) (P : C.Pt) : m_multiply_by_bits 2 C.o none n (lf P) = .ok (lf (zsm n P)) := by
  rcases Int.eq_nat_or_neg n with ⟨k, rfl | rfl⟩
  · rw [mbb_nat, zsm_nat]
  · by_cases hk : k = 0
    · subst hk
      exact mbb_nat 0 1 P
    · have hneg : decide (-(k : Int) < 0) = true := decide_eq_true (by omega)
      rw [m_multiply_by_bits]
      unfold m_multiply_by_bits_b
      simp only [Res.bind_ok, hneg, cond_true, Int.neg_neg, neg_ok, mbb_nat, zsm_neg_nat, nsm_neg]
theorem mul_ok (n : Int) (P : C.Pt) : m_Curve_multiply C.o n (lf P) = .ok (lf (zsm n P)) := by
  unfold m_Curve_multiply
  simp only [Res.bind_ok, mbb_ok]
end

theorem factor_ok (c : Int) : ∃ f, m_u_law_factor c = .ok f ∧ f.natAbs < 2 ^ 90 := by
  have e60 : (2 : Int) ^ (60 : Int).toNat = 1152921504606846976 := by decide +kernel
  have e61 : (2 : Int) ^ (61 : Int).toNat = 2305843009213693952 := by decide +kernel
  have e11 : (2 : Int) ^ (11 : Int).toNat = 2048 := by decide +kernel
  have e10 : (2 : Int) ^ (10 : Int).toNat = 1024 := by decide +kernel
  have c1 : CMulX 1152921504606846976 2048 := cmulx (a := 62) (b := 12) (by decide +kernel) (by decide +kernel) (by decide)
  have c2 : CMulX 1152921504606846976 1024 := cmulx (a := 62) (b := 12) (by decide +kernel) (by decide +kernel) (by decide)
  have m1 : (1152921504606846976 * 2048 : Int) = 2361183241434822606848 := by decide +kernel
  have m2 : (1152921504606846976 * 1024 : Int) = 1180591620717411303424 := by decide +kernel
  unfold m_u_law_factor
  simp only [Res.bind_ok, need_bind, cond_dec, pow18, e60, e61, e11, e10, Res.need_pos c1, Res.need_pos c2, m1, m2]
  by_cases h1 : 1000000000000000000 ≤ (c.natAbs : Int)
  · rw [if_pos h1, Res.need_pos (by decide)]
    exact ⟨_, rfl, by omega⟩
  · rw [if_neg h1, Res.need_pos (by decide)]
    have z0 := Int.emod_nonneg (c.natAbs : Int) (show (4 : Int) ≠ 0 by decide)
    have z1 := Int.emod_lt_of_pos (c.natAbs : Int) (show (0 : Int) < 4 by decide)
    generalize (c.natAbs : Int) % 4 = z at *
    rcases (by omega : z = 0 ∨ z = 1 ∨ z = 2 ∨ z = 3) with rfl | rfl | rfl | rfl
    · exact ⟨_, rfl, by omega⟩
    · exact ⟨_, rfl, by omega⟩
    · exact ⟨_, rfl, by omega⟩
    · exact ⟨_, rfl, by omega⟩
section
variable {C : Cv} [hC : CvP C]
theorem l2_ok (P : C.Pt) {q : T2 Int Int} (hq : some q = lf P) (k : P2 → Res Bool) : ∀ (ks : List Int) (R : C.Pt), m_law_l2 (C.p : Int) C.a q k ks (lf R) = k (lf (R + nsm ks.length P))
  | [], R => by rw [m_law_l2, List.length_nil, nsm_zero, g_add_zero]
  | x :: r, R => by
    rw [m_law_l2]
    simp only [Res.bind_ok, hq, ladd_ok]
    rw [l2_ok P hq k r, List.length_cons, nsm_succ, g_add_assoc, g_add_comm P]
end
theorem law_true (ns : List Int) (hl : ns.length ≤ 63) (hb : ∀ i ∈ ns, Builtin.Int.intBits i ≤ 1048576) : m_law ns = .ok true := by
  clear hb
  obtain ⟨c0, d0⟩ := cell_ex ns (show 0 ≤ (0 : Int) by decide)
  obtain ⟨c6, d6⟩ := cell_ex ns (show 0 ≤ (6 : Int) by decide)
  obtain ⟨c7, d7⟩ := cell_ex ns (show 0 ≤ (7 : Int) by decide)
  obtain ⟨c8, d8⟩ := cell_ex ns (show 0 ≤ (8 : Int) by decide)
  obtain ⟨p', p1, h', h5'⟩ := prime_ok (c0 / 5) (least := 5) (by decide) (by decide)
  have p1 : m_u_law_prime (c0 / 5) 5 = .ok (p' : Int) := p1
  have e61 : (2 : Int) ^ (61 : Int).toNat = 2305843009213693952 := by decide +kernel
  have hpr : ∃ p : Nat, Pr p ∧ 5 ≤ p ∧ idx ([(p' : Int), 2305843009213693951] : List Int) (if decide ((c0.natAbs : Int) % 5 = 4) = true then (1 : Int) else 0) = .ok (p : Int) := by
    by_cases c : (c0.natAbs : Int) % 5 = 4
    · rw [decide_eq_true c, if_pos rfl]
      exact ⟨2305843009213693951, ⟨prime_m61, by decide +kernel, by decide +kernel⟩, by decide +kernel, rfl⟩
    · rw [decide_eq_false c, if_neg (by decide)]
      exact ⟨p', h', h5', rfl⟩
  obtain ⟨p, h, h5, hp⟩ := hpr
  obtain ⟨m, fm, mb⟩ := factor_ok c6
  obtain ⟨n, fn, nb⟩ := factor_ok c7
  have hPb := h.pb
  obtain ⟨a, b, x1, y1, x2, y2, cp, hh⟩ := curve_ex h h5 ns (at_ := 1) (by decide)
  have s61 : (2305843009213693952 - 1 : Int) = 2305843009213693951 := by decide +kernel
  unfold m_law
  simp (decide := true) only [Res.bind_ok, d0, p1, e61, s61, hp, cp]
  rcases hh with q | ⟨q, C, P, Q, hC, e1, e2, e3, ini, lp, lq⟩
  · simp only [q, Res.bind_ok, cond_true]
  · subst e1 e2 e3
    have hs0 := Int.emod_nonneg (c8.natAbs : Int) (show (14 : Int) ≠ 0 by decide)
    have hs1 := Int.emod_lt_of_pos (c8.natAbs : Int) (show (0 : Int) < 14 by decide)
    simp (decide := true) only [q, Res.bind_ok, cond_false, ini, need_bind, need_p, d6, d7, d8, fm, fn]
    generalize (c8.natAbs : Int) % 14 = s at *
    have hr : okRange s := ⟨by omega, by omega⟩
    have h0 : (none : P2) = lf (0 : C.Pt) := rfl
    rw [Res.need_pos hr, h0]
    rw [l2_ok P lp.symm]
    have hlen : (pyRange 0 s).length = s.toNat := by rw [pyRange_len]; congr 1; omega
    rw [hlen, g_zero_add]
    obtain ⟨j, rfl⟩ := Int.eq_ofNat_of_zero_le hs0
    have ok : ∀ X Y : P2, (toD X).okq = true ∧ (toD Y).okq = true := fun X Y => ⟨okq_p2 X, okq_p2 Y⟩
    have E1 : zsm n (zsm m P) = zsm (m * n) P := by rw [← zsm_mul, Int.mul_comm]
    have E2 : zsm m (zsm n P) = zsm (m * n) P := by rw [← zsm_mul]
    have cm : CMulX m n := cmulx mb nb (by decide)
    unfold m_law_k7
    simp only [Res.bind_ok, need_bind, ← lp, ← lq, mul_ok, add_ok, neg_ok, lon_lf, Res.need_pos (ok _ _), Res.need_pos cm, pyEq_lf, Int.toNat_natCast, zsm_nat, zsm_neg_nat, zsm_add, zsm_addd, zsm_neg, E1, E2, decide_true, Bool.not_true, cond_false, cond_true, h0, zsm_zero', zsm_zero, isNon_lf0]
end Mi
open PySem PySem.W PySem.Calls PyProof.Rows
theorem PySem.Challenge.cw_curveseal_k11_multiples_of_points_holds : PySem.Challenge.rw_curveseal_k11_multiples_of_points.Holds := by
  w_on; o_law
  refine HandSHeadRun.head_any (r := OpenLaw.row PySem.Challenge.rw_curveseal_k11_multiples_of_points) (q := view (OpenLaw.row PySem.Challenge.rw_curveseal_k11_multiples_of_points).prog [30]) (H := Mi.hk) (ob := Mi.ob) (M := 20000) (loose := ["multiply_by_bits", "is_whole", "is_residue", "is_residue_pair", "bezout", "inverse", "_law_cell", "_law_is_integer", "_law_is_prime", "_law_prime", "_law_power", "_law_inverse", "_law_residue", "_law_curve_and_points", "_law_add", "_law_on", "_law_singular", "_law_factor", "_wall", "CurveError", "OutOfRange", "NoInverse", "Refused", "Curve"]) (d := HandSHeadRun.topDef (OpenLaw.row PySem.Challenge.rw_curveseal_k11_multiples_of_points).prog 30) (kwd := []) Mi.ob_eq
    (by kernel_rfl) (fun s => by kernel_rfl) Mi.run_ (by kernel_rfl) (by kernel_rfl) (by kernel_rfl) (by rfl) (by first | assumption | decide +kernel) (by decide +kernel) ⟨rfl, rfl, rfl, rfl, rfl, by decide +kernel⟩ ?hw ?hc
  case hw => w_witness2
  case hc =>
    refine Mi.walk_end (l := PySem.Challenge.rw_curveseal_k11_multiples_of_points) (n := 63) (k := 8) (x := "script") (m := Mi.m_law) rfl (by decide) (by kernel_rfl) ⟨rfl, by decide, by decide⟩ ?F Mi.law_true
    intro w mg fa h Y G hmg0
    obtain ⟨K, KX, c⟩ := Y
    have hmg : mg ("law" : PySem.Str) = some (.ref fa) := by
      have e : (HandSHeadRun.topDef (OpenLaw.row PySem.Challenge.rw_curveseal_k11_multiples_of_points).prog 30).name = ("law" : PySem.Str) := by kernel_rfl
      rw [← e]
      exact hmg0
    have T := Mi.facts_of KX G c
    have ea := hmg.symm.trans T.g_law
    cases ea
    obtain ⟨fd, FL⟩ := T.d_law
    have b := L2.FunD.bindsA (ps := ["script"]) FL fun _ _ _ _ _ _ us hl => match us, hl with | [_], _ => rfl
    exact ⟨K, fd, KX, fun s u => b s [u] rfl, fun base _ _ => Mi.ok_law T FL⟩
