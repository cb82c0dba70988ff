import PyProof.Rows.All
import Wide.All
import OpenK.AllK
import Wide.FinOn
import HandS.Base
import HandS.Call
import HandS.List
import HandS.Comp
import HandS.Ends
import HandS.Exc
import HandS.ExcOwn
import HandS.TryOnly
import HandS.ExcIs
import HandS.IsInst
import HandS.FStr
import HandS.RaiseMore
import HandS.Words
import HandS.WordsList
import HandS.WordsExc
import HandS.WideBits
import HandS.Iter
import HandS.Text
import HandS.Evl
import HandS.Head0
import HandS.Head1
import HandS.Head2
import HandS.HeadEnd
import HandS.HeadHook1
import HandS.HeadHook2
import HandS.HeadHook4
import HandS.EndBits
import HandS.Style
import PySem.Challenge.RW_curveseal_k00_numbers_in_bytes
set_option Elab.async false
set_option linter.all false
set_option maxRecDepth 100000
set_option autoImplicit false
set_option maxHeartbeats 4000000
set_option maxHeartbeats 1000000
namespace Mi
open PySem PySem.Spec L2
open Evl (Ex)

/-! ### data -/
inductive D where
  | non | bl (b : Bool) | int (i : Int) | str (s : Str) | ty (n : String)
  | tup (xs : List D) | lst (xs : List D) | obj (c : Str) (ks : List Str) (ds : List D)

class ToD (α : Type) where
  d : α → D
abbrev toD {α : Type} [ToD α] (x : α) : D := ToD.d x
instance : ToD D := ⟨fun x => x⟩
instance : ToD Int := ⟨D.int⟩
instance : ToD Bool := ⟨D.bl⟩
instance : ToD Unit := ⟨fun _ => .non⟩
instance : ToD Str := ⟨D.str⟩
instance {α : Type} [ToD α] : ToD (List α) := ⟨fun xs => .lst (xs.map ToD.d)⟩
instance {α : Type} [ToD α] : ToD (Option α) := ⟨fun o => match o with | none => .non | some x => ToD.d x⟩
structure T1 (α : Type) where
  a : α
structure T2 (α β : Type) where
  a : α
  b : β
structure T3 (α β γ : Type) where
  a : α
  b : β
  c : γ
structure T4 (α β γ δ : Type) where
  a : α
  b : β
  c : γ
  e : δ
structure Tu (α : Type) where
  xs : List α
instance {α : Type} [ToD α] : ToD (T1 α) := ⟨fun x => .tup [ToD.d x.a]⟩
instance {α β : Type} [ToD α] [ToD β] : ToD (T2 α β) := ⟨fun x => .tup [ToD.d x.a, ToD.d x.b]⟩
instance {α β γ : Type} [ToD α] [ToD β] [ToD γ] : ToD (T3 α β γ) := ⟨fun x => .tup [ToD.d x.a, ToD.d x.b, ToD.d x.c]⟩
instance {α β γ δ : Type} [ToD α] [ToD β] [ToD γ] [ToD δ] : ToD (T4 α β γ δ) := ⟨fun x => .tup [ToD.d x.a, ToD.d x.b, ToD.d x.c, ToD.d x.e]⟩
instance {α : Type} [ToD α] : ToD (Tu α) := ⟨fun x => .tup (x.xs.map ToD.d)⟩

mutual
def Rep (K : PySem.W.Frag) (F : Hp) : D → V → Prop
  | .non, v => v = .non
  | .bl b, v => v = .bl b
  | .int i, v => v = .int i
  | .str s, v => v = .str s
  | .ty n, v => v = .ty n
  | .tup ds, v => ∃ a vs, v = .ref a ∧ SqT K F a vs ∧ Reps K F ds vs
  | .lst ds, v => ∃ a vs, v = .ref a ∧ SqL K F a vs ∧ Reps K F ds vs
  | .obj c ks ds, v => ∃ a dx vs, v = .ref a ∧ F a = some (.ins (He.ga K c) dx (ks.zip vs)) ∧ ks.length = vs.length ∧ Reps K F ds vs
def Reps (K : PySem.W.Frag) (F : Hp) : List D → List V → Prop
  | [], vs => vs = []
  | d :: ds, vs => ∃ v r, vs = v :: r ∧ Rep K F d v ∧ Reps K F ds r
end

mutual
theorem Rep.mono {K : PySem.W.Frag} {F F' : Hp} (e : Ex F F') : ∀ (d : D) (v : V), Rep K F d v → Rep K F' d v
  | .non, v, h => h
  | .bl b, v, h => h
  | .int i, v, h => h
  | .str s, v, h => h
  | .ty n, v, h => h
  | .tup ds, v, h => by
    obtain ⟨a, vs, h1, h2, h3⟩ := h
    exact ⟨a, vs, h1, Evl.ex_t e h2, Reps.mono e ds vs h3⟩
  | .lst ds, v, h => by
    obtain ⟨a, vs, h1, h2, h3⟩ := h
    exact ⟨a, vs, h1, Evl.ex_l e h2, Reps.mono e ds vs h3⟩
  | .obj c ks ds, v, h => by
    obtain ⟨a, dx, vs, h1, h2, h3, h4⟩ := h
    exact ⟨a, dx, vs, h1, e _ _ h2, h3, Reps.mono e ds vs h4⟩
theorem Reps.mono {K : PySem.W.Frag} {F F' : Hp} (e : Ex F F') : ∀ (ds : List D) (vs : List V), Reps K F ds vs → Reps K F' ds vs
  | [], vs, h => h
  | d :: ds, vs, h => by
    obtain ⟨v, r, h1, h2, h3⟩ := h
    exact ⟨v, r, h1, Rep.mono e d v h2, Reps.mono e ds r h3⟩
end
section
variable {K : PySem.W.Frag} {F F' H H' H1 : Hp}
theorem Reps.length : ∀ {ds : List D} {vs : List V}, Reps K F ds vs → ds.length = vs.length
  | [], vs, h => by rw [show vs = [] from h]; rfl
  | d :: ds, vs, h => by
    obtain ⟨v, r, rfl, _, h3⟩ := h
    simp [Reps.length h3]
theorem Reps.get : ∀ {ds : List D} {vs : List V} {i : Nat} {e : D}, Reps K F ds vs → ds[i]? = some e → ∃ v, vs[i]? = some v ∧ Rep K F e v
  | [], vs, i, e, h, q => by simp at q
  | d :: ds, vs, 0, e, h, q => by
    obtain ⟨v, r, rfl, h2, h3⟩ := h
    simp at q; subst q
    exact ⟨v, rfl, h2⟩
  | d :: ds, vs, i + 1, e, h, q => by
    obtain ⟨v, r, rfl, h2, h3⟩ := h
    simp at q
    obtain ⟨w, a, b⟩ := Reps.get h3 q
    exact ⟨w, by simpa using a, b⟩
theorem Reps.append : ∀ {ds es : List D} {vs ws : List V}, Reps K F ds vs → Reps K F es ws → Reps K F (ds ++ es) (vs ++ ws)
  | [], es, vs, ws, h, q => by rw [show vs = [] from h]; exact q
  | d :: ds, es, vs, ws, h, q => by
    obtain ⟨v, r, rfl, h2, h3⟩ := h
    exact ⟨v, r ++ ws, rfl, h2, Reps.append h3 q⟩
theorem Reps.one {e : D} {v : V} (h : Rep K F e v) : Reps K F [e] [v] := ⟨v, [], rfl, h, rfl⟩
theorem Reps.set : ∀ {ds : List D} {vs : List V} (i : Nat) {e : D} {v : V}, Reps K F ds vs → Rep K F e v → Reps K F (ds.set i e) (vs.set i v)
  | [], vs, i, e, v, h, q => by rw [show vs = [] from h]; exact rfl
  | d :: ds, vs, 0, e, v, h, q => by
    obtain ⟨w, r, rfl, h2, h3⟩ := h
    exact ⟨v, r, rfl, q, h3⟩
  | d :: ds, vs, i + 1, e, v, h, q => by
    obtain ⟨w, r, rfl, h2, h3⟩ := h
    exact ⟨w, r.set i v, rfl, h2, Reps.set i h3 q⟩
theorem Reps.drop : ∀ {ds : List D} {vs : List V} (i : Nat), Reps K F ds vs → Reps K F (ds.drop i) (vs.drop i)
  | [], vs, i, h => by rw [show vs = [] from h]; simp [Reps]
  | d :: ds, vs, 0, h => h
  | d :: ds, vs, i + 1, h => by
    obtain ⟨w, r, rfl, h2, h3⟩ := h
    exact Reps.drop i h3
theorem Reps.take : ∀ {ds : List D} {vs : List V} (i : Nat), Reps K F ds vs → Reps K F (ds.take i) (vs.take i)
  | [], vs, i, h => by rw [show vs = [] from h]; simp [Reps]
  | d :: ds, vs, 0, h => by simp [Reps]
  | d :: ds, vs, i + 1, h => by
    obtain ⟨w, r, rfl, h2, h3⟩ := h
    exact ⟨w, r.take i, rfl, h2, Reps.take i h3⟩
theorem Reps.dropLast {ds : List D} {vs : List V} (h : Reps K F ds vs) : Reps K F ds.dropLast vs.dropLast := by
  rw [List.dropLast_eq_take, List.dropLast_eq_take, h.length]
  exact Reps.take _ h
theorem Reps.reverse : ∀ {ds : List D} {vs : List V}, Reps K F ds vs → Reps K F ds.reverse vs.reverse
  | [], vs, h => by rw [show vs = [] from h]; simp [Reps]
  | d :: ds, vs, h => by
    obtain ⟨w, r, rfl, h2, h3⟩ := h
    rw [List.reverse_cons, List.reverse_cons]
    exact Reps.append (Reps.reverse h3) (Reps.one h2)
theorem Reps.ints : ∀ {ns : List Int} {vs : List V}, Reps K F (ns.map D.int) vs → vs = ns.map V.int
  | [], vs, h => h
  | n :: ns, vs, h => by
    obtain ⟨w, r, rfl, h2, h3⟩ := h
    rw [show w = V.int n from h2, Reps.ints h3]; rfl
theorem Reps.of_ints : ∀ (ns : List Int), Reps K F (ns.map D.int) (ns.map V.int)
  | [] => rfl
  | n :: ns => ⟨_, _, rfl, rfl, Reps.of_ints ns⟩
theorem Reps.bls : ∀ {ns : List Bool} {vs : List V}, Reps K F (ns.map D.bl) vs → vs = ns.map V.bl
  | [], vs, h => h
  | n :: ns, vs, h => by
    obtain ⟨w, r, rfl, h2, h3⟩ := h
    rw [show w = V.bl n from h2, Reps.bls h3]; rfl
theorem Reps.strs : ∀ {ns : List Str} {vs : List V}, Reps K F (ns.map D.str) vs → vs = ns.map V.str
  | [], vs, h => h
  | n :: ns, vs, h => by
    obtain ⟨w, r, rfl, h2, h3⟩ := h
    rw [show w = V.str n from h2, Reps.strs h3]; rfl

/-! ### how the heap goes on -/
structure Adv (F H F' H' : Hp) : Prop where
  f : Ex F F'
  h : Ex H H'
  in_ : Ex F' H'
  out : ∀ p, F p = none → H p ≠ none → F' p = none
theorem Adv.refl (e : Ex F H) : Adv F H F H := ⟨Ex.refl F, Ex.refl H, e, fun _ h _ => h⟩
theorem Adv.trans {F1 H1 F2 H2 F3 H3 : Hp} (a : Adv F1 H1 F2 H2) (b : Adv F2 H2 F3 H3) : Adv F1 H1 F3 H3 :=
  ⟨a.f.trans b.f, a.h.trans b.h, b.in_, fun p h1 h2 => b.out p (a.out p h1 h2) fun z => h2 (Evl.fresh_back a.h z)⟩
theorem none_of_ex (e : Ex F H) {p : Addr} (h : H p = none) : F p = none := Evl.fresh_back e h
theorem Adv.new {p : Addr} {o : HO} (e : Ex F H) (h : H p = none) : Adv F H (upd F p o) (upd H p o) := by
  refine ⟨Ex.new (none_of_ex e h), Ex.new h, fun a u q => ?_, fun q h1 h2 => ?_⟩
  · by_cases z : a = p
    · subst z; rw [upd_same] at q ⊢; exact q
    · rw [upd_ne z] at q ⊢; exact e a u q
  · have z : q ≠ p := fun z => h2 (by rw [z]; exact h)
    rw [upd_ne z]; exact h1
/-- a new object, not frozen -/
theorem Adv.newO {p : Addr} {o : HO} (e : Ex F H) (h : H p = none) : Adv F H F (upd H p o) :=
  ⟨Ex.refl F, Ex.new h, fun a u q => (Ex.new h) a u (e a u q), fun _ h1 _ => h1⟩
end

/-! ### what a def gives -/
inductive Res (α : Type) where
  | ok (x : α) | exc (c : Str) | stuck
namespace Res
def bind {α β : Type} : Res α → (α → Res β) → Res β
  | .ok x, f => f x
  | .exc c, _ => .exc c
  | .stuck, _ => .stuck
theorem bind_ok {α β : Type} (x : α) (f : α → Res β) : (Res.ok x).bind f = f x := rfl
theorem bind_exc {α β : Type} (c : Str) (f : α → Res β) : (Res.exc c : Res α).bind f = .exc c := rfl
theorem bind_stuck {α β : Type} (f : α → Res β) : (Res.stuck : Res α).bind f = .stuck := rfl
theorem bind_assoc {α β γ : Type} (m : Res α) (f : α → Res β) (g : β → Res γ) : (m.bind f).bind g = m.bind fun x => (f x).bind g := by
  cases m <;> rfl
theorem bind_pure {α : Type} (m : Res α) : m.bind Res.ok = m := by cases m <;> rfl
/-- a condition that must hold -/
@[irreducible] noncomputable def need {α : Type} (p : Prop) (m : Res α) : Res α := @ite _ p (Classical.propDecidable p) m .stuck
theorem need_pos {α : Type} {p : Prop} {m : Res α} (h : p) : need p m = m := by unfold need; exact if_pos h
theorem need_neg {α : Type} {p : Prop} {m : Res α} (h : ¬ p) : need p m = .stuck := by unfold need; exact if_neg h
def map {α β : Type} (f : α → β) (m : Res α) : Res β := m.bind fun x => .ok (f x)
end Res

/-! ### slots -/
inductive Sk where
  | im (e : D) | ow (xs : List D) | raw (v : V) | oi (p : Option Addr) (c : Str) (ks : List Str) (ds : List D)
/-- what only this frame knows -/
def Sk.own : Sk → Bool
  | .ow _ => true
  | .oi _ _ _ _ => true
  | _ => false
abbrev En := List (Option Sk)
def SkOk (K : PySem.W.Frag) (H0 F H : Hp) : Sk → V → Prop
  | .im e, v => Rep K F e v
  | .ow xs, v => ∃ p vs, v = .ref p ∧ H0 p = none ∧ F p = none ∧ H p = some (.lst vs) ∧ Reps K F xs vs
  | .raw w, v => v = w
  | .oi pp c ks ds, v => ∃ p dx vs, v = .ref p ∧ H0 p = none ∧ F p = none ∧ H p = some (.ins (He.ga K c) dx (ks.zip vs)) ∧ ks.length = vs.length ∧ Reps K F ds vs ∧ ∀ a, pp = some a → p = a
structure Sl (K : PySem.W.Frag) (F0 H0 F H : Hp) (σ : L2.St) (env : En) : Prop where
  adv : Adv F0 H0 F H
  slot : ∀ (i : Nat) (sk : Sk), env[i]? = some (some sk) → ∃ v, σ[i]? = some (some v) ∧ SkOk K H0 F H sk v
  dis : ∀ (i j : Nat) (sk sk' : Sk) (p : Addr), i ≠ j → env[i]? = some (some sk) → env[j]? = some (some sk') → sk.own = true → sk'.own = true → σ[i]? = some (some (.ref p)) → σ[j]? ≠ some (some (.ref p))
  len : σ.length = env.length
section
variable {K : PySem.W.Frag} {F0 H0 F H F' H' : Hp} {σ : L2.St} {env : En}
theorem Sl.ex (S : Sl K F0 H0 F H σ env) : Ex F H := S.adv.in_
theorem SkOk.adv {sk : Sk} {v : V} (a : Adv F H F' H') (h : SkOk K H0 F H sk v) : SkOk K H0 F' H' sk v := by
  cases sk with
  | im e => exact Rep.mono a.f _ _ h
  | ow xs =>
    obtain ⟨p, vs, e1, e2, e3, e4, e5⟩ := h
    exact ⟨p, vs, e1, e2, a.out p e3 (by rw [e4]; simp), a.h _ _ e4, Reps.mono a.f _ _ e5⟩
  | raw w => exact h
  | oi pp c ks ds =>
    obtain ⟨p, dx, vs, e1, e2, e3, e4, e5, e6, e7⟩ := h
    exact ⟨p, dx, vs, e1, e2, a.out p e3 (by rw [e4]; simp), a.h _ _ e4, e5, Reps.mono a.f _ _ e6, e7⟩
theorem SkOk.at {sk : Sk} {v : V} (ho : sk.own = true) (h : SkOk K H0 F H sk v) : ∃ p o, v = .ref p ∧ H0 p = none ∧ F p = none ∧ H p = some o := by
  cases sk with
  | im e => cases ho
  | raw w => cases ho
  | ow xs =>
    obtain ⟨p, vs, e1, e2, e3, e4, e5⟩ := h
    exact ⟨p, _, e1, e2, e3, e4⟩
  | oi pp c ks ds =>
    obtain ⟨p, dx, vs, e1, e2, e3, e4, e5, e6, e7⟩ := h
    exact ⟨p, _, e1, e2, e3, e4⟩
theorem SkOk.updH {sk : Sk} {v : V} {p : Addr} {o : HO} (hn : sk.own = true → v ≠ .ref p) (h : SkOk K H0 F H sk v) : SkOk K H0 F (upd H p o) sk v := by
  cases sk with
  | im e => exact h
  | raw w => exact h
  | ow xs =>
    obtain ⟨q, vs, e1, e2, e3, e4, e5⟩ := h
    have hne : q ≠ p := fun z => hn rfl (by rw [e1, z])
    exact ⟨q, vs, e1, e2, e3, by rw [upd_ne hne]; exact e4, e5⟩
  | oi pp c ks ds =>
    obtain ⟨q, dx, vs, e1, e2, e3, e4, e5, e6, e7⟩ := h
    have hne : q ≠ p := fun z => hn rfl (by rw [e1, z])
    exact ⟨q, dx, vs, e1, e2, e3, by rw [upd_ne hne]; exact e4, e5, e6, e7⟩
theorem SkOk.updF {sk : Sk} {v : V} {p : Addr} {o : HO} (hf : F p = none) (hn : sk.own = true → v ≠ .ref p) (h : SkOk K H0 F H sk v) : SkOk K H0 (upd F p o) H sk v := by
  have ad : Ex F (upd F p o) := Ex.new hf
  cases sk with
  | im e => exact Rep.mono ad _ _ h
  | raw w => exact h
  | ow xs =>
    obtain ⟨q, vs, e1, e2, e3, e4, e5⟩ := h
    have hne : q ≠ p := fun z => hn rfl (by rw [e1, z])
    exact ⟨q, vs, e1, e2, by rw [upd_ne hne]; exact e3, e4, Reps.mono ad _ _ e5⟩
  | oi pp c ks ds =>
    obtain ⟨q, dx, vs, e1, e2, e3, e4, e5, e6, e7⟩ := h
    have hne : q ≠ p := fun z => hn rfl (by rw [e1, z])
    exact ⟨q, dx, vs, e1, e2, by rw [upd_ne hne]; exact e3, e4, e5, Reps.mono ad _ _ e6, e7⟩
theorem Sl.step (S : Sl K F0 H0 F H σ env) (a : Adv F H F' H') : Sl K F0 H0 F' H' σ env := by
  refine ⟨S.adv.trans a, fun i sk e => ?_, S.dis, S.len⟩
  obtain ⟨v, h1, h2⟩ := S.slot i sk e
  exact ⟨v, h1, h2.adv a⟩
theorem set_get {α : Type} {l : List α} {i j : Nat} {x y : α} (h : (l.set i x)[j]? = some y) : (i = j ∧ x = y) ∨ (i ≠ j ∧ l[j]? = some y) := by
  rw [List.getElem?_set] at h
  by_cases e : i = j
  · rw [if_pos e] at h
    split at h
    · exact .inl ⟨e, Option.some.inj h⟩
    · cases h
  · rw [if_neg e] at h
    exact .inr ⟨e, h⟩
theorem set_len {α : Type} {l : List α} {i : Nat} {x y : α} (h : (l.set i x)[i]? = some y) : i < l.length := by
  have h := (List.getElem?_eq_some_iff.mp h).1
  rwa [List.length_set] at h
theorem Sl.setIm (S : Sl K F0 H0 F H σ env) {i : Nat} {e : D} {v : V} (r : Rep K F e v) : Sl K F0 H0 F H (σ.set i (some v)) (env.set i (some (.im e))) := by
  refine ⟨S.adv, fun j sk q => ?_, fun j k sk sk' p hjk e1 e2 o1 o2 h1 => ?_, by rw [List.length_set, List.length_set]; exact S.len⟩
  · rcases set_get q with ⟨rfl, z⟩ | ⟨z, q⟩
    · cases z
      refine ⟨v, ?_, r⟩
      have hi : i < env.length := set_len q
      rw [List.getElem?_set_self (by rw [S.len]; exact hi)]
    · obtain ⟨w, h1, h2⟩ := S.slot j sk q
      exact ⟨w, by rw [List.getElem?_set_ne z]; exact h1, h2⟩
  · rcases set_get e1 with ⟨_, z⟩ | ⟨z1, e1⟩
    · cases z; cases o1
    rcases set_get e2 with ⟨_, z⟩ | ⟨z2, e2⟩
    · cases z; cases o2
    rw [List.getElem?_set_ne z1] at h1
    rw [List.getElem?_set_ne z2]
    exact S.dis j k sk sk' p hjk e1 e2 o1 o2 h1
/-- a new owned object -/
theorem Sl.setOwn (S : Sl K F0 H0 F H σ env) {i : Nat} {p : Addr} {sk : Sk} (hs : SkOk K H0 F H sk (.ref p)) (hn : ∀ (j : Nat) (sk' : Sk), env[j]? = some (some sk') → sk'.own = true → σ[j]? ≠ some (some (V.ref p))) :
    Sl K F0 H0 F H (σ.set i (some (.ref p))) (env.set i (some sk)) := by
  refine ⟨S.adv, fun j sk q => ?_, fun j k sk1 sk2 p' hjk e1 e2 o1 o2 h1 => ?_, by rw [List.length_set, List.length_set]; exact S.len⟩
  · rcases set_get q with ⟨rfl, z⟩ | ⟨z, q⟩
    · cases z
      refine ⟨_, ?_, hs⟩
      have hi : i < env.length := set_len q
      rw [List.getElem?_set_self (by rw [S.len]; exact hi)]
    · obtain ⟨w, h1, h2⟩ := S.slot j sk q
      exact ⟨w, by rw [List.getElem?_set_ne z]; exact h1, h2⟩
  · rcases set_get e1 with ⟨z0, z⟩ | ⟨z1, e1⟩
    · rcases set_get e2 with ⟨z2, _⟩ | ⟨z2, e2⟩
      · exact absurd (z0.symm.trans z2) hjk
      · subst z0
        rw [List.getElem?_set_ne z2]
        have hi : i < σ.length := set_len h1
        rw [List.getElem?_set_self hi] at h1
        cases h1
        exact hn k sk2 e2 o2
    · rw [List.getElem?_set_ne z1] at h1
      rcases set_get e2 with ⟨z2, z⟩ | ⟨z2, e2⟩
      · subst z2
        intro q
        have hi : i < σ.length := set_len q
        rw [List.getElem?_set_self hi] at q
        cases q
        exact hn j sk1 e1 o1 h1
      · rw [List.getElem?_set_ne z2]
        exact S.dis j k sk1 sk2 p' hjk e1 e2 o1 o2 h1
theorem Sl.setOw (S : Sl K F0 H0 F H σ env) {i : Nat} {p : Addr} {xs : List D} {vs : List V} (h0 : H0 p = none) (hf : F p = none) (hp : H p = some (.lst vs)) (hn : ∀ (j : Nat) (sk' : Sk), env[j]? = some (some sk') → sk'.own = true → σ[j]? ≠ some (some (V.ref p))) (r : Reps K F xs vs) :
    Sl K F0 H0 F H (σ.set i (some (.ref p))) (env.set i (some (.ow xs))) := S.setOwn ⟨p, vs, rfl, h0, hf, hp, r⟩ hn
/-- an owned object changes -/
theorem Sl.chgO (S : Sl K F0 H0 F H σ env) {i : Nat} {p : Addr} {sk sk' : Sk} {o : HO} (e : env[i]? = some (some sk)) (ho : sk.own = true) (hs : σ[i]? = some (some (.ref p))) (hp : F p = none) (h0 : H0 p = none) (hk : SkOk K H0 F (upd H p o) sk' (.ref p)) :
    Sl K F0 H0 F (upd H p o) σ (env.set i (some sk')) := by
  refine ⟨⟨S.adv.f, fun a u q => ?_, fun a u q => ?_, S.adv.out⟩, fun j sk q => ?_, fun j k sk1 sk2 p' hjk e1 e2 o1 o2 h1 => ?_, by rw [List.length_set]; exact S.len⟩
  · rw [upd_ne (ne_of_none q h0)]; exact S.adv.h a u q
  · rw [upd_ne (ne_of_none q hp)]; exact S.adv.in_ a u q
  · rcases set_get q with ⟨rfl, z⟩ | ⟨z, q⟩
    · cases z
      exact ⟨_, hs, hk⟩
    · obtain ⟨w, h1, h2⟩ := S.slot j sk q
      exact ⟨w, h1, h2.updH fun o2 zz => S.dis i j _ _ p z e q ho o2 hs (by rw [h1, zz])⟩
  · have own : ∀ {j : Nat} {s : Sk}, (env.set i (some sk'))[j]? = some (some s) → s.own = true → ∃ s', env[j]? = some (some s') ∧ s'.own = true := by
      intro j s q o
      rcases set_get q with ⟨rfl, _⟩ | ⟨_, q⟩
      · exact ⟨_, e, ho⟩
      · exact ⟨_, q, o⟩
    obtain ⟨_, q1, r1⟩ := own e1 o1
    obtain ⟨_, q2, r2⟩ := own e2 o2
    exact S.dis j k _ _ p' hjk q1 q2 r1 r2 h1
theorem Sl.chg (S : Sl K F0 H0 F H σ env) {i : Nat} {p : Addr} {xs ys : List D} {ws : List V} (e : env[i]? = some (some (.ow xs))) (hs : σ[i]? = some (some (.ref p))) (hp : F p = none) (h0 : H0 p = none) (r : Reps K F ys ws) :
    Sl K F0 H0 F (upd H p (.lst ws)) σ (env.set i (some (.ow ys))) := S.chgO e rfl hs hp h0 ⟨p, ws, rfl, h0, hp, upd_same, r⟩
/-- an owned object is frozen -/
theorem Sl.freezeO (S : Sl K F0 H0 F H σ env) {i : Nat} {sk : Sk} {d : D} (e : env[i]? = some (some sk)) (ho : sk.own = true) (hd : ∀ p o, SkOk K H0 F H sk (.ref p) → H p = some o → F p = none → Rep K (upd F p o) d (.ref p)) : ∃ F', Ex F F' ∧ Sl K F0 H0 F' H σ (env.set i (some (.im d))) := by
  obtain ⟨v, hs, hk⟩ := S.slot i _ e
  obtain ⟨p, o, rfl, h0, hf, hp⟩ := hk.at ho
  have ad : Ex F (upd F p o) := Ex.new hf
  have inn : Ex (upd F p o) H := fun a u q => by
    by_cases z : a = p
    · subst z; rw [upd_same] at q; cases q; exact hp
    · rw [upd_ne z] at q; exact S.ex a u q
  refine ⟨upd F p o, ad, ⟨⟨S.adv.f.trans ad, S.adv.h, inn, fun a h1 h2 => ?_⟩, fun j sk q => ?_, fun j k sk1 sk2 p' hjk e1 e2 o1 o2 h1 => ?_, by rw [List.length_set]; exact S.len⟩⟩
  · have z : a ≠ p := fun z => h2 (by rw [z]; exact h0)
    rw [upd_ne z]; exact S.adv.out a h1 h2
  · rcases set_get q with ⟨rfl, z⟩ | ⟨z, q⟩
    · cases z
      exact ⟨_, hs, hd p o hk hp hf⟩
    · obtain ⟨w, h1, h2⟩ := S.slot j sk q
      exact ⟨w, h1, h2.updF hf fun o2 zz => S.dis i j _ _ p z e q ho o2 hs (by rw [h1, zz])⟩
  · have own : ∀ {j : Nat} {s : Sk}, (env.set i (some (.im d)))[j]? = some (some s) → s.own = true → env[j]? = some (some s) := by
      intro j s q o
      rcases set_get q with ⟨rfl, z⟩ | ⟨_, q⟩
      · cases z; cases o
      · exact q
    exact S.dis j k _ _ p' hjk (own e1 o1) (own e2 o2) o1 o2 h1
theorem Sl.freeze (S : Sl K F0 H0 F H σ env) {i : Nat} {xs : List D} (e : env[i]? = some (some (.ow xs))) : ∃ F', Ex F F' ∧ Sl K F0 H0 F' H σ (env.set i (some (.im (.lst xs)))) :=
  S.freezeO e rfl fun p o h hp hf => by
    obtain ⟨q, vs, e1, _, _, e4, e5⟩ := h
    cases e1
    rw [hp] at e4; cases e4
    exact ⟨_, vs, rfl, .inl (.inl upd_same), Reps.mono (Ex.new hf) _ _ e5⟩
theorem Sl.freezeI (S : Sl K F0 H0 F H σ env) {i : Nat} {pp : Option Addr} {c : Str} {ks : List Str} {ds : List D} (e : env[i]? = some (some (.oi pp c ks ds))) : ∃ F', Ex F F' ∧ Sl K F0 H0 F' H σ (env.set i (some (.im (.obj c ks ds)))) :=
  S.freezeO e rfl fun p o h hp hf => by
    obtain ⟨q, dx, vs, e1, _, _, e4, e5, e6, _⟩ := h
    cases e1
    rw [hp] at e4; cases e4
    exact ⟨_, dx, vs, rfl, upd_same, e5, Reps.mono (Ex.new hf) _ _ e6⟩
end
end Mi
set_option maxHeartbeats 1000000
namespace Mi
open PySem PySem.Spec L2
open Evl (Ex)

class ToDs (β : Type) where
  ds : β → List D
instance : ToDs Unit := ⟨fun _ => []⟩
instance {α β : Type} [ToD α] [ToDs β] : ToDs (α × β) := ⟨fun p => ToD.d p.1 :: ToDs.ds p.2⟩

/-! ### what follows a value -/
section
variable (K : PySem.W.Frag) (W : WX) (F H : Hp) (σ : L2.St)
def KE {α : Type} [ToD α] (Q : VK) : Res α → Prop
  | .ok x => ∀ v F' H', Adv F H F' H' → Rep K F' (toD x) v → Q v H'
  | .exc c => ∀ F' H', Adv F H F' H' → W (.ref (He.ga K c)) none σ H'
  | .stuck => False
def KA {β : Type} [ToDs β] (Q : List V → Hp → Prop) : Res β → Prop
  | .ok x => ∀ vs F' H', Adv F H F' H' → Reps K F' (ToDs.ds x) vs → Q vs H'
  | .exc c => ∀ F' H', Adv F H F' H' → W (.ref (He.ga K c)) none σ H'
  | .stuck => False
def KT (Q : Bool → Hp → Prop) : Res Bool → Prop
  | .ok b => ∀ F' H', Adv F H F' H' → Q b H'
  | .exc c => ∀ F' H', Adv F H F' H' → W (.ref (He.ga K c)) none σ H'
  | .stuck => False
def KN {α : Type} [ToD α] (Q : VK) : Res (List α) → Prop
  | .ok xs => ∀ p vs F' H', Adv F H F' H' → H p = none → F' p = none → H' p = some (.lst vs) → Reps K F' (xs.map toD) vs → Q (.ref p) H'
  | .exc c => ∀ F' H', Adv F H F' H' → W (.ref (He.ga K c)) none σ H'
  | .stuck => False
end
def EvX (K : PySem.W.Frag) (W : WX) (env : En) (te : TE) {α : Type} [ToD α] (m : Res α) : Prop :=
  ∀ F0 H0 F H σ Q, Sl K F0 H0 F H σ env → KE K W F H σ Q m → te σ H Q
def EvA (K : PySem.W.Frag) (W : WX) (env : En) (ta : TA) {β : Type} [ToDs β] (m : Res β) : Prop :=
  ∀ F0 H0 F H σ Q, Sl K F0 H0 F H σ env → KA K W F H σ Q m → ta σ H Q
def EvT (K : PySem.W.Frag) (W : WX) (env : En) (tt : TT) (m : Res Bool) : Prop :=
  ∀ F0 H0 F H σ Q, Sl K F0 H0 F H σ env → KT K W F H σ Q m → tt σ H Q
def EvN (K : PySem.W.Frag) (W : WX) (env : En) (te : TE) {α : Type} [ToD α] (m : Res (List α)) : Prop :=
  ∀ F0 H0 F H σ Q, Sl K F0 H0 F H σ env → KN K W F H σ Q m → te σ H Q

section
variable {K : PySem.W.Frag} {W : WX} {F H F' H' : Hp} {σ : L2.St} {env : En} {α β γ τ : Type} [ToD α] [ToD β] [ToD γ] [ToD τ] {ta tb te tc : TE} {tt tu : TT} {r : R2}

/-- from what follows a whole to what follows its first part -/
theorem KE.cut {Q : VK} {Q1 : VK} {m : Res α} {f : α → Res β} (ex : Ex F H) (h : KE K W F H σ Q (m.bind f))
    (k : ∀ x v F' H', m = .ok x → Adv F H F' H' → Rep K F' (toD x) v → KE K W F' H' σ Q (f x) → Q1 v H') : KE K W F H σ Q1 m := by
  cases m with
  | ok x =>
    intro v F1 H1 a r
    refine k x v F1 H1 rfl a r ?_
    have h : KE K W F H σ Q (f x) := h
    revert h
    generalize f x = y
    intro h
    cases y with
    | ok y => exact fun v F2 H2 b q => h v F2 H2 (a.trans b) q
    | exc c => exact fun F2 H2 b => h F2 H2 (a.trans b)
    | stuck => exact h.elim
  | exc c => exact h
  | stuck => exact h.elim
theorem KE.adv {Q : VK} {m : Res β} (a : Adv F H F' H') (h : KE K W F H σ Q m) : KE K W F' H' σ Q m := by
  cases m with
  | ok y => exact fun v F2 H2 b q => h v F2 H2 (a.trans b) q
  | exc c => exact fun F2 H2 b => h F2 H2 (a.trans b)
  | stuck => exact h.elim
theorem KT.adv {Q : Bool → Hp → Prop} {m : Res Bool} (a : Adv F H F' H') (h : KT K W F H σ Q m) : KT K W F' H' σ Q m := by
  cases m with
  | ok y => exact fun F2 H2 b => h F2 H2 (a.trans b)
  | exc c => exact fun F2 H2 b => h F2 H2 (a.trans b)
  | stuck => exact h.elim
theorem KA.adv {δ : Type} [ToDs δ] {Q : List V → Hp → Prop} {m : Res δ} (a : Adv F H F' H') (h : KA K W F H σ Q m) : KA K W F' H' σ Q m := by
  cases m with
  | ok y => exact fun v F2 H2 b q => h v F2 H2 (a.trans b) q
  | exc c => exact fun F2 H2 b => h F2 H2 (a.trans b)
  | stuck => exact h.elim

/-- general: te then a use of its value -/
theorem use {Q Q1 : VK} {m : Res α} {F0 H0 : Hp} (hv : EvX K W env te m) (S : Sl K F0 H0 F H σ env)
    (hx : ∀ c, m = .exc c → ∀ F' H', Adv F H F' H' → W (.ref (He.ga K c)) none σ H') (hs : m ≠ .stuck)
    (k : ∀ x v F' H', m = .ok x → Adv F H F' H' → Rep K F' (toD x) v → Q1 v H') : te σ H Q1 := by
  refine hv F0 H0 F H σ Q1 S ?_
  cases m with
  | ok x => exact fun v F' H' a q => k x v F' H' rfl a q
  | exc c => exact hx c rfl
  | stuck => exact hs rfl

/-! ### names and constants -/
theorem ev_var {i : Nat} {x : α} (h : env[i]? = some (some (.im (toD x)))) : EvX K W env (tVar i) (.ok x) := fun F0 H0 F H σ Q S k => by
  obtain ⟨v, e, q⟩ := S.slot i _ h
  exact ⟨v, e, k v F H (Adv.refl S.ex) q⟩
theorem ev_int {i : Int} : EvX K W env (tC (.int i)) (.ok i) := fun F0 H0 F H σ Q S k => k _ F H (Adv.refl S.ex) rfl
theorem ev_bl {b : Bool} : EvX K W env (tC (.bl b)) (.ok b) := fun F0 H0 F H σ Q S k => k _ F H (Adv.refl S.ex) rfl
theorem ev_str {x : Str} : EvX K W env (tC (.str x)) (.ok x) := fun F0 H0 F H σ Q S k => k _ F H (Adv.refl S.ex) rfl
theorem ev_non : EvX K W env (tC .non) (.ok ()) := fun F0 H0 F H σ Q S k => k _ F H (Adv.refl S.ex) rfl
theorem ev_noneO : EvX K W env (tC .non) (.ok (none : Option α)) := fun F0 H0 F H σ Q S k => k _ F H (Adv.refl S.ex) rfl
theorem ev_tyc {n : String} : EvX K W env (tC (.ty n)) (.ok (D.ty n)) := fun F0 H0 F H σ Q S k => k _ F H (Adv.refl S.ex) rfl
/-- the same value in another type -/
theorem ev_as {m : Res α} {m' : Res β} (h : EvX K W env te m) (f : α → β) (e : ∀ x, toD (f x) = toD x) (em : m.bind (fun x => .ok (f x)) = m') : EvX K W env te m' := fun F0 H0 F H σ Q S k => by
  refine h F0 H0 F H σ Q S ?_
  subst em
  cases m with
  | ok x => intro v F' H' a q; exact k v F' H' a (by rw [e]; exact q)
  | exc c => exact k
  | stuck => exact k.elim

/-! ### operators -/
def OpX (K : PySem.W.Frag) (r : R2) (f : α → β → Res γ) : Prop := ∀ (F H : Hp) (x : α) (y : β) (v u : V) (Q : VK), Ex F H → Rep K F (toD x) v → Rep K F (toD y) u →
  KE K (fun _ _ _ _ => False) F H [] Q (f x y) → r v u H Q
theorem KE.exc_false {Q : VK} {c : Str} (h : KE K (fun _ _ _ _ => False) F H [] Q (.exc c : Res α)) (e : Ex F H) : False := h F H (Adv.refl e)
/-- operators let nothing out -/
def Mild (f : α → β → Res γ) : Prop := ∀ x y c, f x y ≠ .exc c
theorem KE.mild {Q : VK} {m : Res γ} (hm : ∀ c, m ≠ .exc c) (h : KE K W F H σ Q m) : KE K (fun _ _ _ _ => False) F H [] Q m := by
  cases m with
  | ok x => exact h
  | exc c => exact absurd rfl (hm c)
  | stuck => exact h.elim
theorem ev_op {m1 : Res α} {m2 : Res β} {f : α → β → Res γ} (ho : OpX K r f) (hm : Mild f) (ha : EvX K W env ta m1) (hb : EvX K W env tb m2) :
    EvX K W env (tOp r ta tb) (m1.bind fun x => m2.bind fun y => f x y) := fun F0 H0 F H σ Q S k => by
  refine ha F0 H0 F H σ _ S (KE.cut S.ex k fun x v F1 H1 e1 a1 r1 k1 => ?_)
  refine hb F0 H0 F1 H1 σ _ (S.step a1) (KE.cut a1.in_ k1 fun y u F2 H2 e2 a2 r2 k2 => ?_)
  exact ho F2 H2 x y v u Q a2.in_ (Rep.mono a2.f _ _ r1) r2 (k2.mild (hm x y))
theorem mild_ok {g : α → β → γ} : Mild (fun x y => Res.ok (g x y)) := fun _ _ _ h => nomatch h
theorem mild_need {p : α → β → Prop} {g : α → β → γ} : Mild (fun x y => Res.need (p x y) (.ok (g x y))) := fun x y c h => by
  by_cases q : p x y
  · have h : Res.need (p x y) (.ok (g x y)) = .exc c := h
    rw [Res.need_pos q] at h; cases h
  · have h : Res.need (p x y) (.ok (g x y)) = .exc c := h
    rw [Res.need_neg q] at h; cases h
theorem opx_I0 {g : Int → Int → Int} : OpX K (rI0 fun i j => .int (g i j)) (fun i j => .ok (g i j)) := fun F H x y v u Q e h1 h2 k =>
  ⟨x, y, h1, h2, k _ F H (Adv.refl e) rfl⟩
theorem opx_B0 {g : Int → Int → Bool} : OpX K (rI0 fun i j => .bl (g i j)) (fun i j => .ok (g i j)) := fun F H x y v u Q e h1 h2 k =>
  ⟨x, y, h1, h2, k _ F H (Adv.refl e) rfl⟩
theorem opx_I {C : Int → Int → Prop} {g : Int → Int → Int} : OpX K (rI C fun i j => .int (g i j)) (fun i j => .need (C i j) (.ok (g i j))) := fun F H x y v u Q e h1 h2 k => by
  by_cases c : C x y
  · have k : KE K (fun _ _ _ _ => False) F H [] Q (Res.need (C x y) (.ok (g x y))) := k
    rw [Res.need_pos c] at k
    exact ⟨x, y, h1, h2, c, k _ F H (Adv.refl e) rfl⟩
  · have k : KE K (fun _ _ _ _ => False) F H [] Q (Res.need (C x y) (.ok (g x y))) := k
    rw [Res.need_neg c] at k
    exact k.elim
/-- the same where the condition is known -/
theorem ev_opI {m1 m2 : Res Int} {C : Int → Int → Prop} {g : Int → Int → Int} (hc : ∀ x y, m1 = .ok x → m2 = .ok y → C x y) (ha : EvX K W env ta m1) (hb : EvX K W env tb m2) :
    EvX K W env (tOp (rI C fun i j => .int (g i j)) ta tb) (m1.bind fun x => m2.bind fun y => .ok (g x y)) := fun F0 H0 F H σ Q S k => by
  refine ha F0 H0 F H σ _ S (KE.cut S.ex k fun x v F1 H1 e1 a1 r1 k1 => ?_)
  refine hb F0 H0 F1 H1 σ _ (S.step a1) (KE.cut a1.in_ k1 fun y u F2 H2 e2 a2 r2 k2 => ?_)
  exact ⟨x, y, r1, r2, hc x y e1 e2, k2 _ F2 H2 (Adv.refl a2.in_) rfl⟩
theorem ev_un {m1 : Res Int} {g : Int → Int} (ha : EvX K W env ta m1) : EvX K W env (tUn (rU fun i => .int (g i)) ta) (m1.bind fun x => .ok (g x)) := fun F0 H0 F H σ Q S k => by
  refine ha F0 H0 F H σ _ S (KE.cut S.ex k fun x v F1 H1 e1 a1 r1 k1 => ?_)
  exact ⟨x, r1, k1 _ F1 H1 (Adv.refl a1.in_) rfl⟩
/-- == of two ints, two bools, two texts -/
theorem opx_eqI : OpX K rEq (fun (i j : Int) => .ok (decide (i = j))) := fun F H x y v u Q e h1 h2 k => by
  cases (show v = V.int x from h1); cases (show u = V.int y from h2)
  refine ⟨rfl, ?_⟩
  rw [show decide (V.int x = V.int y) = decide (x = y) by rw [dec_int]; rfl]
  exact k _ F H (Adv.refl e) rfl
theorem opx_neI : OpX K rNe (fun (i j : Int) => .ok (!decide (i = j))) := fun F H x y v u Q e h1 h2 k => by
  cases (show v = V.int x from h1); cases (show u = V.int y from h2)
  refine ⟨rfl, ?_⟩
  rw [show decide (V.int x = V.int y) = decide (x = y) by rw [dec_int]; rfl]
  exact k _ F H (Adv.refl e) rfl
theorem opx_eqB : OpX K rEq (fun (i j : Bool) => .ok (i == j)) := fun F H x y v u Q e h1 h2 k => by
  cases (show v = V.bl x from h1); cases (show u = V.bl y from h2)
  refine ⟨rfl, ?_⟩
  rw [dec_bl]
  exact k _ F H (Adv.refl e) rfl
theorem opx_neB : OpX K rNe (fun (i j : Bool) => .ok (!(i == j))) := fun F H x y v u Q e h1 h2 k => by
  cases (show v = V.bl x from h1); cases (show u = V.bl y from h2)
  refine ⟨rfl, ?_⟩
  rw [dec_bl]
  exact k _ F H (Adv.refl e) rfl
theorem opx_eqS : OpX K rEq (fun (i j : Str) => .ok (i == j)) := fun F H x y v u Q e h1 h2 k => by
  cases (show v = V.str x from h1); cases (show u = V.str y from h2)
  refine ⟨rfl, ?_⟩
  rw [dec_str]
  exact k _ F H (Adv.refl e) rfl
theorem opx_neS : OpX K rNe (fun (i j : Str) => .ok (!(i == j))) := fun F H x y v u Q e h1 h2 k => by
  cases (show v = V.str x from h1); cases (show u = V.str y from h2)
  refine ⟨rfl, ?_⟩
  rw [dec_str]
  exact k _ F H (Adv.refl e) rfl
def D.isNon : D → Bool
  | .non => true
  | _ => false
theorem rep_isNon : ∀ {x : D} {v : V}, Rep K F x v → decide (v = V.non) = x.isNon
  | .non, v, h => by rw [show v = V.non from h]; rfl
  | .bl b, v, h => by rw [show v = V.bl b from h]; rfl
  | .int b, v, h => by rw [show v = V.int b from h]; rfl
  | .str b, v, h => by rw [show v = V.str b from h]; rfl
  | .ty b, v, h => by rw [show v = V.ty b from h]; rfl
  | .tup ds, v, h => by obtain ⟨a, vs, rfl, _⟩ := h; rfl
  | .lst ds, v, h => by obtain ⟨a, vs, rfl, _⟩ := h; rfl
  | .obj c ks ds, v, h => by obtain ⟨a, dx, vs, rfl, _⟩ := h; rfl
theorem opx_isN : OpX K (fun x y H Q => y = .non ∧ Q (.bl (decide (x = .non))) H) (fun (x : α) (_ : Unit) => .ok (toD x).isNon) := fun F H x y v u Q e h1 h2 k =>
  ⟨h2, by rw [rep_isNon h1]; exact k _ F H (Adv.refl e) rfl⟩
theorem opx_notN : OpX K (fun x y H Q => y = .non ∧ Q (.bl (!decide (x = .non))) H) (fun (x : α) (_ : Unit) => .ok (!(toD x).isNon)) := fun F H x y v u Q e h1 h2 k =>
  ⟨h2, by rw [rep_isNon h1]; exact k _ F H (Adv.refl e) rfl⟩

/-! ### == of data -/
mutual
def D.py : D → PyData
  | .non => .none
  | .bl b => .bool b
  | .int i => .int i
  | .str s => .str s
  | .ty _ => .none
  | .tup xs => .tuple (pyL xs)
  | .lst xs => .list (pyL xs)
  | .obj _ _ _ => .none
def pyL : List D → List PyData
  | [] => []
  | x :: xs => D.py x :: pyL xs
end
mutual
/-- no objects, no classes within -/
def D.flat : D → Bool
  | .ty _ => false
  | .obj _ _ _ => false
  | .tup xs => flatL xs
  | .lst xs => flatL xs
  | _ => true
def flatL : List D → Bool
  | [] => true
  | x :: xs => D.flat x && flatL xs
end
mutual
theorem dp_of : ∀ {x : D} {v : V}, Rep K F x v → x.flat = true → Dp K F v x.py
  | .non, v, h, _ => by rw [show v = V.non from h]; exact .non
  | .bl b, v, h, _ => by rw [show v = V.bl b from h]; exact .bl b
  | .int b, v, h, _ => by rw [show v = V.int b from h]; exact .int b
  | .str b, v, h, _ => by rw [show v = V.str b from h]; exact .str b
  | .ty b, v, h, q => by cases q
  | .tup ds, v, h, q => by obtain ⟨a, vs, rfl, h2, h3⟩ := h; exact .tup h2 (dps_of h3 q)
  | .lst ds, v, h, q => by obtain ⟨a, vs, rfl, h2, h3⟩ := h; exact .lst h2 (dps_of h3 q)
  | .obj c ks ds, v, h, q => by cases q
theorem dps_of : ∀ {xs : List D} {vs : List V}, Reps K F xs vs → flatL xs = true → DpAll K F vs (pyL xs)
  | [], vs, h, _ => by rw [show vs = [] from h]; exact .nil
  | x :: xs, vs, h, q => by
    obtain ⟨v, r, rfl, h2, h3⟩ := h
    have q2 := Bool.and_eq_true_iff.mp (show (D.flat x && flatL xs) = true from q)
    exact .cons (dp_of h2 q2.1) (dps_of h3 q2.2)
end
mutual
theorem Dp.mono {e : Ex F F'} : ∀ {v : V} {x : PyData}, Dp K F v x → Dp K F' v x
  | _, _, .non => .non
  | _, _, .bl b => .bl b
  | _, _, .int b => .int b
  | _, _, .str b => .str b
  | _, _, .lst h1 h2 => .lst (Evl.ex_l e h1) (Dps.mono (e := e) h2)
  | _, _, .tup h1 h2 => .tup (Evl.ex_t e h1) (Dps.mono (e := e) h2)
theorem Dps.mono {e : Ex F F'} : ∀ {v : List V} {x : List PyData}, DpAll K F v x → DpAll K F' v x
  | _, _, .nil => .nil
  | _, _, .cons h1 h2 => .cons (Dp.mono (e := e) h1) (Dps.mono (e := e) h2)
end
/-- data that == may be asked of -/
def D.okq (x : D) : Bool := x.flat && SeqAt.shaped x.py
def pyEq (x y : D) : Bool := PyData.eqv x.py y.py
theorem opx_eqD : OpX K (rEqD K) (fun (x : α) (y : β) => .need ((toD x).okq = true ∧ (toD y).okq = true) (.ok (pyEq (toD x) (toD y)))) := fun F H x y v u Q e h1 h2 k => by
  dsimp only at k
  by_cases c : (toD x).okq = true ∧ (toD y).okq = true
  · rw [Res.need_pos c] at k
    obtain ⟨c1, c2⟩ := c
    obtain ⟨a1, a2⟩ := Bool.and_eq_true_iff.mp c1
    obtain ⟨b1, b2⟩ := Bool.and_eq_true_iff.mp c2
    exact ⟨_, _, Dp.mono (e := e) (dp_of h1 a1), Dp.mono (e := e) (dp_of h2 b1), a2, b2, k _ F H (Adv.refl e) rfl⟩
  · rw [Res.need_neg c] at k
    exact k.elim
theorem opx_neD : OpX K (rNeD K) (fun (x : α) (y : β) => .need ((toD x).okq = true ∧ (toD y).okq = true) (.ok (!pyEq (toD x) (toD y)))) := fun F H x y v u Q e h1 h2 k => by
  dsimp only at k
  by_cases c : (toD x).okq = true ∧ (toD y).okq = true
  · rw [Res.need_pos c] at k
    obtain ⟨c1, c2⟩ := c
    obtain ⟨a1, a2⟩ := Bool.and_eq_true_iff.mp c1
    obtain ⟨b1, b2⟩ := Bool.and_eq_true_iff.mp c2
    exact ⟨_, _, Dp.mono (e := e) (dp_of h1 a1), Dp.mono (e := e) (dp_of h2 b1), a2, b2, k _ F H (Adv.refl e) rfl⟩
  · rw [Res.need_neg c] at k
    exact k.elim

/-! ### an item -/
def idx {α : Type} (xs : List α) (i : Int) : Res α := match atI xs i with
  | some x => .ok x
  | none => .stuck
theorem idx_mild {α : Type} (xs : List α) (i : Int) (c : Str) : idx xs i ≠ .exc c := by
  unfold idx; split <;> intro h <;> cases h
theorem atI_map {α β : Type} (f : α → β) (xs : List α) (i : Int) : atI (xs.map f) i = (atI xs i).map f := by
  unfold atI
  rw [List.length_map]
  cases ixN xs.length i with
  | none => rfl
  | some j => simp
theorem Reps.at {xs : List D} {vs : List V} {i : Int} {x : D} (h : Reps K F xs vs) (e : atI xs i = some x) : ∃ v, atI vs i = some v ∧ Rep K F x v := by
  unfold atI at e ⊢
  rw [← h.length]
  cases q : ixN xs.length i with
  | none => rw [q] at e; cases e
  | some j => rw [q] at e; exact Reps.get h e
theorem opx_ixL : OpX K (rIxL K) (fun (xs : List α) (i : Int) => idx xs i) := fun F H xs i v u Q e h1 h2 k => by
  obtain ⟨a, vs, rfl, hl, hr⟩ := h1
  cases (show u = V.int i from h2)
  dsimp only [idx] at k
  cases q : atI xs i with
  | none => rw [q] at k; exact k.elim
  | some x =>
    rw [q] at k
    obtain ⟨w, hw, rw_⟩ := Reps.at (i := i) hr (x := toD x) (by rw [atI_map, q]; rfl)
    exact ⟨a, vs, i, w, rfl, rfl, Evl.ex_l e hl, hw, k _ F H (Adv.refl e) rw_⟩
theorem opx_ixT : OpX K (rIxT K) (fun (xs : Tu α) (i : Int) => idx xs.xs i) := fun F H xs i v u Q e h1 h2 k => by
  obtain ⟨a, vs, rfl, hl, hr⟩ := h1
  cases (show u = V.int i from h2)
  dsimp only [idx] at k
  cases q : atI xs.xs i with
  | none => rw [q] at k; exact k.elim
  | some x =>
    rw [q] at k
    obtain ⟨w, hw, rw_⟩ := Reps.at (i := i) hr (x := toD x) (by rw [atI_map, q]; rfl)
    exact ⟨a, vs, i, w, rfl, rfl, Evl.ex_t e hl, hw, k _ F H (Adv.refl e) rw_⟩
/-- t[i], i written, t a tuple whose parts have types of their own -/
theorem ev_ixTC {m : Res α} {i : Int} {f : α → β} (ha : EvX K W env ta m) (hf : ∀ x, ∃ ds, toD x = .tup ds ∧ atI ds i = some (toD (f x))) :
    EvX K W env (tOp (rIxT K) ta (tC (.int i))) (m.bind fun x => .ok (f x)) := fun F0 H0 F H σ Q S k => by
  refine ha F0 H0 F H σ _ S (KE.cut S.ex k fun x v F1 H1 e1 a1 r1 k1 => ?_)
  obtain ⟨ds, e, q⟩ := hf x
  rw [e] at r1
  obtain ⟨a, vs, rfl, hl, hr⟩ := r1
  obtain ⟨w, hw, rw_⟩ := Reps.at (i := i) hr q
  exact ⟨a, vs, i, w, rfl, rfl, Evl.ex_t a1.in_ hl, hw, k1 _ F1 H1 (Adv.refl a1.in_) rw_⟩
/-- xs[i], xs the owned list of slot j -/
theorem ev_ixO {j : Nat} {xs : List α} {m : Res Int} (h : env[j]? = some (some (.ow (xs.map toD)))) (hb : EvX K W env tb m) : EvX K W env (tOp (rIxL K) (tVar j) tb) (m.bind fun i => idx xs i) := fun F0 H0 F H σ Q S k => by
  obtain ⟨v, e, p, vs, rfl, h0, hf, hp, hr⟩ := S.slot j _ h
  refine ⟨_, e, ?_⟩
  refine hb F0 H0 F H σ _ S (KE.cut S.ex k fun i u F1 H1 e1 a1 r1 k1 => ?_)
  cases (show u = V.int i from r1)
  unfold idx at k1
  cases q : atI xs i with
  | none => rw [q] at k1; exact k1.elim
  | some x =>
    rw [q] at k1
    obtain ⟨w, hw, rw_⟩ := Reps.at (i := i) hr (x := toD x) (by rw [atI_map, q]; rfl)
    exact ⟨p, vs, i, w, rfl, rfl, .inl (.inl (a1.h _ _ hp)), hw, k1 _ F1 H1 (Adv.refl a1.in_) (Rep.mono a1.f _ _ rw_)⟩

/-! ### tests, and, or, not -/
theorem et_test {m : Res Bool} (ha : EvX K W env te m) : EvT K W env (tTest te) m := fun F0 H0 F H σ Q S k => by
  refine ha F0 H0 F H σ _ S ?_
  cases m with
  | ok b => exact fun v F' H' a q => ⟨b, q, k F' H' a⟩
  | exc c => exact k
  | stuck => exact k.elim
theorem et_B {m : Res Bool} (ha : EvX K W env te m) : EvT K W env (tB te) m := et_test ha
theorem et_not {m : Res Bool} (ha : EvT K W env tt m) : EvT K W env (tNot tt) (m.bind fun b => .ok (!b)) := fun F0 H0 F H σ Q S k => by
  refine ha F0 H0 F H σ _ S ?_
  cases m with
  | ok b => exact k
  | exc c => exact k
  | stuck => exact k.elim
theorem et_and {m1 m2 : Res Bool} (ha : EvT K W env tt m1) (hb : EvT K W env tu m2) : EvT K W env (tAnd tt tu) (m1.bind fun b => cond b m2 (.ok false)) := fun F0 H0 F H σ Q S k => by
  refine ha F0 H0 F H σ _ S ?_
  cases m1 with
  | ok b =>
    intro F' H' a
    cases b with
    | true =>
      have k : KT K W F H σ Q m2 := k
      show tu σ H' Q
      exact hb F0 H0 F' H' σ Q (S.step a) (k.adv a)
    | false => exact k F' H' a
  | exc c => exact k
  | stuck => exact k.elim
theorem et_or {m1 m2 : Res Bool} (ha : EvT K W env tt m1) (hb : EvT K W env tu m2) : EvT K W env (tOr tt tu) (m1.bind fun b => cond b (.ok true) m2) := fun F0 H0 F H σ Q S k => by
  refine ha F0 H0 F H σ _ S ?_
  cases m1 with
  | ok b =>
    intro F' H' a
    cases b with
    | false =>
      have k : KT K W F H σ Q m2 := k
      show tu σ H' Q
      exact hb F0 H0 F' H' σ Q (S.step a) (k.adv a)
    | true => exact k F' H' a
  | exc c => exact k
  | stuck => exact k.elim
theorem ev_andV {m1 m2 : Res Bool} (ha : EvX K W env ta m1) (hb : EvX K W env tb m2) : EvX K W env (tAndV ta tb) (m1.bind fun b => cond b m2 (.ok false)) := fun F0 H0 F H σ Q S k => by
  refine ha F0 H0 F H σ _ S ?_
  cases m1 with
  | ok b =>
    intro v F' H' a r
    refine ⟨b, r, ?_⟩
    cases b with
    | true =>
      have k : KE K W F H σ Q m2 := k
      exact hb F0 H0 F' H' σ Q (S.step a) (k.adv a)
    | false => exact k _ F' H' a rfl
  | exc c => exact k
  | stuck => exact k.elim
theorem ev_orV {m1 m2 : Res Bool} (ha : EvX K W env ta m1) (hb : EvX K W env tb m2) : EvX K W env (tOrV ta tb) (m1.bind fun b => cond b (.ok true) m2) := fun F0 H0 F H σ Q S k => by
  refine ha F0 H0 F H σ _ S ?_
  cases m1 with
  | ok b =>
    intro v F' H' a r
    refine ⟨b, r, ?_⟩
    cases b with
    | false =>
      have k : KE K W F H σ Q m2 := k
      exact hb F0 H0 F' H' σ Q (S.step a) (k.adv a)
    | true => exact k _ F' H' a rfl
  | exc c => exact k
  | stuck => exact k.elim
theorem ev_notV {m : Res Bool} (ha : EvX K W env ta m) : EvX K W env (tNotV ta) (m.bind fun b => .ok (!b)) := fun F0 H0 F H σ Q S k => by
  refine ha F0 H0 F H σ _ S ?_
  cases m with
  | ok b => exact fun v F' H' a r => ⟨b, r, k _ F' H' a rfl⟩
  | exc c => exact k
  | stuck => exact k.elim
theorem ev_if {m : Res Bool} {m1 m2 : Res α} (hc : EvT K W env tt m) (ha : EvX K W env ta m1) (hb : EvX K W env tb m2) : EvX K W env (tIf tt ta tb) (m.bind fun b => cond b m1 m2) := fun F0 H0 F H σ Q S k => by
  refine hc F0 H0 F H σ _ S ?_
  cases m with
  | ok b =>
    intro F' H' a
    cases b with
    | true =>
      have k : KE K W F H σ Q m1 := k
      show ta σ H' Q
      exact ha F0 H0 F' H' σ Q (S.step a) (k.adv a)
    | false =>
      have k : KE K W F H σ Q m2 := k
      show tb σ H' Q
      exact hb F0 H0 F' H' σ Q (S.step a) (k.adv a)
  | exc c => exact k
  | stuck => exact k.elim
/-- a < b < c -/
theorem ev_chain {m1 : Res α} {m2 : Res β} {m3 : Res γ} {r' : R2} {f : α → β → Res Bool} {g : β → γ → Res Bool} (ho : OpX K r f) (hf : Mild f) (ho' : OpX K r' g) (hg : Mild g) (ha : EvX K W env ta m1) (hb : EvX K W env tb m2) (hc : EvX K W env tc m3) :
    EvX K W env (tChain r r' ta tb tc) (m1.bind fun x => m2.bind fun y => (f x y).bind fun b => cond b (m3.bind fun z => g y z) (.ok false)) := fun F0 H0 F H σ Q S k => by
  refine ha F0 H0 F H σ _ S (KE.cut S.ex k fun x v F1 H1 e1 a1 r1 k1 => ?_)
  refine hb F0 H0 F1 H1 σ _ (S.step a1) (KE.cut a1.in_ k1 fun y u F2 H2 e2 a2 r2 k2 => ?_)
  refine ho F2 H2 x y v u _ a2.in_ (Rep.mono a2.f _ _ r1) r2 ?_
  cases q : f x y with
  | ok b =>
    rw [q] at k2
    intro w F3 H3 a3 rb
    refine ⟨b, rb, ?_⟩
    cases b with
    | true =>
      have k3 : KE K W F2 H2 σ Q (m3.bind fun z => g y z) := k2
      show tc σ H3 _
      refine hc F0 H0 F3 H3 σ _ (((S.step a1).step a2).step a3) (KE.cut a3.in_ (k3.adv a3) fun z w F4 H4 e4 a4 r4 k4 => ?_)
      exact ho' F4 H4 y z u w Q a4.in_ (Rep.mono (a3.trans a4).f _ _ r2) r4 (k4.mild (hg y z))
    | false => exact k2 _ F3 H3 a3 rfl
  | exc c => exact absurd q (hf x y c)
  | stuck => rw [q] at k2; exact k2.elim

/-! ### arguments, displays, calls -/
theorem ea_nil : EvA K W env tNil (.ok ()) := fun F0 H0 F H σ Q S k => k [] F H (Adv.refl S.ex) rfl
theorem ea_cons {δ : Type} [ToDs δ] {t : TA} {m1 : Res α} {m2 : Res δ} (ha : EvX K W env te m1) (hb : EvA K W env t m2) : EvA K W env (tCons te t) (m1.bind fun x => m2.bind fun y => .ok (x, y)) := fun F0 H0 F H σ Q S k => by
  refine ha F0 H0 F H σ _ S ?_
  cases m1 with
  | ok x =>
    intro v F1 H1 a1 r1
    have k1 : KA K W F H σ Q (m2.bind fun y => .ok (x, y)) := k
    refine hb F0 H0 F1 H1 σ _ (S.step a1) ?_
    cases m2 with
    | ok y =>
      intro vs F2 H2 a2 r2
      exact k1 (v :: vs) F2 H2 (a1.trans a2) ⟨v, vs, rfl, Rep.mono a2.f _ _ r1, r2⟩
    | exc c => exact fun F2 H2 a2 => k1 F2 H2 (a1.trans a2)
    | stuck => exact k1.elim
  | exc c => exact k
  | stuck => exact k.elim
/-- a tuple that is made; its type by f -/
theorem ev_tup {δ : Type} [ToDs δ] {t : TA} {m : Res δ} {f : δ → α} (ha : EvA K W env t m) (hf : ∀ y : δ, toD (f y) = .tup (ToDs.ds y)) (hn : ∀ y : δ, (ToDs.ds y).length ≤ 100000) : EvX K W env (tTup t) (m.bind fun y => .ok (f y)) := fun F0 H0 F H σ Q S k => by
  refine ha F0 H0 F H σ _ S ?_
  cases m with
  | ok y =>
    intro vs F1 H1 a1 r1
    refine ⟨by rw [← r1.length]; exact Evl.sz_of (hn y), fun p hp => ?_⟩
    have a2 : Adv F1 H1 (upd F1 p (.tup vs)) (upd H1 p (.tup vs)) := Adv.new a1.in_ hp
    refine k _ _ _ (a1.trans a2) ?_
    rw [hf]
    exact ⟨p, vs, rfl, .inl (.inl upd_same), Reps.mono a2.f _ _ r1⟩
  | exc c => exact k
  | stuck => exact k.elim
/-- a list that is made -/
theorem en_lst {δ : Type} [ToDs δ] {t : TA} {m : Res δ} {f : δ → List α} (ha : EvA K W env t m) (hf : ∀ y : δ, (f y).map toD = ToDs.ds y) (hn : ∀ y : δ, (ToDs.ds y).length ≤ 100000) : EvN K W env (tLst t) (m.bind fun y => .ok (f y)) := fun F0 H0 F H σ Q S k => by
  refine ha F0 H0 F H σ _ S ?_
  cases m with
  | ok y =>
    intro vs F1 H1 a1 r1
    refine ⟨by rw [← r1.length]; exact Evl.sz_of (hn y), fun p hp => ?_⟩
    refine k p vs _ _ (a1.trans (Adv.newO a1.in_ hp)) (Evl.fresh_back a1.h hp) (none_of_ex a1.in_ hp) upd_same ?_
    rw [hf]
    exact r1
  | exc c => exact k
  | stuck => exact k.elim
/-- a new list as a value that is not changed later -/
theorem ev_ofN {m : Res (List α)} (h : EvN K W env te m) : EvX K W env te m := fun F0 H0 F H σ Q S k => by
  refine h F0 H0 F H σ Q S ?_
  cases m with
  | ok xs =>
    intro p vs F1 H1 a1 hp hf hh r
    have e : Ex F1 (upd F1 p (.lst vs)) := Ex.new hf
    refine k _ (upd F1 p (.lst vs)) H1 ⟨a1.f.trans e, a1.h, fun a u q => ?_, fun q h1 h2 => ?_⟩ ⟨p, vs, rfl, .inl (.inl upd_same), Reps.mono e _ _ r⟩
    · by_cases z : a = p
      · subst z; rw [upd_same] at q; cases q; exact hh
      · rw [upd_ne z] at q; exact a1.in_ a u q
    · have z : q ≠ p := fun z => h2 (by rw [z]; exact hp)
      rw [upd_ne z]; exact a1.out q h1 h2
  | exc c => exact k
  | stuck => exact k.elim
/-- a def's promise, by the function that tells what it gives -/
def spM (K : PySem.W.Frag) {δ : Type} [ToDs δ] (f : δ → Res α) : Sp := fun vs H Q E => ∃ F x, Ex F H ∧ Reps K F (ToDs.ds x) vs ∧ KE K (fun cls d _ H => E cls d H) F H [] Q (f x)
theorem ev_call {δ : Type} [ToDs δ] {t : TA} {m : Res δ} {f : δ → Res α} (ha : EvA K W env t m) : EvX K W env (tCallS (spM K f) (WE W) t) (m.bind f) := fun F0 H0 F H σ Q S k => by
  refine ha F0 H0 F H σ _ S ?_
  cases m with
  | ok y =>
    intro vs F1 H1 a1 r1
    refine ⟨F1, y, a1.in_, r1, ?_⟩
    have k : KE K W F H σ Q (f y) := k
    have k := k.adv a1
    revert k
    generalize f y = z
    intro k
    cases z with
    | ok z => exact k
    | exc c => exact k
    | stuck => exact k.elim
  | exc c => exact k
  | stuck => exact k.elim
namespace Res
def noexc {α : Type} : Res α → Res α
  | .exc _ => .stuck
  | m => m
end Res
/-- a call of a def that lets nothing out there -/
theorem ev_call0 {δ : Type} [ToDs δ] {t : TA} {m : Res δ} {f : δ → Res α} (ha : EvA K W env t m) : EvX K W env (tCall (spM K f) [] E0 t) (m.bind fun y => (f y).noexc) := fun F0 H0 F H σ Q S k => by
  refine ha F0 H0 F H σ _ S ?_
  cases m with
  | ok y =>
    intro vs F1 H1 a1 r1
    refine ⟨F1, y, a1.in_, by rw [List.append_nil]; exact r1, ?_⟩
    have k : KE K W F H σ Q (f y).noexc := k
    have k := k.adv a1
    revert k
    generalize f y = z
    intro k
    cases z with
    | ok z => exact k
    | exc c => exact k.elim
    | stuck => exact k.elim
  | exc c => exact k
  | stuck => exact k.elim
/-- built-in defs by their values -/
def CrX (K : PySem.W.Frag) (r : List V → Hp → VK → Prop) {δ : Type} [ToDs δ] (f : δ → Res α) : Prop := ∀ (F H : Hp) (x : δ) (vs : List V) (Q : VK), Ex F H → Reps K F (ToDs.ds x) vs → KE K (fun _ _ _ _ => False) F H [] Q (f x) → r vs H Q
theorem ev_cb {δ : Type} [ToDs δ] {r : List V → Hp → VK → Prop} {t : TA} {m : Res δ} {f : δ → Res α} (ho : CrX K r f) (hm : ∀ x c, f x ≠ .exc c) (ha : EvA K W env t m) : EvX K W env (tCB r t) (m.bind f) := fun F0 H0 F H σ Q S k => by
  refine ha F0 H0 F H σ _ S ?_
  cases m with
  | ok y =>
    intro vs F1 H1 a1 r1
    have k : KE K W F H σ Q (f y) := k
    exact ho F1 H1 y vs Q a1.in_ r1 ((k.adv a1).mild (hm y))
  | exc c => exact k
  | stuck => exact k.elim
end
end Mi
set_option maxHeartbeats 1000000
namespace Mi
open PySem PySem.Spec L2
open Evl (Ex)

/-! ### statements -/
inductive EnLe : En → En → Prop
  | nil : EnLe [] []
  | same {e : Option Sk} {l m : En} : EnLe l m → EnLe (e :: l) (e :: m)
  | drop {e : Option Sk} {l m : En} : EnLe l m → EnLe (e :: l) (none :: m)
theorem EnLe.refl : ∀ l : En, EnLe l l
  | [] => .nil
  | _ :: l => .same (EnLe.refl l)
theorem EnLe.get : ∀ {l m : En}, EnLe l m → ∀ {i : Nat} {sk : Sk}, m[i]? = some (some sk) → l[i]? = some (some sk)
  | _, _, .nil, i, sk, h => h
  | _, _, .same t, 0, sk, h => h
  | _, _, .same t, i + 1, sk, h => EnLe.get t (by simpa using h)
  | _, _, .drop t, 0, sk, h => by simp at h
  | _, _, .drop t, i + 1, sk, h => EnLe.get t (by simpa using h)
theorem EnLe.len {l m : En} (h : EnLe l m) : l.length = m.length := by
  induction h with
  | nil => rfl
  | same _ ih => simp [ih]
  | drop _ ih => simp [ih]
theorem Sl.weak {K : PySem.W.Frag} {F0 H0 F H : Hp} {σ : L2.St} {env env' : En} (S : Sl K F0 H0 F H σ env) (h : EnLe env env') : Sl K F0 H0 F H σ env' :=
  ⟨S.adv, fun i sk e => S.slot i sk (h.get e), fun i j sk sk' p hij e1 e2 => S.dis i j sk sk' p hij (h.get e1) (h.get e2), S.len.trans h.len⟩
def Blk (K : PySem.W.Frag) (F0 H0 : Hp) {τ : Type} (KP : Res τ → Prop) (T : L2.St → Hp → Prop) (env : En) (m : Res τ) : Prop :=
  ∀ F H σ, Sl K F0 H0 F H σ env → KP m → T σ H
structure Lk (K : PySem.W.Frag) (W : WX) (F0 H0 : Hp) (rt : VK) (PT : En → Prop) {τ : Type} [ToD τ] (KP : Res τ → Prop) : Prop where
  ok : ∀ x, KP (.ok x) → ∀ v F H, Adv F0 H0 F H → Rep K F (toD x) v → rt v H
  exc : ∀ c F H σ env, KP (.exc c) → PT env → Sl K F0 H0 F H σ env → W (.ref (He.ga K c)) none σ H
  no : ¬ KP .stuck
section
variable {K : PySem.W.Frag} {W : WX} {F0 H0 F H F' H' F1 : Hp} {rt : VK} {PT : En → Prop} {env env' : En} {α β γ τ : Type} [ToD α] [ToD β] [ToD γ] [ToD τ] {KP : Res τ → Prop} {te ta tb tc : TE} {tt : TT} {Z : Ends} {t u : TS} {T : L2.St → Hp → Prop}
theorem Sl.base {σ : L2.St} (S : Sl K F0 H0 F1 H' σ env) {σ' : L2.St} (S' : Sl K F1 H0 F H σ' env') : Sl K F0 H0 F H σ' env' :=
  ⟨⟨S.adv.f.trans S'.adv.f, S'.adv.h, S'.adv.in_, fun p h1 h2 => S'.adv.out p (S.adv.out p h1 h2) h2⟩, S'.slot, S'.dis, S'.len⟩
theorem Lk.base (L : Lk K W F0 H0 rt PT KP) {σ : L2.St} (S : Sl K F0 H0 F1 H' σ env) : Lk K W F1 H0 rt PT KP :=
  ⟨fun x h v F H a r => L.ok x h v F H ⟨S.adv.f.trans a.f, a.h, a.in_, fun p h1 h2 => a.out p (S.adv.out p h1 h2) h2⟩ r,
   fun c F H σ' env' h p S' => L.exc c F H σ' env' h p (S.base S'), L.no⟩
theorem Blk.base {m : Res τ} (B : Blk K F0 H0 KP T env' m) {σ : L2.St} (S : Sl K F0 H0 F1 H' σ env) : Blk K F1 H0 KP T env' m := fun F H σ' S' h => B F H σ' (S.base S') h
theorem Blk.weak {m : Res τ} (B : Blk K F0 H0 KP T env' m) (h : EnLe env env') : Blk K F0 H0 KP T env m := fun F H σ S k => B F H σ (S.weak h) k

/-- what follows an expression in a block -/
theorem Lk.ke (L : Lk K W F0 H0 rt PT KP) (hT : PT env) {σ : L2.St} (S : Sl K F0 H0 F H σ env) {m : Res α} {f : α → Res τ} (h : KP (m.bind f)) {Q : VK}
    (k : ∀ x v F' H', m = .ok x → Adv F H F' H' → Rep K F' (toD x) v → KP (f x) → Q v H') : KE K W F H σ Q m := by
  cases m with
  | ok x => exact fun v F' H' a r => k x v F' H' rfl a r h
  | exc c => exact fun F' H' a => L.exc c F' H' σ env h hT (S.step a)
  | stuck => exact (L.no h).elim
theorem Lk.kt (L : Lk K W F0 H0 rt PT KP) (hT : PT env) {σ : L2.St} (S : Sl K F0 H0 F H σ env) {m : Res Bool} {f : Bool → Res τ} (h : KP (m.bind f)) {Q : Bool → Hp → Prop}
    (k : ∀ x F' H', m = .ok x → Adv F H F' H' → KP (f x) → Q x H') : KT K W F H σ Q m := by
  cases m with
  | ok x => exact fun F' H' a => k x F' H' rfl a h
  | exc c => exact fun F' H' a => L.exc c F' H' σ env h hT (S.step a)
  | stuck => exact (L.no h).elim
theorem Lk.kn (L : Lk K W F0 H0 rt PT KP) (hT : PT env) {σ : L2.St} (S : Sl K F0 H0 F H σ env) {m : Res (List α)} {f : List α → Res τ} (h : KP (m.bind f)) {Q : VK}
    (k : ∀ xs p vs F' H', m = .ok xs → Adv F H F' H' → H p = none → F' p = none → H' p = some (.lst vs) → Reps K F' (xs.map toD) vs → KP (f xs) → Q (.ref p) H') : KN K W F H σ Q m := by
  cases m with
  | ok x => exact fun p vs F' H' a h1 h2 h3 h4 => k x p vs F' H' rfl a h1 h2 h3 h4 h
  | exc c => exact fun F' H' a => L.exc c F' H' σ env h hT (S.step a)
  | stuck => exact (L.no h).elim

theorem blk_seq {m : Res τ} (h : Blk K F0 H0 KP (t { Z with nx := u Z }) env m) : Blk K F0 H0 KP (tSeq t u Z) env m := h
theorem blk_nil {m : Res τ} (h : Blk K F0 H0 KP Z.nx env m) : Blk K F0 H0 KP (tNext Z) env m := h

theorem Blk.nx {m : Res τ} {T bk ct : L2.St → Hp → Prop} {r : VK} (h : Blk K F0 H0 KP T env m) : Blk K F0 H0 KP (Ends.nx ⟨T, r, bk, ct⟩) env m := h
/-! targets -/
def GX (K : PySem.W.Frag) (g : TG) (x : D) (f : En → En) (ws : List Nat) : Prop := ∀ (F0 H0 F H : Hp) (σ : L2.St) (env : En) (v : V) (T : L2.St → Hp → Prop), Sl K F0 H0 F H σ env → Rep K F x v →
  (∀ σ', Sl K F0 H0 F H σ' (f env) → σ'.length = σ.length → (∀ j, j ∉ ws → σ'[j]? = σ[j]?) → T σ' H) → g v σ H T
def GXs (K : PySem.W.Frag) (g : TGs) (xs : List D) (f : En → En) (ws : List Nat) : Prop := ∀ (F0 H0 F H : Hp) (σ : L2.St) (env : En) (vs : List V) (T : L2.St → Hp → Prop), Sl K F0 H0 F H σ env → Reps K F xs vs →
  (∀ σ', Sl K F0 H0 F H σ' (f env) → σ'.length = σ.length → (∀ j, j ∉ ws → σ'[j]? = σ[j]?) → T σ' H) → g vs σ H T
def stE (i : Nat) (x : D) : En → En := fun env => env.set i (some (.im x))
theorem gx_name {i : Nat} {x : D} : GX K (gName i) x (stE i x) [i] := fun F0 H0 F H σ env v T S r k =>
  k _ (S.setIm r) (by rw [List.length_set]) fun j hj => List.getElem?_set_ne fun e => hj (by rw [e]; exact List.mem_singleton.mpr rfl)
theorem gxs_nil : GXs K gNil [] (fun e => e) [] := fun F0 H0 F H σ env vs T S r k => ⟨r, k σ S rfl fun _ _ => rfl⟩
theorem gxs_cons {g : TG} {gs : TGs} {x : D} {xs : List D} {f1 f2 : En → En} {w1 w2 : List Nat} (h1 : GX K g x f1 w1) (h2 : GXs K gs xs f2 w2) : GXs K (gCons g gs) (x :: xs) (fun e => f2 (f1 e)) (w1 ++ w2) := fun F0 H0 F H σ env vs T S r k => by
  obtain ⟨v, rs, rfl, r1, r2⟩ := r
  refine ⟨v, rs, rfl, h1 F0 H0 F H σ env v _ S r1 fun σ1 S1 l1 o1 => ?_⟩
  refine h2 F0 H0 F H σ1 _ rs T S1 r2 fun σ2 S2 l2 o2 => ?_
  refine k σ2 S2 (l2.trans l1) fun j hj => ?_
  rw [o2 j fun z => hj (List.mem_append_right _ z), o1 j fun z => hj (List.mem_append_left _ z)]
theorem gx_tup {gs : TGs} {n : Nat} {xs : List D} {f : En → En} {ws : List Nat} (h : GXs K gs xs f ws) (hn : xs.length = n) : GX K (gTup K n gs) (.tup xs) f ws := fun F0 H0 F H σ env v T S r k => by
  obtain ⟨a, vs, rfl, h1, h2⟩ := r
  exact ⟨a, vs, rfl, Evl.ex_t S.ex h1, by rw [← h2.length]; exact hn, h F0 H0 F H σ env vs T S h2 k⟩

theorem blk_asg {g : TG} {m : Res α} {f : α → Res τ} {fe : α → En → En} {ws : List Nat} (L : Lk K W F0 H0 rt PT KP) (hT : PT env) (he : EvX K W env te m) (hg : ∀ x, GX K g (toD x) (fe x) ws)
    (k : ∀ x, Blk K F0 H0 KP Z.nx (fe x env) (f x)) : Blk K F0 H0 KP (tAsg te g Z) env (m.bind f) := fun F H σ S h =>
  he F0 H0 F H σ _ S (L.ke hT S h fun x v F1 H1 e1 a1 r1 h1 => hg x F0 H0 F1 H1 σ env v _ (S.step a1) r1 fun σ' S' _ _ => k x F1 H1 σ' S' h1)
theorem blk_set {i : Nat} {m : Res α} {f : α → Res τ} (L : Lk K W F0 H0 rt PT KP) (hT : PT env) (he : EvX K W env te m)
    (k : ∀ x, Blk K F0 H0 KP Z.nx (env.set i (some (.im (toD x)))) (f x)) : Blk K F0 H0 KP (tAsg te (gName i) Z) env (m.bind f) :=
  blk_asg L hT he (fun _ => gx_name) k
/-- x = a new list that is changed later -/
theorem blk_own {i : Nat} {m : Res (List α)} {f : List α → Res τ} (L : Lk K W F0 H0 rt PT KP) (hT : PT env) (he : EvN K W env te m)
    (k : ∀ xs, Blk K F0 H0 KP Z.nx (env.set i (some (.ow (xs.map toD)))) (f xs)) : Blk K F0 H0 KP (tAsg te (gName i) Z) env (m.bind f) := fun F H σ S h =>
  he F0 H0 F H σ _ S (L.kn hT S h fun xs p vs F1 H1 e1 a1 hp hf hh r h1 => by
    have S1 := S.step a1
    refine k xs F1 H1 _ (S1.setOw (Evl.fresh_back S.adv.h hp) hf hh (fun j sk' e ho z => ?_) r) h1
    obtain ⟨v, e2, q⟩ := S.slot j _ e
    obtain ⟨p', o', rfl, _, _, q4⟩ := q.at ho
    rw [e2] at z
    cases z
    rw [hp] at q4; cases q4)
/-- x.append(e), x an owned list -/
theorem blk_app {i : Nat} {xs : List β} {m : Res β} {f : β → Res τ} (L : Lk K W F0 H0 rt PT KP) (hT : PT env) (hx : env[i]? = some (some (.ow (xs.map toD)))) (he : EvX K W env te m)
    (k : ∀ y, Blk K F0 H0 KP Z.nx (env.set i (some (.ow ((xs ++ [y]).map toD)))) (f y)) :
    Blk K F0 H0 KP (tDrop (tBM K "list" rAppend (tVar i) (tCons te tNil)) Z) env (m.bind fun y => .need (xs.length < 16777216) (f y)) := fun F H σ S h => by
  obtain ⟨v, e, p, vs, rfl, h0, hf, hp, hr⟩ := S.slot i _ hx
  refine ⟨_, e, .inl ⟨rfl, _, .inl (.inl hp)⟩, ?_⟩
  refine he F0 H0 F H σ _ S (L.ke hT S h fun y u F1 H1 e1 a1 r1 h1 => ?_)
  by_cases c : xs.length < 16777216
  · rw [Res.need_pos c] at h1
    have hr' := Reps.mono a1.f _ _ hr
    refine ⟨p, vs, u, rfl, rfl, a1.h _ _ hp, by rw [sizeLine_eq, ← hr.length, List.length_map]; exact c, ?_⟩
    refine k y F1 _ σ ((S.step a1).chg hx e (a1.out p hf (by rw [hp]; simp)) h0 ?_) h1
    rw [List.map_append]
    exact Reps.append hr' (Reps.one r1)
  · rw [Res.need_neg c] at h1
    exact (L.no h1).elim
/-- x[i] = e, x an owned list -/
theorem blk_setI {i : Nat} {xs : List β} {m : Res β} {mi : Res Int} {f : List β → Res τ} (L : Lk K W F0 H0 rt PT KP) (hT : PT env) (hx : env[i]? = some (some (.ow (xs.map toD)))) (he : EvX K W env te m) (hi : EvX K W env tb mi)
    (k : ∀ ys, Blk K F0 H0 KP Z.nx (env.set i (some (.ow (ys.map toD)))) (f ys)) :
    Blk K F0 H0 KP (tAsg te (gSub (tVar i) tb rSetL) Z) env (m.bind fun y => mi.bind fun j => match ixN xs.length j with | some a => f (xs.set a y) | none => .stuck) := fun F H σ S h => by
  obtain ⟨v, e, p, vs, rfl, h0, hf, hp, hr⟩ := S.slot i _ hx
  refine he F0 H0 F H σ _ S (L.ke hT S h fun y u F1 H1 e1 a1 r1 h1 => ?_)
  refine ⟨_, e, ?_⟩
  refine hi F0 H0 F1 H1 σ _ (S.step a1) (L.ke hT (S.step a1) h1 fun j w F2 H2 e2 a2 r2 h2 => ?_)
  cases (show w = V.int j from r2)
  have hr' := Reps.mono (a1.trans a2).f _ _ hr
  have ha := (a1.trans a2)
  have hl : vs.length = xs.length := by rw [← hr.length, List.length_map]
  cases q : ixN xs.length j with
  | none => rw [q] at h2; exact (L.no h2).elim
  | some a =>
    rw [q] at h2
    refine ⟨p, vs, j, a, rfl, rfl, ha.h _ _ hp, by rw [hl]; exact q, ?_⟩
    refine k (xs.set a y) F2 _ σ ((S.step ha).chg hx e (ha.out p hf (by rw [hp]; simp)) h0 ?_) h2
    rw [List.map_set]
    exact Reps.set a hr' (Rep.mono a2.f _ _ r1)
theorem blk_freeze {xs : List D} (i : Nat) {m : Res τ} (hx : env[i]? = some (some (.ow xs))) (k : Blk K F0 H0 KP T (env.set i (some (.im (.lst xs)))) m) : Blk K F0 H0 KP T env m := fun F H σ S h => by
  obtain ⟨F', _, S'⟩ := S.freeze hx
  exact k F' H σ S' h
theorem blk_if {m : Res Bool} {f : Bool → Res τ} (L : Lk K W F0 H0 rt PT KP) (hT : PT env) (hc : EvT K W env tt m) (h1 : Blk K F0 H0 KP (t Z) env (f true)) (h2 : Blk K F0 H0 KP (u Z) env (f false)) :
    Blk K F0 H0 KP (tIfS tt t u Z) env (m.bind f) := fun F H σ S h =>
  hc F0 H0 F H σ _ S (L.kt hT S h fun b F1 H1 e1 a1 k1 => by
    cases b with
    | true => exact h1 F1 H1 σ (S.step a1) k1
    | false => exact h2 F1 H1 σ (S.step a1) k1)
theorem blk_ret {m : Res τ} (L : Lk K W F0 H0 rt PT KP) (hT : PT env) (he : EvX K W env te m) (hZ : Z.rt = rt := by rfl) : Blk K F0 H0 KP (tRet te Z) env m := fun F H σ S h => by
  subst hZ
  rw [← Res.bind_pure m] at h
  exact he F0 H0 F H σ _ S (L.ke hT S h fun x v F1 H1 e1 a1 r1 h1 => L.ok x h1 v F1 H1 (S.adv.trans a1) r1)
/-- a value of another type is handed back -/
theorem blk_retAs {m : Res α} {f : α → τ} (L : Lk K W F0 H0 rt PT KP) (hT : PT env) (he : EvX K W env te m) (hf : ∀ x, toD (f x) = toD x) (hZ : Z.rt = rt := by rfl) : Blk K F0 H0 KP (tRet te Z) env (m.bind fun x => .ok (f x)) := fun F H σ S h => by
  subst hZ
  exact he F0 H0 F H σ _ S (L.ke hT S h fun x v F1 H1 e1 a1 r1 h1 => L.ok (f x) h1 v F1 H1 (S.adv.trans a1) (by rw [hf]; exact r1))
theorem blk_retN {x : τ} (L : Lk K W F0 H0 rt PT KP) (hx : toD x = .non) (hZ : Z.rt = rt := by rfl) : Blk K F0 H0 KP (tRetN Z) env (.ok x) := fun F H σ S h => by
  subst hZ
  exact L.ok x h .non F H S.adv (by rw [hx]; rfl)
theorem blk_expr {m : Res α} {f : α → Res τ} (L : Lk K W F0 H0 rt PT KP) (hT : PT env) (he : EvX K W env te m) (k : ∀ x, Blk K F0 H0 KP Z.nx env (f x)) : Blk K F0 H0 KP (tDrop te Z) env (m.bind f) := fun F H σ S h =>
  he F0 H0 F H σ _ S (L.ke hT S h fun x v F1 H1 e1 a1 r1 h1 => k x F1 H1 σ (S.step a1) h1)
/-- raise X('..') -/
theorem blk_raise {c : Str} (L : Lk K W F0 H0 rt PT KP) (hT : PT env) : Blk K F0 H0 KP (fun σ H => W (.ref (He.ga K c)) none σ H) env (.exc c) := fun F H σ S h => L.exc c F H σ env h hT S
theorem blk_raise1 {c : Str} {m : Res α} (L : Lk K W F0 H0 rt PT KP) (hT : PT env) (he : EvX K W env te m) : Blk K F0 H0 KP (fun σ H => te σ H fun _ H1 => W (.ref (He.ga K c)) none σ H1) env (m.bind fun _ => .exc c) := fun F H σ S h =>
  he F0 H0 F H σ _ S (L.ke hT S h fun x v F1 H1 e1 a1 r1 h1 => L.exc c F1 H1 σ env h1 hT (S.step a1))
/-- a, b = e1, e2 -/
theorem blk_par {i j : Nat} {m1 : Res α} {m2 : Res β} {f : α → β → Res τ} (L : Lk K W F0 H0 rt PT KP) (hT : PT env) (h1 : EvX K W env ta m1) (h2 : EvX K W env tb m2)
    (k : ∀ x y, Blk K F0 H0 KP Z.nx ((env.set i (some (.im (toD x)))).set j (some (.im (toD y)))) (f x y)) : Blk K F0 H0 KP (tPar i j (tCons ta (tCons tb tNil)) Z) env (m1.bind fun x => m2.bind fun y => f x y) := fun F H σ S h => by
  refine h1 F0 H0 F H σ _ S (L.ke hT S h fun x v F1 H1 e1 a1 r1 k1 => ?_)
  refine h2 F0 H0 F1 H1 σ _ (S.step a1) (L.ke hT (S.step a1) k1 fun y w F2 H2 e2 a2 r2 k2 => ?_)
  refine ⟨v, w, rfl, ?_⟩
  exact k x y F2 H2 _ ((((S.step a1).step a2).setIm (Rep.mono a2.f _ _ r1)).setIm r2) k2
/-- x op= e -/
theorem blk_aug {i : Nat} {x : Int} {m : Res Int} {f : Int → Res τ} {g : Int → Int → Int} (L : Lk K W F0 H0 rt PT KP) (hT : PT env) (hx : env[i]? = some (some (.im (.int x)))) (he : EvX K W env te m)
    (k : ∀ y, Blk K F0 H0 KP Z.nx (env.set i (some (.im (.int (g x y))))) (f y)) : Blk K F0 H0 KP (tAug i te (ipI g) Z) env (m.bind f) := fun F H σ S h => by
  obtain ⟨v, e, q⟩ := S.slot i _ hx
  cases (show v = V.int x from q)
  refine ⟨_, e, he F0 H0 F H σ _ S (L.ke hT S h fun y w F1 H1 e1 a1 r1 k1 => ?_)⟩
  exact ⟨x, y, rfl, r1, k y F1 H1 _ ((S.step a1).setIm rfl) k1⟩
theorem blk_augR {i : Nat} {x : α} {m : Res β} {f : γ → Res τ} {r : R2} {g : α → β → Res γ} (L : Lk K W F0 H0 rt PT KP) (hT : PT env) (hx : env[i]? = some (some (.im (toD x)))) (ho : OpX K r g) (hm : Mild g) (he : EvX K W env te m)
    (k : ∀ z, Blk K F0 H0 KP Z.nx (env.set i (some (.im (toD z)))) (f z)) : Blk K F0 H0 KP (tAug i te r Z) env (m.bind fun y => (g x y).bind f) := fun F H σ S h => by
  obtain ⟨v, e, q⟩ := S.slot i _ hx
  refine ⟨_, e, he F0 H0 F H σ _ S (L.ke hT S h fun y w F1 H1 e1 a1 r1 k1 => ?_)⟩
  refine ho F1 H1 x y v w _ a1.in_ (Rep.mono a1.f _ _ q) r1 ?_
  refine KE.mild (W := W) (σ := σ) (hm x y) ?_
  exact L.ke hT (S.step a1) k1 fun z u F2 H2 e2 a2 r2 k2 => k z F2 H2 _ (((S.step a1).step a2).setIm r2) k2

/-! ### loops -/
structure JS (K : PySem.W.Frag) (F : Hp) (J : It) (xs : List D) : Prop where
  go : ∀ i H, Ex F H → i < xs.length → J.go i H
  stop : ∀ i H, Ex F H → xs.length ≤ i → J.stop i H
  yld : ∀ i H v H' F1, Ex F F1 → Ex F1 H → i < xs.length → J.yld i H v H' → ∃ F2 x, Adv F1 H F2 H' ∧ xs[i]? = some x ∧ Rep K F2 x v
def KI (K : PySem.W.Frag) (W : WX) (F H : Hp) (σ : L2.St) {α : Type} [ToD α] (R : It → Hp → Prop) : Res (List α) → Prop
  | .ok xs => ∀ J F' H', Adv F H F' H' → JS K F' J (xs.map toD) → R J H'
  | .exc c => ∀ F' H', Adv F H F' H' → W (.ref (He.ga K c)) none σ H'
  | .stuck => False
def EvI (K : PySem.W.Frag) (W : WX) (env : En) (wi : TI) {α : Type} [ToD α] (m : Res (List α)) : Prop :=
  ∀ F0 H0 F H σ R, Sl K F0 H0 F H σ env → KI K W F H σ R m → wi σ H R
theorem Lk.ki (L : Lk K W F0 H0 rt PT KP) (hT : PT env) {σ : L2.St} (S : Sl K F0 H0 F H σ env) {m : Res (List α)} {f : List α → Res τ} (h : KP (m.bind f)) {R : It → Hp → Prop}
    (k : ∀ xs J F' H', m = .ok xs → Adv F H F' H' → JS K F' J (xs.map toD) → KP (f xs) → R J H') : KI K W F H σ R m := by
  cases m with
  | ok x => exact fun J F' H' a h1 => k x J F' H' rfl a h1 h
  | exc c => exact fun F' H' a => L.exc c F' H' σ env h hT (S.step a)
  | stuck => exact (L.no h).elim
theorem js_list {a : Addr} {vs : List V} {xs : List D} (hl : SqL K F a vs) (hr : Reps K F xs vs) : JS K F (Itl K a) xs := by
  have hn := hr.length
  refine ⟨fun i H e hi => ?_, fun i H e hi => ?_, fun i H v H' F1 e1 e2 hi hy => ?_⟩
  · exact ⟨vs, vs[i]'(by omega), Evl.ex_l e hl, List.getElem?_eq_getElem (by omega)⟩
  · exact ⟨vs, Evl.ex_l e hl, by omega⟩
  · obtain ⟨e, f⟩ := hy
    subst e
    have g := f vs (Evl.ex_l (e1.trans e2) hl)
    obtain ⟨w, q1, q2⟩ := hr.get (i := i) (e := xs[i]) (List.getElem?_eq_getElem hi)
    rw [g] at q1; cases q1
    exact ⟨F1, xs[i], Adv.refl e2, List.getElem?_eq_getElem hi, Rep.mono e1 _ _ q2⟩
theorem js_tup {a : Addr} {vs : List V} {xs : List D} (hl : SqT K F a vs) (hr : Reps K F xs vs) : JS K F (Itt K a) xs := by
  have hn := hr.length
  refine ⟨fun i H e hi => ?_, fun i H e hi => ?_, fun i H v H' F1 e1 e2 hi hy => ?_⟩
  · exact ⟨vs, vs[i]'(by omega), Evl.ex_t e hl, List.getElem?_eq_getElem (by omega)⟩
  · exact ⟨vs, Evl.ex_t e hl, by omega⟩
  · obtain ⟨e, f⟩ := hy
    subst e
    have g := f vs (Evl.ex_t (e1.trans e2) hl)
    obtain ⟨w, q1, q2⟩ := hr.get (i := i) (e := xs[i]) (List.getElem?_eq_getElem hi)
    rw [g] at q1; cases q1
    exact ⟨F1, xs[i], Adv.refl e2, List.getElem?_eq_getElem hi, Rep.mono e1 _ _ q2⟩
theorem ei_list {m : Res (List α)} (h : EvX K W env te m) : EvI K W env (iList K te) m := fun F0 H0 F H σ R S k => by
  refine h F0 H0 F H σ _ S ?_
  cases m with
  | ok xs =>
    intro v F1 H1 a r
    obtain ⟨p, vs, rfl, h1, h2⟩ := r
    exact ⟨p, rfl, ⟨vs, Evl.ex_l a.in_ h1⟩, k _ F1 H1 a (js_list h1 h2)⟩
  | exc c => exact k
  | stuck => exact k.elim
theorem ei_tup {m : Res (Tu α)} (h : EvX K W env te m) : EvI K W env (iTup K te) (m.bind fun x => .ok x.xs) := fun F0 H0 F H σ R S k => by
  refine h F0 H0 F H σ _ S ?_
  cases m with
  | ok xs =>
    intro v F1 H1 a r
    obtain ⟨p, vs, rfl, h1, h2⟩ := r
    exact ⟨p, rfl, ⟨vs, Evl.ex_t a.in_ h1⟩, k _ F1 H1 a (js_tup h1 h2)⟩
  | exc c => exact k
  | stuck => exact k.elim
def pyRange (lo hi : Int) : List Int := (List.range (hi - lo).toNat).map fun (i : Nat) => lo + (i : Int)
theorem pyRange_len (lo hi : Int) : (pyRange lo hi).length = (hi - lo).toNat := by simp [pyRange]
theorem pyRange_get {lo hi : Int} {i : Nat} (h : i < (hi - lo).toNat) : (pyRange lo hi)[i]? = some (lo + (i : Int)) := by
  simp [pyRange, h]
theorem js_range {lo hi : Int} : JS K F (Itr lo (hi - lo).toNat) ((pyRange lo hi).map toD) := by
  refine ⟨fun i H e h => ?_, fun i H e h => ?_, fun i H v H' F1 e1 e2 h hy => ?_⟩
  · rw [List.length_map, pyRange_len] at h; exact h
  · rw [List.length_map, pyRange_len] at h; exact h
  · rw [List.length_map, pyRange_len] at h
    obtain ⟨e, q⟩ := hy
    subst e q
    exact ⟨F1, .int (lo + (i : Int)), Adv.refl e2, by rw [List.getElem?_map, pyRange_get h]; rfl, rfl⟩
abbrev okRange (i : Int) : Prop := -(2 ^ 62) ≤ i ∧ i < 2 ^ 62
theorem ei_range1 {m : Res Int} (h : EvX K W env te m) : EvI K W env (iRng1 (tCons te tNil)) (m.bind fun j => .need (okRange j) (.ok (pyRange 0 j))) := fun F0 H0 F H σ R S k => by
  refine h F0 H0 F H σ _ S ?_
  cases m with
  | ok j =>
    intro v F1 H1 a r
    cases (show v = V.int j from r)
    have k : KI K W F H σ R (.need (okRange j) (.ok (pyRange 0 j))) := k
    by_cases c : okRange j
    · rw [Res.need_pos c] at k
      refine ⟨j, rfl, c.1, c.2, k _ F1 H1 a ?_⟩
      have := js_range (K := K) (F := F1) (lo := 0) (hi := j)
      rw [Int.sub_zero] at this
      exact this
    · rw [Res.need_neg c] at k; exact k.elim
  | exc c => exact k
  | stuck => exact k.elim
theorem ei_range2 {m1 m2 : Res Int} (h1 : EvX K W env ta m1) (h2 : EvX K W env tb m2) : EvI K W env (iRng2 (tCons ta (tCons tb tNil))) (m1.bind fun i => m2.bind fun j => .need (okRange i ∧ okRange j) (.ok (pyRange i j))) := fun F0 H0 F H σ R S k => by
  refine h1 F0 H0 F H σ _ S ?_
  cases m1 with
  | ok i =>
    intro v F1 H1 a r
    cases (show v = V.int i from r)
    refine h2 F0 H0 F1 H1 σ _ (S.step a) ?_
    have k : KI K W F H σ R (m2.bind fun j => .need (okRange i ∧ okRange j) (.ok (pyRange i j))) := k
    cases m2 with
    | ok j =>
      intro v F2 H2 a2 r
      cases (show v = V.int j from r)
      have k : KI K W F H σ R (.need (okRange i ∧ okRange j) (.ok (pyRange i j))) := k
      by_cases c : okRange i ∧ okRange j
      · rw [Res.need_pos c] at k
        exact ⟨i, j, rfl, ⟨c.1.1, c.1.2, c.2.1, c.2.2⟩, k _ F2 H2 (a.trans a2) js_range⟩
      · rw [Res.need_neg c] at k; exact k.elim
    | exc c => exact fun F2 H2 a2 => k F2 H2 (a.trans a2)
    | stuck => exact k.elim
  | exc c => exact k
  | stuck => exact k.elim
/-- range(i, j, -1) -/
def pyDown (i j : Int) : List Int := (List.range (i - j).toNat).map fun (a : Nat) => i - (a : Int)
theorem pyDown_len (lo hi : Int) : (pyDown lo hi).length = (lo - hi).toNat := by simp [pyDown]
theorem pyDown_get {lo hi : Int} {i : Nat} (h : i < (lo - hi).toNat) : (pyDown lo hi)[i]? = some (lo - (i : Int)) := by
  simp [pyDown, h]
theorem js_down {lo hi : Int} : JS K F (Itc lo (-1) (lo - hi).toNat) ((pyDown lo hi).map toD) := by
  refine ⟨fun i H e h => ?_, fun i H e h => ?_, fun i H v H' F1 e1 e2 h hy => ?_⟩
  · rw [List.length_map, pyDown_len] at h; exact h
  · rw [List.length_map, pyDown_len] at h; exact h
  · rw [List.length_map, pyDown_len] at h
    obtain ⟨e, q⟩ := hy
    subst e q
    refine ⟨F1, .int (lo - (i : Int)), Adv.refl e2, by rw [List.getElem?_map, pyDown_get h]; rfl, ?_⟩
    show V.int _ = V.int _
    congr 1; omega
theorem ei_down {m1 m2 : Res Int} (h1 : EvX K W env ta m1) (h2 : EvX K W env tb m2) (h3 : EvX K W env tc (.ok (-1 : Int))) : EvI K W env (iRng3 (tCons ta (tCons tb (tCons tc tNil)))) (m1.bind fun i => m2.bind fun j => .need (okRange i ∧ okRange j) (.ok (pyDown i j))) := fun F0 H0 F H σ R S k => by
  refine h1 F0 H0 F H σ _ S ?_
  cases m1 with
  | ok i =>
    intro v F1 H1 a r
    cases (show v = V.int i from r)
    refine h2 F0 H0 F1 H1 σ _ (S.step a) ?_
    have k : KI K W F H σ R (m2.bind fun j => .need (okRange i ∧ okRange j) (.ok (pyDown i j))) := k
    cases m2 with
    | ok j =>
      intro v F2 H2 a2 r
      cases (show v = V.int j from r)
      refine h3 F0 H0 F2 H2 σ _ ((S.step a).step a2) fun v F3 H3 a3 r => ?_
      cases (show v = V.int (-1) from r)
      have k : KI K W F H σ R (.need (okRange i ∧ okRange j) (.ok (pyDown i j))) := k
      by_cases c : okRange i ∧ okRange j
      · rw [Res.need_pos c] at k
        exact ⟨i, j, -1, (i - j).toNat, rfl, RgC.neg c.1.1 c.1.2 c.2.1 c.2.2, k _ F3 H3 ((a.trans a2).trans a3) js_down⟩
      · rw [Res.need_neg c] at k; exact k.elim
    | exc c => exact fun F2 H2 a2 => k F2 H2 (a.trans a2)
    | stuck => exact k.elim
  | exc c => exact k
  | stuck => exact k.elim

theorem blk_for {S : Type} {wi : TI} {g : TG} {tb : TS} {m : Res (List α)} {fe : α → En → En} {ws : List Nat} (loop : List α → S → Res τ) (k : S → Res τ) (envS : S → En) (s0 : S)
    (L : Lk K W F0 H0 rt PT KP) (hT : PT env) (hi : EvI K W env wi m) (hg : ∀ x, GX K g (toD x) (fe x) ws) (h0 : EnLe env (envS s0)) (hnil : ∀ s, loop [] s = k s)
    (hbody : ∀ F1, Lk K W F1 H0 rt PT KP → (∀ s, Blk K F1 H0 KP Z.nx (envS s) (k s)) → ∀ x r s (N : L2.St → Hp → Prop), (∀ s', Blk K F1 H0 KP N (envS s') (loop r s')) →
      Blk K F1 H0 KP (tb { Z with nx := N, ct := N, bk := Z.nx }) (fe x (envS s)) (loop (x :: r) s))
    (hrest : ∀ s, Blk K F0 H0 KP Z.nx (envS s) (k s)) : Blk K F0 H0 KP (tFor wi g tb Z) env (m.bind fun xs => loop xs s0) := fun F H σ S h => by
  refine hi F0 H0 F H σ _ S (L.ki hT S h fun xs J F1 H1 e1 a1 js h1 => ?_)
  have S1 := (S.step a1).weak h0
  have S11 : Sl K F1 H0 F1 H1 σ (envS s0) := ⟨⟨Ex.refl _, S1.adv.h, S1.adv.in_, fun p q _ => q⟩, S1.slot, S1.dis, S1.len⟩
  have hB := hbody F1 (L.base S1) (fun s => (hrest s).base S1)
  have hn : (xs.map toD).length = xs.length := List.length_map ..
  refine ⟨fun i m σ H => m = xs.length - i ∧ i ≤ xs.length ∧ ∃ F s, Sl K F1 H0 F H σ (envS s) ∧ KP (loop (xs.drop i) s), ⟨xs.length, rfl, Nat.zero_le _, F1, s0, S11, h1⟩, ?_⟩
  rintro i m σ H ⟨rfl, hle, F, s, S, h⟩
  by_cases hlt : i < xs.length
  · refine .inr ⟨js.go i H (S.adv.f.trans S.ex) (by rw [hn]; exact hlt), fun σ' H' => ∃ F s, Sl K F1 H0 F H' σ' (envS s) ∧ KP (loop (xs.drop (i + 1)) s), fun σ' H' w => ⟨_, by omega, rfl, hlt, w⟩, fun v H' hy => ?_⟩
    obtain ⟨F2, x, a2, ex, rx⟩ := js.yld i H v H' F S.adv.f S.ex (by rw [hn]; exact hlt) hy
    rw [List.getElem?_map, List.getElem?_eq_getElem hlt] at ex
    cases ex
    refine hg xs[i] F1 H0 F2 H' σ (envS s) v _ (S.step a2) rx fun σ' S' _ _ => ?_
    have e : xs.drop i = xs[i] :: xs.drop (i + 1) := List.drop_eq_getElem_cons hlt
    rw [e] at h
    exact hB xs[i] (xs.drop (i + 1)) s _ (fun s' F H σ S h => ⟨F, s', S, h⟩) F2 H' σ' S' h
  · have e : xs.drop i = [] := List.drop_of_length_le (by omega)
    rw [e, hnil] at h
    exact .inl ⟨js.stop i H (S.adv.f.trans S.ex) (by rw [hn]; omega), (hrest s).base S1 F H σ S h⟩
theorem blk_while {S : Type} {tb : TS} (loop : Nat → S → Res τ) (test : S → Res Bool) (body : Nat → S → Res τ) (k : S → Res τ) (envS : S → En) (s0 : S) (fuel : Nat)
    (L : Lk K W F0 H0 rt PT KP) (hT : ∀ s, PT (envS s)) (h0 : EnLe env (envS s0)) (hc : ∀ s, EvT K W (envS s) tt (test s)) (l0 : ∀ s, loop 0 s = .stuck) (l1 : ∀ n s, loop (n + 1) s = (test s).bind fun b => cond b (body n s) (k s))
    (hbody : ∀ n s (N : L2.St → Hp → Prop), (∀ s', Blk K F0 H0 KP N (envS s') (loop n s')) → Blk K F0 H0 KP (tb { Z with nx := N, ct := N, bk := Z.nx }) (envS s) (body n s))
    (hrest : ∀ s, Blk K F0 H0 KP Z.nx (envS s) (k s)) : Blk K F0 H0 KP (tWhile tt tb Z) env (loop fuel s0) := fun F H σ S h => by
  refine ⟨fun n σ H => ∃ F s, Sl K F0 H0 F H σ (envS s) ∧ KP (loop n s), ⟨fuel, F, s0, S.weak h0, h⟩, ?_⟩
  rintro n σ H ⟨F, s, S, h⟩
  cases n with
  | zero => rw [l0] at h; exact (L.no h).elim
  | succ n =>
    rw [l1] at h
    refine hc s F0 H0 F H σ _ S (L.kt (hT s) S h fun b F1 H1 e1 a1 h1 => ?_)
    cases b with
    | true =>
      show ∃ N, _
      exact ⟨fun σ' H' => ∃ F s, Sl K F0 H0 F H' σ' (envS s) ∧ KP (loop n s), fun σ' H' w => ⟨n, Nat.lt_succ_self n, w⟩, hbody n s _ (fun s' F H σ S h => ⟨F, s', S, h⟩) F1 H1 σ (S.step a1) h1⟩
    | false => exact hrest s F1 H1 σ (S.step a1) h1

/-! ### comprehensions -/
def compL {α β : Type} (t : α → Res Bool) (e : α → Res β) : List α → Res (List β)
  | [] => .ok []
  | x :: r => (t x).bind fun b => cond b ((e x).bind fun y => (compL t e r).bind fun ys => .ok (y :: ys)) (compL t e r)
def mapL {α β : Type} (e : α → Res β) : List α → Res (List β)
  | [] => .ok []
  | x :: r => (e x).bind fun y => (mapL e r).bind fun ys => .ok (y :: ys)
theorem compL_yes {α β : Type} (e : α → Res β) : ∀ xs : List α, compL (fun _ => .ok true) e xs = mapL e xs
  | [] => rfl
  | x :: r => by
    show (e x).bind _ = (e x).bind _
    rw [compL_yes e r]
end
end Mi
set_option maxHeartbeats 1000000
namespace Mi
open PySem PySem.Spec L2
open Evl (Ex)
section
variable {K : PySem.W.Frag} {W : WX} {F0 H0 F H F' H' F1 : Hp} {rt : VK} {PT : En → Prop} {env env' : En} {α β γ τ : Type} [ToD α] [ToD β] [ToD γ] [ToD τ] {KP : Res τ → Prop} {te ta tb tc : TE} {tt : TT} {Z : Ends} {t u : TS} {T : L2.St → Hp → Prop} {σ : L2.St}

/-! ### comprehensions -/
theorem Sl.updN (S : Sl K F0 H0 F H σ env) {p : Addr} {o : HO} (hp : F p = none) (h0 : H0 p = none) (hn : ∀ (i : Nat) (sk : Sk), env[i]? = some (some sk) → sk.own = true → σ[i]? ≠ some (some (V.ref p))) : Sl K F0 H0 F (upd H p o) σ env := by
  refine ⟨⟨S.adv.f, fun a u q => ?_, fun a u q => ?_, S.adv.out⟩, fun j sk q => ?_, S.dis, S.len⟩
  · rw [upd_ne (ne_of_none q h0)]; exact S.adv.h a u q
  · rw [upd_ne (ne_of_none q hp)]; exact S.adv.in_ a u q
  · obtain ⟨w, h1, h2⟩ := S.slot j sk q
    exact ⟨w, h1, h2.updH fun o2 zz => hn j sk q o2 (by rw [h1, zz])⟩
/-- the names of a comprehension are forgotten -/
def unset : List Nat → En → En
  | [], e => e
  | i :: is, e => (unset is e).set i none
theorem unset_len (e : En) : ∀ ws : List Nat, (unset ws e).length = e.length
  | [] => rfl
  | i :: is => by show ((unset is e).set i none).length = _; rw [List.length_set, unset_len e is]
theorem unset_get {e : En} {j : Nat} {sk : Sk} : ∀ {ws : List Nat}, (unset ws e)[j]? = some (some sk) → e[j]? = some (some sk) ∧ j ∉ ws
  | [], h => ⟨h, by simp⟩
  | i :: is, h => by
    have h : ((unset is e).set i none)[j]? = some (some sk) := h
    rcases set_get h with ⟨_, z⟩ | ⟨z, h⟩
    · cases z
    · obtain ⟨h1, h2⟩ := unset_get h
      exact ⟨h1, by simp only [List.mem_cons, not_or]; exact ⟨fun e => z e.symm, h2⟩⟩
theorem Sl.wipe (S : Sl K F0 H0 F H σ env) (ws : List Nat) : Sl K F0 H0 F H (L2.wipe σ ws) (unset ws env) := by
  refine ⟨S.adv, fun i sk e => ?_, fun i j xs ys p hij e1 e2 o1 o2 h1 => ?_, by rw [wipe_length, unset_len]; exact S.len⟩
  · obtain ⟨e, hn⟩ := unset_get e
    rw [wipe_out hn]; exact S.slot i sk e
  · obtain ⟨e1, n1⟩ := unset_get e1
    obtain ⟨e2, n2⟩ := unset_get e2
    rw [wipe_out n1] at h1
    rw [wipe_out n2]
    exact S.dis i j xs ys p hij e1 e2 o1 o2 h1
theorem wipe_in {j : Nat} : ∀ {ws : List Nat}, j ∈ ws → j < σ.length → (L2.wipe σ ws)[j]? = some none
  | [], h, _ => by cases h
  | i :: is, h, hl => by
    show ((L2.wipe σ is).set i none)[j]? = some none
    by_cases e : i = j
    · subst e
      rw [List.getElem?_set_self (by rw [wipe_length]; exact hl)]
    · rw [List.getElem?_set_ne e]
      rcases List.mem_cons.mp h with z | z
      · exact absurd z.symm e
      · exact wipe_in z hl
theorem wipe_eq {σ' : L2.St} {ws : List Nat} (hl : σ'.length = (L2.wipe σ ws).length) (ho : ∀ j, j ∉ ws → σ'[j]? = (L2.wipe σ ws)[j]?) : L2.wipe σ' ws = L2.wipe σ ws := by
  rw [wipe_length] at hl
  apply List.ext_getElem?
  intro j
  by_cases hj : j ∈ ws
  · by_cases hlt : j < σ.length
    · rw [wipe_in hj hlt, wipe_in hj (by rw [hl]; exact hlt)]
    · rw [List.getElem?_eq_none (by rw [wipe_length]; omega), List.getElem?_eq_none (by rw [wipe_length]; omega)]
  · rw [wipe_out hj, ho j hj]
abbrev WT : WX := fun _ _ _ _ => True
theorem ev_comp {wi : TI} {g : TG} {m : Res (List α)} {fe : α → En → En} {ws : List Nat} {tst : α → Res Bool} {el : α → Res β} (hi : EvI K W env wi m) (hg : ∀ x, GX K g (toD x) (fe x) ws)
    (ht : ∀ x, EvT K WT (fe x (unset ws env)) tt (tst x)) (he : ∀ x, EvX K WT (fe x (unset ws env)) te (el x)) :
    EvN K W env (tLc wi g tt te ws) (m.bind fun xs => .need (xs.length ≤ 16777216) (compL tst el xs)) := fun F0 H0 F H σ Q S k => by
  refine hi F0 H0 F H σ _ S ?_
  cases m with
  | exc c => exact k
  | stuck => exact k.elim
  | ok xs =>
  intro J F1 H1 a1 js D hD
  have k : KN K W F H σ Q (.need (xs.length ≤ 16777216) (compL tst el xs)) := k
  by_cases c : xs.length ≤ 16777216
  case neg => rw [Res.need_neg c] at k; exact k.elim
  rw [Res.need_pos c] at k
  have hn : (xs.map toD).length = xs.length := List.length_map ..
  have hDF : F1 D = none := none_of_ex a1.in_ hD
  have hDH : H D = none := Evl.fresh_back a1.h hD
  have hD0 : H0 D = none := Evl.fresh_back S.adv.h hDH
  -- the new list is none of the slots'
  have hne : ∀ (i : Nat) (sk : Sk), env[i]? = some (some sk) → sk.own = true → σ[i]? ≠ some (some (V.ref D)) := fun i sk e ho z => by
    obtain ⟨v, e1, q⟩ := S.slot i _ e
    obtain ⟨p, o, rfl, _, _, q⟩ := q.at ho
    rw [e1] at z; cases z
    rw [hDH] at q; cases q
  have S1 : Sl K F0 H0 F1 (upd H1 D (.lst [])) σ env := (S.step a1).updN hDF hD0 hne
  refine ⟨fun i n H' => n = xs.length - i ∧ i ≤ xs.length ∧ ∃ F' acc vs, Sl K F0 H0 F' H' σ env ∧ Adv F H F' H' ∧ Ex F1 F' ∧ F' D = none ∧ H' D = some (.lst vs) ∧ Reps K F' (acc.map toD) vs ∧ acc.length ≤ i ∧
    (∀ ys, compL tst el (xs.drop i) = .ok ys → compL tst el xs = .ok (acc ++ ys)) ∧ (∀ c, compL tst el (xs.drop i) = .exc c → compL tst el xs = .exc c) ∧ (compL tst el (xs.drop i) = .stuck → compL tst el xs = .stuck),
    ⟨xs.length, rfl, Nat.zero_le _, F1, ([] : List β), [], S1, a1.trans (Adv.newO a1.in_ hD), Ex.refl _, hDF, upd_same, (show Reps K F1 [] [] from rfl), Nat.le_refl _, fun ys h => h, fun c h => h, fun h => h⟩, ?_⟩
  rintro i n H2 ⟨rfl, hle, F2, acc, vs, S2, a2, x2, f2, h2, r2, l2, q1, q2, q3⟩
  by_cases hlt : i < xs.length
  · refine .inr ⟨js.go i H2 (x2.trans a2.in_) (by rw [hn]; exact hlt), fun H' => (i + 1 ≤ xs.length ∧ ∃ F' acc vs, Sl K F0 H0 F' H' σ env ∧ Adv F H F' H' ∧ Ex F1 F' ∧ F' D = none ∧ H' D = some (.lst vs) ∧ Reps K F' (acc.map toD) vs ∧ acc.length ≤ i + 1 ∧
      (∀ ys, compL tst el (xs.drop (i + 1)) = .ok ys → compL tst el xs = .ok (acc ++ ys)) ∧ (∀ c, compL tst el (xs.drop (i + 1)) = .exc c → compL tst el xs = .exc c) ∧ (compL tst el (xs.drop (i + 1)) = .stuck → compL tst el xs = .stuck)),
      fun H' w => ⟨_, by omega, rfl, w⟩, fun v H3 hy => ?_⟩
    obtain ⟨F3, x, a3, ex, rx⟩ := js.yld i H2 v H3 F2 x2 a2.in_ (by rw [hn]; exact hlt) hy
    rw [List.getElem?_map, List.getElem?_eq_getElem hlt] at ex
    cases ex
    have e : xs.drop i = xs[i] :: xs.drop (i + 1) := List.drop_eq_getElem_cons hlt
    rw [e] at q1 q2 q3
    have S3 := S2.step a3
    refine hg xs[i] F0 H0 F3 H3 _ _ v _ (S3.wipe ws) rx fun σ' S' sl so => ⟨wipe_eq sl so, ?_⟩
    have f3 : F3 D = none := a3.out D f2 (by rw [h2]; simp)
    refine ht xs[i] F0 H0 F3 H3 σ' _ S' ?_
    cases qt : tst xs[i] with
    | exc c => exact fun _ _ _ => trivial
    | stuck =>
      have := q3 (by show (tst xs[i]).bind _ = _; rw [qt]; rfl)
      rw [this] at k; exact k.elim
    | ok b =>
    intro F4 H4 a4
    have f4 : F4 D = none := a4.out D f3 (by rw [a3.h _ _ h2]; simp)
    cases b with
    | false =>
      show i + 1 ≤ xs.length ∧ _
      refine ⟨hlt, F4, acc, vs, S3.step a4, (a2.trans a3).trans a4, (x2.trans a3.f).trans a4.f, f4, a4.h _ _ (a3.h _ _ h2), Reps.mono (a3.trans a4).f _ _ r2, by omega, fun ys h => ?_, fun c h => ?_, fun h => ?_⟩
      · exact q1 ys (by show (tst xs[i]).bind _ = _; rw [qt]; exact h)
      · exact q2 c (by show (tst xs[i]).bind _ = _; rw [qt]; exact h)
      · exact q3 (by show (tst xs[i]).bind _ = _; rw [qt]; exact h)
    | true =>
      show te σ' H4 _
      refine he xs[i] F0 H0 F4 H4 σ' _ (S'.step a4) ?_
      cases qe : el xs[i] with
      | exc c => exact fun _ _ _ => trivial
      | stuck =>
        have := q3 (by show (tst xs[i]).bind _ = _; rw [qt]; show (el xs[i]).bind _ = _; rw [qe]; rfl)
        rw [this] at k; exact k.elim
      | ok y =>
      intro w F5 H5 a5 r5
      have f5 : F5 D = none := a5.out D f4 (by rw [a4.h _ _ (a3.h _ _ h2)]; simp)
      have h5 : H5 D = some (.lst vs) := a5.h _ _ (a4.h _ _ (a3.h _ _ h2))
      have ad := ((a2.trans a3).trans a4).trans a5
      refine ⟨vs, h5, by rw [sizeLine_eq, ← r2.length, List.length_map]; omega, hlt, F5, acc ++ [y], vs ++ [w], ((S3.step a4).step a5).updN f5 hD0 hne, ⟨ad.f, fun a u q => ?_, fun a u q => ?_, ad.out⟩,
        ((x2.trans a3.f).trans a4.f).trans a5.f, f5, upd_same, ?_, by rw [List.length_append]; simp; omega, fun ys h => ?_, fun c h => ?_, fun h => ?_⟩
      · rw [upd_ne (ne_of_none q hDH)]; exact ad.h a u q
      · rw [upd_ne (ne_of_none q f5)]; exact ad.in_ a u q
      · rw [List.map_append]
        exact Reps.append (Reps.mono ((a3.trans a4).trans a5).f _ _ r2) (Reps.one r5)
      · rw [q1 (y :: ys) (by show (tst xs[i]).bind _ = _; rw [qt]; show (el xs[i]).bind _ = _; rw [qe]; show (compL tst el _).bind _ = _; rw [h]; rfl)]
        rw [List.append_assoc]; rfl
      · exact q2 c (by show (tst xs[i]).bind _ = _; rw [qt]; show (el xs[i]).bind _ = _; rw [qe]; show (compL tst el _).bind _ = _; rw [h]; rfl)
      · exact q3 (by show (tst xs[i]).bind _ = _; rw [qt]; show (el xs[i]).bind _ = _; rw [qe]; show (compL tst el _).bind _ = _; rw [h]; rfl)
  · have e : xs.drop i = [] := List.drop_of_length_le (by omega)
    rw [e] at q1
    have := q1 [] rfl
    rw [List.append_nil] at this
    rw [this] at k
    exact .inl ⟨js.stop i H2 (x2.trans a2.in_) (by rw [hn]; omega), k D vs F2 H2 a2 hDH f2 h2 r2⟩
theorem et_yes : EvT K W env tYes (.ok true) := fun F0 H0 F H σ Q S k => k F H (Adv.refl S.ex)

/-! ### built-in defs -/
theorem cx_len : CrX K (fun xs H Q => ∃ p ys, xs = [.ref p] ∧ (SqL K H p ys ∨ SqT K H p ys) ∧ Q (.int ys.length) H) (fun (p : List α × Unit) => .ok (p.1.length : Int)) := fun F H x vs Q e r k => by
  obtain ⟨v, r1, rfl, ⟨a, ws, rfl, hl, hr⟩, h2⟩ := r
  cases (show r1 = [] from h2)
  refine ⟨a, ws, rfl, .inl (Evl.ex_l e hl), ?_⟩
  rw [← hr.length, List.length_map]
  exact k _ F H (Adv.refl e) rfl
theorem cx_lenT {n : Nat} (hn : ∀ x : α, ∃ ds, toD x = .tup ds ∧ ds.length = n) : CrX K (fun xs H Q => ∃ p ys, xs = [.ref p] ∧ (SqL K H p ys ∨ SqT K H p ys) ∧ Q (.int ys.length) H) (fun (p : α × Unit) => .ok (n : Int)) := fun F H x vs Q e r k => by
  obtain ⟨v, r1, rfl, hv, h2⟩ := r
  obtain ⟨ds, e1, e2⟩ := hn x.1
  have hv : Rep K F (toD x.1) v := hv
  rw [e1] at hv
  obtain ⟨a, ws, rfl, hl, hr⟩ := hv
  cases (show r1 = [] from h2)
  refine ⟨a, ws, rfl, .inr (Evl.ex_t e hl), ?_⟩
  rw [← hr.length, e2]
  exact k _ F H (Adv.refl e) rfl
theorem ev_lenO {j : Nat} {xs : List α} (h : env[j]? = some (some (.ow (xs.map toD)))) : EvX K W env (tCB (fun xs H Q => ∃ p ys, xs = [V.ref p] ∧ (SqL K H p ys ∨ SqT K H p ys) ∧ Q (.int ys.length) H) (tCons (tVar j) tNil)) (.ok (xs.length : Int)) := fun F0 H0 F H σ Q S k => by
  obtain ⟨v, e, p, vs, rfl, h0, hf, hp, hr⟩ := S.slot j _ h
  refine ⟨_, e, p, vs, rfl, .inl (.inl (.inl hp)), ?_⟩
  rw [← hr.length, List.length_map]
  exact k _ F H (Adv.refl S.ex) rfl
theorem cx_abs : CrX K (fun xs H Q => ∃ i, xs = [.int i] ∧ Q (.int (if i < 0 then -i else i)) H) (fun (p : Int × Unit) => .ok (p.1.natAbs : Int)) := fun F H x vs Q e r k => by
  obtain ⟨v, r1, rfl, h1, h2⟩ := r
  cases (show r1 = [] from h2); cases (show v = V.int x.1 from h1)
  refine ⟨x.1, rfl, ?_⟩
  have q : (if x.1 < 0 then -x.1 else x.1) = (x.1.natAbs : Int) := by split <;> omega
  rw [q]
  exact k _ F H (Adv.refl e) rfl
theorem cx_max : CrX K (fun xs H Q => ∃ i j, xs = [.int i, .int j] ∧ Q (.int (if j > i then j else i)) H) (fun (p : Int × Int × Unit) => .ok (max p.1 p.2.1)) := fun F H x vs Q e r k => by
  obtain ⟨v, r1, rfl, h1, w, r2, rfl, h2, h3⟩ := r
  cases (show r2 = [] from h3); cases (show v = V.int x.1 from h1); cases (show w = V.int x.2.1 from h2)
  refine ⟨x.1, x.2.1, rfl, ?_⟩
  have q : (if x.2.1 > x.1 then x.2.1 else x.1) = max x.1 x.2.1 := by split <;> omega
  rw [q]
  exact k _ F H (Adv.refl e) rfl
theorem cx_min : CrX K (fun xs H Q => ∃ i j, xs = [.int i, .int j] ∧ Q (.int (if j < i then j else i)) H) (fun (p : Int × Int × Unit) => .ok (min p.1 p.2.1)) := fun F H x vs Q e r k => by
  obtain ⟨v, r1, rfl, h1, w, r2, rfl, h2, h3⟩ := r
  cases (show r2 = [] from h3); cases (show v = V.int x.1 from h1); cases (show w = V.int x.2.1 from h2)
  refine ⟨x.1, x.2.1, rfl, ?_⟩
  have q : (if x.2.1 < x.1 then x.2.1 else x.1) = min x.1 x.2.1 := by split <;> omega
  rw [q]
  exact k _ F H (Adv.refl e) rfl
theorem cx_int : CrX K (fun xs H Q => (∃ i, xs = [.int i] ∧ Q (.int i) H) ∨ ∃ k, xs = [.bl k] ∧ Q (.int (if k then 1 else 0)) H) (fun (p : Int × Unit) => .ok p.1) := fun F H x vs Q e r k => by
  obtain ⟨v, r1, rfl, h1, h2⟩ := r
  cases (show r1 = [] from h2); cases (show v = V.int x.1 from h1)
  exact .inl ⟨x.1, rfl, k _ F H (Adv.refl e) rfl⟩
theorem cx_intB : CrX K (fun xs H Q => (∃ i, xs = [.int i] ∧ Q (.int i) H) ∨ ∃ k, xs = [.bl k] ∧ Q (.int (if k then 1 else 0)) H) (fun (p : Bool × Unit) => .ok (if p.1 = true then (1 : Int) else 0)) := fun F H x vs Q e r k => by
  obtain ⟨v, r1, rfl, h1, h2⟩ := r
  cases (show r1 = [] from h2); cases (show v = V.bl x.1 from h1)
  exact .inr ⟨x.1, rfl, k _ F H (Adv.refl e) rfl⟩
/-- the greatest, the least of a list that is not empty -/
def lmax : List Int → Int
  | [] => 0
  | x :: r => r.foldl max x
def lmin : List Int → Int
  | [] => 0
  | x :: r => r.foldl min x
theorem foldl_max_ge (r : List Int) : ∀ x, x ≤ r.foldl max x ∧ ∀ y ∈ r, y ≤ r.foldl max x := by
  induction r with
  | nil => intro x; exact ⟨Int.le_refl _, fun y h => by cases h⟩
  | cons a r ih =>
    intro x
    obtain ⟨h1, h2⟩ := ih (max x a)
    refine ⟨by have : x ≤ max x a := Int.le_max_left ..; exact Int.le_trans this h1, fun y hy => ?_⟩
    rcases List.mem_cons.mp hy with rfl | hy
    · exact Int.le_trans (Int.le_max_right ..) h1
    · exact h2 y hy
theorem foldl_max_mem (r : List Int) : ∀ x, r.foldl max x = x ∨ r.foldl max x ∈ r := by
  induction r with
  | nil => intro x; exact .inl rfl
  | cons a r ih =>
    intro x
    rcases ih (max x a) with h | h
    · show List.foldl max (max x a) r = x ∨ List.foldl max (max x a) r ∈ _
      rw [h]
      by_cases c : x ≤ a
      · rw [Int.max_eq_right c]; exact .inr List.mem_cons_self
      · rw [Int.max_eq_left (by omega)]; exact .inl rfl
    · exact .inr (List.mem_cons_of_mem _ h)
theorem foldl_min_le (r : List Int) : ∀ x, r.foldl min x ≤ x ∧ ∀ y ∈ r, r.foldl min x ≤ y := by
  induction r with
  | nil => intro x; exact ⟨Int.le_refl _, fun y h => by cases h⟩
  | cons a r ih =>
    intro x
    obtain ⟨h1, h2⟩ := ih (min x a)
    refine ⟨by have : min x a ≤ x := Int.min_le_left ..; exact Int.le_trans h1 this, fun y hy => ?_⟩
    rcases List.mem_cons.mp hy with rfl | hy
    · exact Int.le_trans h1 (Int.min_le_right ..)
    · exact h2 y hy
theorem foldl_min_mem (r : List Int) : ∀ x, r.foldl min x = x ∨ r.foldl min x ∈ r := by
  induction r with
  | nil => intro x; exact .inl rfl
  | cons a r ih =>
    intro x
    rcases ih (min x a) with h | h
    · show List.foldl min (min x a) r = x ∨ List.foldl min (min x a) r ∈ _
      rw [h]
      by_cases c : x ≤ a
      · rw [Int.min_eq_left c]; exact .inl rfl
      · rw [Int.min_eq_right (by omega)]; exact .inr List.mem_cons_self
    · exact .inr (List.mem_cons_of_mem _ h)
theorem lmax_spec {ns : List Int} {m : Int} (h1 : m ∈ ns) (h2 : ∀ y ∈ ns, y ≤ m) : m = lmax ns := by
  cases ns with
  | nil => cases h1
  | cons x r =>
    show m = r.foldl max x
    obtain ⟨g1, g2⟩ := foldl_max_ge r x
    have a : m ≤ r.foldl max x := by
      rcases List.mem_cons.mp h1 with rfl | h
      · exact g1
      · exact g2 m h
    have b : r.foldl max x ≤ m := by
      rcases foldl_max_mem r x with e | e
      · rw [e]; exact h2 x List.mem_cons_self
      · exact h2 _ (List.mem_cons_of_mem _ e)
    omega
theorem lmin_spec {ns : List Int} {m : Int} (h1 : m ∈ ns) (h2 : ∀ y ∈ ns, m ≤ y) : m = lmin ns := by
  cases ns with
  | nil => cases h1
  | cons x r =>
    show m = r.foldl min x
    obtain ⟨g1, g2⟩ := foldl_min_le r x
    have a : r.foldl min x ≤ m := by
      rcases List.mem_cons.mp h1 with rfl | h
      · exact g1
      · exact g2 m h
    have b : m ≤ r.foldl min x := by
      rcases foldl_min_mem r x with e | e
      · rw [e]; exact h2 x List.mem_cons_self
      · exact h2 _ (List.mem_cons_of_mem _ e)
    omega
theorem cx_lmax : CrX K (rMax K) (fun (p : List Int × Unit) => .need (0 < p.1.length) (.ok (lmax p.1))) := fun F H x vs Q e r k => by
  obtain ⟨v, r1, rfl, ⟨a, ws, rfl, hl, hr⟩, h2⟩ := r
  cases (show r1 = [] from h2)
  have e2 : ws = x.1.map V.int := Reps.ints hr
  subst e2
  by_cases c : 0 < x.1.length
  · dsimp only at k
    rw [Res.need_pos c] at k
    refine ⟨a, x.1, rfl, Evl.ex_l e hl, c, fun m h1 h2 => ?_⟩
    rw [lmax_spec h1 h2]
    exact k _ F H (Adv.refl e) rfl
  · dsimp only at k; rw [Res.need_neg c] at k; exact k.elim
theorem cx_lmin : CrX K (rMin K) (fun (p : List Int × Unit) => .need (0 < p.1.length) (.ok (lmin p.1))) := fun F H x vs Q e r k => by
  obtain ⟨v, r1, rfl, ⟨a, ws, rfl, hl, hr⟩, h2⟩ := r
  cases (show r1 = [] from h2)
  have e2 : ws = x.1.map V.int := Reps.ints hr
  subst e2
  by_cases c : 0 < x.1.length
  · dsimp only at k
    rw [Res.need_pos c] at k
    refine ⟨a, x.1, rfl, Evl.ex_l e hl, c, fun m h1 h2 => ?_⟩
    rw [lmin_spec h1 h2]
    exact k _ F H (Adv.refl e) rfl
  · dsimp only at k; rw [Res.need_neg c] at k; exact k.elim
theorem cx_sum : CrX K (rSum K) (fun (p : List Int × Unit) => .ok p.1.sum) := fun F H x vs Q e r k => by
  obtain ⟨v, r1, rfl, ⟨a, ws, rfl, hl, hr⟩, h2⟩ := r
  cases (show r1 = [] from h2)
  have e2 : ws = x.1.map V.int := Reps.ints hr
  subst e2
  exact ⟨a, x.1, rfl, Evl.ex_l e hl, k _ F H (Adv.refl e) rfl⟩
theorem cx_all : CrX K (rAll K) (fun (p : List Bool × Unit) => .ok (p.1.all id)) := fun F H x vs Q e r k => by
  obtain ⟨v, r1, rfl, ⟨a, ws, rfl, hl, hr⟩, h2⟩ := r
  cases (show r1 = [] from h2)
  have e2 : ws = x.1.map V.bl := Reps.bls hr
  subst e2
  exact ⟨a, x.1, rfl, Evl.ex_l e hl, k _ F H (Adv.refl e) rfl⟩
theorem cx_any : CrX K (rAny K) (fun (p : List Bool × Unit) => .ok (p.1.any id)) := fun F H x vs Q e r k => by
  obtain ⟨v, r1, rfl, ⟨a, ws, rfl, hl, hr⟩, h2⟩ := r
  cases (show r1 = [] from h2)
  have e2 : ws = x.1.map V.bl := Reps.bls hr
  subst e2
  exact ⟨a, x.1, rfl, Evl.ex_l e hl, k _ F H (Adv.refl e) rfl⟩
/-- list(xs): a new list -/
theorem en_list {m : Res (List α)} (h : EvX K W env te m) : EvN K W env (tCB (fun xs H Q => ∃ p ys, xs = [V.ref p] ∧ (SqL K H p ys ∨ SqT K H p ys) ∧ ∀ l, H l = none → Q (.ref l) (upd H l (.lst ys))) (tCons te tNil)) m := fun F0 H0 F H σ Q S k => by
  refine h F0 H0 F H σ _ S ?_
  cases m with
  | ok xs =>
    intro v F1 H1 a r
    obtain ⟨p, vs, rfl, h1, h2⟩ := r
    exact ⟨p, vs, rfl, .inl (Evl.ex_l a.in_ h1), fun l hl => k l vs F1 _ (a.trans (Adv.newO a.in_ hl)) (Evl.fresh_back a.h hl) (none_of_ex a.in_ hl) upd_same h2⟩
  | exc c => exact k
  | stuck => exact k.elim
theorem en_listT {m : Res (Tu α)} (h : EvX K W env te m) : EvN K W env (tCB (fun xs H Q => ∃ p ys, xs = [V.ref p] ∧ (SqL K H p ys ∨ SqT K H p ys) ∧ ∀ l, H l = none → Q (.ref l) (upd H l (.lst ys))) (tCons te tNil)) (m.bind fun x => .ok x.xs) := fun F0 H0 F H σ Q S k => by
  refine h F0 H0 F H σ _ S ?_
  cases m with
  | ok xs =>
    intro v F1 H1 a r
    obtain ⟨p, vs, rfl, h1, h2⟩ := r
    exact ⟨p, vs, rfl, .inr (Evl.ex_t a.in_ h1), fun l hl => k l vs F1 _ (a.trans (Adv.newO a.in_ hl)) (Evl.fresh_back a.h hl) (none_of_ex a.in_ hl) upd_same h2⟩
  | exc c => exact k
  | stuck => exact k.elim
/-- tuple(xs) of a list -/
theorem ev_tupleL {m : Res (List α)} (h : EvX K W env te m) : EvX K W env (tCB (fun xs H Q => ∃ p ys, xs = [V.ref p] ∧ ((SqL K H p ys ∧ ∀ l, H l = none → Q (.ref l) (upd H l (.tup ys))) ∨ (SqT K H p ys ∧ Q (.ref p) H))) (tCons te tNil)) (m.bind fun x => .ok (Tu.mk x)) := fun F0 H0 F H σ Q S k => by
  refine h F0 H0 F H σ _ S ?_
  cases m with
  | ok xs =>
    intro v F1 H1 a r
    obtain ⟨p, vs, rfl, h1, h2⟩ := r
    refine ⟨p, vs, rfl, .inl ⟨Evl.ex_l a.in_ h1, fun l hl => ?_⟩⟩
    have a2 : Adv F1 H1 (upd F1 l (.tup vs)) (upd H1 l (.tup vs)) := Adv.new a.in_ hl
    exact k _ _ _ (a.trans a2) ⟨l, vs, rfl, .inl (.inl upd_same), Reps.mono a2.f _ _ h2⟩
  | exc c => exact k
  | stuck => exact k.elim
/-- xs[lo:hi] -/
theorem en_slice {m : Res (List α)} {lo hi : Option Int} {tl th : TO} (h : EvX K W env te m) (hl : ∀ σ H Q, Q lo H → tl σ H Q) (hh : ∀ σ H Q, Q hi H → th σ H Q) :
    EvN K W env (tSl (rSlL K) te tl th) (m.bind fun xs => .ok ((xs.drop (HT.sIx xs.length 0 lo)).take (HT.sIx xs.length xs.length hi - HT.sIx xs.length 0 lo))) := fun F0 H0 F H σ Q S k => by
  refine h F0 H0 F H σ _ S ?_
  cases m with
  | ok xs =>
    intro v F1 H1 a r
    obtain ⟨p, vs, rfl, h1, h2⟩ := r
    refine hl _ _ _ (hh _ _ _ ⟨p, vs, rfl, Evl.ex_l a.in_ h1, fun l hl => ?_⟩)
    refine k l _ F1 _ (a.trans (Adv.newO a.in_ hl)) (Evl.fresh_back a.h hl) (none_of_ex a.in_ hl) upd_same ?_
    have e : xs.length = vs.length := by have := h2.length; rwa [List.length_map] at this
    unfold cutV
    rw [List.map_take, List.map_drop, e]
    exact Reps.take _ (Reps.drop _ h2)
  | exc c => exact k
  | stuck => exact k.elim
theorem to_none : ∀ (σ : L2.St) (H : Hp) (Q : Option Int → Hp → Prop), Q none H → tNoPart σ H Q := fun _ _ _ q => q
theorem to_int {i : Int} : ∀ (σ : L2.St) (H : Hp) (Q : Option Int → Hp → Prop), Q (some i) H → tPart (tC (.int i)) σ H Q := fun _ _ _ q => ⟨i, rfl, q⟩

/-! ### isinstance of data -/
def tyName : D → String
  | .non => "NoneType" | .bl _ => "bool" | .int _ => "int" | .str _ => "str" | .ty _ => "type" | .tup _ => "tuple" | .lst _ => "list" | .obj _ _ _ => "object"
def D.plain : D → Bool
  | .ty _ => false | .obj _ _ _ => false | _ => true
theorem tyx_of {x : D} {v : V} (h : Rep K F x v) (e : Ex F H) (p : x.plain = true) : TyX K H v (.type (tyName x)) := by
  cases x with
  | non => rw [show v = V.non from h]; exact .base .non
  | bl b => rw [show v = V.bl b from h]; exact .base (.bl b)
  | int b => rw [show v = V.int b from h]; exact .base (.int b)
  | str b => rw [show v = V.str b from h]; exact .base (.str b)
  | ty b => cases p
  | obj c ks ds => cases p
  | lst ds =>
    obtain ⟨a, vs, rfl, hl, _⟩ := h
    rcases Evl.ex_l e hl with (q | ⟨o, q⟩) | ⟨o, its, n, q1, q2, _⟩
    · exact .base (.lst q)
    · exact .base (.frz q)
    · exact .kList q1 q2
  | tup ds =>
    obtain ⟨a, vs, rfl, hl, _⟩ := h
    rcases Evl.ex_t e hl with (q | ⟨o, q⟩) | ⟨o, its, n, q1, q2, _⟩
    · exact .base (.tup q)
    · exact .fTuple q
    · exact .kTuple q1 q2
/-- isinstance(x, T), T a built-in class, x any data but objects -/
def isI (n : String) (x : D) : Bool := tyName x == n || (n == "int" && tyName x == "bool")
def isiOk (n : String) : Prop := kitB "NoneType" n = some ("NoneType" == n) ∧ kitB "bool" n = some ("bool" == n || n == "int") ∧ kitB "int" n = some ("int" == n) ∧ kitB "str" n = some ("str" == n) ∧ kitB "tuple" n = some ("tuple" == n) ∧ kitB "list" n = some ("list" == n)
theorem ev_isi {n : String} {m : Res α} (hn : isiOk n) (h : EvX K W env te m) : EvX K W env (tCB (rIsi K) (tCons te (tCons (tC (.ty n)) tNil))) (m.bind fun x => .need ((toD x).plain = true) (.ok (isI n (toD x)))) := fun F0 H0 F H σ Q S k => by
  refine h F0 H0 F H σ _ S (KE.cut S.ex k fun x v F1 H1 e1 a1 r1 k1 => ?_)
  by_cases c : (toD x).plain = true
  · rw [Res.need_pos c] at k1
    refine ⟨v, .ty n, _, _, isI n (toD x), rfl, .ty n, tyx_of r1 a1.in_ c, ?_, k1 _ F1 H1 (Adv.refl a1.in_) rfl⟩
    refine kit_ty ?_
    obtain ⟨h1, h2, h3, h4, h5, h6⟩ := hn
    revert c
    generalize toD x = y
    intro c
    cases y with
    | non => rw [show tyName .non = "NoneType" from rfl, h1]; simp [isI, tyName]
    | bl b => rw [show tyName (.bl b) = "bool" from rfl, h2]; simp [isI, tyName]
    | int b => rw [show tyName (.int b) = "int" from rfl, h3]; simp [isI, tyName]
    | str b => rw [show tyName (.str b) = "str" from rfl, h4]; simp [isI, tyName]
    | tup b => rw [show tyName (.tup b) = "tuple" from rfl, h5]; simp [isI, tyName]
    | lst b => rw [show tyName (.lst b) = "list" from rfl, h6]; simp [isI, tyName]
    | ty b => cases c
    | obj a b d => cases c
  · rw [Res.need_neg c] at k1; exact k1.elim
theorem isi_int : isiOk "int" := by unfold isiOk; decide +kernel
theorem isi_bool : isiOk "bool" := by unfold isiOk; decide +kernel
theorem isi_list : isiOk "list" := by unfold isiOk; decide +kernel
theorem isi_tuple : isiOk "tuple" := by unfold isiOk; decide +kernel
theorem isi_str : isiOk "str" := by unfold isiOk; decide +kernel

/-! ### errors -/
/-- what a body of a try gives: it falls through, or it hands back -/
inductive Fall (S τ : Type) where
  | go (s : S) | back (x : τ)
instance {S τ : Type} [ToD τ] : ToD (Fall S τ) := ⟨fun x => match x with | .go _ => .obj Str.empty [] [.non] | .back x => ToD.d x⟩
theorem no_go {S : Type} {s : S} {v : V} (h : Rep K F (toD (Fall.go s : Fall S τ)) v) : False := by
  obtain ⟨a, dx, vs, _, _, h3, h4⟩ := h
  obtain ⟨w, r, e, _⟩ := h4
  subst e
  simp at h3
/-- the classes of the errors: which they are, which is under which -/
structure Cls (K : PySem.W.Frag) (cs : List Str) (sub : Str → Str → Bool) : Prop where
  exc : ∀ c ∈ cs, ExcC K (He.ga K c)
  exm : ∀ c ∈ cs, ∀ d ∈ cs, PySem.W.exmOne K (.ref (He.ga K c)) (.ref (He.ga K d)) = some (sub c d)
  kit : ∀ c ∈ cs, ∀ d ∈ cs, PySem.W.kitOne K (.ref (He.ga K c)) (.ref (He.ga K d)) = some (sub c d)
  kiv : ∀ c ∈ cs, PySem.W.kitOne K (.ref (He.ga K c)) (.type "ValueError") = some true
/-- the outcome of: try body, except X -/
def tryR {S τ : Type} (known : Str → Bool) (sub : Str → Bool) (m : Res (Fall S τ)) (rest : S → Res τ) (hd : Str → Res τ) : Res τ := match m with
  | .ok (.go s) => rest s
  | .ok (.back x) => .ok x
  | .exc c => if known c = true then (if sub c = true then hd c else .exc c) else .stuck
  | .stuck => .stuck
theorem Sl.setNone {K : PySem.W.Frag} {F0 H0 F H : Hp} {σ : L2.St} {env : En} (S : Sl K F0 H0 F H σ env) (i : Nat) : Sl K F0 H0 F H (σ.set i none) (env.set i none) := by
  refine ⟨S.adv, fun j sk e => ?_, fun j k xs ys p hjk e1 e2 o1 o2 h1 => ?_, by rw [List.length_set, List.length_set]; exact S.len⟩
  · rcases set_get e with ⟨_, z⟩ | ⟨z, e⟩
    · cases z
    · obtain ⟨w, q1, q2⟩ := S.slot j sk e
      exact ⟨w, by rw [List.getElem?_set_ne z]; exact q1, q2⟩
  · rcases set_get e1 with ⟨_, z⟩ | ⟨z1, e1⟩
    · cases z
    rcases set_get e2 with ⟨_, z⟩ | ⟨z2, e2⟩
    · cases z
    rw [List.getElem?_set_ne z1] at h1
    rw [List.getElem?_set_ne z2]
    exact S.dis j k xs ys p hjk e1 e2 o1 o2 h1
/-- the body falls through by s (envS s, rest s), or hands back; the suite hands back, or falls through to mr -/
theorem blk_tryAs {S : Type} {cs : List Str} {sub : Str → Str → Bool} {x : Str} {i : Nat} {tb : WX → TS} {ts : Addr → Value → Option Addr → TS} {envS : S → En} {m : Res (Fall S τ)} {rest : S → Res τ} {hd : Str → Res τ}
    (L : Lk K W F0 H0 rt PT KP) (hT : PT env) (C : Cls K cs sub) (hx : x ∈ cs)
    (hb : ∀ (W' : WX) (KP' : Res (Fall S τ) → Prop), Lk K W' F0 H0 rt (fun e => EnLe e env) KP' → (∀ s, Blk K F0 H0 KP' Z.nx (envS s) (.ok (.go s))) → Blk K F0 H0 KP' (tb W' Z) env m)
    (hs : ∀ (c : Str) (a : Addr) (nx bk ct : L2.St → Hp → Prop), c ∈ cs → sub c x = true → (∀ env' m', Blk K F0 H0 KP Z.nx (env'.set i none) m' → Blk K F0 H0 KP nx env' m') →
      Blk K F0 H0 KP (ts a (.ref (He.ga K c)) none { nx := nx, rt := rt, bk := bk, ct := ct }) (env.set i (some (.raw (.ref a)))) (hd c))
    (hr : ∀ s, Blk K F0 H0 KP Z.nx (envS s) (rest s)) (hZ : Z.rt = rt := by rfl) :
    Blk K F0 H0 KP (tb (wAs K (.ref (He.ga K x)) i ts W Z) Z) env (tryR (fun c => decide (c ∈ cs)) (fun c => sub c x) m rest hd) := fun F H σ S1 h => by
  subst hZ
  refine hb (wAs K (.ref (He.ga K x)) i ts W Z) (fun r => KP (tryR (fun c => decide (c ∈ cs)) (fun c => sub c x) r rest hd)) ⟨fun y h v F H a r => ?_, fun c F H σ env' h p S' => ?_, L.no⟩ (fun s F H σ S h => hr s F H σ S h) F H σ S1 h
  · cases y with
    | go s => exact (no_go r).elim
    | back y => exact L.ok y h v F H a r
  · have h : KP (if decide (c ∈ cs) = true then (if sub c x = true then hd c else .exc c) else .stuck) := h
    by_cases hc : c ∈ cs
    · rw [if_pos (decide_eq_true hc)] at h
      have S2 := S'.weak p
      refine ⟨sub c x, C.exm c hc x hx, fun q a ha => ?_, fun q => ?_⟩
      · rw [if_pos q] at h
        refine hs c a _ _ _ hc q (fun env' m' B F H σ S h => B F H _ (S.setNone i) h) F H _ ?_ h
        refine ⟨S2.adv, fun j sk e => ?_, fun j k xs ys p hjk e1 e2 o1 o2 h1 => ?_, by rw [List.length_set, List.length_set]; exact S2.len⟩
        · rcases set_get e with ⟨rfl, z⟩ | ⟨z, e⟩
          · cases z
            have hi : i < env.length := by
              have h := (List.getElem?_eq_some_iff.mp e).1
              rwa [List.length_set] at h
            exact ⟨_, by rw [List.getElem?_set_self (by rw [S2.len]; exact hi)], rfl⟩
          · obtain ⟨w, q1, q2⟩ := S2.slot j sk e
            exact ⟨w, by rw [List.getElem?_set_ne z]; exact q1, q2⟩
        · rcases set_get e1 with ⟨_, z⟩ | ⟨z1, e1⟩
          · cases z; cases o1
          rcases set_get e2 with ⟨_, z⟩ | ⟨z2, e2⟩
          · cases z; cases o2
          rw [List.getElem?_set_ne z1] at h1
          rw [List.getElem?_set_ne z2]
          exact S2.dis j k xs ys p hjk e1 e2 o1 o2 h1
      · rw [if_neg (by rw [q]; exact Bool.false_ne_true)] at h
        exact L.exc c F H σ env h hT S2
    · rw [if_neg (by simpa using hc)] at h
      exact (L.no h).elim
/-- isinstance(e, C), isinstance(e, (C1, C2)) in the suite -/
def rIsE2 (K : PySem.W.Frag) (a : Addr) (cls : Value) (d : Option Addr) : List V → Hp → VK → Prop := fun xs H Q => ∃ (Dc : Addr) (c : V) (cv : Value) (b : Bool), cls = .ref Dc ∧ d = none ∧ ExcC K Dc ∧ xs = [.ref a, c] ∧ (∀ u, RelV c u → u = cv) ∧ PySem.W.kitOne K (.ref Dc) cv = some b ∧ Q (.bl b) H
theorem call_isE2 {X : Cx} {a : Addr} {cls : Value} {d : Option Addr} {oe : Obj} {pn : List (Addr × Obj)} (hz : Zc cls d oe) (hf : ∃ vs, oe.data = .fields vs) : CallR (X.suite a ((a, oe) :: pn)) (.builtin "isinstance") (rIsE2 X.K a cls d) := by
  intro pins s σ H xs us Q I r h
  obtain ⟨Dc, c, cv, b, rfl, rfl, C, e, k, q, hQ⟩ := h
  exact call_isE (X := X) C hz hf pins s σ H xs us Q I r ⟨c, cv, b, e, k, q, hQ⟩
def rIsET (K : PySem.W.Frag) (a : Addr) (cls : Value) (d : Option Addr) : List V → Hp → VK → Prop := fun xs H Q => ∃ (Dc tp : Addr) (cl : List V) (us : List Value) (b : Bool), cls = .ref Dc ∧ d = none ∧ ExcC K Dc ∧ xs = [.ref a, .ref tp] ∧ H tp = some (.tup cl) ∧ Paired ClsV cl us ∧ PySem.W.kitAny K (.ref Dc) us = some b ∧ Q (.bl b) H
theorem call_isET {X : Cx} {a : Addr} {cls : Value} {d : Option Addr} {oe : Obj} {pn : List (Addr × Obj)} (hz : Zc cls d oe) (hf : ∃ vs, oe.data = .fields vs) : CallR (X.suite a ((a, oe) :: pn)) (.builtin "isinstance") (rIsET X.K a cls d) := by
  intro pins s σ H xs us Q I r h
  obtain ⟨Dc, tp, cl, ws, b, rfl, rfl, C, rfl, hT, k, e, q⟩ := h
  obtain ⟨u1, u2, rfl, r1, r2⟩ := vals2 r
  cases (show u2 = Value.ref tp from r2)
  cases (show u1 = Value.ref a from r1)
  obtain ⟨_, its, rv, o, h1, h2, n, h3⟩ := (show ObjOk X.prog X.w H s.heap tp (.tup cl) from I.hok tp _ hT)
  have e3 := ClsV.all k rv
  subst e3
  obtain ⟨oc, od, dt, sl⟩ := o
  simp only at h2 h3
  subst h2 h3
  obtain ⟨hget, _⟩ := I.pin (a, oe) (List.mem_append.mpr (.inl List.mem_cons_self))
  obtain ⟨vs, hv⟩ := hf
  have J : PySem.W.InstAt s.heap a oe Dc none := by
    obtain ⟨oc, od, oda, osl⟩ := oe
    obtain ⟨h1, h2⟩ := hz
    dsimp only at h1 h2 hv
    subst h1 h2 hv
    exact ⟨hget, rfl, rfl, trivial⟩
  exact PySem.W.kia_tup (PySem.W.handS_kitx_exc C.hg C.hk C.hs C.hd C.ha C.hn C.ht C.hm) I.kIn J h1 e (fun z => nomatch z) fun tk => ⟨.bl b, H, I.tok tk, rfl, q⟩
theorem ev_isE {cs : List Str} {sub : Str → Str → Bool} {c x : Str} {i : Nat} {a : Addr} (C : Cls K cs sub) (hc : c ∈ cs) (hx : x ∈ cs) (h : env[i]? = some (some (.raw (.ref a)))) :
    EvX K W env (tCB (rIsE2 K a (.ref (He.ga K c)) none) (tCons (tVar i) (tCons (tC (.ref (He.ga K x))) tNil))) (.ok (sub c x)) := fun F0 H0 F H σ Q S k => by
  obtain ⟨v, e, q⟩ := S.slot i _ h
  cases (show v = V.ref a from q)
  exact ⟨_, e, He.ga K c, .ref (He.ga K x), .ref (He.ga K x), sub c x, rfl, rfl, C.exc c hc, rfl, fun u r => r, C.kit c hc x hx, k _ F H (Adv.refl S.ex) rfl⟩
theorem ev_isEV {cs : List Str} {sub : Str → Str → Bool} {c : Str} {i : Nat} {a : Addr} (C : Cls K cs sub) (hc : c ∈ cs) (h : env[i]? = some (some (.raw (.ref a)))) :
    EvX K W env (tCB (rIsE2 K a (.ref (He.ga K c)) none) (tCons (tVar i) (tCons (tC (.ty "ValueError")) tNil))) (.ok true) := fun F0 H0 F H σ Q S k => by
  obtain ⟨v, e, q⟩ := S.slot i _ h
  cases (show v = V.ref a from q)
  exact ⟨_, e, He.ga K c, .ty "ValueError", .type "ValueError", true, rfl, rfl, C.exc c hc, rfl, fun u r => r, C.kiv c hc, k _ F H (Adv.refl S.ex) rfl⟩
theorem kit_any {cs : List Str} {sub : Str → Str → Bool} {c : Str} (C : Cls K cs sub) (hc : c ∈ cs) : ∀ {xs : List Str}, (∀ x ∈ xs, x ∈ cs) → PySem.W.kitAny K (.ref (He.ga K c)) (xs.map fun x => .ref (He.ga K x)) = some (xs.any (sub c))
  | [], _ => rfl
  | x :: xs, h => by
    show (match PySem.W.kitOne K (.ref (He.ga K c)) (.ref (He.ga K x)) with | some true => some true | some false => PySem.W.kitAny K (.ref (He.ga K c)) (xs.map fun x => .ref (He.ga K x)) | none => none) = _
    rw [C.kit c hc x (h x List.mem_cons_self), kit_any C hc fun y hy => h y (List.mem_cons_of_mem _ hy)]
    cases q : sub c x <;> simp [q]
theorem ev_isET2 {cs : List Str} {sub : Str → Str → Bool} {c x y : Str} {i : Nat} {a : Addr} (C : Cls K cs sub) (hc : c ∈ cs) (hx : x ∈ cs) (hy : y ∈ cs) (h : env[i]? = some (some (.raw (.ref a)))) :
    EvX K W env (tCB (rIsET K a (.ref (He.ga K c)) none) (tCons (tVar i) (tCons (tTup (tCons (tC (.ref (He.ga K x))) (tCons (tC (.ref (He.ga K y))) tNil))) tNil))) (.ok (sub c x || sub c y)) := fun F0 H0 F H σ Q S k => by
  obtain ⟨v, e, q⟩ := S.slot i _ h
  cases (show v = V.ref a from q)
  refine ⟨_, e, by show 2 ≤ sizeLine; decide, fun p hp => ?_⟩
  have a2 : Adv F H (upd F p (.tup [.ref (He.ga K x), .ref (He.ga K y)])) (upd H p (.tup [.ref (He.ga K x), .ref (He.ga K y)])) := Adv.new S.ex hp
  refine ⟨He.ga K c, p, [.ref (He.ga K x), .ref (He.ga K y)], [.ref (He.ga K x), .ref (He.ga K y)], sub c x || sub c y, rfl, rfl, C.exc c hc, rfl, upd_same, .cons (.own _) (.cons (.own _) .nil), ?_, k _ _ _ a2 rfl⟩
  have := kit_any C hc (xs := [x, y]) (by simp [hx, hy])
  simpa using this
end

/-! ### a def -/
def enStart (N : List Str) (ds : List D) : En := ds.map (fun x => some (.im x)) ++ List.replicate (N.length - ds.length) none
theorem sl_start {K : PySem.W.Frag} {F H : Hp} {N : List Str} {ds : List D} {vs : List V} (e : Ex F H) (r : Reps K F ds vs) : Sl K F H F H (L2.start N vs) (enStart N ds) := by
  have hl := r.length
  refine ⟨Adv.refl e, fun i sk q => ?_, fun i j xs ys p _ q _ oo _ _ => ?_, by simp [L2.start, enStart, hl]⟩
  · unfold enStart at q
    by_cases c : i < ds.length
    · rw [List.getElem?_append_left (by simpa using c), List.getElem?_map, List.getElem?_eq_getElem c] at q
      cases q
      obtain ⟨v, h1, h2⟩ := r.get (List.getElem?_eq_getElem c)
      refine ⟨v, ?_, h2⟩
      unfold L2.start
      rw [List.getElem?_append_left (by rw [List.length_map]; omega), List.getElem?_map, h1]; rfl
    · rw [List.getElem?_append_right (by simpa using c), List.getElem?_replicate] at q
      split at q <;> cases q
  · unfold enStart at q
    by_cases c : i < ds.length
    · rw [List.getElem?_append_left (by simpa using c), List.getElem?_map, List.getElem?_eq_getElem c] at q
      cases q; cases oo
    · rw [List.getElem?_append_right (by simpa using c), List.getElem?_replicate] at q
      split at q <;> cases q
section
variable {P : Program} {w : World} {K : PySem.W.Frag} {mg : Str → Option Value} {base : Heap} {x qual : Str} {params : Arguments} {body : List Stmt} {scope : Scope} {dvs : List V} {kws : List (Str × V)} {f : Addr} {fd : FuncData}
theorem fn_ok {N ps : List Str} {k : Nat} {β τ : Type} [ToDs β] [ToD τ] {fM : β → Res τ} (F : FunD K x qual params body scope dvs kws f fd) (S : FnScope N ps scope) (hl : ∀ y : β, (ToDs.ds y).length = ps.length)
    (hbody : ∀ (cdv : Value) (A : Around) (outer : List Env) (s : Shared) (H : Hp) (E : XK), Room k (A.deeper (PyProof.Rows.envOfC qual scope s.heap.objs.size f cdv)) →
      ∃ t, PSs (cxOf (L2.CX P w) P w K mg base N qual scope f cdv A outer s H E) body t ∧
        ∀ (y : β) (F0 H0 : Hp) (Q : VK) (KP : Res τ → Prop), Lk K (fun cls d _ H => E cls d H) F0 H0 Q (fun _ => True) KP → Blk K F0 H0 KP (t { nx := fun _ H' => Q .non H', rt := Q }) (enStart N (ToDs.ds y)) (fM y)) :
    FnOk P w K mg base (L2.CX P w) (k + 1) f fd ps (spM K fM) := by
  refine F.ok S (fun vs H Q E h => ?_) (fun cdv A outer s H vs Q E hr h => ?_)
  · obtain ⟨F, y, _, r, _⟩ := h
    rw [← r.length]; exact hl y
  · obtain ⟨t, h1, h2⟩ := hbody cdv A outer s H E hr
    refine ⟨t, h1, ?_⟩
    obtain ⟨F, y, e, r, q⟩ := h
    refine h2 y F H Q (fun r => KE K (fun cls d _ H => E cls d H) F H [] Q r) ⟨fun z h v F' H' a r => h v F' H' a r, fun c F' H' σ env h _ S' => h F' H' S'.adv, fun z => z⟩ F H _ (sl_start e r) q
end
end Mi
set_option maxHeartbeats 1000000
namespace Mi
open PySem PySem.Spec L2
open Evl (Ex)
abbrev W0 (E : XK) : WX := fun cls d _ H => E cls d H
theorem need_mild {α : Type} {p : Prop} {x : α} {c : Str} (h : Res.need p (.ok x) = .exc c) : False := by
  by_cases q : p
  · rw [Res.need_pos q] at h; cases h
  · rw [Res.need_neg q] at h; cases h
/-! what a value of any kind is taken for -/
def D.asInt : D → Res Int
  | .int i => .ok i
  | _ => .stuck
def D.asBool : D → Res Bool
  | .bl i => .ok i
  | _ => .stuck
def D.asStr : D → Res Str
  | .str i => .ok i
  | _ => .stuck
def D.asList : D → Res (List D)
  | .lst i => .ok i
  | _ => .stuck
def D.asTu : D → Res (Tu D)
  | .tup i => .ok ⟨i⟩
  | _ => .stuck
def intsOf : List D → Res (List Int)
  | [] => .ok []
  | .int i :: r => (intsOf r).bind fun s => .ok (i :: s)
  | _ :: _ => .stuck
def D.asInts : D → Res (List Int)
  | .lst i => intsOf i
  | _ => .stuck
theorem asInt_ok : ∀ (x : D) (y : Int), x.asInt = .ok y → toD y = x
  | .int i, y, h => by cases h; rfl
theorem asInt_x (x : D) (c : Str) : x.asInt ≠ .exc c := by cases x <;> intro h <;> cases h
theorem asBool_ok : ∀ (x : D) (y : Bool), x.asBool = .ok y → toD y = x
  | .bl i, y, h => by cases h; rfl
theorem asBool_x (x : D) (c : Str) : x.asBool ≠ .exc c := by cases x <;> intro h <;> cases h
theorem asStr_ok : ∀ (x : D) (y : Str), x.asStr = .ok y → toD y = x
  | .str i, y, h => by cases h; rfl
theorem asStr_x (x : D) (c : Str) : x.asStr ≠ .exc c := by cases x <;> intro h <;> cases h
theorem asList_ok : ∀ (x : D) (y : List D), x.asList = .ok y → toD y = x
  | .lst i, y, h => by cases h; show D.lst (i.map fun x => x) = _; rw [List.map_id']
theorem asList_x (x : D) (c : Str) : x.asList ≠ .exc c := by cases x <;> intro h <;> cases h
theorem asTu_ok : ∀ (x : D) (y : Tu D), x.asTu = .ok y → toD y = x
  | .tup i, y, h => by cases h; show D.tup (i.map fun x => x) = _; rw [List.map_id']
theorem asTu_x (x : D) (c : Str) : x.asTu ≠ .exc c := by cases x <;> intro h <;> cases h
theorem intsOf_ok : ∀ (x : List D) (y : List Int), intsOf x = .ok y → y.map D.int = x
  | [], y, h => by cases h; rfl
  | .int i :: r, y, h => by
    have h : (intsOf r).bind (fun s => .ok (i :: s)) = .ok y := h
    cases e : intsOf r with
    | ok z => rw [e] at h; cases h; rw [List.map_cons, intsOf_ok r z e]
    | exc c => rw [e] at h; cases h
    | stuck => rw [e] at h; cases h
theorem intsOf_x : ∀ (x : List D) (c : Str), intsOf x ≠ .exc c
  | [], c, h => by cases h
  | .int i :: r, c, h => by
    have h : (intsOf r).bind (fun s => .ok (i :: s)) = .exc c := h
    cases e : intsOf r with
    | ok z => rw [e] at h; cases h
    | exc c => exact intsOf_x r c e
    | stuck => rw [e] at h; cases h
  | .non :: _, c, h => by cases h
  | .bl _ :: _, c, h => by cases h
  | .str _ :: _, c, h => by cases h
  | .ty _ :: _, c, h => by cases h
  | .tup _ :: _, c, h => by cases h
  | .lst _ :: _, c, h => by cases h
  | .obj _ _ _ :: _, c, h => by cases h
theorem asInts_ok : ∀ (x : D) (y : List Int), x.asInts = .ok y → toD y = x
  | .lst i, y, h => congrArg D.lst (intsOf_ok i y h)
theorem asInts_x : ∀ (x : D) (c : Str), x.asInts ≠ .exc c
  | .lst i, c, h => intsOf_x i c h
  | .non, c, h => by cases h
  | .bl _, c, h => by cases h
  | .int _, c, h => by cases h
  | .str _, c, h => by cases h
  | .ty _, c, h => by cases h
  | .tup _, c, h => by cases h
  | .obj _ _ _, c, h => by cases h
theorem intsOf_map : ∀ (y : List Int), intsOf (y.map D.int) = .ok y
  | [] => rfl
  | i :: r => by show (intsOf (r.map D.int)).bind _ = _; rw [intsOf_map r]; rfl
theorem asInts_toD (y : List Int) : (toD y).asInts = .ok y := intsOf_map y
/-- xs[lo:hi] -/
def cutL {α : Type} (xs : List α) (lo hi : Option Int) : List α := (xs.drop (HT.sIx xs.length 0 lo)).take (HT.sIx xs.length xs.length hi - HT.sIx xs.length 0 lo)
section
variable {K : PySem.W.Frag} {W : WX} {F0 H0 F H F' H' F1 : Hp} {rt : VK} {PT : En → Prop} {env env' : En} {α β γ τ : Type} [ToD α] [ToD β] [ToD γ] [ToD τ] {KP : Res τ → Prop} {te ta tb tc : TE} {tt : TT} {Z : Ends} {t u : TS} {T : L2.St → Hp → Prop} {σ : L2.St}
theorem ev_bits {m : Res Int} (h : EvX K W env te m) : EvX K W env (tBits te) (m.bind fun i => .ok ((Builtin.Int.intBits i : Nat) : Int)) := fun F0 H0 F H σ Q S k => by
  refine h F0 H0 F H σ _ S (KE.cut S.ex k fun x v F1 H1 e1 a1 r1 k1 => ?_)
  exact ⟨x, r1, k1 _ F1 H1 (Adv.refl a1.in_) rfl⟩
theorem ev_cast {m : Res D} {f : D → Res α} (hf : ∀ x y, f x = .ok y → toD y = x) (hx : ∀ x c, f x ≠ .exc c) (h : EvX K W env te m) : EvX K W env te (m.bind f) := fun F0 H0 F H σ Q S k => by
  refine h F0 H0 F H σ _ S ?_
  cases m with
  | ok x =>
    intro v F1 H1 a r
    have k : KE K W F H σ Q (f x) := k
    cases e : f x with
    | ok y => rw [e] at k; exact k v F1 H1 a (by rw [hf x y e]; exact r)
    | exc c => exact absurd e (hx x c)
    | stuck => rw [e] at k; exact k.elim
  | exc c => exact k
  | stuck => exact k.elim
theorem blk_fin {Q : VK} {x : τ} (L : Lk K W F0 H0 Q PT KP) (hx : toD x = .non) : Blk K F0 H0 KP (fun _ H' => Q .non H') env (.ok x) := fun F H σ S h => L.ok x h .non F H S.adv (by rw [hx]; rfl)
/-- what follows first, then the statement -/
theorem blk_with {m1 m : Res τ} {env1 : En} (h1 : Blk K F0 H0 KP Z.nx env1 m1) (h2 : Blk K F0 H0 KP Z.nx env1 m1 → Blk K F0 H0 KP (t Z) env m) : Blk K F0 H0 KP (t Z) env m := h2 h1
theorem blk_if2 {m : Res Bool} {a b : Res τ} (L : Lk K W F0 H0 rt PT KP) (hT : PT env) (hc : EvT K W env tt m) (h1 : Blk K F0 H0 KP (t Z) env a) (h2 : Blk K F0 H0 KP (u Z) env b) :
    Blk K F0 H0 KP (tIfS tt t u Z) env (m.bind fun c => cond c a b) := blk_if L hT hc h1 h2
theorem blk_ifj {S : Type} (envS : S → En) (k : S → Res τ) {m : Res Bool} {a b : Res τ} (L : Lk K W F0 H0 rt PT KP) (hT : PT env) (hc : EvT K W env tt m) (hr : ∀ s, Blk K F0 H0 KP Z.nx (envS s) (k s))
    (h1 : (∀ s, Blk K F0 H0 KP Z.nx (envS s) (k s)) → Blk K F0 H0 KP (t Z) env a) (h2 : (∀ s, Blk K F0 H0 KP Z.nx (envS s) (k s)) → Blk K F0 H0 KP (u Z) env b) :
    Blk K F0 H0 KP (tIfS tt t u Z) env (m.bind fun c => cond c a b) := blk_if L hT hc (h1 hr) (h2 hr)
end
/-- try: .. except X as n: .. -/
def tTry (K : PySem.W.Frag) (c : Value) (i : Nat) (ts : Addr → Value → Option Addr → TS) (W : WX) (tb : WX → TS) : TS := fun D σ H => tb (wAs K c i ts W D) D σ H
section
variable {X : Cx} {x n : Str} {i : Nat} {c : Value} {body suite : List Stmt} {b₀ : Stmt} {np pos pos' : Pos} {tb : WX → TS} {ts : Addr → Value → Option Addr → TS} {Wout : WX}
theorem ps_tryW (hs : X.stack = X.env :: X.outer) (hf : X.env.frame = some X.env.locals) (hN : X.N.Nodup) (hi : X.N[i]? = some n) (hln : X.env.kindOf n = some .local) (hc : Names X x c) (tk : Takes X Wout)
    (hb : ∀ (W : WX) (pn : List (Addr × Obj)) (xe : Value → Shared → Prop), Takes (X.tr pn xe) W → PassesOwn (model X.prog X.w) X.A X.env xe → PSs (X.tr pn xe) body (tb W))
    (hsu : ∀ (a : Addr) (oe : Obj) (cls : Value) (d : Option Addr) (pn : List (Addr × Obj)), Zc cls d oe → (∃ vs, oe.data = .fields vs) → PSs (X.suite a ((a, oe) :: pn)) (b₀ :: suite) (ts a cls d)) :
    PS X (.Try body [.ExceptHandler (some (.Name x np)) (some n) (b₀ :: suite) pos'] [] [] pos) (tTry X.K c i ts Wout tb) := ps_try_as hs hf hN hi hln hc tk hb hsu
end
section
variable {K : PySem.W.Frag} {W : WX} {F0 H0 F H F' H' F1 : Hp} {rt : VK} {PT : En → Prop} {env env' : En} {τ : Type} [ToD τ] {KP : Res τ → Prop} {Z : Ends}
theorem blk_tryW {S : Type} {cs : List Str} {sub : Str → Str → Bool} {x : Str} {i : Nat} {tb : WX → TS} {ts : Addr → Value → Option Addr → TS} {envS : S → En} {m : Res (Fall S τ)} {rest : S → Res τ} {hd : Str → Res τ}
    (L : Lk K W F0 H0 rt PT KP) (hT : PT env) (C : Cls K cs sub) (hx : x ∈ cs)
    (hb : ∀ (W' : WX) (KP' : Res (Fall S τ) → Prop), Lk K W' F0 H0 rt (fun e => EnLe e env) KP' → (∀ s, Blk K F0 H0 KP' Z.nx (envS s) (.ok (.go s))) → Blk K F0 H0 KP' (tb W' Z) env m)
    (hs : ∀ (c : Str) (a : Addr) (nx bk ct : L2.St → Hp → Prop), c ∈ cs → sub c x = true → (∀ env' m', Blk K F0 H0 KP Z.nx (env'.set i none) m' → Blk K F0 H0 KP nx env' m') →
      Blk K F0 H0 KP (ts a (.ref (He.ga K c)) none { nx := nx, rt := rt, bk := bk, ct := ct }) (env.set i (some (.raw (.ref a)))) (hd c))
    (hr : ∀ s, Blk K F0 H0 KP Z.nx (envS s) (rest s)) (hZ : Z.rt = rt := by rfl) :
    Blk K F0 H0 KP (tTry K (.ref (He.ga K x)) i ts W tb Z) env (tryR (fun c => decide (c ∈ cs)) (fun c => sub c x) m rest hd) := blk_tryAs L hT C hx hb hs hr hZ
end
section
variable {X : Cx}
theorem ip_of {op : Operator} {r : R2} (h : OpR X (inplaceOp op) r) : PIp X op r := by
  intro pins s σ H x y v u Q I rx ry q
  exact h pins s σ H x y v u Q I rx ry q
theorem iop_mulX : OpR X (inplaceOp .Mult) (rI CMulX fun i j => .int (i * j)) := opI fun _ _ _ _ _ _ _ hc q => PyProof.Rows.imul_int q hc.ok
end

/-! ### the errors' facts, by one Bool -/
def eqOV (a : Option (Option Value)) (b : Value) : Bool := decide (a = some (some b))
def excCB (K : PySem.W.Frag) (C : Addr) : Bool :=
  He.eqO (PySem.W.findIn K (.ref C) "__getattribute__") (some (some (.builtin "BaseException.__getattribute__"))) && (He.eqO (PySem.W.findIn K (.ref C) "__getattr__") (some none) && (decide (PySem.W.subIn K (.ref C) (.type "BaseException") = some true) && (PySem.W.hasDictIn K C &&
    (He.eqO (PySem.W.findIn K (.ref C) "__class__") (some (some (.builtin "object.__class__"))) && (He.eqO (PySem.W.specialIn K (.builtin "object.__class__") "__get__") (some (some (.builtin "getset_descriptor.__get__"))) &&
      (decide (PySem.W.takesIn K (.builtin "object.__class__") = some true) && decide (PySem.W.mroIn K C (.type "object") = some true)))))))
theorem excC_of {K : PySem.W.Frag} {C : Addr} (h : excCB K C = true) : ExcC K C := by
  obtain ⟨h1, h⟩ := He.ba h
  obtain ⟨h2, h⟩ := He.ba h
  obtain ⟨h3, h⟩ := He.ba h
  obtain ⟨h4, h⟩ := He.ba h
  obtain ⟨h5, h⟩ := He.ba h
  obtain ⟨h6, h⟩ := He.ba h
  obtain ⟨h7, h8⟩ := He.ba h
  exact ⟨He.eqO_ok h1, He.eqO_ok h2, of_decide_eq_true h3, h4, He.eqO_ok h5, He.eqO_ok h6, of_decide_eq_true h7, of_decide_eq_true h8⟩
def clsB (K : PySem.W.Frag) (cs : List Str) (sub : Str → Str → Bool) : Bool := cs.all fun c => excCB K (He.ga K c) && ((cs.all fun d => decide (PySem.W.kitOne K (.ref (He.ga K c)) (.ref (He.ga K d)) = some (sub c d)) && decide (PySem.W.exmOne K (.ref (He.ga K c)) (.ref (He.ga K d)) = some (sub c d))) &&
  decide (PySem.W.kitOne K (.ref (He.ga K c)) (.type "ValueError") = some true))
theorem cls_of {K : PySem.W.Frag} {cs : List Str} {sub : Str → Str → Bool} (h : clsB K cs sub = true) : Cls K cs sub := by
  have h1 : ∀ c ∈ cs, _ := fun c hc => He.ba (List.all_eq_true.mp h c hc)
  refine ⟨fun c hc => excC_of (h1 c hc).1, fun c hc d hd => ?_, fun c hc d hd => ?_, fun c hc => ?_⟩
  · exact of_decide_eq_true (He.ba (List.all_eq_true.mp (He.ba (h1 c hc).2).1 d hd)).2
  · exact of_decide_eq_true (He.ba (List.all_eq_true.mp (He.ba (h1 c hc).2).1 d hd)).1
  · exact of_decide_eq_true (He.ba (h1 c hc).2).2
end Mi
set_option maxHeartbeats 1000000
namespace Mi
open PySem PySem.Spec L2
open Evl (Ex)
theorem walk_end {l : PySem.W.OpenLaw} {n k : Nat} {q : Program} {loose : List Str} {XP : (Str → Option Value) → Heap → Prop} {YP : World → Heap → Prop} {d : PySem.DefRec} {x : Str} {m : List Int → Res Bool}
    (hn : l.most = some n) (hn2 : n ≤ sizeLine) (hdf : d.params.defaults = []) (hr : Room k PySem.callerA)
    (F : ∀ (w : World) (mg : Str → Option Value) (fa : Addr) (h : Heap), YP w h → h.Ns mainGlobals mg → mg d.name = some (.ref fa) →
      ∃ (K : PySem.W.Frag) (fd : FuncData), K.In h ∧ (∀ (s : Shared) (u : Value), PySem.BindsTo s fd ⟨[u], []⟩ [(x, u)]) ∧
        ∀ base : Heap, K.In base → base.Ns mainGlobals mg → FnOk l.prog w K mg base (L2.CX l.prog w) k fa fd [x] (spM K (fun (p : List Int × Unit) => m p.1)))
    (ht : ∀ ns : List Int, ns.length ≤ n → (∀ i ∈ ns, Builtin.Int.intBits i ≤ 1048576) → m ns = .ok true) :
    PySem.W.WalkO q loose XP YP l.row.toRowW d [] (fun f vs => PySem.call f vs) := by
  refine Att.attach_callB hn hdf fun w s₀ s₁ mg mb fa o pm cd doc a vs ns G Y ho hd hcd hmg hobj hints hlen hbits hg => ?_
  obtain ⟨K, fd, KX, hb, hF⟩ := F w mg fa _ Y G.T.g hmg
  refine law_call KX G.T.g G.T.b G.T.builtins G.T.nolimit hg hobj hints (Nat.le_trans hlen hn2) hr hF hb (fun H hO hS => ?_) fun H e s' z => ?_
  · refine ⟨H, (ns, ()), Ex.refl H, ⟨.ref a, [], rfl, ⟨a, ns.map V.int, rfl, hS, Reps.of_ints ns⟩, rfl⟩, ?_⟩
    show KE K _ H H [] _ (m ns)
    rw [ht ns hlen hbits]
    exact fun v F' H' _ r => r
  · obtain ⟨_, _, _, _, _, _, _, _, _, _, _, _, z⟩ := z
    exact z
end Mi
set_option maxHeartbeats 1000000
namespace Mi
open PySem PySem.Spec L2
open Evl (Ex)
abbrev rLenS (K : PySem.W.Frag) : List V → Hp → VK → Prop := fun xs H Q => ∃ p ys, xs = [.ref p] ∧ (SqL K H p ys ∨ SqT K H p ys) ∧ Q (.int ys.length) H
theorem cr_len {X : Cx} {K : PySem.W.Frag} (h : X.K = K) : CallR X (.builtin "len") (rLenS K) := by
  subst h; exact call_len_seq
theorem cr_ixL {X : Cx} {K : PySem.W.Frag} (h : X.K = K) : IxR X (rIxL K) := by
  subst h; exact ix_list
theorem cr_ixT {X : Cx} {K : PySem.W.Frag} (h : X.K = K) : IxR X (rIxT K) := by
  subst h; exact ix_tup
theorem cr_slL {X : Cx} {K : PySem.W.Frag} (h : X.K = K) : SlR X (rSlL K) := by
  subst h; exact sl_list
section
variable {K : PySem.W.Frag} {W : WX} {F0 H0 F H F' H' F1 : Hp} {rt : VK} {PT : En → Prop} {env env' : En} {α β γ τ : Type} [ToD α] [ToD β] [ToD γ] [ToD τ] {KP : Res τ → Prop} {te ta tb tc : TE} {tt : TT} {Z : Ends} {t u : TS} {T : L2.St → Hp → Prop} {σ : L2.St}
/-- xs[::-1] -/
theorem en_rev {m : Res (List α)} (h : EvX K W env te m) : EvN K W env (tRevL K te) (m.bind fun xs => .ok xs.reverse) := fun F0 H0 F H σ Q S k => by
  refine h F0 H0 F H σ _ S ?_
  cases m with
  | ok xs =>
    intro v F1 H1 a r
    obtain ⟨p, vs, rfl, h1, h2⟩ := r
    refine ⟨p, vs, rfl, Evl.ex_l a.in_ h1, fun l hl => ?_⟩
    refine k l _ F1 _ (a.trans (Adv.newO a.in_ hl)) (Evl.fresh_back a.h hl) (none_of_ex a.in_ hl) upd_same ?_
    rw [List.map_reverse]
    exact Reps.reverse h2
  | exc c => exact k
  | stuck => exact k.elim
/-- the parts of a text of an error -/
def EvJ (K : PySem.W.Frag) (W : WX) (env : En) (ts : List TE) (N : Nat) (m : Res Unit) : Prop :=
  ∀ F0 H0 F H σ acc (Q : Str → Hp → Prop), Sl K F0 H0 F H σ env → acc.length + N ≤ sizeLine → KE K W F H σ (fun _ H' => ∀ out, Q out H') m → tJs ts acc σ H Q
theorem ej_nil : EvJ K W env [] 0 (.ok ()) := fun F0 H0 F H σ acc Q S hn k => k .non F H (Adv.refl S.ex) rfl acc
theorem ej_txt {x : Str} {n N : Nat} {ts : List TE} {m : Res Unit} (hx : x.length ≤ n) (h : EvJ K W env ts N m) : EvJ K W env (tC (.str x) :: ts) (n + N) m := fun F0 H0 F H σ acc Q S hn k => by
  have e : (acc ++ x).length = acc.length + x.length := Str.length_append ..
  exact ⟨x, rfl, by omega, h F0 H0 F H σ (acc ++ x) Q S (by omega) k⟩
theorem ej_int {te : TE} {N : Nat} {ts : List TE} {m1 : Res Int} {m : Res Unit} (h1 : EvX K W env te m1) (h : EvJ K W env ts N m) : EvJ K W env (tFmt te :: ts) (1000 + N) (m1.bind fun i => .need (i.natAbs.log2 < 1920 ∧ (toString i : Str).length ≤ 1000) m) := fun F0 H0 F H σ acc Q S hn k => by
  refine h1 F0 H0 F H σ _ S (k.cut S.ex fun i v F1 H1 e1 a1 r1 k1 => ?_)
  have r1 : v = V.int i := r1
  subst r1
  by_cases q : i.natAbs.log2 < 1920 ∧ (toString i : Str).length ≤ 1000
  · rw [Res.need_pos q] at k1
    have e : (acc ++ toString i).length = acc.length + (toString i : Str).length := Str.length_append ..
    exact .inr ⟨i, rfl, q.1, toString i, rfl, by omega, h F0 H0 F1 H1 σ _ Q (S.step a1) (by omega) k1⟩
  · rw [Res.need_neg q] at k1; exact k1.elim
theorem blk_raiseJ {c : Str} {m : Res Unit} {ts : List TE} {N : Nat} (L : Lk K W F0 H0 rt PT KP) (hT : PT env) (hN : N ≤ sizeLine) (he : EvJ K W env ts N m) : Blk K F0 H0 KP (fun σ H => tJs ts Str.empty σ H fun _ H1 => W (.ref (He.ga K c)) none σ H1) env (m.bind fun _ => .exc c) := fun F H σ S h => by
  refine he F0 H0 F H σ _ _ S (by show 0 + N ≤ _; omega) (L.ke hT S h fun x v F1 H1 e1 a1 r1 h1 => ?_)
  exact fun _ => L.exc c F1 H1 σ env h1 hT (S.step a1)
end
end Mi
set_option maxHeartbeats 1000000
namespace Mi
open PySem PySem.Spec L2
open Evl (Ex)

/-! ### own classes: rules with what is raised at the caller's slots -/
section
variable {X : Cx} {CX : CXT} {k : Nat} {f C : Addr} {fd : FuncData} {ps : List Str} {sp : Sp} {E : L2.St → XK} {x m : Str} {p pos apos : Pos} {e o : Expr} {es : List Expr} {ta : TE} {t : TA}
def tMethQ (C : Addr) (m : Str) (sp : Sp) (E : L2.St → XK) (ta : TE) (t : TA) : TE := fun σ H Q => ta σ H fun x H1 => ∃ a dx fs, x = .ref a ∧ H1 a = some (.ins C dx fs) ∧ fs.lookup m = none ∧ t σ H1 fun vs H2 => sp (x :: vs) H2 Q (E σ)
theorem pe_methQ {pl : Sem Bool} (he : PE X o ta) (c : L2.Cls X.K C) (hm : Meth X.K C m f) (F : FnOk X.prog X.w X.K X.mg X.base CX k f fd ps sp) (hr : Room k X.A) (hb : Binds X.K fd ps []) (hx : ∀ σ, PassesAt CX X σ (E σ)) (ha : PA X (e :: es) t)
    (hst : starEach (e :: es) X.env = (false, eval e X.env) :: starEach es X.env := by rfl) (hpl : (backTo pos (starEach es X.env)).any (·.1) = false := by rfl)
    (ht : eval (.Call (.Attribute o m apos) (e :: es) [] pos) X.env = (do
      let ov ← eval o X.env
      standAt apos.atName
      let (f, first) ← holding [ov] (getMethod ov m pl)
      callWith pos f first (backTo pos (starEach (e :: es) X.env)) (backToKw pos (keywordEach [] X.env))) := by rfl) :
    PE X (.Call (.Attribute o m apos) (e :: es) [] pos) (tMethQ C m sp E ta t) := by
  refine ⟨fun pins s σ H Q I h => ?_⟩
  refine PySem.W.methodCall_KW (pl := pl) (thn (he.run pins s σ H _ I h) fun u s1 ⟨x, H1, I1, rx, a, dx, fs, ex, ea, l, q⟩ => ?_) ht
  subst ex
  obtain rfl : u = Value.ref a := rx
  refine getmeth_ok I1 ea c hm l ?_
  refine PySem.W.callWith_K (first := [.ref a]) (h₀ := X.base) I.ok.mod.kin hm.kp (thn (ha.run pos pins s1 σ H1 _ I1 q) fun us s2 ⟨vs, H2, I2, r, q2⟩ => ⟨I2.kIn, ?_⟩) hst hpl
  exact run_fnS (us := .ref a :: us) (vs := .ref a :: vs) F hr hb (hx σ) I2 (.cons rfl r) q2
theorem pe_methQ0 {pl : Sem Bool} (he : PE X o ta) (c : L2.Cls X.K C) (hm : Meth X.K C m f) (F : FnOk X.prog X.w X.K X.mg X.base CX k f fd ps sp) (hr : Room k X.A) (hb : Binds X.K fd ps []) (hx : ∀ σ, PassesAt CX X σ (E σ))
    (ht : eval (.Call (.Attribute o m apos) [] [] pos) X.env = (do
      let ov ← eval o X.env
      standAt apos.atName
      let (f, first) ← holding [ov] (getMethod ov m pl)
      callWith pos f first (backTo pos (starEach [] X.env)) (backToKw pos (keywordEach [] X.env))) := by rfl) :
    PE X (.Call (.Attribute o m apos) [] [] pos) (tMethQ C m sp E ta tNil) := by
  refine ⟨fun pins s σ H Q I h => ?_⟩
  refine PySem.W.methodCall_KW (pl := pl) (thn (he.run pins s σ H _ I h) fun u s1 ⟨x, H1, I1, rx, a, dx, fs, ex, ea, l, q⟩ => ?_) ht
  subst ex
  obtain rfl : u = Value.ref a := rx
  refine getmeth_ok I1 ea c hm l ?_
  exact PySem.W.callWith_K0 (first := [.ref a]) I1.kIn hm.kp (run_fnS (us := [.ref a]) (vs := [.ref a]) F hr hb (hx σ) I1 (.cons rfl .nil) q)
def tMakeQ (C : Addr) (sp : Sp) (E : L2.St → XK) (t : TA) : TE := fun σ H Q => t σ H fun vs H1 => ∀ x dx, H1 x = none → H1 dx = none → dx ≠ x → sp (.ref x :: vs) (upd (upd H1 dx (.own x)) x (.ins C dx [])) (fun v H2 => v = .non ∧ Q (.ref x) H2) (E σ)
theorem run_makeQ {pins : List (Addr × Obj)} {σ : L2.St} {H : Hp} {s : Shared} {Q : VK} {us : List Value} {vs : List V} (M : Mk X.K C f) (F : FnOk X.prog X.w X.K X.mg X.base CX k f fd ps sp) (hr : Room (k + 1) X.A) (hb : Binds X.K fd ps [])
    (hx : PassesAt CX X σ (E σ)) (I : Inv X pins σ H s) (r : Vals vs us)
    (h : ∀ x dx, H x = none → H dx = none → dx ≠ x → sp (.ref x :: vs) (upd (upd H dx (.own x)) x (.ins C dx [])) (fun v H2 => v = .non ∧ Q (.ref x) H2) (E σ)) :
    wpAny (model X.prog X.w) X.A (call (.ref C) us) (EP X pins σ Q) X.xe s := by
  have hq := h (s.heap.objs.size + 1) s.heap.objs.size (I.hok.fresh (Nat.le_succ _)) (I.hok.fresh (Nat.le_refl _)) (Nat.ne_of_lt (Nat.lt_succ_self _))
  have I2 := Inv.made (C := C) I
  have r2 : Vals (V.ref (s.heap.objs.size + 1) :: vs) (Value.ref (s.heap.objs.size + 1) :: us) := .cons rfl r
  have hl : (Value.ref (s.heap.objs.size + 1) :: us ++ []).length = ps.length := by
    rw [List.append_nil]
    have e := r2.length
    rw [F.len _ _ _ _ hq] at e
    exact e.symm
  have b := hb _ (Value.ref (s.heap.objs.size + 1) :: us) I2.kIn hl
  rw [List.append_nil] at b
  refine wpAny_call (make_map (f := f) I.kIn M.makes M.init (beq_iff_eq.mp M.fn) (codeAny_mono (F.run _ X.stack _ _ ⟨Value.ref (s.heap.objs.size + 1) :: us, []⟩ (Value.ref (s.heap.objs.size + 1) :: us) _ _ (E σ) (hr.make C us [])
    (I2.env0.make C us []) b r2 hq) fun r s' hq' => ?_))
  cases r with
  | error e => exact hx pins _ _ e s' I2 hq'
  | ok fl =>
    cases fl with
    | ret u =>
      obtain ⟨v, H', I3, rv, ev, q3⟩ := I2.after hq'
      subst ev
      exact ⟨rv, ⟨V.ref (s.heap.objs.size + 1), H', I3, rfl, q3⟩⟩
    | next => exact False.elim hq'
    | brk => exact False.elim hq'
    | cont => exact False.elim hq'
theorem pe_makeQ (M : Mk X.K C f) (F : FnOk X.prog X.w X.K X.mg X.base CX k f fd ps sp) (hr : Room (k + 1) X.A) (hg : Gl X x) (hm : X.mg x = some (.ref C)) (hb : Binds X.K fd ps []) (hx : ∀ σ, PassesAt CX X σ (E σ))
    (ha : PA X (e :: es) t) (hdb : (x == ("__debug__" : Str)) = false := by decide) (he : starEach (e :: es) X.env = (false, eval e X.env) :: starEach es X.env := by rfl) (hpl : (backTo pos (starEach es X.env)).any (·.1) = false := by rfl) :
    PE X (.Call (.Name x p) (e :: es) [] pos) (tMakeQ C sp E t) := by
  refine ⟨fun pins s σ H Q I h => ?_⟩
  refine wpAny_Call_Name_kw (ld_glob I hg hm ?_ hdb)
  refine PySem.W.callWith_K (h₀ := X.base) I.ok.mod.kin M.kp (thn (ha.run pos pins s σ H _ I h) fun us s1 ⟨vs, H1, I1, r, q⟩ => ⟨I1.kIn, ?_⟩) he hpl
  exact run_makeQ M F hr hb (hx σ) I1 r q
theorem pe_makeQ0 (M : Mk X.K C f) (F : FnOk X.prog X.w X.K X.mg X.base CX k f fd ps sp) (hr : Room (k + 1) X.A) (hg : Gl X x) (hm : X.mg x = some (.ref C)) (hb : Binds X.K fd ps []) (hx : ∀ σ, PassesAt CX X σ (E σ))
    (hdb : (x == ("__debug__" : Str)) = false := by decide) : PE X (.Call (.Name x p) [] [] pos) (tMakeQ C sp E tNil) := by
  refine ⟨fun pins s σ H Q I h => ?_⟩
  refine wpAny_Call_Name_kw (ld_glob I hg hm ?_ hdb)
  exact PySem.W.callWith_K0 I.kIn M.kp (run_makeQ (us := []) M F hr hb (hx σ) I .nil h)
end

/-! ### fields by their place -/
def posK (f : Str) : List Str → Option Nat
  | [] => none
  | g :: r => if g = f then some 0 else (posK f r).map (· + 1)
theorem lookup_pos {f : Str} {v : V} : ∀ {ks : List Str} {vs : List V} {j : Nat}, posK f ks = some j → vs[j]? = some v → (ks.zip vs).lookup f = some v
  | [], _, _, h, _ => by cases h
  | g :: r, [], j, h, q => by simp at q
  | g :: r, w :: ws, j, h, q => by
    unfold posK at h
    by_cases c : g = f
    · rw [if_pos c] at h; cases h
      simp at q; subst q c
      simp [List.zip_cons_cons, List.lookup]
    · rw [if_neg c] at h
      have c2 : (f == g) = false := beq_eq_false_iff_ne.mpr fun z => c z.symm
      cases e : posK f r with
      | none => rw [e] at h; cases h
      | some i =>
        rw [e] at h; cases h
        simp only [List.zip_cons_cons, List.lookup, c2]
        exact lookup_pos e (by simpa using q)
theorem lookup_no {f : Str} : ∀ {ks : List Str} {vs : List V}, posK f ks = none → (ks.zip vs).lookup f = none
  | [], _, _ => rfl
  | g :: r, [], _ => rfl
  | g :: r, w :: ws, h => by
    unfold posK at h
    by_cases c : g = f
    · rw [if_pos c] at h; cases h
    · rw [if_neg c] at h
      have c2 : (f == g) = false := beq_eq_false_iff_ne.mpr fun z => c z.symm
      simp only [List.zip_cons_cons, List.lookup, c2]
      refine lookup_no ?_
      cases e : posK f r with
      | none => rfl
      | some i => rw [e] at h; cases h
theorem putF_new {f : Str} {v : V} : ∀ {ks : List Str} {vs : List V}, posK f ks = none → ks.length = vs.length → putF f v (ks.zip vs) = (ks ++ [f]).zip (vs ++ [v])
  | [], [], _, _ => rfl
  | [], _ :: _, _, h => by simp at h
  | g :: r, [], _, h => by simp at h
  | g :: r, w :: ws, h, hl => by
    unfold posK at h
    by_cases c : g = f
    · rw [if_pos c] at h; cases h
    · rw [if_neg c] at h
      show (if g = f then _ else (g, w) :: putF f v (r.zip ws)) = _
      rw [if_neg c]
      rw [putF_new (ks := r) (vs := ws) (by cases e : posK f r with | none => rfl | some i => rw [e] at h; cases h) (by simpa using hl)]
      rfl
theorem putF_old {f : Str} {v : V} : ∀ {ks : List Str} {vs : List V} {j : Nat}, posK f ks = some j → ks.length = vs.length → putF f v (ks.zip vs) = ks.zip (vs.set j v)
  | [], _, _, h, _ => by cases h
  | g :: r, [], _, _, h => by simp at h
  | g :: r, w :: ws, j, h, hl => by
    unfold posK at h
    by_cases c : g = f
    · rw [if_pos c] at h; cases h
      show (if g = f then (g, v) :: r.zip ws else _) = _
      rw [if_pos c]; rfl
    · rw [if_neg c] at h
      cases e : posK f r with
      | none => rw [e] at h; cases h
      | some i =>
        rw [e] at h; cases h
        show (if g = f then _ else (g, w) :: putF f v (r.zip ws)) = _
        rw [if_neg c, putF_old e (by simpa using hl)]
        rfl
section
variable {K : PySem.W.Frag} {W : WX} {F0 H0 F H F' H' F1 : Hp} {rt : VK} {PT : En → Prop} {env env' : En} {α β γ τ : Type} [ToD α] [ToD β] [ToD γ] [ToD τ] {KP : Res τ → Prop} {te ta tb tc : TE} {tt : TT} {Z : Ends} {t u : TS} {T : L2.St → Hp → Prop} {σ : L2.St}
/-- e.f, e an object that stands still -/
theorem ev_fld {m : Res α} {g : α → β} {c f : Str} {ks : List Str} {j : Nat} (he : EvX K W env te m) (hc : L2.Cls K (He.ga K c)) (hn : NoAttr K (He.ga K c) f) (hj : posK f ks = some j) (hf : ∀ x : α, ∃ ds, toD x = .obj c ks ds ∧ ds[j]? = some (toD (g x))) :
    EvX K W env (tFld K te f) (m.bind fun x => .ok (g x)) := fun F0 H0 F H σ Q S k => by
  refine he F0 H0 F H σ _ S (KE.cut S.ex k fun x v F1 H1 e1 a1 r1 k1 => ?_)
  obtain ⟨ds, e, q⟩ := hf x
  rw [e] at r1
  obtain ⟨a, dx, vs, rfl, h2, h3, h4⟩ := r1
  obtain ⟨w, hw, rw_⟩ := Reps.get h4 q
  exact ⟨a, _, dx, _, w, rfl, a1.in_ _ _ h2, hc, hn, lookup_pos hj hw, k1 _ F1 H1 (Adv.refl a1.in_) rw_⟩
/-- self.f, self an object that is being made -/
theorem ev_fldO {x : α} {c f : Str} {pp : Option Addr} {ks : List Str} {ds : List D} {i j : Nat} (hi : env[i]? = some (some (.oi pp c ks ds))) (hc : L2.Cls K (He.ga K c)) (hn : NoAttr K (He.ga K c) f) (hj : posK f ks = some j) (hd : ds[j]? = some (toD x)) :
    EvX K W env (tFld K (tVar i) f) (.ok x) := fun F0 H0 F H σ Q S k => by
  obtain ⟨v, e, p, dx, vs, rfl, h0, hf, hp, hl, hr, _⟩ := S.slot i _ hi
  obtain ⟨w, hw, rw_⟩ := Reps.get hr hd
  exact ⟨_, e, p, _, dx, _, w, rfl, hp, hc, hn, lookup_pos hj hw, k _ F H (Adv.refl S.ex) rw_⟩
/-- self.f = e, a new field -/
theorem blk_fldN {i : Nat} {m : Res α} {g : α → Res τ} {c f : Str} {pp : Option Addr} {ks : List Str} {ds : List D} (L : Lk K W F0 H0 rt PT KP) (hT : PT env) (he : EvX K W env te m) (hi : env[i]? = some (some (.oi pp c ks ds))) (hc : L2.Cls K (He.ga K c)) (hn : NoAttr K (He.ga K c) f) (hj : posK f ks = none) (hk : ks.length < 1000)
    (k : ∀ x, Blk K F0 H0 KP Z.nx (env.set i (some (.oi pp c (ks ++ [f]) (ds ++ [toD x])))) (g x)) : Blk K F0 H0 KP (sFld K (tVar i) te f Z) env (m.bind g) := fun F H σ S h =>
  he F0 H0 F H σ _ S (L.ke hT S h fun x v F1 H1 e1 a1 r1 h1 => by
    have S1 := S.step a1
    obtain ⟨w, e, p, dx, vs, rfl, h0, hf, hp, hl, hr, hpp⟩ := S1.slot i _ hi
    refine ⟨_, e, p, _, dx, _, rfl, hp, hc, hn, by rw [List.length_zip, ← hl, Nat.min_self]; exact hk, ?_⟩
    refine k x F1 _ σ (S1.chgO hi rfl e hf h0 ⟨p, dx, vs ++ [v], rfl, h0, hf, ?_, by simp [hl], Reps.append hr (Reps.one r1), hpp⟩) h1
    rw [upd_same, putF_new hj hl])
/-- self.f = e, a field that is there -/
theorem blk_fldR {i j : Nat} {m : Res α} {g : α → Res τ} {c f : Str} {pp : Option Addr} {ks : List Str} {ds : List D} (L : Lk K W F0 H0 rt PT KP) (hT : PT env) (he : EvX K W env te m) (hi : env[i]? = some (some (.oi pp c ks ds))) (hc : L2.Cls K (He.ga K c)) (hn : NoAttr K (He.ga K c) f) (hj : posK f ks = some j) (hk : ks.length < 1000)
    (k : ∀ x, Blk K F0 H0 KP Z.nx (env.set i (some (.oi pp c ks (ds.set j (toD x))))) (g x)) : Blk K F0 H0 KP (sFld K (tVar i) te f Z) env (m.bind g) := fun F H σ S h =>
  he F0 H0 F H σ _ S (L.ke hT S h fun x v F1 H1 e1 a1 r1 h1 => by
    have S1 := S.step a1
    obtain ⟨w, e, p, dx, vs, rfl, h0, hf, hp, hl, hr, hpp⟩ := S1.slot i _ hi
    refine ⟨_, e, p, _, dx, _, rfl, hp, hc, hn, by rw [List.length_zip, ← hl, Nat.min_self]; exact hk, ?_⟩
    refine k x F1 _ σ (S1.chgO hi rfl e hf h0 ⟨p, dx, vs.set j v, rfl, h0, hf, ?_, by simp [hl], Reps.set j hr r1, hpp⟩) h1
    rw [upd_same, putF_old hj hl])
/-- o.m(e, ..), o an object that stands still -/
theorem ev_meth {δ : Type} [ToDs δ] {ts : TA} {mo : Res α} {ma : Res δ} {c m : Str} {ks : List Str} {f : α × δ → Res β} (ho : EvX K W env te mo) (ha : EvA K W env ts ma) (hj : posK m ks = none) (hf : ∀ x : α, ∃ ds, toD x = .obj c ks ds) :
    EvX K W env (tMethQ (He.ga K c) m (spM K f) (WE W) te ts) (mo.bind fun x => ma.bind fun y => f (x, y)) := fun F0 H0 F H σ Q S k => by
  refine ho F0 H0 F H σ _ S (KE.cut S.ex k fun x v F1 H1 e1 a1 r1 k1 => ?_)
  obtain ⟨ds, e⟩ := hf x
  have r1' := r1
  rw [e] at r1
  obtain ⟨a, dx, vs, rfl, h2, h3, h4⟩ := r1
  refine ⟨a, dx, _, rfl, a1.in_ _ _ h2, lookup_no hj, ?_⟩
  refine ha F0 H0 F1 H1 σ _ (S.step a1) ?_
  cases ma with
  | ok y =>
    intro ws F2 H2 a2 r2
    have k1 : KE K W F1 H1 σ Q (f (x, y)) := k1
    have k1 := k1.adv a2
    refine ⟨F2, (x, y), a2.in_, ⟨_, ws, rfl, Rep.mono a2.f _ _ r1', r2⟩, ?_⟩
    revert k1
    generalize f (x, y) = z
    intro k1
    cases z with
    | ok z => exact k1
    | exc c => exact k1
    | stuck => exact k1.elim
  | exc c => exact k1
  | stuck => exact k1.elim
theorem ev_meth0 {δ : Type} [ToDs δ] {ts : TA} {mo : Res α} {ma : Res δ} {c m : Str} {ks : List Str} {f : α × δ → Res β} (ho : EvX K W env te mo) (ha : EvA K W env ts ma) (hj : posK m ks = none) (hf : ∀ x : α, ∃ ds, toD x = .obj c ks ds) :
    EvX K W env (tMeth (He.ga K c) m (spM K f) [] E0 te ts) (mo.bind fun x => ma.bind fun y => (f (x, y)).noexc) := fun F0 H0 F H σ Q S k => by
  refine ho F0 H0 F H σ _ S (KE.cut S.ex k fun x v F1 H1 e1 a1 r1 k1 => ?_)
  obtain ⟨ds, e⟩ := hf x
  have r1' := r1
  rw [e] at r1
  obtain ⟨a, dx, vs, rfl, h2, h3, h4⟩ := r1
  refine ⟨a, dx, _, rfl, a1.in_ _ _ h2, lookup_no hj, ?_⟩
  refine ha F0 H0 F1 H1 σ _ (S.step a1) ?_
  cases ma with
  | ok y =>
    intro ws F2 H2 a2 r2
    have k1 : KE K W F1 H1 σ Q (f (x, y)).noexc := k1
    have k1 := k1.adv a2
    refine ⟨F2, (x, y), a2.in_, by rw [List.append_nil]; exact ⟨_, ws, rfl, Rep.mono a2.f _ _ r1', r2⟩, ?_⟩
    revert k1
    generalize f (x, y) = z
    intro k1
    cases z with
    | ok z => exact k1
    | exc c => exact k1.elim
    | stuck => exact k1.elim
  | exc c => exact k1
  | stuck => exact k1.elim
/-- the heap without an object that a def changes -/
def hide (H : Hp) (p : Addr) : Hp := fun q => if q = p then none else H q
theorem hide_same {H : Hp} {p : Addr} : hide H p p = none := if_pos rfl
theorem hide_ne {H : Hp} {p q : Addr} (h : q ≠ p) : hide H p q = H q := if_neg h
theorem hide_ex {H : Hp} {p : Addr} : Ex (hide H p) H := fun a u q => by
  by_cases z : a = p
  · subst z; rw [hide_same] at q; cases q
  · rw [hide_ne z] at q; exact q
/-- the promise of an __init__ -/
def KIn (K : PySem.W.Frag) (F H : Hp) (p : Addr) (Q : VK) (E : XK) : Res α → Prop
  | .ok x => ∀ F' H', Adv F (hide H p) F' H' → Rep K F' (toD x) (.ref p) → Q .non H'
  | .exc c => ∀ F' H', Adv F (hide H p) F' H' → E (.ref (He.ga K c)) none H'
  | .stuck => False
def spI (K : PySem.W.Frag) (c : Str) {δ : Type} [ToDs δ] (f : δ → Res α) : Sp := fun vs H Q E => ∃ F y p dx ws, vs = .ref p :: ws ∧ Ex F H ∧ F p = none ∧ H p = some (.ins (He.ga K c) dx []) ∧ Reps K F (ToDs.ds y) ws ∧ KIn K F H p Q E (f y)
theorem ev_make {δ : Type} [ToDs δ] {ts : TA} {ma : Res δ} {c : Str} {f : δ → Res α} (ha : EvA K W env ts ma) : EvX K W env (tMakeQ (He.ga K c) (spI K c f) (WE W) ts) (ma.bind f) := fun F0 H0 F H σ Q S k => by
  refine ha F0 H0 F H σ _ S ?_
  cases ma with
  | ok y =>
    intro vs F1 H1 a1 r1 x dx nx ndx hne
    have k : KE K W F H σ Q (f y) := k
    have k := k.adv a1
    have ex1 : Ex H1 (hide (upd (upd H1 dx (.own x)) x (.ins (He.ga K c) dx [])) x) := fun a u q => by
      have z : a ≠ x := ne_of_none q nx
      rw [hide_ne z, upd_ne z, upd_ne (ne_of_none q ndx)]
      exact q
    have exF : Ex F1 (upd (upd H1 dx (.own x)) x (.ins (He.ga K c) dx [])) := fun a u q => hide_ex _ _ (ex1 _ _ (a1.in_ _ _ q))
    have ad : ∀ {F' H' : Hp}, Adv F1 (hide (upd (upd H1 dx (.own x)) x (.ins (He.ga K c) dx [])) x) F' H' → Adv F1 H1 F' H' := fun {F' H'} b =>
      ⟨b.f, ex1.trans b.h, b.in_, fun q h1 h2 => b.out q h1 (by
        cases e : H1 q with
        | none => exact absurd e h2
        | some o => rw [ex1 _ _ e]; simp)⟩
    refine ⟨F1, y, x, dx, vs, rfl, exF, none_of_ex a1.in_ nx, upd_same, r1, ?_⟩
    revert k
    generalize f y = z
    intro k
    cases z with
    | ok z => exact fun F' H' b r => ⟨rfl, k _ F' H' (ad b) r⟩
    | exc c => exact fun F' H' b => k F' H' (ad b)
    | stuck => exact k.elim
  | exc c => exact k
  | stuck => exact k.elim
/-- the end of an __init__ -/
theorem blk_finI {Q : VK} {x : τ} {p : Addr} {c : Str} {ks : List Str} {ds : List D} {i : Nat} (L : Lk K W F0 H0 (fun v H' => v = .ref p → Q .non H') PT KP) (hi : env[i]? = some (some (.oi (some p) c ks ds))) (hx : toD x = .obj c ks ds) : Blk K F0 H0 KP (fun _ H' => Q .non H') env (.ok x) := fun F H σ S h => by
  obtain ⟨v, e, q, dx, vs, rfl, h0, hf, hp, hl, hr, hpp⟩ := S.slot i _ hi
  have : q = p := hpp p rfl
  subst this
  obtain ⟨F', ex, S'⟩ := S.freezeI hi
  have hi' : i < env.length := by
    have := (List.getElem?_eq_some_iff.mp hi).1
    exact this
  obtain ⟨v2, e2, r2⟩ := S'.slot i (.im (.obj c ks ds)) (by rw [List.getElem?_set_self hi'])
  rw [e] at e2; cases e2
  exact L.ok x h (.ref q) F' H S'.adv (by rw [hx]; exact r2) rfl
end
section
variable {P : Program} {w : World} {K : PySem.W.Frag} {mg : Str → Option Value} {base : Heap} {x qual : Str} {params : Arguments} {body : List Stmt} {scope : Scope} {dvs : List V} {kws : List (Str × V)} {f : Addr} {fd : FuncData}
theorem sl_startI {K : PySem.W.Frag} {F H : Hp} {N : List Str} {ds : List D} {vs : List V} {p dx : Addr} {c : Str} {n0 : Str} (e : Ex F H) (hf : F p = none) (hp : H p = some (.ins (He.ga K c) dx [])) (r : Reps K F ds vs) :
    Sl K F (hide H p) F H (L2.start (n0 :: N) (.ref p :: vs)) (some (.oi (some p) c [] []) :: enStart N ds) := by
  have hl := r.length
  refine ⟨⟨Ex.refl F, hide_ex, e, fun q h _ => h⟩, fun i sk q => ?_, fun i j sk sk' a hij q q' o o' h1 => ?_, by simp [L2.start, enStart, hl]⟩
  · cases i with
    | zero =>
      simp at q; subst q
      exact ⟨.ref p, by simp [L2.start], p, dx, [], rfl, hide_same, hf, hp, rfl, rfl, fun a h => Option.some.inj h⟩
    | succ i =>
      have q : (enStart N ds)[i]? = some (some sk) := by simpa using q
      unfold enStart at q
      by_cases c : i < ds.length
      · rw [List.getElem?_append_left (by simpa using c), List.getElem?_map, List.getElem?_eq_getElem c] at q
        cases q
        obtain ⟨v, h1, h2⟩ := r.get (List.getElem?_eq_getElem c)
        refine ⟨v, ?_, h2⟩
        unfold L2.start
        rw [List.getElem?_append_left (by simp only [List.map_cons, List.length_cons, List.length_map]; omega), List.getElem?_map, List.getElem?_cons_succ, h1]; rfl
      · rw [List.getElem?_append_right (by simpa using c), List.getElem?_replicate] at q
        split at q <;> cases q
  · have im : ∀ (i : Nat) (sk : Sk), (some (Sk.oi (some p) c [] []) :: enStart N ds)[i]? = some (some sk) → sk.own = true → i = 0 := by
      intro i sk q o
      cases i with
      | zero => rfl
      | succ i =>
        have q : (enStart N ds)[i]? = some (some sk) := by simpa using q
        unfold enStart at q
        by_cases c : i < ds.length
        · rw [List.getElem?_append_left (by simpa using c), List.getElem?_map, List.getElem?_eq_getElem c] at q
          cases q; cases o
        · rw [List.getElem?_append_right (by simpa using c), List.getElem?_replicate] at q
          split at q <;> cases q
    exact absurd ((im i sk q o).trans (im j sk' q' o').symm) hij
theorem fn_okI {N ps : List Str} {n0 : Str} {k : Nat} {β τ : Type} [ToDs β] [ToD τ] {fM : β → Res τ} {c : Str} (F : FunD K x qual params body scope dvs kws f fd) (S : FnScope (n0 :: N) ps scope) (hl : ∀ y : β, (ToDs.ds y).length + 1 = ps.length)
    (hbody : ∀ (cdv : Value) (A : Around) (outer : List Env) (s : Shared) (H : Hp) (E : XK), Room k (A.deeper (PyProof.Rows.envOfC qual scope s.heap.objs.size f cdv)) →
      ∃ t, PSs (cxOf (L2.CX P w) P w K mg base (n0 :: N) qual scope f cdv A outer s H E) body t ∧
        ∀ (y : β) (p : Addr) (F0 H0 : Hp) (Q : VK) (KP : Res τ → Prop), Lk K (fun cls d _ H => E cls d H) F0 H0 (fun v H' => v = .ref p → Q .non H') (fun _ => True) KP → Blk K F0 H0 KP (t { nx := fun _ H' => Q .non H', rt := Q }) (some (.oi (some p) c [] []) :: enStart N (ToDs.ds y)) (fM y)) :
    FnOk P w K mg base (L2.CX P w) (k + 1) f fd ps (spI K c fM) := by
  refine F.ok S (fun vs H Q E h => ?_) (fun cdv A outer s H vs Q E hr h => ?_)
  · obtain ⟨F, y, p, dx, ws, rfl, _, _, _, r, _⟩ := h
    rw [← hl y, List.length_cons, ← r.length]
  · obtain ⟨t, h1, h2⟩ := hbody cdv A outer s H E hr
    refine ⟨t, h1, ?_⟩
    obtain ⟨F, y, p, dx, ws, rfl, e, hf, hp, r, q⟩ := h
    refine h2 y p F (hide H p) Q (fun r => KIn K F H p Q E r) ⟨fun z h v F' H' a r z => ?_, fun c F' H' σ env h _ S' => h F' H' S'.adv, fun z => z⟩ F H _ (sl_startI e hf hp r) q
    subst z
    exact h F' H' a r
end
end Mi
namespace Mi
open PySem PySem.Spec L2
open Evl (Ex)
structure T5 (α β γ δ ε : Type) where
  a : α
  b : β
  c : γ
  e : δ
  f : ε
structure T6 (α β γ δ ε ζ : Type) where
  a : α
  b : β
  c : γ
  e : δ
  f : ε
  g : ζ
structure T8 (α β γ δ ε ζ η θ : Type) where
  a : α
  b : β
  c : γ
  e : δ
  f : ε
  g : ζ
  h : η
  i : θ
instance {α β γ δ ε : Type} [ToD α] [ToD β] [ToD γ] [ToD δ] [ToD ε] : ToD (T5 α β γ δ ε) := ⟨fun x => .tup [ToD.d x.a, ToD.d x.b, ToD.d x.c, ToD.d x.e, ToD.d x.f]⟩
instance {α β γ δ ε ζ : Type} [ToD α] [ToD β] [ToD γ] [ToD δ] [ToD ε] [ToD ζ] : ToD (T6 α β γ δ ε ζ) := ⟨fun x => .tup [ToD.d x.a, ToD.d x.b, ToD.d x.c, ToD.d x.e, ToD.d x.f, ToD.d x.g]⟩
instance {α β γ δ ε ζ η θ : Type} [ToD α] [ToD β] [ToD γ] [ToD δ] [ToD ε] [ToD ζ] [ToD η] [ToD θ] : ToD (T8 α β γ δ ε ζ η θ) := ⟨fun x => .tup [ToD.d x.a, ToD.d x.b, ToD.d x.c, ToD.d x.e, ToD.d x.f, ToD.d x.g, ToD.d x.h, ToD.d x.i]⟩
def optGet {α : Type} : Option α → Res α
  | some x => .ok x
  | none => .stuck
theorem optGet_ok {α : Type} [ToD α] : ∀ (x : Option α) (y : α), optGet x = .ok y → toD y = toD x
  | some x, y, h => by cases h; rfl
  | none, y, h => by cases h
theorem optGet_x {α : Type} : ∀ (x : Option α) (c : Str), optGet x ≠ .exc c
  | some x, c, h => by cases h
  | none, c, h => by cases h
def D.asT1 : D → Res (T1 D)
  | .tup [a] => .ok ⟨a⟩
  | _ => .stuck
def D.asT2 : D → Res (T2 D D)
  | .tup [a, b] => .ok ⟨a, b⟩
  | _ => .stuck
def D.asT3 : D → Res (T3 D D D)
  | .tup [a, b, c] => .ok ⟨a, b, c⟩
  | _ => .stuck
theorem asT1_ok : ∀ (x : D) (y : T1 D), x.asT1 = .ok y → toD y = x := by
  intro x y h
  unfold D.asT1 at h
  split at h
  · cases h; rfl
  · cases h
theorem asT2_ok : ∀ (x : D) (y : T2 D D), x.asT2 = .ok y → toD y = x := by
  intro x y h
  unfold D.asT2 at h
  split at h
  · cases h; rfl
  · cases h
theorem asT3_ok : ∀ (x : D) (y : T3 D D D), x.asT3 = .ok y → toD y = x := by
  intro x y h
  unfold D.asT3 at h
  split at h
  · cases h; rfl
  · cases h
theorem asT1_x (x : D) (c : Str) : x.asT1 ≠ .exc c := by intro h; unfold D.asT1 at h; split at h <;> cases h
theorem asT2_x (x : D) (c : Str) : x.asT2 ≠ .exc c := by intro h; unfold D.asT2 at h; split at h <;> cases h
theorem asT3_x (x : D) (c : Str) : x.asT3 ≠ .exc c := by intro h; unfold D.asT3 at h; split at h <;> cases h
def D.lenR : D → Res Int
  | .tup xs => .ok (xs.length : Int)
  | .lst xs => .ok (xs.length : Int)
  | _ => .stuck
section
variable {K : PySem.W.Frag} {W : WX} {F0 H0 F H F' H' F1 : Hp} {rt : VK} {PT : En → Prop} {env env' : En} {α β γ τ : Type} [ToD α] [ToD β] [ToD γ] [ToD τ] {KP : Res τ → Prop} {te ta tb tc : TE} {tt : TT} {Z : Ends} {t u : TS} {T : L2.St → Hp → Prop} {σ : L2.St}
theorem ev_castG {m : Res α} {f : α → Res β} (hf : ∀ x y, f x = .ok y → toD y = toD x) (hx : ∀ x c, f x ≠ .exc c) (h : EvX K W env te m) : EvX K W env te (m.bind f) := fun F0 H0 F H σ Q S k => by
  refine h F0 H0 F H σ _ S ?_
  cases m with
  | ok x =>
    intro v F1 H1 a r
    have k : KE K W F H σ Q (f x) := k
    cases e : f x with
    | ok y => rw [e] at k; exact k v F1 H1 a (by rw [hf x y e]; exact r)
    | exc c => exact absurd e (hx x c)
    | stuck => rw [e] at k; exact k.elim
  | exc c => exact k
  | stuck => exact k.elim
theorem ev_lenD {m : Res D} (h : EvX K W env te m) : EvX K W env (tCB (rLenS K) (tCons te tNil)) (m.bind fun x => D.lenR x) := fun F0 H0 F H σ Q S k => by
  refine h F0 H0 F H σ _ S (KE.cut S.ex k fun x v F1 H1 e1 a1 r1 k1 => ?_)
  have k1 : KE K W F1 H1 σ Q (D.lenR x) := k1
  cases x with
  | tup xs =>
    obtain ⟨a, vs, rfl, h2, h3⟩ := r1
    refine ⟨a, vs, rfl, .inr (Evl.ex_t a1.in_ h2), ?_⟩
    have := k1 (.int xs.length) F1 H1 (Adv.refl a1.in_) rfl
    rw [← h3.length]; exact this
  | lst xs =>
    obtain ⟨a, vs, rfl, h2, h3⟩ := r1
    refine ⟨a, vs, rfl, .inl (Evl.ex_l a1.in_ h2), ?_⟩
    have := k1 (.int xs.length) F1 H1 (Adv.refl a1.in_) rfl
    rw [← h3.length]; exact this
  | _ => exact k1.elim
theorem cx_lenTu : CrX K (rLenS K) (fun (p : Tu α × Unit) => .ok (p.1.xs.length : Int)) := fun F H x vs Q e r k => by
  obtain ⟨v, rs, rfl, r1, r2⟩ := r
  cases (show rs = [] from r2)
  obtain ⟨a, ws, rfl, h2, h3⟩ := r1
  refine ⟨a, ws, rfl, .inr (Evl.ex_t e h2), ?_⟩
  have := k (.int x.1.xs.length) F H (Adv.refl e) rfl
  rw [← h3.length, List.length_map]; exact this
end
end Mi
set_option maxHeartbeats 1000000
namespace Mi
open PySem PySem.Spec L2
/-! ### what follows, in plain mathematics -/
theorem need_bind {α β : Type} {p : Prop} (m : Res α) (f : α → Res β) : (Res.need p m).bind f = Res.need p (m.bind f) := by
  by_cases h : p
  · rw [Res.need_pos h, Res.need_pos h]
  · rw [Res.need_neg h, Res.need_neg h]; rfl
theorem cond_dec {α : Type} {p : Prop} [Decidable p] (a b : α) : cond (decide p) a b = if p then a else b := by
  by_cases h : p <;> simp [h]
theorem cond_not {α : Type} {p : Bool} (a b : α) : cond (!p) a b = cond p b a := by cases p <;> rfl
theorem ibits_le {i : Int} {n : Nat} (h : Builtin.Int.intBits i ≤ n) : i.natAbs < 2 ^ n := by
  unfold Builtin.Int.intBits at h
  split at h
  · rename_i h0
    have : i = 0 := by simpa using h0
    subst this
    exact Nat.two_pow_pos n
  · rename_i h0
    have hne : i.natAbs ≠ 0 := by
      intro z
      apply h0
      have : i = 0 := Int.natAbs_eq_zero.mp z
      simp [this]
    have h1 : i.natAbs.log2 < n := by omega
    exact (Nat.log2_lt hne).mp h1
theorem le_ibits {i : Int} {n : Nat} (h : i.natAbs < 2 ^ n) : Builtin.Int.intBits i ≤ n := by
  unfold Builtin.Int.intBits
  split
  · exact Nat.zero_le _
  · rename_i h0
    have hne : i.natAbs ≠ 0 := by
      intro z
      apply h0
      have : i = 0 := Int.natAbs_eq_zero.mp z
      simp [this]
    have := (Nat.log2_lt hne).mpr h
    omega
theorem cmulx {i j : Int} {a b : Nat} (ha : i.natAbs < 2 ^ a) (hb : j.natAbs < 2 ^ b) (h : a + b ≤ 134217728) : CMulX i j := mulx_ok ha hb h
theorem need_mulx {α : Type} {i j : Int} {m : Res α} {a b : Nat} (ha : i.natAbs < 2 ^ a) (hb : j.natAbs < 2 ^ b) (h : a + b ≤ 134217728) : Res.need (CMulX i j) m = m := Res.need_pos (cmulx ha hb h)
theorem pow_add_lt {x y a b : Nat} (ha : x < 2 ^ a) (hb : y < 2 ^ b) : x * y < 2 ^ (a + b) := by
  rw [Nat.pow_add]; exact Nat.mul_lt_mul'' ha hb
theorem idx_nat {α : Type} {xs : List α} {j : Nat} {v : α} (h : xs[j]? = some v) : idx xs (j : Int) = .ok v := by
  unfold idx; rw [atI_nat h]
theorem idx_int {α : Type} {xs : List α} {i : Int} {v : α} (h0 : 0 ≤ i) (h : xs[i.toNat]? = some v) : idx xs i = .ok v := by
  have : i = (i.toNat : Int) := by omega
  rw [this]; exact idx_nat h
theorem idx_last {α : Type} (xs : List α) (v : α) : idx (xs ++ [v]) (-1) = .ok v := by
  unfold idx; rw [atI_last]
theorem pow31 : ((2 : Int) ^ (31 : Int).toNat) = 2147483648 := by decide +kernel
theorem pow18 : ((10 : Int) ^ (18 : Int).toNat) = 1000000000000000000 := by decide +kernel
theorem m31_lt : (2147483648 : Int).natAbs < 2 ^ 32 := by decide +kernel
theorem compL_none {α β : Type} {t : α → Res Bool} {e : α → Res β} {xs : List α} (h : ∀ x ∈ xs, t x = .ok false) : compL t e xs = .ok [] := by
  induction xs with
  | nil => rfl
  | cons x r ih =>
    show (t x).bind _ = _
    rw [h x List.mem_cons_self]
    exact ih fun y hy => h y (List.mem_cons_of_mem _ hy)
theorem compL_map {α β : Type} {t : α → Res Bool} {e : α → Res β} {g : α → β} {xs : List α} (ht : ∀ x ∈ xs, t x = .ok true) (he : ∀ x ∈ xs, e x = .ok (g x)) : compL t e xs = .ok (xs.map g) := by
  induction xs with
  | nil => rfl
  | cons x r ih =>
    show (t x).bind _ = _
    rw [ht x List.mem_cons_self]
    show (e x).bind _ = _
    rw [he x List.mem_cons_self]
    show (compL t e r).bind _ = _
    rw [ih (fun y hy => ht y (List.mem_cons_of_mem _ hy)) fun y hy => he y (List.mem_cons_of_mem _ hy)]
    rfl
theorem bit1 (x : Int) : Builtin.bitAnd x 1 = x % 2 := by
  have := PySem.W.kbt_mask x 1
  simpa using this
theorem bind_ite {α β : Type} {p : Prop} [Decidable p] (a b : Res α) (f : α → Res β) : (if p then a else b).bind f = if p then a.bind f else b.bind f := by split <;> rfl
theorem idx_getLast {α : Type} {xs : List α} {v : α} (h : xs.getLast? = some v) : idx xs (-1) = .ok v := by
  obtain ⟨ys, rfl⟩ := List.getLast?_eq_some_iff.mp h
  exact idx_last ys v
/-! == of data -/
theorem pyEq_int (i j : Int) : pyEq (.int i) (.int j) = (i == j) := by simp [pyEq, D.py, PyData.eqv]
mutual
/-- no truth values within -/
def D.nob : D → Bool
  | .bl _ => false
  | .ty _ => false
  | .obj _ _ _ => false
  | .tup xs => nobL xs
  | .lst xs => nobL xs
  | _ => true
def nobL : List D → Bool
  | [] => true
  | x :: xs => D.nob x && nobL xs
end
mutual
theorem pyEq_iff : ∀ (x y : D), x.nob = true → y.nob = true → (PyData.eqv x.py y.py = true ↔ x = y)
  | .non, y, _, h => by cases y <;> simp_all [D.py, PyData.eqv, D.nob]
  | .int i, y, _, h => by cases y <;> simp_all [D.py, PyData.eqv, D.nob]
  | .str s, y, _, h => by cases y <;> simp_all [D.py, PyData.eqv, D.nob]
  | .bl b, y, h, _ => by cases h
  | .ty b, y, h, _ => by cases h
  | .obj a b c, y, h, _ => by cases h
  | .tup xs, y, h1, h => by
    cases y with
    | tup ys =>
      have := pyEqL_iff xs ys h1 h
      simp only [D.py, PyData.eqv, D.tup.injEq]; exact this
    | bl b => cases h
    | ty b => cases h
    | obj a b c => cases h
    | _ => simp [D.py, PyData.eqv]
  | .lst xs, y, h1, h => by
    cases y with
    | lst ys =>
      have := pyEqL_iff xs ys h1 h
      simp only [D.py, PyData.eqv, D.lst.injEq]; exact this
    | bl b => cases h
    | ty b => cases h
    | obj a b c => cases h
    | _ => simp [D.py, PyData.eqv]
theorem pyEqL_iff : ∀ (xs ys : List D), nobL xs = true → nobL ys = true → (PyData.eqvAll (pyL xs) (pyL ys) = true ↔ xs = ys)
  | [], ys, _, h => by cases ys <;> simp [pyL, PyData.eqvAll]
  | x :: xs, ys, h1, h => by
    cases ys with
    | nil => simp [pyL, PyData.eqvAll]
    | cons y ys =>
      obtain ⟨a1, a2⟩ := Bool.and_eq_true_iff.mp (show (D.nob x && nobL xs) = true from h1)
      obtain ⟨b1, b2⟩ := Bool.and_eq_true_iff.mp (show (D.nob y && nobL ys) = true from h)
      simp only [pyL, PyData.eqvAll, Bool.and_eq_true, pyEq_iff x y a1 b1, pyEqL_iff xs ys a2 b2, List.cons.injEq]
end
theorem pyEq_dec {x y : D} (hx : x.nob = true) (hy : y.nob = true) : pyEq x y = true ↔ x = y := pyEq_iff x y hx hy
theorem pyEq_self {x : D} (hx : x.nob = true) : pyEq x x = true := (pyEq_dec hx hx).mpr rfl
theorem pyEq_ne {x y : D} (hx : x.nob = true) (hy : y.nob = true) (h : x ≠ y) : pyEq x y = false := by
  cases e : pyEq x y with
  | false => rfl
  | true => exact absurd ((pyEq_dec hx hy).mp e) h
theorem nob_ints : ∀ xs : List Int, nobL (xs.map D.int) = true
  | [] => rfl
  | _ :: xs => nob_ints xs
theorem nob_strs : ∀ xs : List Str, nobL (xs.map D.str) = true
  | [] => rfl
  | _ :: xs => nob_strs xs
theorem flat_ints : ∀ xs : List Int, flatL (xs.map D.int) = true
  | [] => rfl
  | _ :: xs => flat_ints xs
theorem lay_ints : ∀ xs : List Int, PyData.canLayAll0 (pyL (xs.map D.int)) = true
  | [] => rfl
  | _ :: xs => by show (true && _) = true; rw [lay_ints xs]; rfl
theorem dep_ints : ∀ xs : List Int, PyData.depthAll (pyL (xs.map D.int)) = 0
  | [] => rfl
  | _ :: xs => by show max 0 _ = 0; rw [dep_ints xs]; rfl
theorem okq_ints (xs : List Int) : (toD xs).okq = true := by
  show (flatL (xs.map D.int) && (PyData.canLayAll0 (pyL (xs.map D.int)) && decide (PyData.depthAll (pyL (xs.map D.int)) + 1 ≤ 64))) = true
  rw [flat_ints, lay_ints, dep_ints]; rfl
theorem toD_ints_inj {xs ys : List Int} (h : toD xs = toD ys) : xs = ys := by
  have h : xs.map D.int = ys.map D.int := D.lst.inj h
  exact List.map_inj_right (fun a b q => D.int.inj q) |>.mp h
theorem pyEq_ints (xs ys : List Int) : pyEq (toD xs) (toD ys) = decide (xs = ys) := by
  by_cases h : xs = ys
  · subst h; rw [pyEq_self (show (toD xs).nob = true from nob_ints xs)]; simp
  · rw [pyEq_ne (show (toD xs).nob = true from nob_ints xs) (show (toD ys).nob = true from nob_ints ys) fun e => h (toD_ints_inj e)]; simp [h]
theorem lmin_mem {es : List Int} (h : 0 < es.length) : lmin es ∈ es := by
  cases es with
  | nil => simp at h
  | cons x r =>
    rcases foldl_min_mem r x with q | q
    · show r.foldl min x ∈ x :: r
      rw [q]; exact List.mem_cons_self
    · exact List.mem_cons_of_mem _ q
theorem lmax_mem {es : List Int} (h : 0 < es.length) : lmax es ∈ es := by
  cases es with
  | nil => simp at h
  | cons x r =>
    rcases foldl_max_mem r x with q | q
    · show r.foldl max x ∈ x :: r
      rw [q]; exact List.mem_cons_self
    · exact List.mem_cons_of_mem _ q
theorem pyRange_drop {n i : Nat} (h : i < n) : (pyRange 0 (n : Int)).drop i = (i : Int) :: (pyRange 0 (n : Int)).drop (i + 1) := by
  have hl : (pyRange 0 (n : Int)).length = n := by rw [pyRange_len]; omega
  rw [List.drop_eq_getElem_cons (by omega)]
  congr 1
  have := pyRange_get (lo := 0) (hi := (n : Int)) (i := i) (by omega)
  rw [List.getElem?_eq_getElem (by omega)] at this
  have := Option.some.inj this
  omega
theorem pyRange_nonneg {k n : Int} (h : k ∈ pyRange 0 n) : 0 ≤ k := by
  obtain ⟨i, _, rfl⟩ := List.mem_map.mp h
  omega
theorem toD_D (x : D) : toD x = x := rfl
theorem okq_int (i : Int) : (toD (D.int i)).okq = true := rfl
theorem compL_get {α β : Type} (f : α → Res β) {xs : List α} {ys : List β} (h : xs.length = ys.length) (he : ∀ i (h1 : i < xs.length) (h2 : i < ys.length), f xs[i] = .ok ys[i]) : compL (fun _ => .ok true) f xs = .ok ys := by
  induction xs generalizing ys with
  | nil => cases ys with
    | nil => rfl
    | cons y r => simp at h
  | cons x xs ih =>
    cases ys with
    | nil => simp at h
    | cons y ys =>
      show (f x).bind _ = _
      rw [show f x = .ok y from he 0 (by simp) (by simp)]
      show (compL (fun _ => .ok true) f xs).bind _ = _
      rw [ih (by simpa using h) fun i h1 h2 => he (i + 1) (by simp; omega) (by simp; omega)]
      rfl
end Mi
set_option maxHeartbeats 4000000
namespace Mi
open PySem PySem.Spec L2
def topS (i : Nat) : Stmt := PySem.Challenge.pw_curveseal_k00_numbers_in_bytes.main.body.getD i (.Pass ⟨0, 0, 0, 0⟩)

abbrev s_to_little : Stmt := topS 6
theorem sc_to_little : FnScope ["number", "size", "at"] ["number", "size"] (defScope s_to_little) := ⟨rfl, rfl, rfl, by decide +kernel, rfl, by decide +kernel, by decide +kernel⟩
abbrev s_to_big : Stmt := topS 7
theorem sc_to_big : FnScope ["number", "size"] ["number", "size"] (defScope s_to_big) := ⟨rfl, rfl, rfl, by decide +kernel, rfl, by decide +kernel, by decide +kernel⟩
abbrev s_from_big : Stmt := topS 8
theorem sc_from_big : FnScope ["data", "number", "byte"] ["data"] (defScope s_from_big) := ⟨rfl, rfl, rfl, by decide +kernel, rfl, by decide +kernel, by decide +kernel⟩
abbrev s_from_little : Stmt := topS 9
theorem sc_from_little : FnScope ["data"] ["data"] (defScope s_from_little) := ⟨rfl, rfl, rfl, by decide +kernel, rfl, by decide +kernel, by decide +kernel⟩
abbrev s_u_law_cell : Stmt := topS 11
theorem sc_u_law_cell : FnScope ["script", "k"] ["script", "k"] (defScope s_u_law_cell) := ⟨rfl, rfl, rfl, by decide +kernel, rfl, by decide +kernel, by decide +kernel⟩
abbrev s_u_law_is_integer : Stmt := topS 12
theorem sc_u_law_is_integer : FnScope ["actual"] ["actual"] (defScope s_u_law_is_integer) := ⟨rfl, rfl, rfl, by decide +kernel, rfl, by decide +kernel, by decide +kernel⟩
abbrev s_u_law_bytes : Stmt := topS 13
theorem sc_u_law_bytes : FnScope ["cell", "salt", "count", "rest", "data", "k", "state"] ["cell", "salt", "count"] (defScope s_u_law_bytes) := ⟨rfl, rfl, rfl, by decide +kernel, rfl, by decide +kernel, by decide +kernel⟩
abbrev s_u_law_is_bytes : Stmt := topS 14
theorem sc_u_law_is_bytes : FnScope ["actual", "count", "byte"] ["actual", "count"] (defScope s_u_law_is_bytes) := ⟨rfl, rfl, rfl, by decide +kernel, rfl, by decide +kernel, by decide +kernel⟩
abbrev s_u_law_number : Stmt := topS 15
theorem sc_u_law_number : FnScope ["cell", "salt", "rest", "state", "number", "k"] ["cell", "salt"] (defScope s_u_law_number) := ⟨rfl, rfl, rfl, by decide +kernel, rfl, by decide +kernel, by decide +kernel⟩
abbrev s_u_law_smallest : Stmt := topS 16
theorem sc_u_law_smallest : FnScope ["number", "size", "k"] ["number"] (defScope s_u_law_smallest) := ⟨rfl, rfl, rfl, by decide +kernel, rfl, by decide +kernel, by decide +kernel⟩
abbrev s_u_law_written : Stmt := topS 17
theorem sc_u_law_written : FnScope ["number", "size", "data", "k"] ["number", "size"] (defScope s_u_law_written) := ⟨rfl, rfl, rfl, by decide +kernel, rfl, by decide +kernel, by decide +kernel⟩
abbrev s_u_law_told : Stmt := topS 18
theorem sc_u_law_told : FnScope ["number", "size", "big", "e"] ["number", "size", "big"] (defScope s_u_law_told) := ⟨rfl, rfl, rfl, by decide +kernel, rfl, by decide +kernel, by decide +kernel⟩
abbrev s_u_law_right : Stmt := topS 19
theorem sc_u_law_right : FnScope ["number", "size", "big", "little", "limit", "k", "due"] ["number", "size"] (defScope s_u_law_right) := ⟨rfl, rfl, rfl, by decide +kernel, rfl, by decide +kernel, by decide +kernel⟩
abbrev s_law : Stmt := topS 20
theorem sc_law : FnScope ["script", "number", "size", "data", "handed", "little", "big", "k", "found"] ["script"] (defScope s_law) := ⟨rfl, rfl, rfl, by decide +kernel, rfl, by decide +kernel, by decide +kernel⟩
def errs : List Str := ["CurveError", "OutOfRange", "Malformed", "Refused"]
def ancE : List (Str × List Str) := [("CurveError", ["CurveError"]), ("OutOfRange", ["OutOfRange", "CurveError"]), ("Malformed", ["Malformed", "CurveError"]), ("Refused", ["Refused", "CurveError"])]
def subE (c d : Str) : Bool := match ancE.lookup c with | some l => decide (d ∈ l) | none => false
abbrev FnP (K : PySem.W.Frag) (x q : Str) (st : Stmt) (f : Addr) (fd : FuncData) : Prop := FunD K x q (defArgs st) (defBody st) (defScope st) [] [] f fd
structure Facts (K : PySem.W.Frag) (mg : Str → Option Value) : Prop where
  d_to_little : ∃ fd, FnP K "to_little" "to_little" s_to_little (He.ga K "to_little") fd
  g_to_little : mg "to_little" = some (.ref (He.ga K "to_little"))
  d_to_big : ∃ fd, FnP K "to_big" "to_big" s_to_big (He.ga K "to_big") fd
  g_to_big : mg "to_big" = some (.ref (He.ga K "to_big"))
  d_from_big : ∃ fd, FnP K "from_big" "from_big" s_from_big (He.ga K "from_big") fd
  g_from_big : mg "from_big" = some (.ref (He.ga K "from_big"))
  d_from_little : ∃ fd, FnP K "from_little" "from_little" s_from_little (He.ga K "from_little") fd
  g_from_little : mg "from_little" = some (.ref (He.ga K "from_little"))
  d_u_law_cell : ∃ fd, FnP K "_law_cell" "_law_cell" s_u_law_cell (He.ga K "_law_cell") fd
  g_u_law_cell : mg "_law_cell" = some (.ref (He.ga K "_law_cell"))
  d_u_law_is_integer : ∃ fd, FnP K "_law_is_integer" "_law_is_integer" s_u_law_is_integer (He.ga K "_law_is_integer") fd
  g_u_law_is_integer : mg "_law_is_integer" = some (.ref (He.ga K "_law_is_integer"))
  d_u_law_bytes : ∃ fd, FnP K "_law_bytes" "_law_bytes" s_u_law_bytes (He.ga K "_law_bytes") fd
  g_u_law_bytes : mg "_law_bytes" = some (.ref (He.ga K "_law_bytes"))
  d_u_law_is_bytes : ∃ fd, FnP K "_law_is_bytes" "_law_is_bytes" s_u_law_is_bytes (He.ga K "_law_is_bytes") fd
  g_u_law_is_bytes : mg "_law_is_bytes" = some (.ref (He.ga K "_law_is_bytes"))
  d_u_law_number : ∃ fd, FnP K "_law_number" "_law_number" s_u_law_number (He.ga K "_law_number") fd
  g_u_law_number : mg "_law_number" = some (.ref (He.ga K "_law_number"))
  d_u_law_smallest : ∃ fd, FnP K "_law_smallest" "_law_smallest" s_u_law_smallest (He.ga K "_law_smallest") fd
  g_u_law_smallest : mg "_law_smallest" = some (.ref (He.ga K "_law_smallest"))
  d_u_law_written : ∃ fd, FnP K "_law_written" "_law_written" s_u_law_written (He.ga K "_law_written") fd
  g_u_law_written : mg "_law_written" = some (.ref (He.ga K "_law_written"))
  d_u_law_told : ∃ fd, FnP K "_law_told" "_law_told" s_u_law_told (He.ga K "_law_told") fd
  g_u_law_told : mg "_law_told" = some (.ref (He.ga K "_law_told"))
  d_u_law_right : ∃ fd, FnP K "_law_right" "_law_right" s_u_law_right (He.ga K "_law_right") fd
  g_u_law_right : mg "_law_right" = some (.ref (He.ga K "_law_right"))
  d_law : ∃ fd, FnP K "law" "law" s_law (He.ga K "law") fd
  g_law : mg "law" = some (.ref (He.ga K "law"))
  g_CurveError : mg "CurveError" = some (.ref (He.ga K "CurveError"))
  g_OutOfRange : mg "OutOfRange" = some (.ref (He.ga K "OutOfRange"))
  g_Malformed : mg "Malformed" = some (.ref (He.ga K "Malformed"))
  g_Refused : mg "Refused" = some (.ref (He.ga K "Refused"))
  x_OutOfRange : PySem.W.excIn K (He.ga K "OutOfRange") He.veBase "ValueError.__new__" = true
  k_OutOfRange : PySem.W.keepIn K (.ref (He.ga K "OutOfRange")) = true
  b_OutOfRange : PySem.W.subIn K (.ref (He.ga K "OutOfRange")) (.type "BaseException") = some true
  t_OutOfRange : PySem.W.typeIn K (.ref (He.ga K "OutOfRange")) = some (.type "type")
  n_ValueError : mg "ValueError" = none
  n_abs : mg "abs" = none
  n_bool : mg "bool" = none
  n_int : mg "int" = none
  n_isinstance : mg "isinstance" = none
  n_len : mg "len" = none
  n_list : mg "list" = none
  n_max : mg "max" = none
  n_range : mg "range" = none
  cls : Cls K errs subE
noncomputable def m_to_little (number_ : Int) (size_ : Int) : Res (List Int) :=
  ((((Res.ok number_)).bind fun (t1 : Int) => ((Res.ok (0 : Int))).bind fun (t2 : Int) => Res.ok (decide (t1 < t2))).bind fun b8 => cond b8 (Res.ok true) ((((Res.ok number_)).bind fun (t3 : Int) => Res.ok ((Builtin.Int.intBits t3 : Nat) : Int)).bind fun (t6 : Int) => (((Res.ok (8 : Int))).bind fun (t4 : Int) => ((Res.ok size_)).bind fun (t5 : Int) => Res.ok (t4 * t5)).bind fun (t7 : Int) => Res.ok (decide (t7 < t6)))).bind fun b => cond b   (((((Res.ok size_)).bind fun (t9 : Int) => Res.need (Nat.log2 (Int.natAbs t9) < 1920 ∧ (toString t9 : Str).length ≤ 1000) (Res.ok ()))).bind fun (_ : Unit) => Res.exc "OutOfRange")   ((((Res.ok size_)).bind fun (t10 : Int) => Res.need (okRange t10) (Res.ok (pyRange 0 t10))).bind fun (xs18 : List Int) => Res.need (xs18.length ≤ 16777216) (compL (fun (x11 : Int) => Res.ok true) (fun (x11 : Int) => (((Res.ok number_)).bind fun (t14 : Int) => (((Res.ok (8 : Int))).bind fun (t12 : Int) => ((Res.ok x11)).bind fun (t13 : Int) => Res.ok (t12 * t13)).bind fun (t15 : Int) => Res.need (0 ≤ t15) (Res.ok (t14 / 2 ^ t15.toNat))).bind fun (t16 : Int) => ((Res.ok (255 : Int))).bind fun (t17 : Int) => Res.ok (Builtin.bitAnd t16 t17)) xs18))
theorem ok_to_little {P : Program} {w : World} {K : PySem.W.Frag} {mg : Str → Option Value} {base : Heap} (T : Facts K mg) {fd : FuncData} (F : FnP K "to_little" "to_little" s_to_little (He.ga K "to_little") fd) :
    FnOk P w K mg base (L2.CX P w) 1 (He.ga K "to_little") fd ["number", "size"] (spM K (fun (p : Int × Int × Unit) => m_to_little p.1 p.2.1)) := by
  refine fn_ok F sc_to_little (fun y => rfl) (fun cdv A outer s H E hr => ?_)
  refine ⟨_, (pss_cons (ps_if (PW.pt (pw_or (pt_cmpR op_lt (pv 0) pe_int (nomark _)) (pw_or1 (pt_cmpR op_gt (pe_bits (pv 0)) (pe_op op_mul pe_int (pv 1)) (nomark _))))) (pss_one (ps_raise rfl (takes_of rfl rfl rfl rfl) (SkE.pmk_own1 PySem.F.excBase_ValueError T.x_OutOfRange T.g_OutOfRange T.k_OutOfRange (raises_own T.b_OutOfRange T.t_OutOfRange) rfl (pe_joined (PJ.cons pe_str (PJ.cons (pe_fmt (pv 1)) (PJ.cons pe_str PJ.nil))))))) pss_nil) (pss_one (ps_ret (pe_lc (own := [("at", 2)]) rfl sc_to_little.nd (pi_range1 rfl T.n_range (pa_cons (pv 1) pa_nil)) (blkOk_by (own := [("at", 2)]) (N := ["number", "size", "at"]) (sc := defScope s_to_little) (by decide +kernel)) (fun _ _ _ _ _ => (pg_name (i := 2) sc_to_little.nd rfl (Or.inl rfl))) (fun _ _ _ _ _ => pts_nil) (fun _ _ _ _ _ => (pe_op op_and (pe_op op_shr (pv 0) (pe_op op_mul pe_int (pv 2))) pe_int)))))), ?_⟩
  rintro ⟨number_, size_, ⟨⟩⟩ F0 H0 Q KP L
  show Blk K F0 H0 KP _ [some (.im (toD number_)), some (.im (toD size_)), none] (m_to_little number_ size_)
  unfold m_to_little
  have ht_ := ((et_or (et_test (ev_op (opx_B0 (g := fun i j => decide (i < j))) mild_ok (ev_var (i := 0) (x := number_) rfl) (ev_int (i := 0)))) (et_test (ev_op (opx_B0 (g := fun i j => decide (j < i))) mild_ok (ev_bits (ev_var (i := 0) (x := number_) rfl)) (ev_opI (C := CMul) (g := fun i j => i * j) (fun x y h _ => by cases h; exact .inl (by decide)) (ev_int (i := 8)) (ev_var (i := 1) (x := size_) rfl))))) : EvT K (W0 E) [some (.im (toD number_)), some (.im (toD size_)), none] _ _)
  refine blk_seq (blk_if2 L trivial ht_ ?_ ?_)
  · exact blk_raiseJ L trivial (by rw [sizeLine_eq]; decide) ((ej_txt (n := 29) (x := "the number does not fit into ") (by decide) (ej_int (ev_var (i := 1) (x := size_) rfl) (ej_txt (n := 6) (x := " bytes") (by decide) ej_nil))) : EvJ K (W0 E) [some (.im (toD number_)), some (.im (toD size_)), none] _ _ _)
  · refine blk_nil ?_
    try refine Blk.nx ?_
    have hr_ := ((ev_ofN (ev_comp (tst := fun (x11 : Int) => Res.ok true) (el := fun (x11 : Int) => (((Res.ok number_)).bind fun (t14 : Int) => (((Res.ok (8 : Int))).bind fun (t12 : Int) => ((Res.ok x11)).bind fun (t13 : Int) => Res.ok (t12 * t13)).bind fun (t15 : Int) => Res.need (0 ≤ t15) (Res.ok (t14 / 2 ^ t15.toNat))).bind fun (t16 : Int) => ((Res.ok (255 : Int))).bind fun (t17 : Int) => Res.ok (Builtin.bitAnd t16 t17)) (ws := [2]) (ei_range1 (ev_var (i := 1) (x := size_) rfl)) (fun _ => gx_name) (fun x11 => et_yes) (fun x11 => ((ev_op (opx_I0 (g := Builtin.bitAnd)) mild_ok (ev_op (opx_I (C := (fun _ j => 0 ≤ j)) (g := fun i j => i / 2 ^ j.toNat)) mild_need (ev_var (i := 0) (x := number_) rfl) (ev_opI (C := CMul) (g := fun i j => i * j) (fun x y h _ => by cases h; exact .inl (by decide)) (ev_int (i := 8)) (ev_var (i := 2) (x := x11) rfl))) (ev_int (i := 255))) : EvX K WT [some (.im (toD number_)), some (.im (toD size_)), some (.im (toD x11))] _ _)))) : EvX K (W0 E) [some (.im (toD number_)), some (.im (toD size_)), none] _ _)
    exact blk_ret L trivial hr_
noncomputable def m_to_big (number_ : Int) (size_ : Int) : Res (List Int) :=
  ((((Res.ok number_)).bind fun a20 => (((Res.ok size_)).bind fun a22 => (Res.ok ()).bind fun a23 => Res.ok (a22, a23)).bind fun a21 => Res.ok (a20, a21)).bind fun p19 => m_to_little p19.1 p19.2.1).bind fun (t24 : (List Int)) => Res.ok (List.reverse t24)
theorem ok_to_big {P : Program} {w : World} {K : PySem.W.Frag} {mg : Str → Option Value} {base : Heap} (T : Facts K mg) {fd : FuncData} (F : FnP K "to_big" "to_big" s_to_big (He.ga K "to_big") fd) :
    FnOk P w K mg base (L2.CX P w) 2 (He.ga K "to_big") fd ["number", "size"] (spM K (fun (p : Int × Int × Unit) => m_to_big p.1 p.2.1)) := by
  obtain ⟨fd_to_little, F_to_little⟩ := T.d_to_little
  have G_to_little := ok_to_little (P := P) (w := w) (base := base) T F_to_little
  have b_to_little : Binds K fd_to_little ["number", "size"] [] := F_to_little.bindsN fun _ _ _ _ _ _ us hl => match us, hl with | [_, _], _ => rfl
  refine fn_ok F sc_to_big (fun y => rfl) (fun cdv A outer s H E hr => ?_)
  refine ⟨_, (pss_one (ps_ret (pe_revL (pe_callS G_to_little (hr.mono (by decide)) rfl T.g_to_little F_to_little.kp b_to_little (fun σ => passAt (takes_of rfl rfl rfl rfl) σ) (pa_cons (pv 0) (pa_cons (pv 1) pa_nil)))))), ?_⟩
  rintro ⟨number_, size_, ⟨⟩⟩ F0 H0 Q KP L
  show Blk K F0 H0 KP _ [some (.im (toD number_)), some (.im (toD size_))] (m_to_big number_ size_)
  unfold m_to_big
  have hr_ := ((ev_ofN (en_rev (ev_call (f := (fun (p : Int × Int × Unit) => m_to_little p.1 p.2.1)) (ea_cons (ev_var (i := 0) (x := number_) rfl) (ea_cons (ev_var (i := 1) (x := size_) rfl) ea_nil))))) : EvX K (W0 E) [some (.im (toD number_)), some (.im (toD size_))] _ _)
  exact blk_ret L trivial hr_
noncomputable def m_from_big_l1 (k1 : Int → Res Int) : List Int → Int → Res Int
  | [], s => k1 s
  | x25 :: r1, number_ =>   (fun (byte_ : Int) => ((((Res.ok number_)).bind fun (t26 : Int) => ((Res.ok (8 : Int))).bind fun (t27 : Int) => Res.need (CShl t26 t27) (Res.ok (t26 * 2 ^ t27.toNat))).bind fun (t28 : Int) => ((Res.ok byte_)).bind fun (t29 : Int) => Res.ok (Builtin.bitOr t28 t29)).bind fun (number_ : Int) =>   m_from_big_l1 k1 r1 number_) x25
noncomputable def m_from_big_k2 : Int → Res Int := fun number_ =>   (Res.ok number_)
noncomputable def m_from_big (data_ : (List Int)) : Res Int :=
  ((Res.ok (0 : Int))).bind fun (number_ : Int) =>   ((Res.ok data_)).bind fun (xs30 : List Int) => m_from_big_l1 (m_from_big_k2) xs30 number_
theorem ok_from_big {P : Program} {w : World} {K : PySem.W.Frag} {mg : Str → Option Value} {base : Heap} (T : Facts K mg) {fd : FuncData} (F : FnP K "from_big" "from_big" s_from_big (He.ga K "from_big") fd) :
    FnOk P w K mg base (L2.CX P w) 1 (He.ga K "from_big") fd ["data"] (spM K (fun (p : (List Int) × Unit) => m_from_big p.1)) := by
  refine fn_ok F sc_from_big (fun y => rfl) (fun cdv A outer s H E hr => ?_)
  refine ⟨_, (pss_cons (ps_set (i := 1) sc_from_big.nd rfl (Or.inl rfl) pe_int) (pss_cons (ps_for (passes_of rfl) rfl (pi_list (pv 0)) (pg_name (i := 2) sc_from_big.nd rfl (Or.inl rfl)) (pss_one (ps_set (i := 1) sc_from_big.nd rfl (Or.inl rfl) (pe_op op_or (pe_op op_shlW (pv 1) pe_int) (pv 2))))) (pss_one (ps_ret (pv 1))))), ?_⟩
  rintro ⟨data_, ⟨⟩⟩ F0 H0 Q KP L
  show Blk K F0 H0 KP _ [some (.im (toD data_)), none, none] (m_from_big data_)
  unfold m_from_big
  have hs_ := ((ev_int (i := 0)) : EvX K (W0 E) [some (.im (toD data_)), none, none] _ _)
  refine blk_seq (blk_set (i := 1) L trivial hs_ fun number_ => ?_)
  show Blk _ _ _ _ _ [some (.im (toD data_)), some (.im (toD number_)), none] _
  try refine Blk.nx ?_
  have hi_ := ((ei_list (ev_var (i := 0) (x := data_) rfl)) : EvI K (W0 E) [some (.im (toD data_)), some (.im (toD number_)), none] _ _)
  refine blk_seq (blk_for (S := Int) (m_from_big_l1 (m_from_big_k2)) (m_from_big_k2) (fun number_ => [some (.im (toD data_)), some (.im (toD number_)), none]) number_ L trivial hi_ (fun _ => gx_name) (.same (.same (.same .nil))) (fun _ => rfl) ?_ ?_)
  · intro F1 L1 hB1 x25 r1 s_ N_ hN1
    revert s_; intro number_
    show Blk _ _ _ _ _ [some (.im (toD data_)), some (.im (toD number_)), some (.im (toD x25))] (m_from_big_l1 (m_from_big_k2) (x25 :: r1) number_)
    rw [m_from_big_l1]
    show Blk _ _ _ _ _ _ ((fun (byte_ : Int) => _) x25)
    generalize x25 = byte_
    show Blk _ _ _ _ _ [some (.im (toD data_)), some (.im (toD number_)), some (.im (toD byte_))] _
    have hs_ := ((ev_op (opx_I0 (g := Builtin.bitOr)) mild_ok (ev_op (opx_I (C := CShl) (g := fun i j => i * 2 ^ j.toNat)) mild_need (ev_var (i := 1) (x := number_) rfl) (ev_int (i := 8))) (ev_var (i := 2) (x := byte_) rfl)) : EvX K (W0 E) [some (.im (toD data_)), some (.im (toD number_)), some (.im (toD byte_))] _ _)
    refine blk_set (i := 1) L1 trivial hs_ fun number_ => ?_
    show Blk _ _ _ _ _ [some (.im (toD data_)), some (.im (toD number_)), some (.im (toD byte_))] _
    try refine Blk.nx ?_
    exact (hN1 number_).weak (.same (.same (.drop .nil)))
  · intro number_
    show Blk _ _ _ _ _ [some (.im (toD data_)), some (.im (toD number_)), none] ((m_from_big_k2) number_)
    unfold m_from_big_k2
    try refine Blk.nx ?_
    have hr_ := ((ev_var (i := 1) (x := number_) rfl) : EvX K (W0 E) [some (.im (toD data_)), some (.im (toD number_)), none] _ _)
    exact blk_ret L trivial hr_
noncomputable def m_from_little (data_ : (List Int)) : Res Int :=
  ((((Res.ok data_)).bind fun (t31 : (List Int)) => Res.ok (List.reverse t31)).bind fun a33 => (Res.ok ()).bind fun a34 => Res.ok (a33, a34)).bind fun p32 => m_from_big p32.1
theorem ok_from_little {P : Program} {w : World} {K : PySem.W.Frag} {mg : Str → Option Value} {base : Heap} (T : Facts K mg) {fd : FuncData} (F : FnP K "from_little" "from_little" s_from_little (He.ga K "from_little") fd) :
    FnOk P w K mg base (L2.CX P w) 2 (He.ga K "from_little") fd ["data"] (spM K (fun (p : (List Int) × Unit) => m_from_little p.1)) := by
  obtain ⟨fd_from_big, F_from_big⟩ := T.d_from_big
  have G_from_big := ok_from_big (P := P) (w := w) (base := base) T F_from_big
  have b_from_big : Binds K fd_from_big ["data"] [] := F_from_big.bindsN fun _ _ _ _ _ _ us hl => match us, hl with | [_], _ => rfl
  refine fn_ok F sc_from_little (fun y => rfl) (fun cdv A outer s H E hr => ?_)
  refine ⟨_, (pss_one (ps_ret (pe_callS G_from_big (hr.mono (by decide)) rfl T.g_from_big F_from_big.kp b_from_big (fun σ => passAt (takes_of rfl rfl rfl rfl) σ) (pa_cons (pe_revL (pv 0)) pa_nil)))), ?_⟩
  rintro ⟨data_, ⟨⟩⟩ F0 H0 Q KP L
  show Blk K F0 H0 KP _ [some (.im (toD data_))] (m_from_little data_)
  unfold m_from_little
  have hr_ := ((ev_call (f := (fun (p : (List Int) × Unit) => m_from_big p.1)) (ea_cons (ev_ofN (en_rev (ev_var (i := 0) (x := data_) rfl))) ea_nil)) : EvX K (W0 E) [some (.im (toD data_))] _ _)
  exact blk_ret L trivial hr_
noncomputable def m_u_law_cell (script_ : (List Int)) (k_ : Int) : Res Int :=
  (((Res.ok k_)).bind fun (t38 : Int) => ((((Res.ok script_)).bind fun a36 => (Res.ok ()).bind fun a37 => Res.ok (a36, a37)).bind fun p35 => Res.ok ((p35.1).length : Int)).bind fun (t39 : Int) => Res.ok (decide (t38 < t39))).bind fun b => cond b   (((((Res.ok script_)).bind fun (t40 : (List Int)) => ((Res.ok k_)).bind fun (t41 : Int) => idx t40 t41).bind fun a43 => (Res.ok ()).bind fun a44 => Res.ok (a43, a44)).bind fun p42 => Res.ok p42.1)   ((Res.ok (0 : Int)))
theorem ok_u_law_cell {P : Program} {w : World} {K : PySem.W.Frag} {mg : Str → Option Value} {base : Heap} (T : Facts K mg) {fd : FuncData} (F : FnP K "_law_cell" "_law_cell" s_u_law_cell (He.ga K "_law_cell") fd) :
    FnOk P w K mg base (L2.CX P w) 1 (He.ga K "_law_cell") fd ["script", "k"] (spM K (fun (p : (List Int) × Int × Unit) => m_u_law_cell p.1 p.2.1)) := by
  refine fn_ok F sc_u_law_cell (fun y => rfl) (fun cdv A outer s H E hr => ?_)
  refine ⟨_, (pss_cons (ps_if (pt_cmpR op_lt (pv 1) (pe_callB (cr_len rfl) (by rfl) T.n_len (by decide +kernel) (pa_cons (pv 0) pa_nil)) (nomark _)) (pss_one (ps_ret (pe_callTy call_int1 (by rfl) T.n_int (by decide +kernel) (pa_cons (pe_ix (cr_ixL rfl) (pv 0) (pv 1) (fun _ _ => rfl)) pa_nil)))) pss_nil) (pss_one (ps_ret pe_int))), ?_⟩
  rintro ⟨script_, k_, ⟨⟩⟩ F0 H0 Q KP L
  show Blk K F0 H0 KP _ [some (.im (toD script_)), some (.im (toD k_))] (m_u_law_cell script_ k_)
  unfold m_u_law_cell
  have ht_ := ((et_test (ev_op (opx_B0 (g := fun i j => decide (i < j))) mild_ok (ev_var (i := 1) (x := k_) rfl) (ev_cb cx_len (fun _ _ h => nomatch h) (ea_cons (ev_var (i := 0) (x := script_) rfl) ea_nil)))) : EvT K (W0 E) [some (.im (toD script_)), some (.im (toD k_))] _ _)
  refine blk_seq (blk_if2 L trivial ht_ ?_ ?_)
  · have hr_ := ((ev_cb cx_int (fun _ _ h => nomatch h) (ea_cons (ev_op opx_ixL (fun x y => idx_mild x y) (ev_var (i := 0) (x := script_) rfl) (ev_var (i := 1) (x := k_) rfl)) ea_nil)) : EvX K (W0 E) [some (.im (toD script_)), some (.im (toD k_))] _ _)
    exact blk_ret L trivial hr_
  · refine blk_nil ?_
    try refine Blk.nx ?_
    have hr_ := ((ev_int (i := 0)) : EvX K (W0 E) [some (.im (toD script_)), some (.im (toD k_))] _ _)
    exact blk_ret L trivial hr_
noncomputable def m_u_law_is_integer (actual_ : D) : Res Bool :=
  (((Res.ok actual_)).bind fun (t45 : D) => Res.need ((toD t45).plain = true) (Res.ok (isI "int" (toD t45)))).bind fun b48 => cond b48 ((((Res.ok actual_)).bind fun (t46 : D) => Res.need ((toD t46).plain = true) (Res.ok (isI "bool" (toD t46)))).bind fun (t47 : Bool) => Res.ok (!t47)) (Res.ok false)
theorem ok_u_law_is_integer {P : Program} {w : World} {K : PySem.W.Frag} {mg : Str → Option Value} {base : Heap} (T : Facts K mg) {fd : FuncData} (F : FnP K "_law_is_integer" "_law_is_integer" s_u_law_is_integer (He.ga K "_law_is_integer") fd) :
    FnOk P w K mg base (L2.CX P w) 1 (He.ga K "_law_is_integer") fd ["actual"] (spM K (fun (p : D × Unit) => m_u_law_is_integer p.1)) := by
  refine fn_ok F sc_u_law_is_integer (fun y => rfl) (fun cdv A outer s H E hr => ?_)
  refine ⟨_, (pss_one (ps_ret (pe_and (pe_callB call_isi (by rfl) T.n_isinstance (by decide +kernel) (pa_cons (pv 0) (pa_cons (pe_bltn (v := .ty "int") (by rfl) T.n_int (by decide +kernel) rfl) pa_nil))) (pe_one (pe_not (pe_callB call_isi (by rfl) T.n_isinstance (by decide +kernel) (pa_cons (pv 0) (pa_cons (pe_bltn (v := .ty "bool") (by rfl) T.n_bool (by decide +kernel) rfl) pa_nil)))))))), ?_⟩
  rintro ⟨actual_, ⟨⟩⟩ F0 H0 Q KP L
  show Blk K F0 H0 KP _ [some (.im (toD actual_))] (m_u_law_is_integer actual_)
  unfold m_u_law_is_integer
  have hr_ := ((ev_andV (ev_isi isi_int (ev_var (i := 0) (x := actual_) rfl)) (ev_notV (ev_isi isi_bool (ev_var (i := 0) (x := actual_) rfl)))) : EvX K (W0 E) [some (.im (toD actual_))] _ _)
  exact blk_ret L trivial hr_
noncomputable def m_u_law_bytes_l1 (k1 : Int × (List Int) → Res (List Int)) : List Int → Int × (List Int) → Res (List Int)
  | [], s => k1 s
  | x62 :: r1, (rest_, data_) =>   (fun (k_ : Int) => (((Res.ok rest_)).bind fun (t63 : Int) => ((Res.ok (256 : Int))).bind fun (t64 : Int) => Res.ok (t63 % t64)).bind fun (y67 : Int) => Res.need (data_.length < 16777216) ((fun (data_ : (List Int)) =>   (((Res.ok rest_)).bind fun (t65 : Int) => ((Res.ok (256 : Int))).bind fun (t66 : Int) => Res.ok (t65 / t66)).bind fun (rest_ : Int) =>   m_u_law_bytes_l1 k1 r1 (rest_, data_)) (data_ ++ [y67]))) x62
noncomputable def m_u_law_bytes_k2 : Int × (List Int) → Res (List Int) := fun (rest_, data_) =>   (Res.ok data_)
noncomputable def m_u_law_bytes_l5 (k5 : (List Int) × Int → Res (List Int)) : List Int → (List Int) × Int → Res (List Int)
  | [], s => k5 s
  | x105 :: r5, (data_, state_) =>   (fun (k_ : Int) => (((((Res.ok state_)).bind fun (t106 : Int) => ((Res.ok (16807 : Int))).bind fun (t107 : Int) => Res.ok (t106 * t107)).bind fun (t108 : Int) => ((Res.ok k_)).bind fun (t109 : Int) => Res.ok (t108 + t109)).bind fun (t110 : Int) => ((Res.ok (2147483647 : Int))).bind fun (t111 : Int) => Res.ok (t110 % t111)).bind fun (state_ : Int) =>   ((((Res.ok state_)).bind fun (t112 : Int) => ((Res.ok (251 : Int))).bind fun (t113 : Int) => Res.ok (t112 / t113)).bind fun (t114 : Int) => ((Res.ok (256 : Int))).bind fun (t115 : Int) => Res.ok (t114 % t115)).bind fun (y116 : Int) => Res.need (data_.length < 16777216) ((fun (data_ : (List Int)) =>   m_u_law_bytes_l5 k5 r5 (data_, state_)) (data_ ++ [y116]))) x105
noncomputable def m_u_law_bytes_k6 : (List Int) × Int → Res (List Int) := fun (data_, state_) =>   (Res.ok data_)
noncomputable def m_u_law_bytes (cell_ : Int) (salt_ : Int) (count_ : Int) : Res (List Int) :=
  ((((Res.ok cell_)).bind fun a50 => (Res.ok ()).bind fun a51 => Res.ok (a50, a51)).bind fun p49 => Res.ok (Int.natAbs p49.1 : Int)).bind fun (rest_ : Int) =>   ((Res.ok ()).bind fun p52 => Res.ok ([] : List Int)).bind fun (data_ : (List Int)) =>   (((Res.ok rest_)).bind fun (t55 : Int) => (((Res.ok (10 : Int))).bind fun (t53 : Int) => ((Res.ok (18 : Int))).bind fun (t54 : Int) => Res.ok (t53 ^ t54.toNat)).bind fun (t56 : Int) => Res.ok (decide (t56 ≤ t55))).bind fun b => cond b   ((((Res.ok rest_)).bind fun (t59 : Int) => (((Res.ok (10 : Int))).bind fun (t57 : Int) => ((Res.ok (18 : Int))).bind fun (t58 : Int) => Res.ok (t57 ^ t58.toNat)).bind fun (t60 : Int) => Res.ok (t59 - t60)).bind fun (rest_ : Int) =>   (((Res.ok count_)).bind fun (t61 : Int) => Res.need (okRange t61) (Res.ok (pyRange 0 t61))).bind fun (xs69 : List Int) => m_u_law_bytes_l1 (m_u_law_bytes_k2) xs69 (rest_, data_))   (((((Res.ok rest_)).bind fun (t70 : Int) => ((Res.ok (7 : Int))).bind fun (t71 : Int) => Res.ok (t70 % t71)).bind fun (t72 : Int) => ((Res.ok (5 : Int))).bind fun (t73 : Int) => Res.ok (decide (t72 = t73))).bind fun b => cond b   ((((Res.ok count_)).bind fun (t74 : Int) => Res.need (okRange t74) (Res.ok (pyRange 0 t74))).bind fun (xs93 : List Int) => Res.need (xs93.length ≤ 16777216) (compL (fun (x75 : Int) => Res.ok true) (fun (x75 : Int) => ((((Res.ok (0 : Int))).bind fun a77 => (((Res.ok (255 : Int))).bind fun a79 => (((Res.ok (1 : Int))).bind fun a81 => (((Res.ok (128 : Int))).bind fun a83 => (((Res.ok (127 : Int))).bind fun a85 => (Res.ok ()).bind fun a86 => Res.ok (a85, a86)).bind fun a84 => Res.ok (a83, a84)).bind fun a82 => Res.ok (a81, a82)).bind fun a80 => Res.ok (a79, a80)).bind fun a78 => Res.ok (a77, a78)).bind fun p76 => Res.ok ([p76.1, p76.2.1, p76.2.2.1, p76.2.2.2.1, p76.2.2.2.2.1] : List Int)).bind fun (t91 : (List Int)) => ((((Res.ok rest_)).bind fun (t87 : Int) => ((Res.ok (7 : Int))).bind fun (t88 : Int) => Res.ok (t87 / t88)).bind fun (t89 : Int) => ((Res.ok (5 : Int))).bind fun (t90 : Int) => Res.ok (t89 % t90)).bind fun (t92 : Int) => idx t91 t92) xs93))   (((((((Res.ok rest_)).bind fun (t94 : Int) => ((Res.ok (48271 : Int))).bind fun (t95 : Int) => Res.ok (t94 * t95)).bind fun (t98 : Int) => (((Res.ok salt_)).bind fun (t96 : Int) => ((Res.ok (69621 : Int))).bind fun (t97 : Int) => Res.ok (t96 * t97)).bind fun (t99 : Int) => Res.ok (t98 + t99)).bind fun (t100 : Int) => ((Res.ok (12345 : Int))).bind fun (t101 : Int) => Res.ok (t100 + t101)).bind fun (t102 : Int) => ((Res.ok (2147483647 : Int))).bind fun (t103 : Int) => Res.ok (t102 % t103)).bind fun (state_ : Int) =>   (((Res.ok count_)).bind fun (t104 : Int) => Res.need (okRange t104) (Res.ok (pyRange 0 t104))).bind fun (xs118 : List Int) => m_u_law_bytes_l5 (m_u_law_bytes_k6) xs118 (data_, state_)))
theorem ok_u_law_bytes {P : Program} {w : World} {K : PySem.W.Frag} {mg : Str → Option Value} {base : Heap} (T : Facts K mg) {fd : FuncData} (F : FnP K "_law_bytes" "_law_bytes" s_u_law_bytes (He.ga K "_law_bytes") fd) :
    FnOk P w K mg base (L2.CX P w) 1 (He.ga K "_law_bytes") fd ["cell", "salt", "count"] (spM K (fun (p : Int × Int × Int × Unit) => m_u_law_bytes p.1 p.2.1 p.2.2.1)) := by
  refine fn_ok F sc_u_law_bytes (fun y => rfl) (fun cdv A outer s H E hr => ?_)
  refine ⟨_, (pss_cons (ps_set (i := 3) sc_u_law_bytes.nd rfl (Or.inr rfl) (pe_callB call_abs (by rfl) T.n_abs (by decide +kernel) (pa_cons (pv 0) pa_nil))) (pss_cons (ps_set (i := 4) sc_u_law_bytes.nd rfl (Or.inl rfl) (pe_lst pa_nil)) (pss_cons (ps_if (pt_cmpR op_ge (pv 3) (pe_op op_pow pe_int pe_int) (nomark _)) (pss_cons (ps_set (i := 3) sc_u_law_bytes.nd rfl (Or.inr rfl) (pe_op op_sub (pv 3) (pe_op op_pow pe_int pe_int))) (pss_cons (ps_for (passes_of rfl) rfl (pi_range1 rfl T.n_range (pa_cons (pv 2) pa_nil)) (pg_name (i := 5) sc_u_law_bytes.nd rfl (Or.inl rfl)) (pss_cons (ps_expr (pe_bm PySem.F.plainAttrs_list PySem.F.slot_list_append PySem.F.type_list_append mt_append (pv 4) (pa_cons (pe_op op_mod (pv 3) pe_int) pa_nil))) (pss_one (ps_set (i := 3) sc_u_law_bytes.nd rfl (Or.inr rfl) (pe_op op_fdiv (pv 3) pe_int))))) (pss_one (ps_ret (pv 4))))) pss_nil) (pss_cons (ps_if (pt_cmpR op_eq (pe_op op_mod (pv 3) pe_int) pe_int (nomark _)) (pss_one (ps_ret (pe_lc (own := [("k", 5)]) rfl sc_u_law_bytes.nd (pi_range1 rfl T.n_range (pa_cons (pv 2) pa_nil)) (blkOk_by (own := [("k", 5)]) (N := ["cell", "salt", "count", "rest", "data", "k", "state"]) (sc := defScope s_u_law_bytes) (by decide +kernel)) (fun _ _ _ _ _ => (pg_name (i := 5) sc_u_law_bytes.nd rfl (Or.inl rfl))) (fun _ _ _ _ _ => pts_nil) (fun _ _ _ _ _ => (pe_ix (cr_ixL rfl) (pe_lst (pa_cons pe_int (pa_cons pe_int (pa_cons pe_int (pa_cons pe_int (pa_cons pe_int pa_nil)))))) (pe_op op_mod (pe_op op_fdiv (pv 3) pe_int) pe_int) (fun _ _ => rfl)))))) pss_nil) (pss_cons (ps_set (i := 6) sc_u_law_bytes.nd rfl (Or.inl rfl) (pe_op op_mod (pe_op op_add (pe_op op_add (pe_op op_mul (pv 3) pe_int) (pe_op op_mul (pv 1) pe_int)) pe_int) pe_int)) (pss_cons (ps_for (passes_of rfl) rfl (pi_range1 rfl T.n_range (pa_cons (pv 2) pa_nil)) (pg_name (i := 5) sc_u_law_bytes.nd rfl (Or.inl rfl)) (pss_cons (ps_set (i := 6) sc_u_law_bytes.nd rfl (Or.inl rfl) (pe_op op_mod (pe_op op_add (pe_op op_mul (pv 6) pe_int) (pv 5)) pe_int)) (pss_one (ps_expr (pe_bm PySem.F.plainAttrs_list PySem.F.slot_list_append PySem.F.type_list_append mt_append (pv 4) (pa_cons (pe_op op_mod (pe_op op_fdiv (pv 6) pe_int) pe_int) pa_nil)))))) (pss_one (ps_ret (pv 4))))))))), ?_⟩
  rintro ⟨cell_, salt_, count_, ⟨⟩⟩ F0 H0 Q KP L
  show Blk K F0 H0 KP _ [some (.im (toD cell_)), some (.im (toD salt_)), some (.im (toD count_)), none, none, none, none] (m_u_law_bytes cell_ salt_ count_)
  unfold m_u_law_bytes
  have hs_ := ((ev_cb cx_abs (fun _ _ h => nomatch h) (ea_cons (ev_var (i := 0) (x := cell_) rfl) ea_nil)) : EvX K (W0 E) [some (.im (toD cell_)), some (.im (toD salt_)), some (.im (toD count_)), none, none, none, none] _ _)
  refine blk_seq (blk_set (i := 3) L trivial hs_ fun rest_ => ?_)
  show Blk _ _ _ _ _ [some (.im (toD cell_)), some (.im (toD salt_)), some (.im (toD count_)), some (.im (toD rest_)), none, none, none] _
  try refine Blk.nx ?_
  have hs_ := ((en_lst (f := (fun y => ([] : List Int))) ea_nil (fun _ => rfl) (fun _ => by show 0 ≤ 100000; decide)) : EvN K (W0 E) [some (.im (toD cell_)), some (.im (toD salt_)), some (.im (toD count_)), some (.im (toD rest_)), none, none, none] _ _)
  refine blk_seq (blk_own (i := 4) L trivial hs_ fun data_ => ?_)
  show Blk _ _ _ _ _ [some (.im (toD cell_)), some (.im (toD salt_)), some (.im (toD count_)), some (.im (toD rest_)), some (.ow (data_.map toD)), none, none] _
  try refine Blk.nx ?_
  have ht_ := ((et_test (ev_op (opx_B0 (g := fun i j => decide (j ≤ i))) mild_ok (ev_var (i := 3) (x := rest_) rfl) (ev_opI (C := CPow) (g := fun i j => i ^ j.toNat) (fun x y h1 h2 => by cases h1; cases h2; exact ⟨by decide, by decide, by decide⟩) (ev_int (i := 10)) (ev_int (i := 18))))) : EvT K (W0 E) [some (.im (toD cell_)), some (.im (toD salt_)), some (.im (toD count_)), some (.im (toD rest_)), some (.ow (data_.map toD)), none, none] _ _)
  refine blk_seq (blk_if2 L trivial ht_ ?_ ?_)
  · have hs_ := ((ev_op (opx_I0 (g := fun i j => i - j)) mild_ok (ev_var (i := 3) (x := rest_) rfl) (ev_opI (C := CPow) (g := fun i j => i ^ j.toNat) (fun x y h1 h2 => by cases h1; cases h2; exact ⟨by decide, by decide, by decide⟩) (ev_int (i := 10)) (ev_int (i := 18)))) : EvX K (W0 E) [some (.im (toD cell_)), some (.im (toD salt_)), some (.im (toD count_)), some (.im (toD rest_)), some (.ow (data_.map toD)), none, none] _ _)
    refine blk_seq (blk_set (i := 3) L trivial hs_ fun rest_ => ?_)
    show Blk _ _ _ _ _ [some (.im (toD cell_)), some (.im (toD salt_)), some (.im (toD count_)), some (.im (toD rest_)), some (.ow (data_.map toD)), none, none] _
    try refine Blk.nx ?_
    have hi_ := ((ei_range1 (ev_var (i := 2) (x := count_) rfl)) : EvI K (W0 E) [some (.im (toD cell_)), some (.im (toD salt_)), some (.im (toD count_)), some (.im (toD rest_)), some (.ow (data_.map toD)), none, none] _ _)
    refine blk_seq (blk_for (S := Int × (List Int)) (m_u_law_bytes_l1 (m_u_law_bytes_k2)) (m_u_law_bytes_k2) (fun (rest_, data_) => [some (.im (toD cell_)), some (.im (toD salt_)), some (.im (toD count_)), some (.im (toD rest_)), some (.ow (data_.map toD)), none, none]) (rest_, data_) L trivial hi_ (fun _ => gx_name) (.same (.same (.same (.same (.same (.same (.same .nil))))))) (fun _ => rfl) ?_ ?_)
    · intro F1 L1 hB1 x62 r1 s_ N_ hN1
      obtain ⟨rest_, data_⟩ := s_
      show Blk _ _ _ _ _ [some (.im (toD cell_)), some (.im (toD salt_)), some (.im (toD count_)), some (.im (toD rest_)), some (.ow (data_.map toD)), some (.im (toD x62)), none] (m_u_law_bytes_l1 (m_u_law_bytes_k2) (x62 :: r1) (rest_, data_))
      rw [m_u_law_bytes_l1]
      show Blk _ _ _ _ _ _ ((fun (k_ : Int) => _) x62)
      generalize x62 = k_
      show Blk _ _ _ _ _ [some (.im (toD cell_)), some (.im (toD salt_)), some (.im (toD count_)), some (.im (toD rest_)), some (.ow (data_.map toD)), some (.im (toD k_)), none] _
      have hs_ := ((ev_opI (C := (fun _ j => 0 < j)) (g := fun i j => i % j) (fun x y _ h => by cases h; (show (0 : Int) < _; decide)) (ev_var (i := 3) (x := rest_) rfl) (ev_int (i := 256))) : EvX K (W0 E) [some (.im (toD cell_)), some (.im (toD salt_)), some (.im (toD count_)), some (.im (toD rest_)), some (.ow (data_.map toD)), some (.im (toD k_)), none] _ _)
      refine blk_seq (blk_app (i := 4) (xs := data_) L1 trivial rfl hs_ fun y68 => ?_)
      show Blk _ _ _ _ _ [some (.im (toD cell_)), some (.im (toD salt_)), some (.im (toD count_)), some (.im (toD rest_)), some (.ow ((data_ ++ [y68]).map toD)), some (.im (toD k_)), none] ((fun (data_ : (List Int)) => _) (data_ ++ [y68]))
      generalize data_ ++ [y68] = data_
      show Blk _ _ _ _ _ [some (.im (toD cell_)), some (.im (toD salt_)), some (.im (toD count_)), some (.im (toD rest_)), some (.ow (data_.map toD)), some (.im (toD k_)), none] _
      try refine Blk.nx ?_
      have hs_ := ((ev_opI (C := CDiv) (g := fun i j => i / j) (fun x y _ h => by cases h; exact ⟨by decide, by decide⟩) (ev_var (i := 3) (x := rest_) rfl) (ev_int (i := 256))) : EvX K (W0 E) [some (.im (toD cell_)), some (.im (toD salt_)), some (.im (toD count_)), some (.im (toD rest_)), some (.ow (data_.map toD)), some (.im (toD k_)), none] _ _)
      refine blk_set (i := 3) L1 trivial hs_ fun rest_ => ?_
      show Blk _ _ _ _ _ [some (.im (toD cell_)), some (.im (toD salt_)), some (.im (toD count_)), some (.im (toD rest_)), some (.ow (data_.map toD)), some (.im (toD k_)), none] _
      try refine Blk.nx ?_
      exact (hN1 (rest_, data_)).weak (.same (.same (.same (.same (.same (.drop (.same .nil)))))))
    · rintro ⟨rest_, data_⟩
      show Blk _ _ _ _ _ [some (.im (toD cell_)), some (.im (toD salt_)), some (.im (toD count_)), some (.im (toD rest_)), some (.ow (data_.map toD)), none, none] ((m_u_law_bytes_k2) (rest_, data_))
      unfold m_u_law_bytes_k2
      try refine Blk.nx ?_
      refine blk_freeze 4 rfl ?_
      show Blk _ _ _ _ _ [some (.im (toD cell_)), some (.im (toD salt_)), some (.im (toD count_)), some (.im (toD rest_)), some (.im (toD data_)), none, none] _
      have hr_ := ((ev_var (i := 4) (x := data_) rfl) : EvX K (W0 E) [some (.im (toD cell_)), some (.im (toD salt_)), some (.im (toD count_)), some (.im (toD rest_)), some (.im (toD data_)), none, none] _ _)
      exact blk_ret L trivial hr_
  · refine blk_nil ?_
    try refine Blk.nx ?_
    have ht_ := ((et_test (ev_op opx_eqI mild_ok (ev_opI (C := (fun _ j => 0 < j)) (g := fun i j => i % j) (fun x y _ h => by cases h; (show (0 : Int) < _; decide)) (ev_var (i := 3) (x := rest_) rfl) (ev_int (i := 7))) (ev_int (i := 5)))) : EvT K (W0 E) [some (.im (toD cell_)), some (.im (toD salt_)), some (.im (toD count_)), some (.im (toD rest_)), some (.ow (data_.map toD)), none, none] _ _)
    refine blk_seq (blk_if2 L trivial ht_ ?_ ?_)
    · refine blk_freeze 4 rfl ?_
      show Blk _ _ _ _ _ [some (.im (toD cell_)), some (.im (toD salt_)), some (.im (toD count_)), some (.im (toD rest_)), some (.im (toD data_)), none, none] _
      have hr_ := ((ev_ofN (ev_comp (tst := fun (x75 : Int) => Res.ok true) (el := fun (x75 : Int) => ((((Res.ok (0 : Int))).bind fun a77 => (((Res.ok (255 : Int))).bind fun a79 => (((Res.ok (1 : Int))).bind fun a81 => (((Res.ok (128 : Int))).bind fun a83 => (((Res.ok (127 : Int))).bind fun a85 => (Res.ok ()).bind fun a86 => Res.ok (a85, a86)).bind fun a84 => Res.ok (a83, a84)).bind fun a82 => Res.ok (a81, a82)).bind fun a80 => Res.ok (a79, a80)).bind fun a78 => Res.ok (a77, a78)).bind fun p76 => Res.ok ([p76.1, p76.2.1, p76.2.2.1, p76.2.2.2.1, p76.2.2.2.2.1] : List Int)).bind fun (t91 : (List Int)) => ((((Res.ok rest_)).bind fun (t87 : Int) => ((Res.ok (7 : Int))).bind fun (t88 : Int) => Res.ok (t87 / t88)).bind fun (t89 : Int) => ((Res.ok (5 : Int))).bind fun (t90 : Int) => Res.ok (t89 % t90)).bind fun (t92 : Int) => idx t91 t92) (ws := [5]) (ei_range1 (ev_var (i := 2) (x := count_) rfl)) (fun _ => gx_name) (fun x75 => et_yes) (fun x75 => ((ev_op opx_ixL (fun x y => idx_mild x y) (ev_ofN (en_lst (f := (fun y => ([y.1, y.2.1, y.2.2.1, y.2.2.2.1, y.2.2.2.2.1] : List Int))) (ea_cons (ev_int (i := 0)) (ea_cons (ev_int (i := 255)) (ea_cons (ev_int (i := 1)) (ea_cons (ev_int (i := 128)) (ea_cons (ev_int (i := 127)) ea_nil))))) (fun _ => rfl) (fun _ => by show 5 ≤ 100000; decide))) (ev_opI (C := (fun _ j => 0 < j)) (g := fun i j => i % j) (fun x y _ h => by cases h; (show (0 : Int) < _; decide)) (ev_opI (C := CDiv) (g := fun i j => i / j) (fun x y _ h => by cases h; exact ⟨by decide, by decide⟩) (ev_var (i := 3) (x := rest_) rfl) (ev_int (i := 7))) (ev_int (i := 5)))) : EvX K WT [some (.im (toD cell_)), some (.im (toD salt_)), some (.im (toD count_)), some (.im (toD rest_)), some (.im (toD data_)), some (.im (toD x75)), none] _ _)))) : EvX K (W0 E) [some (.im (toD cell_)), some (.im (toD salt_)), some (.im (toD count_)), some (.im (toD rest_)), some (.im (toD data_)), none, none] _ _)
      exact blk_ret L trivial hr_
    · refine blk_nil ?_
      try refine Blk.nx ?_
      have hs_ := ((ev_opI (C := (fun _ j => 0 < j)) (g := fun i j => i % j) (fun x y _ h => by cases h; (show (0 : Int) < _; decide)) (ev_op (opx_I0 (g := fun i j => i + j)) mild_ok (ev_op (opx_I0 (g := fun i j => i + j)) mild_ok (ev_opI (C := CMul) (g := fun i j => i * j) (fun x y _ h => by cases h; exact .inr (by decide)) (ev_var (i := 3) (x := rest_) rfl) (ev_int (i := 48271))) (ev_opI (C := CMul) (g := fun i j => i * j) (fun x y _ h => by cases h; exact .inr (by decide)) (ev_var (i := 1) (x := salt_) rfl) (ev_int (i := 69621)))) (ev_int (i := 12345))) (ev_int (i := 2147483647))) : EvX K (W0 E) [some (.im (toD cell_)), some (.im (toD salt_)), some (.im (toD count_)), some (.im (toD rest_)), some (.ow (data_.map toD)), none, none] _ _)
      refine blk_seq (blk_set (i := 6) L trivial hs_ fun state_ => ?_)
      show Blk _ _ _ _ _ [some (.im (toD cell_)), some (.im (toD salt_)), some (.im (toD count_)), some (.im (toD rest_)), some (.ow (data_.map toD)), none, some (.im (toD state_))] _
      try refine Blk.nx ?_
      have hi_ := ((ei_range1 (ev_var (i := 2) (x := count_) rfl)) : EvI K (W0 E) [some (.im (toD cell_)), some (.im (toD salt_)), some (.im (toD count_)), some (.im (toD rest_)), some (.ow (data_.map toD)), none, some (.im (toD state_))] _ _)
      refine blk_seq (blk_for (S := (List Int) × Int) (m_u_law_bytes_l5 (m_u_law_bytes_k6)) (m_u_law_bytes_k6) (fun (data_, state_) => [some (.im (toD cell_)), some (.im (toD salt_)), some (.im (toD count_)), some (.im (toD rest_)), some (.ow (data_.map toD)), none, some (.im (toD state_))]) (data_, state_) L trivial hi_ (fun _ => gx_name) (.same (.same (.same (.same (.same (.same (.same .nil))))))) (fun _ => rfl) ?_ ?_)
      · intro F5 L5 hB5 x105 r5 s_ N_ hN5
        obtain ⟨data_, state_⟩ := s_
        show Blk _ _ _ _ _ [some (.im (toD cell_)), some (.im (toD salt_)), some (.im (toD count_)), some (.im (toD rest_)), some (.ow (data_.map toD)), some (.im (toD x105)), some (.im (toD state_))] (m_u_law_bytes_l5 (m_u_law_bytes_k6) (x105 :: r5) (data_, state_))
        rw [m_u_law_bytes_l5]
        show Blk _ _ _ _ _ _ ((fun (k_ : Int) => _) x105)
        generalize x105 = k_
        show Blk _ _ _ _ _ [some (.im (toD cell_)), some (.im (toD salt_)), some (.im (toD count_)), some (.im (toD rest_)), some (.ow (data_.map toD)), some (.im (toD k_)), some (.im (toD state_))] _
        have hs_ := ((ev_opI (C := (fun _ j => 0 < j)) (g := fun i j => i % j) (fun x y _ h => by cases h; (show (0 : Int) < _; decide)) (ev_op (opx_I0 (g := fun i j => i + j)) mild_ok (ev_opI (C := CMul) (g := fun i j => i * j) (fun x y _ h => by cases h; exact .inr (by decide)) (ev_var (i := 6) (x := state_) rfl) (ev_int (i := 16807))) (ev_var (i := 5) (x := k_) rfl)) (ev_int (i := 2147483647))) : EvX K (W0 E) [some (.im (toD cell_)), some (.im (toD salt_)), some (.im (toD count_)), some (.im (toD rest_)), some (.ow (data_.map toD)), some (.im (toD k_)), some (.im (toD state_))] _ _)
        refine blk_seq (blk_set (i := 6) L5 trivial hs_ fun state_ => ?_)
        show Blk _ _ _ _ _ [some (.im (toD cell_)), some (.im (toD salt_)), some (.im (toD count_)), some (.im (toD rest_)), some (.ow (data_.map toD)), some (.im (toD k_)), some (.im (toD state_))] _
        try refine Blk.nx ?_
        have hs_ := ((ev_opI (C := (fun _ j => 0 < j)) (g := fun i j => i % j) (fun x y _ h => by cases h; (show (0 : Int) < _; decide)) (ev_opI (C := CDiv) (g := fun i j => i / j) (fun x y _ h => by cases h; exact ⟨by decide, by decide⟩) (ev_var (i := 6) (x := state_) rfl) (ev_int (i := 251))) (ev_int (i := 256))) : EvX K (W0 E) [some (.im (toD cell_)), some (.im (toD salt_)), some (.im (toD count_)), some (.im (toD rest_)), some (.ow (data_.map toD)), some (.im (toD k_)), some (.im (toD state_))] _ _)
        refine blk_app (i := 4) (xs := data_) L5 trivial rfl hs_ fun y117 => ?_
        show Blk _ _ _ _ _ [some (.im (toD cell_)), some (.im (toD salt_)), some (.im (toD count_)), some (.im (toD rest_)), some (.ow ((data_ ++ [y117]).map toD)), some (.im (toD k_)), some (.im (toD state_))] ((fun (data_ : (List Int)) => _) (data_ ++ [y117]))
        generalize data_ ++ [y117] = data_
        show Blk _ _ _ _ _ [some (.im (toD cell_)), some (.im (toD salt_)), some (.im (toD count_)), some (.im (toD rest_)), some (.ow (data_.map toD)), some (.im (toD k_)), some (.im (toD state_))] _
        try refine Blk.nx ?_
        exact (hN5 (data_, state_)).weak (.same (.same (.same (.same (.same (.drop (.same .nil)))))))
      · rintro ⟨data_, state_⟩
        show Blk _ _ _ _ _ [some (.im (toD cell_)), some (.im (toD salt_)), some (.im (toD count_)), some (.im (toD rest_)), some (.ow (data_.map toD)), none, some (.im (toD state_))] ((m_u_law_bytes_k6) (data_, state_))
        unfold m_u_law_bytes_k6
        try refine Blk.nx ?_
        refine blk_freeze 4 rfl ?_
        show Blk _ _ _ _ _ [some (.im (toD cell_)), some (.im (toD salt_)), some (.im (toD count_)), some (.im (toD rest_)), some (.im (toD data_)), none, some (.im (toD state_))] _
        have hr_ := ((ev_var (i := 4) (x := data_) rfl) : EvX K (W0 E) [some (.im (toD cell_)), some (.im (toD salt_)), some (.im (toD count_)), some (.im (toD rest_)), some (.im (toD data_)), none, some (.im (toD state_))] _ _)
        exact blk_ret L trivial hr_
noncomputable def m_u_law_is_bytes_l2 (k2 : Unit → Res Bool) : List D → Unit → Res Bool
  | [], s => k2 s
  | x125 :: r2, _ =>   (fun (byte_ : D) => ((((((Res.ok byte_)).bind fun a127 => (Res.ok ()).bind fun a128 => Res.ok (a127, a128)).bind fun p126 => m_u_law_is_integer p126.1).bind fun (t129 : Bool) => Res.ok (!t129)).bind fun b135 => cond b135 (Res.ok true) (((((Res.ok byte_)).bind D.asInt).bind fun (t130 : Int) => ((Res.ok (0 : Int))).bind fun (t131 : Int) => Res.ok (decide (t130 < t131))).bind fun b134 => cond b134 (Res.ok true) ((((Res.ok byte_)).bind D.asInt).bind fun (t132 : Int) => ((Res.ok (255 : Int))).bind fun (t133 : Int) => Res.ok (decide (t133 < t132))))).bind fun b => cond b   ((Res.ok false))   (m_u_law_is_bytes_l2 k2 r2 ())) x125
noncomputable def m_u_law_is_bytes_k3 : Unit → Res Bool := fun _ =>   (Res.ok true)
noncomputable def m_u_law_is_bytes (actual_ : D) (count_ : Int) : Res Bool :=
  (((((Res.ok actual_)).bind fun (t119 : D) => Res.need ((toD t119).plain = true) (Res.ok (isI "list" (toD t119)))).bind fun (t120 : Bool) => Res.ok (!t120)).bind fun b124 => cond b124 (Res.ok true) ((((Res.ok actual_)).bind fun (t121 : D) => D.lenR t121).bind fun (t122 : Int) => ((Res.ok count_)).bind fun (t123 : Int) => Res.ok (!decide (t122 = t123)))).bind fun b => cond b   ((Res.ok false))   ((((Res.ok actual_)).bind D.asList).bind fun (xs136 : List D) => m_u_law_is_bytes_l2 (m_u_law_is_bytes_k3) xs136 ())
theorem ok_u_law_is_bytes {P : Program} {w : World} {K : PySem.W.Frag} {mg : Str → Option Value} {base : Heap} (T : Facts K mg) {fd : FuncData} (F : FnP K "_law_is_bytes" "_law_is_bytes" s_u_law_is_bytes (He.ga K "_law_is_bytes") fd) :
    FnOk P w K mg base (L2.CX P w) 2 (He.ga K "_law_is_bytes") fd ["actual", "count"] (spM K (fun (p : D × Int × Unit) => m_u_law_is_bytes p.1 p.2.1)) := by
  obtain ⟨fd_u_law_is_integer, F_u_law_is_integer⟩ := T.d_u_law_is_integer
  have G_u_law_is_integer := ok_u_law_is_integer (P := P) (w := w) (base := base) T F_u_law_is_integer
  have b_u_law_is_integer : Binds K fd_u_law_is_integer ["actual"] [] := F_u_law_is_integer.bindsN fun _ _ _ _ _ _ us hl => match us, hl with | [_], _ => rfl
  refine fn_ok F sc_u_law_is_bytes (fun y => rfl) (fun cdv A outer s H E hr => ?_)
  refine ⟨_, (pss_cons (ps_if (PW.pt (pw_or (pt_not (pt_val (pe_callB call_isi (by rfl) T.n_isinstance (by decide +kernel) (pa_cons (pv 0) (pa_cons (pe_bltn (v := .ty "list") (by rfl) T.n_list (by decide +kernel) rfl) pa_nil))))) (pw_or1 (pt_cmpR op_ne (pe_callB (cr_len rfl) (by rfl) T.n_len (by decide +kernel) (pa_cons (pv 0) pa_nil)) (pv 1) (nomark _))))) (pss_one (ps_ret pe_bl)) pss_nil) (pss_cons (ps_for (passes_of rfl) rfl (pi_list (pv 0)) (pg_name (i := 2) sc_u_law_is_bytes.nd rfl (Or.inl rfl)) (pss_one (ps_if (PW.pt (pw_or (pt_not (pt_val (pe_callS G_u_law_is_integer (hr.mono (by decide)) rfl T.g_u_law_is_integer F_u_law_is_integer.kp b_u_law_is_integer (fun σ => passAt (takes_of rfl rfl rfl rfl) σ) (pa_cons (pv 2) pa_nil)))) (pw_or (pt_cmpR op_lt (pv 2) pe_int (nomark _)) (pw_or1 (pt_cmpR op_gt (pv 2) pe_int (nomark _)))))) (pss_one (ps_ret pe_bl)) pss_nil))) (pss_one (ps_ret pe_bl)))), ?_⟩
  rintro ⟨actual_, count_, ⟨⟩⟩ F0 H0 Q KP L
  show Blk K F0 H0 KP _ [some (.im (toD actual_)), some (.im (toD count_)), none] (m_u_law_is_bytes actual_ count_)
  unfold m_u_law_is_bytes
  have ht_ := ((et_or (et_not (et_B (ev_isi isi_list (ev_var (i := 0) (x := actual_) rfl)))) (et_test (ev_op opx_neI mild_ok (ev_lenD (ev_var (i := 0) (x := actual_) rfl)) (ev_var (i := 1) (x := count_) rfl)))) : EvT K (W0 E) [some (.im (toD actual_)), some (.im (toD count_)), none] _ _)
  refine blk_seq (blk_if2 L trivial ht_ ?_ ?_)
  · have hr_ := ((ev_bl (b := false)) : EvX K (W0 E) [some (.im (toD actual_)), some (.im (toD count_)), none] _ _)
    exact blk_ret L trivial hr_
  · refine blk_nil ?_
    try refine Blk.nx ?_
    have hi_ := ((ei_list (ev_cast (f := D.asList) asList_ok asList_x (ev_var (i := 0) (x := actual_) rfl))) : EvI K (W0 E) [some (.im (toD actual_)), some (.im (toD count_)), none] _ _)
    refine blk_seq (blk_for (S := Unit) (m_u_law_is_bytes_l2 (m_u_law_is_bytes_k3)) (m_u_law_is_bytes_k3) (fun _ => [some (.im (toD actual_)), some (.im (toD count_)), none]) () L trivial hi_ (fun _ => gx_name) (.same (.same (.same .nil))) (fun _ => rfl) ?_ ?_)
    · intro F2 L2 hB2 x125 r2 s_ N_ hN2
      obtain ⟨⟩ := s_
      show Blk _ _ _ _ _ [some (.im (toD actual_)), some (.im (toD count_)), some (.im (toD x125))] (m_u_law_is_bytes_l2 (m_u_law_is_bytes_k3) (x125 :: r2) ())
      rw [m_u_law_is_bytes_l2]
      show Blk _ _ _ _ _ _ ((fun (byte_ : D) => _) x125)
      generalize x125 = byte_
      show Blk _ _ _ _ _ [some (.im (toD actual_)), some (.im (toD count_)), some (.im (toD byte_))] _
      have ht_ := ((et_or (et_not (et_B (ev_call (f := (fun (p : D × Unit) => m_u_law_is_integer p.1)) (ea_cons (ev_var (i := 2) (x := byte_) rfl) ea_nil)))) (et_or (et_test (ev_op (opx_B0 (g := fun i j => decide (i < j))) mild_ok (ev_cast (f := D.asInt) asInt_ok asInt_x (ev_var (i := 2) (x := byte_) rfl)) (ev_int (i := 0)))) (et_test (ev_op (opx_B0 (g := fun i j => decide (j < i))) mild_ok (ev_cast (f := D.asInt) asInt_ok asInt_x (ev_var (i := 2) (x := byte_) rfl)) (ev_int (i := 255)))))) : EvT K (W0 E) [some (.im (toD actual_)), some (.im (toD count_)), some (.im (toD byte_))] _ _)
      refine blk_if2 L2 trivial ht_ ?_ ?_
      · have hr_ := ((ev_bl (b := false)) : EvX K (W0 E) [some (.im (toD actual_)), some (.im (toD count_)), some (.im (toD byte_))] _ _)
        exact blk_ret L2 trivial hr_
      · refine blk_nil ?_
        try refine Blk.nx ?_
        exact (hN2 ()).weak (.same (.same (.drop .nil)))
    · intro _
      show Blk _ _ _ _ _ [some (.im (toD actual_)), some (.im (toD count_)), none] ((m_u_law_is_bytes_k3) ())
      unfold m_u_law_is_bytes_k3
      try refine Blk.nx ?_
      have hr_ := ((ev_bl (b := true)) : EvX K (W0 E) [some (.im (toD actual_)), some (.im (toD count_)), none] _ _)
      exact blk_ret L trivial hr_
noncomputable def m_u_law_number_l3 (k3 : Int × Int → Res Int) : List Int → Int × Int → Res Int
  | [], s => k3 s
  | x163 :: r3, (state_, number_) =>   (fun (k_ : Int) => (((((Res.ok state_)).bind fun (t164 : Int) => ((Res.ok (48271 : Int))).bind fun (t165 : Int) => Res.ok (t164 * t165)).bind fun (t166 : Int) => ((Res.ok (11 : Int))).bind fun (t167 : Int) => Res.ok (t166 + t167)).bind fun (t168 : Int) => ((Res.ok (2147483647 : Int))).bind fun (t169 : Int) => Res.ok (t168 % t169)).bind fun (state_ : Int) =>   ((((Res.ok number_)).bind fun (t172 : Int) => (((Res.ok (2 : Int))).bind fun (t170 : Int) => ((Res.ok (31 : Int))).bind fun (t171 : Int) => Res.ok (t170 ^ t171.toNat)).bind fun (t173 : Int) => Res.need (CMulX t172 t173) (Res.ok (t172 * t173))).bind fun (t174 : Int) => ((Res.ok state_)).bind fun (t175 : Int) => Res.ok (t174 + t175)).bind fun (number_ : Int) =>   m_u_law_number_l3 k3 r3 (state_, number_)) x163
noncomputable def m_u_law_number_k5 (rest_ : Int) : Int × Int → Res Int := fun (state_, number_) =>   ((((Res.ok rest_)).bind fun (t176 : Int) => ((Res.ok (4 : Int))).bind fun (t177 : Int) => Res.ok (t176 % t177)).bind fun (t178 : Int) => ((Res.ok (2 : Int))).bind fun (t179 : Int) => Res.ok (decide (t178 = t179))).bind fun b => cond b   (((Res.ok number_)).bind fun (t180 : Int) => Res.ok (-t180))   ((Res.ok number_))
noncomputable def m_u_law_number (cell_ : Int) (salt_ : Int) : Res Int :=
  ((((Res.ok cell_)).bind fun a138 => (Res.ok ()).bind fun a139 => Res.ok (a138, a139)).bind fun p137 => Res.ok (Int.natAbs p137.1 : Int)).bind fun (rest_ : Int) =>   (((Res.ok rest_)).bind fun (t142 : Int) => (((Res.ok (10 : Int))).bind fun (t140 : Int) => ((Res.ok (18 : Int))).bind fun (t141 : Int) => Res.ok (t140 ^ t141.toNat)).bind fun (t143 : Int) => Res.ok (decide (t143 ≤ t142))).bind fun b => cond b   ((Res.ok cell_))   (((((Res.ok rest_)).bind fun (t144 : Int) => ((Res.ok (4 : Int))).bind fun (t145 : Int) => Res.ok (t144 % t145)).bind fun (t146 : Int) => ((Res.ok (1 : Int))).bind fun (t147 : Int) => Res.ok (decide (t146 = t147))).bind fun b => cond b   (((((Res.ok rest_)).bind fun (t148 : Int) => ((Res.ok (4 : Int))).bind fun (t149 : Int) => Res.ok (t148 / t149)).bind fun (t150 : Int) => ((Res.ok (100 : Int))).bind fun (t151 : Int) => Res.ok (t150 % t151)).bind fun (t152 : Int) => ((Res.ok (50 : Int))).bind fun (t153 : Int) => Res.ok (t152 - t153))   ((((Res.ok rest_)).bind fun (t156 : Int) => (((Res.ok salt_)).bind fun (t154 : Int) => ((Res.ok (7919 : Int))).bind fun (t155 : Int) => Res.ok (t154 * t155)).bind fun (t157 : Int) => Res.ok (t156 + t157)).bind fun (state_ : Int) =>   ((Res.ok (0 : Int))).bind fun (number_ : Int) =>   ((((Res.ok (1 : Int))).bind fun (t160 : Int) => (((Res.ok rest_)).bind fun (t158 : Int) => ((Res.ok (9 : Int))).bind fun (t159 : Int) => Res.ok (t158 % t159)).bind fun (t161 : Int) => Res.ok (t160 + t161)).bind fun (t162 : Int) => Res.need (okRange t162) (Res.ok (pyRange 0 t162))).bind fun (xs181 : List Int) => m_u_law_number_l3 (m_u_law_number_k5 rest_) xs181 (state_, number_)))
theorem ok_u_law_number {P : Program} {w : World} {K : PySem.W.Frag} {mg : Str → Option Value} {base : Heap} (T : Facts K mg) {fd : FuncData} (F : FnP K "_law_number" "_law_number" s_u_law_number (He.ga K "_law_number") fd) :
    FnOk P w K mg base (L2.CX P w) 1 (He.ga K "_law_number") fd ["cell", "salt"] (spM K (fun (p : Int × Int × Unit) => m_u_law_number p.1 p.2.1)) := by
  refine fn_ok F sc_u_law_number (fun y => rfl) (fun cdv A outer s H E hr => ?_)
  refine ⟨_, (pss_cons (ps_set (i := 2) sc_u_law_number.nd rfl (Or.inl rfl) (pe_callB call_abs (by rfl) T.n_abs (by decide +kernel) (pa_cons (pv 0) pa_nil))) (pss_cons (ps_if (pt_cmpR op_ge (pv 2) (pe_op op_pow pe_int pe_int) (nomark _)) (pss_one (ps_ret (pv 0))) pss_nil) (pss_cons (ps_if (pt_cmpR op_eq (pe_op op_mod (pv 2) pe_int) pe_int (nomark _)) (pss_one (ps_ret (pe_op op_sub (pe_op op_mod (pe_op op_fdiv (pv 2) pe_int) pe_int) pe_int))) pss_nil) (pss_cons (ps_set (i := 3) sc_u_law_number.nd rfl (Or.inl rfl) (pe_op op_add (pv 2) (pe_op op_mul (pv 1) pe_int))) (pss_cons (ps_set (i := 4) sc_u_law_number.nd rfl (Or.inl rfl) pe_int) (pss_cons (ps_for (passes_of rfl) rfl (pi_range1 rfl T.n_range (pa_cons (pe_op op_add pe_int (pe_op op_mod (pv 2) pe_int)) pa_nil)) (pg_name (i := 5) sc_u_law_number.nd rfl (Or.inl rfl)) (pss_cons (ps_set (i := 3) sc_u_law_number.nd rfl (Or.inl rfl) (pe_op op_mod (pe_op op_add (pe_op op_mul (pv 3) pe_int) pe_int) pe_int)) (pss_one (ps_set (i := 4) sc_u_law_number.nd rfl (Or.inl rfl) (pe_op op_add (pe_op op_mulX (pv 4) (pe_op op_pow pe_int pe_int)) (pv 3)))))) (pss_cons (ps_if (pt_cmpR op_eq (pe_op op_mod (pv 2) pe_int) pe_int (nomark _)) (pss_one (ps_ret (pe_un un_neg (pv 4)))) pss_nil) (pss_one (ps_ret (pv 4)))))))))), ?_⟩
  rintro ⟨cell_, salt_, ⟨⟩⟩ F0 H0 Q KP L
  show Blk K F0 H0 KP _ [some (.im (toD cell_)), some (.im (toD salt_)), none, none, none, none] (m_u_law_number cell_ salt_)
  unfold m_u_law_number
  have hs_ := ((ev_cb cx_abs (fun _ _ h => nomatch h) (ea_cons (ev_var (i := 0) (x := cell_) rfl) ea_nil)) : EvX K (W0 E) [some (.im (toD cell_)), some (.im (toD salt_)), none, none, none, none] _ _)
  refine blk_seq (blk_set (i := 2) L trivial hs_ fun rest_ => ?_)
  show Blk _ _ _ _ _ [some (.im (toD cell_)), some (.im (toD salt_)), some (.im (toD rest_)), none, none, none] _
  try refine Blk.nx ?_
  have ht_ := ((et_test (ev_op (opx_B0 (g := fun i j => decide (j ≤ i))) mild_ok (ev_var (i := 2) (x := rest_) rfl) (ev_opI (C := CPow) (g := fun i j => i ^ j.toNat) (fun x y h1 h2 => by cases h1; cases h2; exact ⟨by decide, by decide, by decide⟩) (ev_int (i := 10)) (ev_int (i := 18))))) : EvT K (W0 E) [some (.im (toD cell_)), some (.im (toD salt_)), some (.im (toD rest_)), none, none, none] _ _)
  refine blk_seq (blk_if2 L trivial ht_ ?_ ?_)
  · have hr_ := ((ev_var (i := 0) (x := cell_) rfl) : EvX K (W0 E) [some (.im (toD cell_)), some (.im (toD salt_)), some (.im (toD rest_)), none, none, none] _ _)
    exact blk_ret L trivial hr_
  · refine blk_nil ?_
    try refine Blk.nx ?_
    have ht_ := ((et_test (ev_op opx_eqI mild_ok (ev_opI (C := (fun _ j => 0 < j)) (g := fun i j => i % j) (fun x y _ h => by cases h; (show (0 : Int) < _; decide)) (ev_var (i := 2) (x := rest_) rfl) (ev_int (i := 4))) (ev_int (i := 1)))) : EvT K (W0 E) [some (.im (toD cell_)), some (.im (toD salt_)), some (.im (toD rest_)), none, none, none] _ _)
    refine blk_seq (blk_if2 L trivial ht_ ?_ ?_)
    · have hr_ := ((ev_op (opx_I0 (g := fun i j => i - j)) mild_ok (ev_opI (C := (fun _ j => 0 < j)) (g := fun i j => i % j) (fun x y _ h => by cases h; (show (0 : Int) < _; decide)) (ev_opI (C := CDiv) (g := fun i j => i / j) (fun x y _ h => by cases h; exact ⟨by decide, by decide⟩) (ev_var (i := 2) (x := rest_) rfl) (ev_int (i := 4))) (ev_int (i := 100))) (ev_int (i := 50))) : EvX K (W0 E) [some (.im (toD cell_)), some (.im (toD salt_)), some (.im (toD rest_)), none, none, none] _ _)
      exact blk_ret L trivial hr_
    · refine blk_nil ?_
      try refine Blk.nx ?_
      have hs_ := ((ev_op (opx_I0 (g := fun i j => i + j)) mild_ok (ev_var (i := 2) (x := rest_) rfl) (ev_opI (C := CMul) (g := fun i j => i * j) (fun x y _ h => by cases h; exact .inr (by decide)) (ev_var (i := 1) (x := salt_) rfl) (ev_int (i := 7919)))) : EvX K (W0 E) [some (.im (toD cell_)), some (.im (toD salt_)), some (.im (toD rest_)), none, none, none] _ _)
      refine blk_seq (blk_set (i := 3) L trivial hs_ fun state_ => ?_)
      show Blk _ _ _ _ _ [some (.im (toD cell_)), some (.im (toD salt_)), some (.im (toD rest_)), some (.im (toD state_)), none, none] _
      try refine Blk.nx ?_
      have hs_ := ((ev_int (i := 0)) : EvX K (W0 E) [some (.im (toD cell_)), some (.im (toD salt_)), some (.im (toD rest_)), some (.im (toD state_)), none, none] _ _)
      refine blk_seq (blk_set (i := 4) L trivial hs_ fun number_ => ?_)
      show Blk _ _ _ _ _ [some (.im (toD cell_)), some (.im (toD salt_)), some (.im (toD rest_)), some (.im (toD state_)), some (.im (toD number_)), none] _
      try refine Blk.nx ?_
      have hi_ := ((ei_range1 (ev_op (opx_I0 (g := fun i j => i + j)) mild_ok (ev_int (i := 1)) (ev_opI (C := (fun _ j => 0 < j)) (g := fun i j => i % j) (fun x y _ h => by cases h; (show (0 : Int) < _; decide)) (ev_var (i := 2) (x := rest_) rfl) (ev_int (i := 9))))) : EvI K (W0 E) [some (.im (toD cell_)), some (.im (toD salt_)), some (.im (toD rest_)), some (.im (toD state_)), some (.im (toD number_)), none] _ _)
      refine blk_seq (blk_for (S := Int × Int) (m_u_law_number_l3 (m_u_law_number_k5 rest_)) (m_u_law_number_k5 rest_) (fun (state_, number_) => [some (.im (toD cell_)), some (.im (toD salt_)), some (.im (toD rest_)), some (.im (toD state_)), some (.im (toD number_)), none]) (state_, number_) L trivial hi_ (fun _ => gx_name) (.same (.same (.same (.same (.same (.same .nil)))))) (fun _ => rfl) ?_ ?_)
      · intro F3 L3 hB3 x163 r3 s_ N_ hN3
        obtain ⟨state_, number_⟩ := s_
        show Blk _ _ _ _ _ [some (.im (toD cell_)), some (.im (toD salt_)), some (.im (toD rest_)), some (.im (toD state_)), some (.im (toD number_)), some (.im (toD x163))] (m_u_law_number_l3 (m_u_law_number_k5 rest_) (x163 :: r3) (state_, number_))
        rw [m_u_law_number_l3]
        show Blk _ _ _ _ _ _ ((fun (k_ : Int) => _) x163)
        generalize x163 = k_
        show Blk _ _ _ _ _ [some (.im (toD cell_)), some (.im (toD salt_)), some (.im (toD rest_)), some (.im (toD state_)), some (.im (toD number_)), some (.im (toD k_))] _
        have hs_ := ((ev_opI (C := (fun _ j => 0 < j)) (g := fun i j => i % j) (fun x y _ h => by cases h; (show (0 : Int) < _; decide)) (ev_op (opx_I0 (g := fun i j => i + j)) mild_ok (ev_opI (C := CMul) (g := fun i j => i * j) (fun x y _ h => by cases h; exact .inr (by decide)) (ev_var (i := 3) (x := state_) rfl) (ev_int (i := 48271))) (ev_int (i := 11))) (ev_int (i := 2147483647))) : EvX K (W0 E) [some (.im (toD cell_)), some (.im (toD salt_)), some (.im (toD rest_)), some (.im (toD state_)), some (.im (toD number_)), some (.im (toD k_))] _ _)
        refine blk_seq (blk_set (i := 3) L3 trivial hs_ fun state_ => ?_)
        show Blk _ _ _ _ _ [some (.im (toD cell_)), some (.im (toD salt_)), some (.im (toD rest_)), some (.im (toD state_)), some (.im (toD number_)), some (.im (toD k_))] _
        try refine Blk.nx ?_
        have hs_ := ((ev_op (opx_I0 (g := fun i j => i + j)) mild_ok (ev_op (opx_I (C := CMulX) (g := fun i j => i * j)) mild_need (ev_var (i := 4) (x := number_) rfl) (ev_opI (C := CPow) (g := fun i j => i ^ j.toNat) (fun x y h1 h2 => by cases h1; cases h2; exact ⟨by decide, by decide, by decide⟩) (ev_int (i := 2)) (ev_int (i := 31)))) (ev_var (i := 3) (x := state_) rfl)) : EvX K (W0 E) [some (.im (toD cell_)), some (.im (toD salt_)), some (.im (toD rest_)), some (.im (toD state_)), some (.im (toD number_)), some (.im (toD k_))] _ _)
        refine blk_set (i := 4) L3 trivial hs_ fun number_ => ?_
        show Blk _ _ _ _ _ [some (.im (toD cell_)), some (.im (toD salt_)), some (.im (toD rest_)), some (.im (toD state_)), some (.im (toD number_)), some (.im (toD k_))] _
        try refine Blk.nx ?_
        exact (hN3 (state_, number_)).weak (.same (.same (.same (.same (.same (.drop .nil))))))
      · rintro ⟨state_, number_⟩
        show Blk _ _ _ _ _ [some (.im (toD cell_)), some (.im (toD salt_)), some (.im (toD rest_)), some (.im (toD state_)), some (.im (toD number_)), none] ((m_u_law_number_k5 rest_) (state_, number_))
        unfold m_u_law_number_k5
        try refine Blk.nx ?_
        have ht_ := ((et_test (ev_op opx_eqI mild_ok (ev_opI (C := (fun _ j => 0 < j)) (g := fun i j => i % j) (fun x y _ h => by cases h; (show (0 : Int) < _; decide)) (ev_var (i := 2) (x := rest_) rfl) (ev_int (i := 4))) (ev_int (i := 2)))) : EvT K (W0 E) [some (.im (toD cell_)), some (.im (toD salt_)), some (.im (toD rest_)), some (.im (toD state_)), some (.im (toD number_)), none] _ _)
        refine blk_seq (blk_if2 L trivial ht_ ?_ ?_)
        · have hr_ := ((ev_un (g := fun i => -i) (ev_var (i := 4) (x := number_) rfl)) : EvX K (W0 E) [some (.im (toD cell_)), some (.im (toD salt_)), some (.im (toD rest_)), some (.im (toD state_)), some (.im (toD number_)), none] _ _)
          exact blk_ret L trivial hr_
        · refine blk_nil ?_
          try refine Blk.nx ?_
          have hr_ := ((ev_var (i := 4) (x := number_) rfl) : EvX K (W0 E) [some (.im (toD cell_)), some (.im (toD salt_)), some (.im (toD rest_)), some (.im (toD state_)), some (.im (toD number_)), none] _ _)
          exact blk_ret L trivial hr_
noncomputable def m_u_law_smallest_l1 (k1 : Int × Int → Res Int) : List Int → Int × Int → Res Int
  | [], s => k1 s
  | x183 :: r1, (number_, size_) =>   (fun (k_ : Int) => (((Res.ok number_)).bind fun (t184 : Int) => ((Res.ok (0 : Int))).bind fun (t185 : Int) => Res.ok (decide (t184 = t185))).bind fun b => cond b   ((Res.ok size_))   ((((Res.ok number_)).bind fun (t186 : Int) => ((Res.ok (256 : Int))).bind fun (t187 : Int) => Res.ok (t186 / t187)).bind fun (number_ : Int) =>   (((Res.ok size_)).bind fun (t188 : Int) => ((Res.ok (1 : Int))).bind fun (t189 : Int) => Res.ok (t188 + t189)).bind fun (size_ : Int) =>   m_u_law_smallest_l1 k1 r1 (number_, size_))) x183
noncomputable def m_u_law_smallest_k3 : Int × Int → Res Int := fun (number_, size_) =>   (Res.ok size_)
noncomputable def m_u_law_smallest (number_ : Int) : Res Int :=
  ((Res.ok (0 : Int))).bind fun (size_ : Int) =>   (((Res.ok (300 : Int))).bind fun (t182 : Int) => Res.need (okRange t182) (Res.ok (pyRange 0 t182))).bind fun (xs190 : List Int) => m_u_law_smallest_l1 (m_u_law_smallest_k3) xs190 (number_, size_)
theorem ok_u_law_smallest {P : Program} {w : World} {K : PySem.W.Frag} {mg : Str → Option Value} {base : Heap} (T : Facts K mg) {fd : FuncData} (F : FnP K "_law_smallest" "_law_smallest" s_u_law_smallest (He.ga K "_law_smallest") fd) :
    FnOk P w K mg base (L2.CX P w) 1 (He.ga K "_law_smallest") fd ["number"] (spM K (fun (p : Int × Unit) => m_u_law_smallest p.1)) := by
  refine fn_ok F sc_u_law_smallest (fun y => rfl) (fun cdv A outer s H E hr => ?_)
  refine ⟨_, (pss_cons (ps_set (i := 1) sc_u_law_smallest.nd rfl (Or.inl rfl) pe_int) (pss_cons (ps_for (passes_of rfl) rfl (pi_range1 rfl T.n_range (pa_cons pe_int pa_nil)) (pg_name (i := 2) sc_u_law_smallest.nd rfl (Or.inl rfl)) (pss_cons (ps_if (pt_cmpR op_eq (pv 0) pe_int (nomark _)) (pss_one (ps_ret (pv 1))) pss_nil) (pss_cons (ps_set (i := 0) sc_u_law_smallest.nd rfl (Or.inl rfl) (pe_op op_fdiv (pv 0) pe_int)) (pss_one (ps_set (i := 1) sc_u_law_smallest.nd rfl (Or.inl rfl) (pe_op op_add (pv 1) pe_int)))))) (pss_one (ps_ret (pv 1))))), ?_⟩
  rintro ⟨number_, ⟨⟩⟩ F0 H0 Q KP L
  show Blk K F0 H0 KP _ [some (.im (toD number_)), none, none] (m_u_law_smallest number_)
  unfold m_u_law_smallest
  have hs_ := ((ev_int (i := 0)) : EvX K (W0 E) [some (.im (toD number_)), none, none] _ _)
  refine blk_seq (blk_set (i := 1) L trivial hs_ fun size_ => ?_)
  show Blk _ _ _ _ _ [some (.im (toD number_)), some (.im (toD size_)), none] _
  try refine Blk.nx ?_
  have hi_ := ((ei_range1 (ev_int (i := 300))) : EvI K (W0 E) [some (.im (toD number_)), some (.im (toD size_)), none] _ _)
  refine blk_seq (blk_for (S := Int × Int) (m_u_law_smallest_l1 (m_u_law_smallest_k3)) (m_u_law_smallest_k3) (fun (number_, size_) => [some (.im (toD number_)), some (.im (toD size_)), none]) (number_, size_) L trivial hi_ (fun _ => gx_name) (.same (.same (.same .nil))) (fun _ => rfl) ?_ ?_)
  · intro F1 L1 hB1 x183 r1 s_ N_ hN1
    obtain ⟨number_, size_⟩ := s_
    show Blk _ _ _ _ _ [some (.im (toD number_)), some (.im (toD size_)), some (.im (toD x183))] (m_u_law_smallest_l1 (m_u_law_smallest_k3) (x183 :: r1) (number_, size_))
    rw [m_u_law_smallest_l1]
    show Blk _ _ _ _ _ _ ((fun (k_ : Int) => _) x183)
    generalize x183 = k_
    show Blk _ _ _ _ _ [some (.im (toD number_)), some (.im (toD size_)), some (.im (toD k_))] _
    have ht_ := ((et_test (ev_op opx_eqI mild_ok (ev_var (i := 0) (x := number_) rfl) (ev_int (i := 0)))) : EvT K (W0 E) [some (.im (toD number_)), some (.im (toD size_)), some (.im (toD k_))] _ _)
    refine blk_seq (blk_if2 L1 trivial ht_ ?_ ?_)
    · have hr_ := ((ev_var (i := 1) (x := size_) rfl) : EvX K (W0 E) [some (.im (toD number_)), some (.im (toD size_)), some (.im (toD k_))] _ _)
      exact blk_ret L1 trivial hr_
    · refine blk_nil ?_
      try refine Blk.nx ?_
      have hs_ := ((ev_opI (C := CDiv) (g := fun i j => i / j) (fun x y _ h => by cases h; exact ⟨by decide, by decide⟩) (ev_var (i := 0) (x := number_) rfl) (ev_int (i := 256))) : EvX K (W0 E) [some (.im (toD number_)), some (.im (toD size_)), some (.im (toD k_))] _ _)
      refine blk_seq (blk_set (i := 0) L1 trivial hs_ fun number_ => ?_)
      show Blk _ _ _ _ _ [some (.im (toD number_)), some (.im (toD size_)), some (.im (toD k_))] _
      try refine Blk.nx ?_
      have hs_ := ((ev_op (opx_I0 (g := fun i j => i + j)) mild_ok (ev_var (i := 1) (x := size_) rfl) (ev_int (i := 1))) : EvX K (W0 E) [some (.im (toD number_)), some (.im (toD size_)), some (.im (toD k_))] _ _)
      refine blk_set (i := 1) L1 trivial hs_ fun size_ => ?_
      show Blk _ _ _ _ _ [some (.im (toD number_)), some (.im (toD size_)), some (.im (toD k_))] _
      try refine Blk.nx ?_
      exact (hN1 (number_, size_)).weak (.same (.same (.drop .nil)))
  · rintro ⟨number_, size_⟩
    show Blk _ _ _ _ _ [some (.im (toD number_)), some (.im (toD size_)), none] ((m_u_law_smallest_k3) (number_, size_))
    unfold m_u_law_smallest_k3
    try refine Blk.nx ?_
    have hr_ := ((ev_var (i := 1) (x := size_) rfl) : EvX K (W0 E) [some (.im (toD number_)), some (.im (toD size_)), none] _ _)
    exact blk_ret L trivial hr_
noncomputable def m_u_law_written_l1 (k1 : Int × (List Int) → Res (List Int)) : List Int → Int × (List Int) → Res (List Int)
  | [], s => k1 s
  | x193 :: r1, (number_, data_) =>   (fun (k_ : Int) => (((Res.ok number_)).bind fun (t194 : Int) => ((Res.ok (256 : Int))).bind fun (t195 : Int) => Res.ok (t194 % t195)).bind fun (y198 : Int) => Res.need (data_.length < 16777216) ((fun (data_ : (List Int)) =>   (((Res.ok number_)).bind fun (t196 : Int) => ((Res.ok (256 : Int))).bind fun (t197 : Int) => Res.ok (t196 / t197)).bind fun (number_ : Int) =>   m_u_law_written_l1 k1 r1 (number_, data_)) (data_ ++ [y198]))) x193
noncomputable def m_u_law_written_k2 : Int × (List Int) → Res (List Int) := fun (number_, data_) =>   (Res.ok data_)
noncomputable def m_u_law_written (number_ : Int) (size_ : Int) : Res (List Int) :=
  ((Res.ok ()).bind fun p191 => Res.ok ([] : List Int)).bind fun (data_ : (List Int)) =>   (((Res.ok size_)).bind fun (t192 : Int) => Res.need (okRange t192) (Res.ok (pyRange 0 t192))).bind fun (xs200 : List Int) => m_u_law_written_l1 (m_u_law_written_k2) xs200 (number_, data_)
theorem ok_u_law_written {P : Program} {w : World} {K : PySem.W.Frag} {mg : Str → Option Value} {base : Heap} (T : Facts K mg) {fd : FuncData} (F : FnP K "_law_written" "_law_written" s_u_law_written (He.ga K "_law_written") fd) :
    FnOk P w K mg base (L2.CX P w) 1 (He.ga K "_law_written") fd ["number", "size"] (spM K (fun (p : Int × Int × Unit) => m_u_law_written p.1 p.2.1)) := by
  refine fn_ok F sc_u_law_written (fun y => rfl) (fun cdv A outer s H E hr => ?_)
  refine ⟨_, (pss_cons (ps_set (i := 2) sc_u_law_written.nd rfl (Or.inl rfl) (pe_lst pa_nil)) (pss_cons (ps_for (passes_of rfl) rfl (pi_range1 rfl T.n_range (pa_cons (pv 1) pa_nil)) (pg_name (i := 3) sc_u_law_written.nd rfl (Or.inl rfl)) (pss_cons (ps_expr (pe_bm PySem.F.plainAttrs_list PySem.F.slot_list_append PySem.F.type_list_append mt_append (pv 2) (pa_cons (pe_op op_mod (pv 0) pe_int) pa_nil))) (pss_one (ps_set (i := 0) sc_u_law_written.nd rfl (Or.inl rfl) (pe_op op_fdiv (pv 0) pe_int))))) (pss_one (ps_ret (pv 2))))), ?_⟩
  rintro ⟨number_, size_, ⟨⟩⟩ F0 H0 Q KP L
  show Blk K F0 H0 KP _ [some (.im (toD number_)), some (.im (toD size_)), none, none] (m_u_law_written number_ size_)
  unfold m_u_law_written
  have hs_ := ((en_lst (f := (fun y => ([] : List Int))) ea_nil (fun _ => rfl) (fun _ => by show 0 ≤ 100000; decide)) : EvN K (W0 E) [some (.im (toD number_)), some (.im (toD size_)), none, none] _ _)
  refine blk_seq (blk_own (i := 2) L trivial hs_ fun data_ => ?_)
  show Blk _ _ _ _ _ [some (.im (toD number_)), some (.im (toD size_)), some (.ow (data_.map toD)), none] _
  try refine Blk.nx ?_
  have hi_ := ((ei_range1 (ev_var (i := 1) (x := size_) rfl)) : EvI K (W0 E) [some (.im (toD number_)), some (.im (toD size_)), some (.ow (data_.map toD)), none] _ _)
  refine blk_seq (blk_for (S := Int × (List Int)) (m_u_law_written_l1 (m_u_law_written_k2)) (m_u_law_written_k2) (fun (number_, data_) => [some (.im (toD number_)), some (.im (toD size_)), some (.ow (data_.map toD)), none]) (number_, data_) L trivial hi_ (fun _ => gx_name) (.same (.same (.same (.same .nil)))) (fun _ => rfl) ?_ ?_)
  · intro F1 L1 hB1 x193 r1 s_ N_ hN1
    obtain ⟨number_, data_⟩ := s_
    show Blk _ _ _ _ _ [some (.im (toD number_)), some (.im (toD size_)), some (.ow (data_.map toD)), some (.im (toD x193))] (m_u_law_written_l1 (m_u_law_written_k2) (x193 :: r1) (number_, data_))
    rw [m_u_law_written_l1]
    show Blk _ _ _ _ _ _ ((fun (k_ : Int) => _) x193)
    generalize x193 = k_
    show Blk _ _ _ _ _ [some (.im (toD number_)), some (.im (toD size_)), some (.ow (data_.map toD)), some (.im (toD k_))] _
    have hs_ := ((ev_opI (C := (fun _ j => 0 < j)) (g := fun i j => i % j) (fun x y _ h => by cases h; (show (0 : Int) < _; decide)) (ev_var (i := 0) (x := number_) rfl) (ev_int (i := 256))) : EvX K (W0 E) [some (.im (toD number_)), some (.im (toD size_)), some (.ow (data_.map toD)), some (.im (toD k_))] _ _)
    refine blk_seq (blk_app (i := 2) (xs := data_) L1 trivial rfl hs_ fun y199 => ?_)
    show Blk _ _ _ _ _ [some (.im (toD number_)), some (.im (toD size_)), some (.ow ((data_ ++ [y199]).map toD)), some (.im (toD k_))] ((fun (data_ : (List Int)) => _) (data_ ++ [y199]))
    generalize data_ ++ [y199] = data_
    show Blk _ _ _ _ _ [some (.im (toD number_)), some (.im (toD size_)), some (.ow (data_.map toD)), some (.im (toD k_))] _
    try refine Blk.nx ?_
    have hs_ := ((ev_opI (C := CDiv) (g := fun i j => i / j) (fun x y _ h => by cases h; exact ⟨by decide, by decide⟩) (ev_var (i := 0) (x := number_) rfl) (ev_int (i := 256))) : EvX K (W0 E) [some (.im (toD number_)), some (.im (toD size_)), some (.ow (data_.map toD)), some (.im (toD k_))] _ _)
    refine blk_set (i := 0) L1 trivial hs_ fun number_ => ?_
    show Blk _ _ _ _ _ [some (.im (toD number_)), some (.im (toD size_)), some (.ow (data_.map toD)), some (.im (toD k_))] _
    try refine Blk.nx ?_
    exact (hN1 (number_, data_)).weak (.same (.same (.same (.drop .nil))))
  · rintro ⟨number_, data_⟩
    show Blk _ _ _ _ _ [some (.im (toD number_)), some (.im (toD size_)), some (.ow (data_.map toD)), none] ((m_u_law_written_k2) (number_, data_))
    unfold m_u_law_written_k2
    try refine Blk.nx ?_
    refine blk_freeze 2 rfl ?_
    show Blk _ _ _ _ _ [some (.im (toD number_)), some (.im (toD size_)), some (.im (toD data_)), none] _
    have hr_ := ((ev_var (i := 2) (x := data_) rfl) : EvX K (W0 E) [some (.im (toD number_)), some (.im (toD size_)), some (.im (toD data_)), none] _ _)
    exact blk_ret L trivial hr_
noncomputable def m_u_law_told_k2 : Res D :=   ((Res.ok ("other" : Str))).bind fun (x : Str) => Res.ok (toD x)
noncomputable def m_u_law_told (number_ : Int) (size_ : Int) (big_ : Bool) : Res D :=
  tryR (fun c => decide (c ∈ errs)) (fun c => subE c "CurveError")   (((Res.ok big_)).bind fun b => cond b   ((((((Res.ok number_)).bind fun a202 => (((Res.ok size_)).bind fun a204 => (Res.ok ()).bind fun a205 => Res.ok (a204, a205)).bind fun a203 => Res.ok (a202, a203)).bind fun p201 => m_to_big p201.1 p201.2.1).bind fun (x : (List Int)) => Res.ok (toD x)).bind fun x => Res.ok (.back x))   ((((((Res.ok number_)).bind fun a207 => (((Res.ok size_)).bind fun a209 => (Res.ok ()).bind fun a210 => Res.ok (a209, a210)).bind fun a208 => Res.ok (a207, a208)).bind fun p206 => m_to_little p206.1 p206.2.1).bind fun (x : (List Int)) => Res.ok (toD x)).bind fun x => Res.ok (.back x)))   (fun (_ : Unit) => Res.stuck) (fun qc_ => (((Res.ok (subE qc_ "OutOfRange"))).bind fun b213 => cond b213 (((Res.ok true)).bind fun b212 => cond b212 (((Res.ok (subE qc_ "Malformed" || subE qc_ "Refused"))).bind fun (t211 : Bool) => Res.ok (!t211)) (Res.ok false)) (Res.ok false)).bind fun b => cond b   (((((Res.ok ("refused" : Str))).bind fun a215 => (((Res.ok ("range" : Str))).bind fun a217 => (Res.ok ()).bind fun a218 => Res.ok (a217, a218)).bind fun a216 => Res.ok (a215, a216)).bind fun p214 => Res.ok (T2.mk p214.1 p214.2.1)).bind fun (x : (T2 Str Str)) => Res.ok (toD x))   ((m_u_law_told_k2)))
theorem ok_u_law_told {P : Program} {w : World} {K : PySem.W.Frag} {mg : Str → Option Value} {base : Heap} (T : Facts K mg) {fd : FuncData} (F : FnP K "_law_told" "_law_told" s_u_law_told (He.ga K "_law_told") fd) :
    FnOk P w K mg base (L2.CX P w) 3 (He.ga K "_law_told") fd ["number", "size", "big"] (spM K (fun (p : Int × Int × Bool × Unit) => m_u_law_told p.1 p.2.1 p.2.2.1)) := by
  obtain ⟨fd_to_big, F_to_big⟩ := T.d_to_big
  have G_to_big := ok_to_big (P := P) (w := w) (base := base) T F_to_big
  have b_to_big : Binds K fd_to_big ["number", "size"] [] := F_to_big.bindsN fun _ _ _ _ _ _ us hl => match us, hl with | [_, _], _ => rfl
  obtain ⟨fd_to_little, F_to_little⟩ := T.d_to_little
  have G_to_little := ok_to_little (P := P) (w := w) (base := base) T F_to_little
  have b_to_little : Binds K fd_to_little ["number", "size"] [] := F_to_little.bindsN fun _ _ _ _ _ _ us hl => match us, hl with | [_, _], _ => rfl
  refine fn_ok F sc_u_law_told (fun y => rfl) (fun cdv A outer s H E hr => ?_)
  refine ⟨_, (pss_cons (ps_tryW (i := 3) rfl rfl sc_u_law_told.nd rfl rfl ⟨rfl, by decide, .inl T.g_CurveError⟩ (takes_of rfl rfl rfl rfl) (fun qW_ qpn_ qxe_ qtk_ qpo_ => (pss_cons (ps_if (pt_val (pv 2)) (pss_one (ps_ret (pe_callS G_to_big (hr.mono (by decide)) rfl T.g_to_big F_to_big.kp b_to_big (fun σ => passAt qtk_ σ) (pa_cons (pv 0) (pa_cons (pv 1) pa_nil))))) pss_nil) (pss_one (ps_ret (pe_callS G_to_little (hr.mono (by decide)) rfl T.g_to_little F_to_little.kp b_to_little (fun σ => passAt qtk_ σ) (pa_cons (pv 0) (pa_cons (pv 1) pa_nil))))))) (fun qa_ qoe_ qcls_ qd_ qpn_ qhz_ qhf_ => (pss_one (ps_if (PW.pt (pw_and (pt_val (pe_callB (call_isE2 qhz_ qhf_) (by rfl) T.n_isinstance (by decide +kernel) (pa_cons (pv 3) (pa_cons (pe_glob (v := .ref (He.ga K "OutOfRange")) rfl T.g_OutOfRange rfl) pa_nil)))) (pw_and (pt_val (pe_callB (call_isE2 qhz_ qhf_) (by rfl) T.n_isinstance (by decide +kernel) (pa_cons (pv 3) (pa_cons (pe_bltn (v := .ty "ValueError") (by rfl) T.n_ValueError (by decide +kernel) rfl) pa_nil)))) (pw_and1 (pt_not (pt_val (pe_callB (call_isET qhz_ qhf_) (by rfl) T.n_isinstance (by decide +kernel) (pa_cons (pv 3) (pa_cons (pe_tup (pa_cons (pe_glob (v := .ref (He.ga K "Malformed")) rfl T.g_Malformed rfl) (pa_cons (pe_glob (v := .ref (He.ga K "Refused")) rfl T.g_Refused rfl) pa_nil))) pa_nil))))))))) (pss_one (ps_ret (pe_tup (pa_cons pe_str (pa_cons pe_str pa_nil))))) pss_nil)))) (pss_one (ps_ret pe_str))), ?_⟩
  rintro ⟨number_, size_, big_, ⟨⟩⟩ F0 H0 Q KP L
  show Blk K F0 H0 KP _ [some (.im (toD number_)), some (.im (toD size_)), some (.im (toD big_)), none] (m_u_law_told number_ size_ big_)
  unfold m_u_law_told
  refine blk_seq (blk_with (m1 := (m_u_law_told_k2)) (env1 := [some (.im (toD number_)), some (.im (toD size_)), some (.im (toD big_)), none]) ?_ ?_)
  · show Blk _ _ _ _ _ [some (.im (toD number_)), some (.im (toD size_)), some (.im (toD big_)), none] (m_u_law_told_k2)
    unfold m_u_law_told_k2
    try refine Blk.nx ?_
    have hr_ := ((ev_as (ev_str (x := "other")) toD (fun _ => rfl) rfl) : EvX K (W0 E) [some (.im (toD number_)), some (.im (toD size_)), some (.im (toD big_)), none] _ _)
    exact blk_ret L trivial hr_
  · intro hr_
    refine blk_tryW (S := Unit) (envS := fun _ => [some (.im (toD number_)), some (.im (toD size_)), some (.im (toD big_)), none]) (rest := (fun (_ : Unit) => Res.stuck)) L trivial T.cls (x := "CurveError") (by decide) ?_ ?_ ?_
    · intro qW_ qKP_ Lt qhg_
      have ht_ := ((et_B (ev_var (i := 2) (x := big_) rfl)) : EvT K qW_ [some (.im (toD number_)), some (.im (toD size_)), some (.im (toD big_)), none] _ _)
      refine blk_seq (blk_if2 Lt (.same (.same (.same (.same .nil)))) ht_ ?_ ?_)
      · have hr_ := ((ev_as (ev_call (f := (fun (p : Int × Int × Unit) => m_to_big p.1 p.2.1)) (ea_cons (ev_var (i := 0) (x := number_) rfl) (ea_cons (ev_var (i := 1) (x := size_) rfl) ea_nil))) toD (fun _ => rfl) rfl) : EvX K qW_ [some (.im (toD number_)), some (.im (toD size_)), some (.im (toD big_)), none] _ _)
        exact blk_retAs Lt (.same (.same (.same (.same .nil)))) hr_ (fun _ => rfl)
      · refine blk_nil ?_
        try refine Blk.nx ?_
        have hr_ := ((ev_as (ev_call (f := (fun (p : Int × Int × Unit) => m_to_little p.1 p.2.1)) (ea_cons (ev_var (i := 0) (x := number_) rfl) (ea_cons (ev_var (i := 1) (x := size_) rfl) ea_nil))) toD (fun _ => rfl) rfl) : EvX K qW_ [some (.im (toD number_)), some (.im (toD size_)), some (.im (toD big_)), none] _ _)
        exact blk_retAs Lt (.same (.same (.same (.same .nil)))) hr_ (fun _ => rfl)
    · intro qc_ qa_ qnx_ qbk_ qct_ qhc_ qhsub_ qhn_
      show Blk _ _ _ _ _ [some (.im (toD number_)), some (.im (toD size_)), some (.im (toD big_)), some (.raw (.ref qa_))] _
      have ht_ := ((et_and (et_B (ev_isE T.cls qhc_ (x := "OutOfRange") (i := 3) (a := qa_) (by decide) rfl)) (et_and (et_B (ev_isEV T.cls qhc_ (i := 3) (a := qa_) rfl)) (et_not (et_B (ev_isET2 T.cls qhc_ (x := "Malformed") (y := "Refused") (i := 3) (a := qa_) (by decide) (by decide) rfl))))) : EvT K (W0 E) [some (.im (toD number_)), some (.im (toD size_)), some (.im (toD big_)), some (.raw (.ref qa_))] _ _)
      refine blk_if2 L trivial ht_ ?_ ?_
      · have hr_ := ((ev_as (ev_tup (f := (fun y => T2.mk y.1 y.2.1)) (ea_cons (ev_str (x := "refused")) (ea_cons (ev_str (x := "range")) ea_nil)) (fun _ => rfl) (fun _ => by show 2 ≤ 100000; decide)) toD (fun _ => rfl) rfl) : EvX K (W0 E) [some (.im (toD number_)), some (.im (toD size_)), some (.im (toD big_)), some (.raw (.ref qa_))] _ _)
        exact blk_ret L trivial hr_
      · refine blk_nil ?_
        try refine Blk.nx ?_
        refine qhn_ _ _ ?_
        show Blk _ _ _ _ _ [some (.im (toD number_)), some (.im (toD size_)), some (.im (toD big_)), none] _
        exact hr_.weak (.same (.same (.same (.same .nil))))
    · intro _ _ _ _ _ h_
      exact (L.no h_).elim
noncomputable def m_u_law_right_l1 (k1 : Int → Res Bool) : List Int → Int → Res Bool
  | [], s => k1 s
  | x234 :: r1, limit_ =>   (fun (k_ : Int) => (((Res.ok limit_)).bind fun (t235 : Int) => ((Res.ok (256 : Int))).bind fun (t236 : Int) => Res.ok (t235 * t236)).bind fun (limit_ : Int) =>   m_u_law_right_l1 k1 r1 limit_) x234
noncomputable def m_u_law_right_k5 (number_ : Int) (size_ : Int) (big_ : D) (little_ : D) : Int → Res Bool := fun limit_ =>   ((((Res.ok number_)).bind fun (t237 : Int) => ((Res.ok (0 : Int))).bind fun (t238 : Int) => Res.ok (decide (t237 < t238))).bind fun b241 => cond b241 (Res.ok true) (((Res.ok number_)).bind fun (t239 : Int) => ((Res.ok limit_)).bind fun (t240 : Int) => Res.ok (decide (t240 ≤ t239)))).bind fun b => cond b   ((((Res.ok big_)).bind fun (t247 : D) => ((((Res.ok ("refused" : Str))).bind fun a243 => (((Res.ok ("range" : Str))).bind fun a245 => (Res.ok ()).bind fun a246 => Res.ok (a245, a246)).bind fun a244 => Res.ok (a243, a244)).bind fun p242 => Res.ok (T2.mk p242.1 p242.2.1)).bind fun (t248 : (T2 Str Str)) => Res.need ((toD t247).okq = true ∧ (toD t248).okq = true) (Res.ok (pyEq (toD t247) (toD t248)))).bind fun b256 => cond b256 (((Res.ok little_)).bind fun (t254 : D) => ((((Res.ok ("refused" : Str))).bind fun a250 => (((Res.ok ("range" : Str))).bind fun a252 => (Res.ok ()).bind fun a253 => Res.ok (a252, a253)).bind fun a251 => Res.ok (a250, a251)).bind fun p249 => Res.ok (T2.mk p249.1 p249.2.1)).bind fun (t255 : (T2 Str Str)) => Res.need ((toD t254).okq = true ∧ (toD t255).okq = true) (Res.ok (pyEq (toD t254) (toD t255)))) (Res.ok false))   (((((Res.ok number_)).bind fun a258 => (((Res.ok size_)).bind fun a260 => (Res.ok ()).bind fun a261 => Res.ok (a260, a261)).bind fun a259 => Res.ok (a258, a259)).bind fun p257 => m_u_law_written p257.1 p257.2.1).bind fun (due_ : (List Int)) =>   ((((((Res.ok big_)).bind fun a263 => (((Res.ok size_)).bind fun a265 => (Res.ok ()).bind fun a266 => Res.ok (a265, a266)).bind fun a264 => Res.ok (a263, a264)).bind fun p262 => m_u_law_is_bytes p262.1 p262.2.1).bind fun (t267 : Bool) => Res.ok (!t267)).bind fun b274 => cond b274 (Res.ok true) (((((Res.ok little_)).bind fun a269 => (((Res.ok size_)).bind fun a271 => (Res.ok ()).bind fun a272 => Res.ok (a271, a272)).bind fun a270 => Res.ok (a269, a270)).bind fun p268 => m_u_law_is_bytes p268.1 p268.2.1).bind fun (t273 : Bool) => Res.ok (!t273))).bind fun b => cond b   ((Res.ok false))   (((((Res.ok little_)).bind fun (t275 : D) => ((Res.ok due_)).bind fun (t276 : (List Int)) => Res.need ((toD t275).okq = true ∧ (toD t276).okq = true) (Res.ok (!pyEq (toD t275) (toD t276)))).bind fun b288 => cond b288 (Res.ok true) (((Res.ok big_)).bind fun (t286 : D) => ((((Res.ok size_)).bind fun (t277 : Int) => Res.need (okRange t277) (Res.ok (pyRange 0 t277))).bind fun (xs285 : List Int) => Res.need (xs285.length ≤ 16777216) (compL (fun (x278 : Int) => Res.ok true) (fun (x278 : Int) => ((Res.ok due_)).bind fun (t283 : (List Int)) => ((((Res.ok size_)).bind fun (t279 : Int) => ((Res.ok (1 : Int))).bind fun (t280 : Int) => Res.ok (t279 - t280)).bind fun (t281 : Int) => ((Res.ok x278)).bind fun (t282 : Int) => Res.ok (t281 - t282)).bind fun (t284 : Int) => idx t283 t284) xs285)).bind fun (t287 : (List Int)) => Res.need ((toD t286).okq = true ∧ (toD t287).okq = true) (Res.ok (!pyEq (toD t286) (toD t287))))).bind fun b => cond b   ((Res.ok false))   (((((((Res.ok big_)).bind D.asInts).bind fun a290 => (Res.ok ()).bind fun a291 => Res.ok (a290, a291)).bind fun p289 => m_from_big p289.1).bind fun (t292 : Int) => ((Res.ok number_)).bind fun (t293 : Int) => Res.ok (decide (t292 = t293))).bind fun b299 => cond b299 ((((((Res.ok little_)).bind D.asInts).bind fun a295 => (Res.ok ()).bind fun a296 => Res.ok (a295, a296)).bind fun p294 => m_from_little p294.1).bind fun (t297 : Int) => ((Res.ok number_)).bind fun (t298 : Int) => Res.ok (decide (t297 = t298))) (Res.ok false))))
noncomputable def m_u_law_right (number_ : Int) (size_ : Int) : Res Bool :=
  ((((Res.ok number_)).bind fun a220 => (((Res.ok size_)).bind fun a222 => (((Res.ok true)).bind fun a224 => (Res.ok ()).bind fun a225 => Res.ok (a224, a225)).bind fun a223 => Res.ok (a222, a223)).bind fun a221 => Res.ok (a220, a221)).bind fun p219 => m_u_law_told p219.1 p219.2.1 p219.2.2.1).bind fun (big_ : D) =>   ((((Res.ok number_)).bind fun a227 => (((Res.ok size_)).bind fun a229 => (((Res.ok false)).bind fun a231 => (Res.ok ()).bind fun a232 => Res.ok (a231, a232)).bind fun a230 => Res.ok (a229, a230)).bind fun a228 => Res.ok (a227, a228)).bind fun p226 => m_u_law_told p226.1 p226.2.1 p226.2.2.1).bind fun (little_ : D) =>   ((Res.ok (1 : Int))).bind fun (limit_ : Int) =>   (((Res.ok size_)).bind fun (t233 : Int) => Res.need (okRange t233) (Res.ok (pyRange 0 t233))).bind fun (xs300 : List Int) => m_u_law_right_l1 (m_u_law_right_k5 number_ size_ big_ little_) xs300 limit_
theorem ok_u_law_right {P : Program} {w : World} {K : PySem.W.Frag} {mg : Str → Option Value} {base : Heap} (T : Facts K mg) {fd : FuncData} (F : FnP K "_law_right" "_law_right" s_u_law_right (He.ga K "_law_right") fd) :
    FnOk P w K mg base (L2.CX P w) 4 (He.ga K "_law_right") fd ["number", "size"] (spM K (fun (p : Int × Int × Unit) => m_u_law_right p.1 p.2.1)) := by
  obtain ⟨fd_u_law_is_bytes, F_u_law_is_bytes⟩ := T.d_u_law_is_bytes
  have G_u_law_is_bytes := ok_u_law_is_bytes (P := P) (w := w) (base := base) T F_u_law_is_bytes
  have b_u_law_is_bytes : Binds K fd_u_law_is_bytes ["actual", "count"] [] := F_u_law_is_bytes.bindsN fun _ _ _ _ _ _ us hl => match us, hl with | [_, _], _ => rfl
  obtain ⟨fd_u_law_told, F_u_law_told⟩ := T.d_u_law_told
  have G_u_law_told := ok_u_law_told (P := P) (w := w) (base := base) T F_u_law_told
  have b_u_law_told : Binds K fd_u_law_told ["number", "size", "big"] [] := F_u_law_told.bindsN fun _ _ _ _ _ _ us hl => match us, hl with | [_, _, _], _ => rfl
  obtain ⟨fd_u_law_written, F_u_law_written⟩ := T.d_u_law_written
  have G_u_law_written := ok_u_law_written (P := P) (w := w) (base := base) T F_u_law_written
  have b_u_law_written : Binds K fd_u_law_written ["number", "size"] [] := F_u_law_written.bindsN fun _ _ _ _ _ _ us hl => match us, hl with | [_, _], _ => rfl
  obtain ⟨fd_from_big, F_from_big⟩ := T.d_from_big
  have G_from_big := ok_from_big (P := P) (w := w) (base := base) T F_from_big
  have b_from_big : Binds K fd_from_big ["data"] [] := F_from_big.bindsN fun _ _ _ _ _ _ us hl => match us, hl with | [_], _ => rfl
  obtain ⟨fd_from_little, F_from_little⟩ := T.d_from_little
  have G_from_little := ok_from_little (P := P) (w := w) (base := base) T F_from_little
  have b_from_little : Binds K fd_from_little ["data"] [] := F_from_little.bindsN fun _ _ _ _ _ _ us hl => match us, hl with | [_], _ => rfl
  refine fn_ok F sc_u_law_right (fun y => rfl) (fun cdv A outer s H E hr => ?_)
  refine ⟨_, (pss_cons (ps_set (i := 2) sc_u_law_right.nd rfl (Or.inl rfl) (pe_callS G_u_law_told (hr.mono (by decide)) rfl T.g_u_law_told F_u_law_told.kp b_u_law_told (fun σ => passAt (takes_of rfl rfl rfl rfl) σ) (pa_cons (pv 0) (pa_cons (pv 1) (pa_cons pe_bl pa_nil))))) (pss_cons (ps_set (i := 3) sc_u_law_right.nd rfl (Or.inl rfl) (pe_callS G_u_law_told (hr.mono (by decide)) rfl T.g_u_law_told F_u_law_told.kp b_u_law_told (fun σ => passAt (takes_of rfl rfl rfl rfl) σ) (pa_cons (pv 0) (pa_cons (pv 1) (pa_cons pe_bl pa_nil))))) (pss_cons (ps_set (i := 4) sc_u_law_right.nd rfl (Or.inl rfl) pe_int) (pss_cons (ps_for (passes_of rfl) rfl (pi_range1 rfl T.n_range (pa_cons (pv 1) pa_nil)) (pg_name (i := 5) sc_u_law_right.nd rfl (Or.inl rfl)) (pss_one (ps_set (i := 4) sc_u_law_right.nd rfl (Or.inl rfl) (pe_op op_mul (pv 4) pe_int)))) (pss_cons (ps_if (PW.pt (pw_or (pt_cmpR op_lt (pv 0) pe_int (nomark _)) (pw_or1 (pt_cmpR op_ge (pv 0) (pv 4) (nomark _))))) (pss_one (ps_ret (pe_and (pe_cmpR (op_eqD (Room.units hr)) (pv 2) (pe_tup (pa_cons pe_str (pa_cons pe_str pa_nil))) (nomark _)) (pe_one (pe_cmpR (op_eqD (Room.units hr)) (pv 3) (pe_tup (pa_cons pe_str (pa_cons pe_str pa_nil))) (nomark _)))))) pss_nil) (pss_cons (ps_set (i := 6) sc_u_law_right.nd rfl (Or.inr rfl) (pe_callS G_u_law_written (hr.mono (by decide)) rfl T.g_u_law_written F_u_law_written.kp b_u_law_written (fun σ => passAt (takes_of rfl rfl rfl rfl) σ) (pa_cons (pv 0) (pa_cons (pv 1) pa_nil)))) (pss_cons (ps_if (PW.pt (pw_or (pt_not (pt_val (pe_callS G_u_law_is_bytes (hr.mono (by decide)) rfl T.g_u_law_is_bytes F_u_law_is_bytes.kp b_u_law_is_bytes (fun σ => passAt (takes_of rfl rfl rfl rfl) σ) (pa_cons (pv 2) (pa_cons (pv 1) pa_nil))))) (pw_or1 (pt_not (pt_val (pe_callS G_u_law_is_bytes (hr.mono (by decide)) rfl T.g_u_law_is_bytes F_u_law_is_bytes.kp b_u_law_is_bytes (fun σ => passAt (takes_of rfl rfl rfl rfl) σ) (pa_cons (pv 3) (pa_cons (pv 1) pa_nil)))))))) (pss_one (ps_ret pe_bl)) pss_nil) (pss_cons (ps_if (PW.pt (pw_or (pt_cmpR (op_neD (Room.units hr)) (pv 3) (pv 6) (nomark _)) (pw_or1 (pt_cmpR (op_neD (Room.units hr)) (pv 2) (pe_lc (own := [("k", 5)]) rfl sc_u_law_right.nd (pi_range1 rfl T.n_range (pa_cons (pv 1) pa_nil)) (blkOk_by (own := [("k", 5)]) (N := ["number", "size", "big", "little", "limit", "k", "due"]) (sc := defScope s_u_law_right) (by decide +kernel)) (fun _ _ _ _ _ => (pg_name (i := 5) sc_u_law_right.nd rfl (Or.inl rfl))) (fun _ _ _ _ _ => pts_nil) (fun _ _ _ _ _ => (pe_ix (cr_ixL rfl) (pv 6) (pe_op op_sub (pe_op op_sub (pv 1) pe_int) (pv 5)) (fun _ _ => rfl)))) (nomark _))))) (pss_one (ps_ret pe_bl)) pss_nil) (pss_one (ps_ret (pe_and (pe_cmpR op_eq (pe_callS G_from_big (hr.mono (by decide)) rfl T.g_from_big F_from_big.kp b_from_big (fun σ => passAt (takes_of rfl rfl rfl rfl) σ) (pa_cons (pv 2) pa_nil)) (pv 0) (nomark _)) (pe_one (pe_cmpR op_eq (pe_callS G_from_little (hr.mono (by decide)) rfl T.g_from_little F_from_little.kp b_from_little (fun σ => passAt (takes_of rfl rfl rfl rfl) σ) (pa_cons (pv 3) pa_nil)) (pv 0) (nomark _)))))))))))))), ?_⟩
  rintro ⟨number_, size_, ⟨⟩⟩ F0 H0 Q KP L
  show Blk K F0 H0 KP _ [some (.im (toD number_)), some (.im (toD size_)), none, none, none, none, none] (m_u_law_right number_ size_)
  unfold m_u_law_right
  have hs_ := ((ev_call (f := (fun (p : Int × Int × Bool × Unit) => m_u_law_told p.1 p.2.1 p.2.2.1)) (ea_cons (ev_var (i := 0) (x := number_) rfl) (ea_cons (ev_var (i := 1) (x := size_) rfl) (ea_cons (ev_bl (b := true)) ea_nil)))) : EvX K (W0 E) [some (.im (toD number_)), some (.im (toD size_)), none, none, none, none, none] _ _)
  refine blk_seq (blk_set (i := 2) L trivial hs_ fun big_ => ?_)
  show Blk _ _ _ _ _ [some (.im (toD number_)), some (.im (toD size_)), some (.im (toD big_)), none, none, none, none] _
  try refine Blk.nx ?_
  have hs_ := ((ev_call (f := (fun (p : Int × Int × Bool × Unit) => m_u_law_told p.1 p.2.1 p.2.2.1)) (ea_cons (ev_var (i := 0) (x := number_) rfl) (ea_cons (ev_var (i := 1) (x := size_) rfl) (ea_cons (ev_bl (b := false)) ea_nil)))) : EvX K (W0 E) [some (.im (toD number_)), some (.im (toD size_)), some (.im (toD big_)), none, none, none, none] _ _)
  refine blk_seq (blk_set (i := 3) L trivial hs_ fun little_ => ?_)
  show Blk _ _ _ _ _ [some (.im (toD number_)), some (.im (toD size_)), some (.im (toD big_)), some (.im (toD little_)), none, none, none] _
  try refine Blk.nx ?_
  have hs_ := ((ev_int (i := 1)) : EvX K (W0 E) [some (.im (toD number_)), some (.im (toD size_)), some (.im (toD big_)), some (.im (toD little_)), none, none, none] _ _)
  refine blk_seq (blk_set (i := 4) L trivial hs_ fun limit_ => ?_)
  show Blk _ _ _ _ _ [some (.im (toD number_)), some (.im (toD size_)), some (.im (toD big_)), some (.im (toD little_)), some (.im (toD limit_)), none, none] _
  try refine Blk.nx ?_
  have hi_ := ((ei_range1 (ev_var (i := 1) (x := size_) rfl)) : EvI K (W0 E) [some (.im (toD number_)), some (.im (toD size_)), some (.im (toD big_)), some (.im (toD little_)), some (.im (toD limit_)), none, none] _ _)
  refine blk_seq (blk_for (S := Int) (m_u_law_right_l1 (m_u_law_right_k5 number_ size_ big_ little_)) (m_u_law_right_k5 number_ size_ big_ little_) (fun limit_ => [some (.im (toD number_)), some (.im (toD size_)), some (.im (toD big_)), some (.im (toD little_)), some (.im (toD limit_)), none, none]) limit_ L trivial hi_ (fun _ => gx_name) (.same (.same (.same (.same (.same (.same (.same .nil))))))) (fun _ => rfl) ?_ ?_)
  · intro F1 L1 hB1 x234 r1 s_ N_ hN1
    revert s_; intro limit_
    show Blk _ _ _ _ _ [some (.im (toD number_)), some (.im (toD size_)), some (.im (toD big_)), some (.im (toD little_)), some (.im (toD limit_)), some (.im (toD x234)), none] (m_u_law_right_l1 (m_u_law_right_k5 number_ size_ big_ little_) (x234 :: r1) limit_)
    rw [m_u_law_right_l1]
    show Blk _ _ _ _ _ _ ((fun (k_ : Int) => _) x234)
    generalize x234 = k_
    show Blk _ _ _ _ _ [some (.im (toD number_)), some (.im (toD size_)), some (.im (toD big_)), some (.im (toD little_)), some (.im (toD limit_)), some (.im (toD k_)), none] _
    have hs_ := ((ev_opI (C := CMul) (g := fun i j => i * j) (fun x y _ h => by cases h; exact .inr (by decide)) (ev_var (i := 4) (x := limit_) rfl) (ev_int (i := 256))) : EvX K (W0 E) [some (.im (toD number_)), some (.im (toD size_)), some (.im (toD big_)), some (.im (toD little_)), some (.im (toD limit_)), some (.im (toD k_)), none] _ _)
    refine blk_set (i := 4) L1 trivial hs_ fun limit_ => ?_
    show Blk _ _ _ _ _ [some (.im (toD number_)), some (.im (toD size_)), some (.im (toD big_)), some (.im (toD little_)), some (.im (toD limit_)), some (.im (toD k_)), none] _
    try refine Blk.nx ?_
    exact (hN1 limit_).weak (.same (.same (.same (.same (.same (.drop (.same .nil)))))))
  · intro limit_
    show Blk _ _ _ _ _ [some (.im (toD number_)), some (.im (toD size_)), some (.im (toD big_)), some (.im (toD little_)), some (.im (toD limit_)), none, none] ((m_u_law_right_k5 number_ size_ big_ little_) limit_)
    unfold m_u_law_right_k5
    try refine Blk.nx ?_
    have ht_ := ((et_or (et_test (ev_op (opx_B0 (g := fun i j => decide (i < j))) mild_ok (ev_var (i := 0) (x := number_) rfl) (ev_int (i := 0)))) (et_test (ev_op (opx_B0 (g := fun i j => decide (j ≤ i))) mild_ok (ev_var (i := 0) (x := number_) rfl) (ev_var (i := 4) (x := limit_) rfl)))) : EvT K (W0 E) [some (.im (toD number_)), some (.im (toD size_)), some (.im (toD big_)), some (.im (toD little_)), some (.im (toD limit_)), none, none] _ _)
    refine blk_seq (blk_if2 L trivial ht_ ?_ ?_)
    · have hr_ := ((ev_andV (ev_op opx_eqD mild_need (ev_var (i := 2) (x := big_) rfl) (ev_tup (f := (fun y => T2.mk y.1 y.2.1)) (ea_cons (ev_str (x := "refused")) (ea_cons (ev_str (x := "range")) ea_nil)) (fun _ => rfl) (fun _ => by show 2 ≤ 100000; decide))) (ev_op opx_eqD mild_need (ev_var (i := 3) (x := little_) rfl) (ev_tup (f := (fun y => T2.mk y.1 y.2.1)) (ea_cons (ev_str (x := "refused")) (ea_cons (ev_str (x := "range")) ea_nil)) (fun _ => rfl) (fun _ => by show 2 ≤ 100000; decide)))) : EvX K (W0 E) [some (.im (toD number_)), some (.im (toD size_)), some (.im (toD big_)), some (.im (toD little_)), some (.im (toD limit_)), none, none] _ _)
      exact blk_ret L trivial hr_
    · refine blk_nil ?_
      try refine Blk.nx ?_
      have hs_ := ((ev_call (f := (fun (p : Int × Int × Unit) => m_u_law_written p.1 p.2.1)) (ea_cons (ev_var (i := 0) (x := number_) rfl) (ea_cons (ev_var (i := 1) (x := size_) rfl) ea_nil))) : EvX K (W0 E) [some (.im (toD number_)), some (.im (toD size_)), some (.im (toD big_)), some (.im (toD little_)), some (.im (toD limit_)), none, none] _ _)
      refine blk_seq (blk_set (i := 6) L trivial hs_ fun due_ => ?_)
      show Blk _ _ _ _ _ [some (.im (toD number_)), some (.im (toD size_)), some (.im (toD big_)), some (.im (toD little_)), some (.im (toD limit_)), none, some (.im (toD due_))] _
      try refine Blk.nx ?_
      have ht_ := ((et_or (et_not (et_B (ev_call (f := (fun (p : D × Int × Unit) => m_u_law_is_bytes p.1 p.2.1)) (ea_cons (ev_var (i := 2) (x := big_) rfl) (ea_cons (ev_var (i := 1) (x := size_) rfl) ea_nil))))) (et_not (et_B (ev_call (f := (fun (p : D × Int × Unit) => m_u_law_is_bytes p.1 p.2.1)) (ea_cons (ev_var (i := 3) (x := little_) rfl) (ea_cons (ev_var (i := 1) (x := size_) rfl) ea_nil)))))) : EvT K (W0 E) [some (.im (toD number_)), some (.im (toD size_)), some (.im (toD big_)), some (.im (toD little_)), some (.im (toD limit_)), none, some (.im (toD due_))] _ _)
      refine blk_seq (blk_if2 L trivial ht_ ?_ ?_)
      · have hr_ := ((ev_bl (b := false)) : EvX K (W0 E) [some (.im (toD number_)), some (.im (toD size_)), some (.im (toD big_)), some (.im (toD little_)), some (.im (toD limit_)), none, some (.im (toD due_))] _ _)
        exact blk_ret L trivial hr_
      · refine blk_nil ?_
        try refine Blk.nx ?_
        have ht_ := ((et_or (et_test (ev_op opx_neD mild_need (ev_var (i := 3) (x := little_) rfl) (ev_var (i := 6) (x := due_) rfl))) (et_test (ev_op opx_neD mild_need (ev_var (i := 2) (x := big_) rfl) (ev_ofN (ev_comp (tst := fun (x278 : Int) => Res.ok true) (el := fun (x278 : Int) => ((Res.ok due_)).bind fun (t283 : (List Int)) => ((((Res.ok size_)).bind fun (t279 : Int) => ((Res.ok (1 : Int))).bind fun (t280 : Int) => Res.ok (t279 - t280)).bind fun (t281 : Int) => ((Res.ok x278)).bind fun (t282 : Int) => Res.ok (t281 - t282)).bind fun (t284 : Int) => idx t283 t284) (ws := [5]) (ei_range1 (ev_var (i := 1) (x := size_) rfl)) (fun _ => gx_name) (fun x278 => et_yes) (fun x278 => ((ev_op opx_ixL (fun x y => idx_mild x y) (ev_var (i := 6) (x := due_) rfl) (ev_op (opx_I0 (g := fun i j => i - j)) mild_ok (ev_op (opx_I0 (g := fun i j => i - j)) mild_ok (ev_var (i := 1) (x := size_) rfl) (ev_int (i := 1))) (ev_var (i := 5) (x := x278) rfl))) : EvX K WT [some (.im (toD number_)), some (.im (toD size_)), some (.im (toD big_)), some (.im (toD little_)), some (.im (toD limit_)), some (.im (toD x278)), some (.im (toD due_))] _ _))))))) : EvT K (W0 E) [some (.im (toD number_)), some (.im (toD size_)), some (.im (toD big_)), some (.im (toD little_)), some (.im (toD limit_)), none, some (.im (toD due_))] _ _)
        refine blk_seq (blk_if2 L trivial ht_ ?_ ?_)
        · have hr_ := ((ev_bl (b := false)) : EvX K (W0 E) [some (.im (toD number_)), some (.im (toD size_)), some (.im (toD big_)), some (.im (toD little_)), some (.im (toD limit_)), none, some (.im (toD due_))] _ _)
          exact blk_ret L trivial hr_
        · refine blk_nil ?_
          try refine Blk.nx ?_
          have hr_ := ((ev_andV (ev_op opx_eqI mild_ok (ev_call (f := (fun (p : (List Int) × Unit) => m_from_big p.1)) (ea_cons (ev_cast (f := D.asInts) asInts_ok asInts_x (ev_var (i := 2) (x := big_) rfl)) ea_nil)) (ev_var (i := 0) (x := number_) rfl)) (ev_op opx_eqI mild_ok (ev_call (f := (fun (p : (List Int) × Unit) => m_from_little p.1)) (ea_cons (ev_cast (f := D.asInts) asInts_ok asInts_x (ev_var (i := 3) (x := little_) rfl)) ea_nil)) (ev_var (i := 0) (x := number_) rfl))) : EvX K (W0 E) [some (.im (toD number_)), some (.im (toD size_)), some (.im (toD big_)), some (.im (toD little_)), some (.im (toD limit_)), none, some (.im (toD due_))] _ _)
          exact blk_ret L trivial hr_
noncomputable def m_law_l3 (data_ : (List Int)) (k3 : Int × Int → Res Bool) : List Int → Int × Int → Res Bool
  | [], s => k3 s
  | x380 :: r3, (little_, big_) =>   (fun (k_ : Int) => ((((Res.ok big_)).bind fun (t381 : Int) => ((Res.ok (256 : Int))).bind fun (t382 : Int) => Res.ok (t381 * t382)).bind fun (t385 : Int) => (((Res.ok data_)).bind fun (t383 : (List Int)) => ((Res.ok k_)).bind fun (t384 : Int) => idx t383 t384).bind fun (t386 : Int) => Res.ok (t385 + t386)).bind fun (big_ : Int) =>   ((((Res.ok little_)).bind fun (t387 : Int) => ((Res.ok (256 : Int))).bind fun (t388 : Int) => Res.ok (t387 * t388)).bind fun (t398 : Int) => (((Res.ok data_)).bind fun (t396 : (List Int)) => ((((((Res.ok data_)).bind fun a390 => (Res.ok ()).bind fun a391 => Res.ok (a390, a391)).bind fun p389 => Res.ok ((p389.1).length : Int)).bind fun (t392 : Int) => ((Res.ok (1 : Int))).bind fun (t393 : Int) => Res.ok (t392 - t393)).bind fun (t394 : Int) => ((Res.ok k_)).bind fun (t395 : Int) => Res.ok (t394 - t395)).bind fun (t397 : Int) => idx t396 t397).bind fun (t399 : Int) => Res.ok (t398 + t399)).bind fun (little_ : Int) =>   m_law_l3 data_ k3 r3 (little_, big_)) x380
noncomputable def m_law_k5 (data_ : (List Int)) (handed_ : (List Int)) : Int × Int → Res Bool := fun (little_, big_) =>   ((((((Res.ok handed_)).bind fun a401 => (Res.ok ()).bind fun a402 => Res.ok (a401, a402)).bind fun p400 => m_from_big p400.1).bind fun a407 => (((((Res.ok handed_)).bind fun a404 => (Res.ok ()).bind fun a405 => Res.ok (a404, a405)).bind fun p403 => m_from_little p403.1).bind fun a409 => (Res.ok ()).bind fun a410 => Res.ok (a409, a410)).bind fun a408 => Res.ok (a407, a408)).bind fun p406 => Res.ok ([p406.1, p406.2.1] : List Int)).bind fun (found_ : (List Int)) =>   ((((((((Res.ok found_)).bind fun (t411 : (List Int)) => ((Res.ok (0 : Int))).bind fun (t412 : Int) => idx t411 t412).bind fun (x : Int) => Res.ok (toD x)).bind fun a414 => (Res.ok ()).bind fun a415 => Res.ok (a414, a415)).bind fun p413 => m_u_law_is_integer p413.1).bind fun (t416 : Bool) => Res.ok (!t416)).bind fun b423 => cond b423 (Res.ok true) (((((((Res.ok found_)).bind fun (t417 : (List Int)) => ((Res.ok (1 : Int))).bind fun (t418 : Int) => idx t417 t418).bind fun (x : Int) => Res.ok (toD x)).bind fun a420 => (Res.ok ()).bind fun a421 => Res.ok (a420, a421)).bind fun p419 => m_u_law_is_integer p419.1).bind fun (t422 : Bool) => Res.ok (!t422))).bind fun b => cond b   ((Res.ok false))   ((((Res.ok found_)).bind fun (t429 : (List Int)) => ((((Res.ok big_)).bind fun a425 => (((Res.ok little_)).bind fun a427 => (Res.ok ()).bind fun a428 => Res.ok (a427, a428)).bind fun a426 => Res.ok (a425, a426)).bind fun p424 => Res.ok ([p424.1, p424.2.1] : List Int)).bind fun (t430 : (List Int)) => Res.need ((toD t429).okq = true ∧ (toD t430).okq = true) (Res.ok (pyEq (toD t429) (toD t430)))).bind fun b433 => cond b433 (((Res.ok handed_)).bind fun (t431 : (List Int)) => ((Res.ok data_)).bind fun (t432 : (List Int)) => Res.need ((toD t431).okq = true ∧ (toD t432).okq = true) (Res.ok (pyEq (toD t431) (toD t432)))) (Res.ok false))
noncomputable def m_law_k1 (script_ : (List Int)) (number_ : Int) : Int → Res Bool := fun size_ =>   ((((((Res.ok number_)).bind fun a336 => (((Res.ok size_)).bind fun a338 => (Res.ok ()).bind fun a339 => Res.ok (a338, a339)).bind fun a337 => Res.ok (a336, a337)).bind fun p335 => m_u_law_right p335.1 p335.2.1).bind fun (t340 : Bool) => Res.ok (!t340)).bind fun b353 => cond b353 (Res.ok true) (((((((Res.ok (1 : Int))).bind fun (t341 : Int) => Res.ok (-t341)).bind fun (t345 : Int) => ((((Res.ok number_)).bind fun a343 => (Res.ok ()).bind fun a344 => Res.ok (a343, a344)).bind fun p342 => Res.ok (Int.natAbs p342.1 : Int)).bind fun (t346 : Int) => Res.ok (t345 - t346)).bind fun a348 => (((Res.ok size_)).bind fun a350 => (Res.ok ()).bind fun a351 => Res.ok (a350, a351)).bind fun a349 => Res.ok (a348, a349)).bind fun p347 => m_u_law_right p347.1 p347.2.1).bind fun (t352 : Bool) => Res.ok (!t352))).bind fun b => cond b   ((Res.ok false))   (((((((Res.ok script_)).bind fun a355 => (((Res.ok (3 : Int))).bind fun a357 => (Res.ok ()).bind fun a358 => Res.ok (a357, a358)).bind fun a356 => Res.ok (a355, a356)).bind fun p354 => m_u_law_cell p354.1 p354.2.1).bind fun a370 => (((Res.ok (2 : Int))).bind fun a372 => ((((((((Res.ok script_)).bind fun a360 => (((Res.ok (4 : Int))).bind fun a362 => (Res.ok ()).bind fun a363 => Res.ok (a362, a363)).bind fun a361 => Res.ok (a360, a361)).bind fun p359 => m_u_law_cell p359.1 p359.2.1).bind fun a365 => (Res.ok ()).bind fun a366 => Res.ok (a365, a366)).bind fun p364 => Res.ok (Int.natAbs p364.1 : Int)).bind fun (t367 : Int) => ((Res.ok (41 : Int))).bind fun (t368 : Int) => Res.ok (t367 % t368)).bind fun a374 => (Res.ok ()).bind fun a375 => Res.ok (a374, a375)).bind fun a373 => Res.ok (a372, a373)).bind fun a371 => Res.ok (a370, a371)).bind fun p369 => m_u_law_bytes p369.1 p369.2.1 p369.2.2.1).bind fun (data_ : (List Int)) =>   ((Res.ok data_)).bind fun (handed_ : (List Int)) =>   ((Res.ok (0 : Int))).bind fun (little_ : Int) =>   ((Res.ok (0 : Int))).bind fun (big_ : Int) =>   (((((Res.ok data_)).bind fun a377 => (Res.ok ()).bind fun a378 => Res.ok (a377, a378)).bind fun p376 => Res.ok ((p376.1).length : Int)).bind fun (t379 : Int) => Res.need (okRange t379) (Res.ok (pyRange 0 t379))).bind fun (xs434 : List Int) => m_law_l3 data_ (m_law_k5 data_ handed_) xs434 (little_, big_))
noncomputable def m_law (script_ : (List Int)) : Res Bool :=
  ((((((Res.ok script_)).bind fun a302 => (((Res.ok (0 : Int))).bind fun a304 => (Res.ok ()).bind fun a305 => Res.ok (a304, a305)).bind fun a303 => Res.ok (a302, a303)).bind fun p301 => m_u_law_cell p301.1 p301.2.1).bind fun a307 => (((Res.ok (1 : Int))).bind fun a309 => (Res.ok ()).bind fun a310 => Res.ok (a309, a310)).bind fun a308 => Res.ok (a307, a308)).bind fun p306 => m_u_law_number p306.1 p306.2.1).bind fun (number_ : Int) =>   (((((((Res.ok script_)).bind fun a312 => (((Res.ok (1 : Int))).bind fun a314 => (Res.ok ()).bind fun a315 => Res.ok (a314, a315)).bind fun a313 => Res.ok (a312, a313)).bind fun p311 => m_u_law_cell p311.1 p311.2.1).bind fun a317 => (Res.ok ()).bind fun a318 => Res.ok (a317, a318)).bind fun p316 => Res.ok (Int.natAbs p316.1 : Int)).bind fun (t319 : Int) => ((Res.ok (41 : Int))).bind fun (t320 : Int) => Res.ok (t319 % t320)).bind fun (size_ : Int) =>   (((((((((Res.ok script_)).bind fun a322 => (((Res.ok (1 : Int))).bind fun a324 => (Res.ok ()).bind fun a325 => Res.ok (a324, a325)).bind fun a323 => Res.ok (a322, a323)).bind fun p321 => m_u_law_cell p321.1 p321.2.1).bind fun a327 => (Res.ok ()).bind fun a328 => Res.ok (a327, a328)).bind fun p326 => Res.ok (Int.natAbs p326.1 : Int)).bind fun (t329 : Int) => ((Res.ok (41 : Int))).bind fun (t330 : Int) => Res.ok (t329 / t330)).bind fun (t331 : Int) => ((Res.ok (3 : Int))).bind fun (t332 : Int) => Res.ok (t331 % t332)).bind fun (t333 : Int) => ((Res.ok (1 : Int))).bind fun (t334 : Int) => Res.ok (decide (t333 = t334))).bind fun b => cond b   (((((Res.ok (0 : Int))).bind fun a454 => ((((((((Res.ok number_)).bind fun a436 => (Res.ok ()).bind fun a437 => Res.ok (a436, a437)).bind fun p435 => Res.ok (Int.natAbs p435.1 : Int)).bind fun a439 => (Res.ok ()).bind fun a440 => Res.ok (a439, a440)).bind fun p438 => m_u_law_smallest p438.1).bind fun (t451 : Int) => (((((((Res.ok script_)).bind fun a442 => (((Res.ok (2 : Int))).bind fun a444 => (Res.ok ()).bind fun a445 => Res.ok (a444, a445)).bind fun a443 => Res.ok (a442, a443)).bind fun p441 => m_u_law_cell p441.1 p441.2.1).bind fun a447 => (Res.ok ()).bind fun a448 => Res.ok (a447, a448)).bind fun p446 => Res.ok (Int.natAbs p446.1 : Int)).bind fun (t449 : Int) => ((Res.ok (2 : Int))).bind fun (t450 : Int) => Res.ok (t449 % t450)).bind fun (t452 : Int) => Res.ok (t451 - t452)).bind fun a456 => (Res.ok ()).bind fun a457 => Res.ok (a456, a457)).bind fun a455 => Res.ok (a454, a455)).bind fun p453 => Res.ok (max p453.1 p453.2.1)).bind fun (size_ : Int) =>   (m_law_k1 script_ number_) size_)   ((m_law_k1 script_ number_) size_)
theorem ok_law {P : Program} {w : World} {K : PySem.W.Frag} {mg : Str → Option Value} {base : Heap} (T : Facts K mg) {fd : FuncData} (F : FnP K "law" "law" s_law (He.ga K "law") fd) :
    FnOk P w K mg base (L2.CX P w) 5 (He.ga K "law") fd ["script"] (spM K (fun (p : (List Int) × Unit) => m_law p.1)) := by
  obtain ⟨fd_u_law_bytes, F_u_law_bytes⟩ := T.d_u_law_bytes
  have G_u_law_bytes := ok_u_law_bytes (P := P) (w := w) (base := base) T F_u_law_bytes
  have b_u_law_bytes : Binds K fd_u_law_bytes ["cell", "salt", "count"] [] := F_u_law_bytes.bindsN fun _ _ _ _ _ _ us hl => match us, hl with | [_, _, _], _ => rfl
  obtain ⟨fd_u_law_cell, F_u_law_cell⟩ := T.d_u_law_cell
  have G_u_law_cell := ok_u_law_cell (P := P) (w := w) (base := base) T F_u_law_cell
  have b_u_law_cell : Binds K fd_u_law_cell ["script", "k"] [] := F_u_law_cell.bindsN fun _ _ _ _ _ _ us hl => match us, hl with | [_, _], _ => rfl
  obtain ⟨fd_u_law_is_integer, F_u_law_is_integer⟩ := T.d_u_law_is_integer
  have G_u_law_is_integer := ok_u_law_is_integer (P := P) (w := w) (base := base) T F_u_law_is_integer
  have b_u_law_is_integer : Binds K fd_u_law_is_integer ["actual"] [] := F_u_law_is_integer.bindsN fun _ _ _ _ _ _ us hl => match us, hl with | [_], _ => rfl
  obtain ⟨fd_u_law_number, F_u_law_number⟩ := T.d_u_law_number
  have G_u_law_number := ok_u_law_number (P := P) (w := w) (base := base) T F_u_law_number
  have b_u_law_number : Binds K fd_u_law_number ["cell", "salt"] [] := F_u_law_number.bindsN fun _ _ _ _ _ _ us hl => match us, hl with | [_, _], _ => rfl
  obtain ⟨fd_u_law_right, F_u_law_right⟩ := T.d_u_law_right
  have G_u_law_right := ok_u_law_right (P := P) (w := w) (base := base) T F_u_law_right
  have b_u_law_right : Binds K fd_u_law_right ["number", "size"] [] := F_u_law_right.bindsN fun _ _ _ _ _ _ us hl => match us, hl with | [_, _], _ => rfl
  obtain ⟨fd_u_law_smallest, F_u_law_smallest⟩ := T.d_u_law_smallest
  have G_u_law_smallest := ok_u_law_smallest (P := P) (w := w) (base := base) T F_u_law_smallest
  have b_u_law_smallest : Binds K fd_u_law_smallest ["number"] [] := F_u_law_smallest.bindsN fun _ _ _ _ _ _ us hl => match us, hl with | [_], _ => rfl
  obtain ⟨fd_from_big, F_from_big⟩ := T.d_from_big
  have G_from_big := ok_from_big (P := P) (w := w) (base := base) T F_from_big
  have b_from_big : Binds K fd_from_big ["data"] [] := F_from_big.bindsN fun _ _ _ _ _ _ us hl => match us, hl with | [_], _ => rfl
  obtain ⟨fd_from_little, F_from_little⟩ := T.d_from_little
  have G_from_little := ok_from_little (P := P) (w := w) (base := base) T F_from_little
  have b_from_little : Binds K fd_from_little ["data"] [] := F_from_little.bindsN fun _ _ _ _ _ _ us hl => match us, hl with | [_], _ => rfl
  refine fn_ok F sc_law (fun y => rfl) (fun cdv A outer s H E hr => ?_)
  refine ⟨_, (pss_cons (ps_set (i := 1) sc_law.nd rfl (Or.inl rfl) (pe_callS G_u_law_number (hr.mono (by decide)) rfl T.g_u_law_number F_u_law_number.kp b_u_law_number (fun σ => passAt (takes_of rfl rfl rfl rfl) σ) (pa_cons (pe_callS G_u_law_cell (hr.mono (by decide)) rfl T.g_u_law_cell F_u_law_cell.kp b_u_law_cell (fun σ => passAt (takes_of rfl rfl rfl rfl) σ) (pa_cons (pv 0) (pa_cons pe_int pa_nil))) (pa_cons pe_int pa_nil)))) (pss_cons (ps_set (i := 2) sc_law.nd rfl (Or.inl rfl) (pe_op op_mod (pe_callB call_abs (by rfl) T.n_abs (by decide +kernel) (pa_cons (pe_callS G_u_law_cell (hr.mono (by decide)) rfl T.g_u_law_cell F_u_law_cell.kp b_u_law_cell (fun σ => passAt (takes_of rfl rfl rfl rfl) σ) (pa_cons (pv 0) (pa_cons pe_int pa_nil))) pa_nil)) pe_int)) (pss_cons (ps_if (pt_cmpR op_eq (pe_op op_mod (pe_op op_fdiv (pe_callB call_abs (by rfl) T.n_abs (by decide +kernel) (pa_cons (pe_callS G_u_law_cell (hr.mono (by decide)) rfl T.g_u_law_cell F_u_law_cell.kp b_u_law_cell (fun σ => passAt (takes_of rfl rfl rfl rfl) σ) (pa_cons (pv 0) (pa_cons pe_int pa_nil))) pa_nil)) pe_int) pe_int) pe_int (nomark _)) (pss_one (ps_set (i := 2) sc_law.nd rfl (Or.inl rfl) (pe_callB (call_max2 rfl) (by rfl) T.n_max (by decide +kernel) (pa_cons pe_int (pa_cons (pe_op op_sub (pe_callS G_u_law_smallest (hr.mono (by decide)) rfl T.g_u_law_smallest F_u_law_smallest.kp b_u_law_smallest (fun σ => passAt (takes_of rfl rfl rfl rfl) σ) (pa_cons (pe_callB call_abs (by rfl) T.n_abs (by decide +kernel) (pa_cons (pv 1) pa_nil)) pa_nil)) (pe_op op_mod (pe_callB call_abs (by rfl) T.n_abs (by decide +kernel) (pa_cons (pe_callS G_u_law_cell (hr.mono (by decide)) rfl T.g_u_law_cell F_u_law_cell.kp b_u_law_cell (fun σ => passAt (takes_of rfl rfl rfl rfl) σ) (pa_cons (pv 0) (pa_cons pe_int pa_nil))) pa_nil)) pe_int)) pa_nil))))) pss_nil) (pss_cons (ps_if (PW.pt (pw_or (pt_not (pt_val (pe_callS G_u_law_right (hr.mono (by decide)) rfl T.g_u_law_right F_u_law_right.kp b_u_law_right (fun σ => passAt (takes_of rfl rfl rfl rfl) σ) (pa_cons (pv 1) (pa_cons (pv 2) pa_nil))))) (pw_or1 (pt_not (pt_val (pe_callS G_u_law_right (hr.mono (by decide)) rfl T.g_u_law_right F_u_law_right.kp b_u_law_right (fun σ => passAt (takes_of rfl rfl rfl rfl) σ) (pa_cons (pe_op op_sub (pe_un un_neg pe_int) (pe_callB call_abs (by rfl) T.n_abs (by decide +kernel) (pa_cons (pv 1) pa_nil))) (pa_cons (pv 2) pa_nil)))))))) (pss_one (ps_ret pe_bl)) pss_nil) (pss_cons (ps_set (i := 3) sc_law.nd rfl (Or.inl rfl) (pe_callS G_u_law_bytes (hr.mono (by decide)) rfl T.g_u_law_bytes F_u_law_bytes.kp b_u_law_bytes (fun σ => passAt (takes_of rfl rfl rfl rfl) σ) (pa_cons (pe_callS G_u_law_cell (hr.mono (by decide)) rfl T.g_u_law_cell F_u_law_cell.kp b_u_law_cell (fun σ => passAt (takes_of rfl rfl rfl rfl) σ) (pa_cons (pv 0) (pa_cons pe_int pa_nil))) (pa_cons pe_int (pa_cons (pe_op op_mod (pe_callB call_abs (by rfl) T.n_abs (by decide +kernel) (pa_cons (pe_callS G_u_law_cell (hr.mono (by decide)) rfl T.g_u_law_cell F_u_law_cell.kp b_u_law_cell (fun σ => passAt (takes_of rfl rfl rfl rfl) σ) (pa_cons (pv 0) (pa_cons pe_int pa_nil))) pa_nil)) pe_int) pa_nil))))) (pss_cons (ps_set (i := 4) sc_law.nd rfl (Or.inl rfl) (pe_callTy call_list_of (by rfl) T.n_list (by decide +kernel) (pa_cons (pv 3) pa_nil))) (pss_cons (ps_set (i := 5) sc_law.nd rfl (Or.inl rfl) pe_int) (pss_cons (ps_set (i := 6) sc_law.nd rfl (Or.inl rfl) pe_int) (pss_cons (ps_for (passes_of rfl) rfl (pi_range1 rfl T.n_range (pa_cons (pe_callB (cr_len rfl) (by rfl) T.n_len (by decide +kernel) (pa_cons (pv 3) pa_nil)) pa_nil)) (pg_name (i := 7) sc_law.nd rfl (Or.inl rfl)) (pss_cons (ps_set (i := 6) sc_law.nd rfl (Or.inl rfl) (pe_op op_add (pe_op op_mul (pv 6) pe_int) (pe_ix (cr_ixL rfl) (pv 3) (pv 7) (fun _ _ => rfl)))) (pss_one (ps_set (i := 5) sc_law.nd rfl (Or.inl rfl) (pe_op op_add (pe_op op_mul (pv 5) pe_int) (pe_ix (cr_ixL rfl) (pv 3) (pe_op op_sub (pe_op op_sub (pe_callB (cr_len rfl) (by rfl) T.n_len (by decide +kernel) (pa_cons (pv 3) pa_nil)) pe_int) (pv 7)) (fun _ _ => rfl))))))) (pss_cons (ps_set (i := 8) sc_law.nd rfl (Or.inl rfl) (pe_lst (pa_cons (pe_callS G_from_big (hr.mono (by decide)) rfl T.g_from_big F_from_big.kp b_from_big (fun σ => passAt (takes_of rfl rfl rfl rfl) σ) (pa_cons (pv 4) pa_nil)) (pa_cons (pe_callS G_from_little (hr.mono (by decide)) rfl T.g_from_little F_from_little.kp b_from_little (fun σ => passAt (takes_of rfl rfl rfl rfl) σ) (pa_cons (pv 4) pa_nil)) pa_nil)))) (pss_cons (ps_if (PW.pt (pw_or (pt_not (pt_val (pe_callS G_u_law_is_integer (hr.mono (by decide)) rfl T.g_u_law_is_integer F_u_law_is_integer.kp b_u_law_is_integer (fun σ => passAt (takes_of rfl rfl rfl rfl) σ) (pa_cons (pe_ix (cr_ixL rfl) (pv 8) pe_int (fun _ _ => rfl)) pa_nil)))) (pw_or1 (pt_not (pt_val (pe_callS G_u_law_is_integer (hr.mono (by decide)) rfl T.g_u_law_is_integer F_u_law_is_integer.kp b_u_law_is_integer (fun σ => passAt (takes_of rfl rfl rfl rfl) σ) (pa_cons (pe_ix (cr_ixL rfl) (pv 8) pe_int (fun _ _ => rfl)) pa_nil))))))) (pss_one (ps_ret pe_bl)) pss_nil) (pss_one (ps_ret (pe_and (pe_cmpR (op_eqD (Room.units hr)) (pv 8) (pe_lst (pa_cons (pv 6) (pa_cons (pv 5) pa_nil))) (nomark _)) (pe_one (pe_cmpR (op_eqD (Room.units hr)) (pv 4) (pv 3) (nomark _))))))))))))))))), ?_⟩
  rintro ⟨script_, ⟨⟩⟩ F0 H0 Q KP L
  show Blk K F0 H0 KP _ [some (.im (toD script_)), none, none, none, none, none, none, none, none] (m_law script_)
  unfold m_law
  have hs_ := ((ev_call (f := (fun (p : Int × Int × Unit) => m_u_law_number p.1 p.2.1)) (ea_cons (ev_call (f := (fun (p : (List Int) × Int × Unit) => m_u_law_cell p.1 p.2.1)) (ea_cons (ev_var (i := 0) (x := script_) rfl) (ea_cons (ev_int (i := 0)) ea_nil))) (ea_cons (ev_int (i := 1)) ea_nil))) : EvX K (W0 E) [some (.im (toD script_)), none, none, none, none, none, none, none, none] _ _)
  refine blk_seq (blk_set (i := 1) L trivial hs_ fun number_ => ?_)
  show Blk _ _ _ _ _ [some (.im (toD script_)), some (.im (toD number_)), none, none, none, none, none, none, none] _
  try refine Blk.nx ?_
  have hs_ := ((ev_opI (C := (fun _ j => 0 < j)) (g := fun i j => i % j) (fun x y _ h => by cases h; (show (0 : Int) < _; decide)) (ev_cb cx_abs (fun _ _ h => nomatch h) (ea_cons (ev_call (f := (fun (p : (List Int) × Int × Unit) => m_u_law_cell p.1 p.2.1)) (ea_cons (ev_var (i := 0) (x := script_) rfl) (ea_cons (ev_int (i := 1)) ea_nil))) ea_nil)) (ev_int (i := 41))) : EvX K (W0 E) [some (.im (toD script_)), some (.im (toD number_)), none, none, none, none, none, none, none] _ _)
  refine blk_seq (blk_set (i := 2) L trivial hs_ fun size_ => ?_)
  show Blk _ _ _ _ _ [some (.im (toD script_)), some (.im (toD number_)), some (.im (toD size_)), none, none, none, none, none, none] _
  try refine Blk.nx ?_
  have ht_ := ((et_test (ev_op opx_eqI mild_ok (ev_opI (C := (fun _ j => 0 < j)) (g := fun i j => i % j) (fun x y _ h => by cases h; (show (0 : Int) < _; decide)) (ev_opI (C := CDiv) (g := fun i j => i / j) (fun x y _ h => by cases h; exact ⟨by decide, by decide⟩) (ev_cb cx_abs (fun _ _ h => nomatch h) (ea_cons (ev_call (f := (fun (p : (List Int) × Int × Unit) => m_u_law_cell p.1 p.2.1)) (ea_cons (ev_var (i := 0) (x := script_) rfl) (ea_cons (ev_int (i := 1)) ea_nil))) ea_nil)) (ev_int (i := 41))) (ev_int (i := 3))) (ev_int (i := 1)))) : EvT K (W0 E) [some (.im (toD script_)), some (.im (toD number_)), some (.im (toD size_)), none, none, none, none, none, none] _ _)
  refine blk_seq (blk_ifj (S := Int) (fun size_ => [some (.im (toD script_)), some (.im (toD number_)), some (.im (toD size_)), none, none, none, none, none, none]) (m_law_k1 script_ number_) L trivial ht_ ?_ ?_ ?_)
  · intro size_
    show Blk _ _ _ _ _ [some (.im (toD script_)), some (.im (toD number_)), some (.im (toD size_)), none, none, none, none, none, none] ((m_law_k1 script_ number_) size_)
    unfold m_law_k1
    try refine Blk.nx ?_
    have ht_ := ((et_or (et_not (et_B (ev_call (f := (fun (p : Int × Int × Unit) => m_u_law_right p.1 p.2.1)) (ea_cons (ev_var (i := 1) (x := number_) rfl) (ea_cons (ev_var (i := 2) (x := size_) rfl) ea_nil))))) (et_not (et_B (ev_call (f := (fun (p : Int × Int × Unit) => m_u_law_right p.1 p.2.1)) (ea_cons (ev_op (opx_I0 (g := fun i j => i - j)) mild_ok (ev_un (g := fun i => -i) (ev_int (i := 1))) (ev_cb cx_abs (fun _ _ h => nomatch h) (ea_cons (ev_var (i := 1) (x := number_) rfl) ea_nil))) (ea_cons (ev_var (i := 2) (x := size_) rfl) ea_nil)))))) : EvT K (W0 E) [some (.im (toD script_)), some (.im (toD number_)), some (.im (toD size_)), none, none, none, none, none, none] _ _)
    refine blk_seq (blk_if2 L trivial ht_ ?_ ?_)
    · have hr_ := ((ev_bl (b := false)) : EvX K (W0 E) [some (.im (toD script_)), some (.im (toD number_)), some (.im (toD size_)), none, none, none, none, none, none] _ _)
      exact blk_ret L trivial hr_
    · refine blk_nil ?_
      try refine Blk.nx ?_
      have hs_ := ((ev_call (f := (fun (p : Int × Int × Int × Unit) => m_u_law_bytes p.1 p.2.1 p.2.2.1)) (ea_cons (ev_call (f := (fun (p : (List Int) × Int × Unit) => m_u_law_cell p.1 p.2.1)) (ea_cons (ev_var (i := 0) (x := script_) rfl) (ea_cons (ev_int (i := 3)) ea_nil))) (ea_cons (ev_int (i := 2)) (ea_cons (ev_opI (C := (fun _ j => 0 < j)) (g := fun i j => i % j) (fun x y _ h => by cases h; (show (0 : Int) < _; decide)) (ev_cb cx_abs (fun _ _ h => nomatch h) (ea_cons (ev_call (f := (fun (p : (List Int) × Int × Unit) => m_u_law_cell p.1 p.2.1)) (ea_cons (ev_var (i := 0) (x := script_) rfl) (ea_cons (ev_int (i := 4)) ea_nil))) ea_nil)) (ev_int (i := 41))) ea_nil)))) : EvX K (W0 E) [some (.im (toD script_)), some (.im (toD number_)), some (.im (toD size_)), none, none, none, none, none, none] _ _)
      refine blk_seq (blk_set (i := 3) L trivial hs_ fun data_ => ?_)
      show Blk _ _ _ _ _ [some (.im (toD script_)), some (.im (toD number_)), some (.im (toD size_)), some (.im (toD data_)), none, none, none, none, none] _
      try refine Blk.nx ?_
      have hs_ := ((ev_ofN (en_list (ev_var (i := 3) (x := data_) rfl))) : EvX K (W0 E) [some (.im (toD script_)), some (.im (toD number_)), some (.im (toD size_)), some (.im (toD data_)), none, none, none, none, none] _ _)
      refine blk_seq (blk_set (i := 4) L trivial hs_ fun handed_ => ?_)
      show Blk _ _ _ _ _ [some (.im (toD script_)), some (.im (toD number_)), some (.im (toD size_)), some (.im (toD data_)), some (.im (toD handed_)), none, none, none, none] _
      try refine Blk.nx ?_
      have hs_ := ((ev_int (i := 0)) : EvX K (W0 E) [some (.im (toD script_)), some (.im (toD number_)), some (.im (toD size_)), some (.im (toD data_)), some (.im (toD handed_)), none, none, none, none] _ _)
      refine blk_seq (blk_set (i := 5) L trivial hs_ fun little_ => ?_)
      show Blk _ _ _ _ _ [some (.im (toD script_)), some (.im (toD number_)), some (.im (toD size_)), some (.im (toD data_)), some (.im (toD handed_)), some (.im (toD little_)), none, none, none] _
      try refine Blk.nx ?_
      have hs_ := ((ev_int (i := 0)) : EvX K (W0 E) [some (.im (toD script_)), some (.im (toD number_)), some (.im (toD size_)), some (.im (toD data_)), some (.im (toD handed_)), some (.im (toD little_)), none, none, none] _ _)
      refine blk_seq (blk_set (i := 6) L trivial hs_ fun big_ => ?_)
      show Blk _ _ _ _ _ [some (.im (toD script_)), some (.im (toD number_)), some (.im (toD size_)), some (.im (toD data_)), some (.im (toD handed_)), some (.im (toD little_)), some (.im (toD big_)), none, none] _
      try refine Blk.nx ?_
      have hi_ := ((ei_range1 (ev_cb cx_len (fun _ _ h => nomatch h) (ea_cons (ev_var (i := 3) (x := data_) rfl) ea_nil))) : EvI K (W0 E) [some (.im (toD script_)), some (.im (toD number_)), some (.im (toD size_)), some (.im (toD data_)), some (.im (toD handed_)), some (.im (toD little_)), some (.im (toD big_)), none, none] _ _)
      refine blk_seq (blk_for (S := Int × Int) (m_law_l3 data_ (m_law_k5 data_ handed_)) (m_law_k5 data_ handed_) (fun (little_, big_) => [some (.im (toD script_)), some (.im (toD number_)), some (.im (toD size_)), some (.im (toD data_)), some (.im (toD handed_)), some (.im (toD little_)), some (.im (toD big_)), none, none]) (little_, big_) L trivial hi_ (fun _ => gx_name) (.same (.same (.same (.same (.same (.same (.same (.same (.same .nil))))))))) (fun _ => rfl) ?_ ?_)
      · intro F3 L3 hB3 x380 r3 s_ N_ hN3
        obtain ⟨little_, big_⟩ := s_
        show Blk _ _ _ _ _ [some (.im (toD script_)), some (.im (toD number_)), some (.im (toD size_)), some (.im (toD data_)), some (.im (toD handed_)), some (.im (toD little_)), some (.im (toD big_)), some (.im (toD x380)), none] (m_law_l3 data_ (m_law_k5 data_ handed_) (x380 :: r3) (little_, big_))
        rw [m_law_l3]
        show Blk _ _ _ _ _ _ ((fun (k_ : Int) => _) x380)
        generalize x380 = k_
        show Blk _ _ _ _ _ [some (.im (toD script_)), some (.im (toD number_)), some (.im (toD size_)), some (.im (toD data_)), some (.im (toD handed_)), some (.im (toD little_)), some (.im (toD big_)), some (.im (toD k_)), none] _
        have hs_ := ((ev_op (opx_I0 (g := fun i j => i + j)) mild_ok (ev_opI (C := CMul) (g := fun i j => i * j) (fun x y _ h => by cases h; exact .inr (by decide)) (ev_var (i := 6) (x := big_) rfl) (ev_int (i := 256))) (ev_op opx_ixL (fun x y => idx_mild x y) (ev_var (i := 3) (x := data_) rfl) (ev_var (i := 7) (x := k_) rfl))) : EvX K (W0 E) [some (.im (toD script_)), some (.im (toD number_)), some (.im (toD size_)), some (.im (toD data_)), some (.im (toD handed_)), some (.im (toD little_)), some (.im (toD big_)), some (.im (toD k_)), none] _ _)
        refine blk_seq (blk_set (i := 6) L3 trivial hs_ fun big_ => ?_)
        show Blk _ _ _ _ _ [some (.im (toD script_)), some (.im (toD number_)), some (.im (toD size_)), some (.im (toD data_)), some (.im (toD handed_)), some (.im (toD little_)), some (.im (toD big_)), some (.im (toD k_)), none] _
        try refine Blk.nx ?_
        have hs_ := ((ev_op (opx_I0 (g := fun i j => i + j)) mild_ok (ev_opI (C := CMul) (g := fun i j => i * j) (fun x y _ h => by cases h; exact .inr (by decide)) (ev_var (i := 5) (x := little_) rfl) (ev_int (i := 256))) (ev_op opx_ixL (fun x y => idx_mild x y) (ev_var (i := 3) (x := data_) rfl) (ev_op (opx_I0 (g := fun i j => i - j)) mild_ok (ev_op (opx_I0 (g := fun i j => i - j)) mild_ok (ev_cb cx_len (fun _ _ h => nomatch h) (ea_cons (ev_var (i := 3) (x := data_) rfl) ea_nil)) (ev_int (i := 1))) (ev_var (i := 7) (x := k_) rfl)))) : EvX K (W0 E) [some (.im (toD script_)), some (.im (toD number_)), some (.im (toD size_)), some (.im (toD data_)), some (.im (toD handed_)), some (.im (toD little_)), some (.im (toD big_)), some (.im (toD k_)), none] _ _)
        refine blk_set (i := 5) L3 trivial hs_ fun little_ => ?_
        show Blk _ _ _ _ _ [some (.im (toD script_)), some (.im (toD number_)), some (.im (toD size_)), some (.im (toD data_)), some (.im (toD handed_)), some (.im (toD little_)), some (.im (toD big_)), some (.im (toD k_)), none] _
        try refine Blk.nx ?_
        exact (hN3 (little_, big_)).weak (.same (.same (.same (.same (.same (.same (.same (.drop (.same .nil)))))))))
      · rintro ⟨little_, big_⟩
        show Blk _ _ _ _ _ [some (.im (toD script_)), some (.im (toD number_)), some (.im (toD size_)), some (.im (toD data_)), some (.im (toD handed_)), some (.im (toD little_)), some (.im (toD big_)), none, none] ((m_law_k5 data_ handed_) (little_, big_))
        unfold m_law_k5
        try refine Blk.nx ?_
        have hs_ := ((ev_ofN (en_lst (f := (fun y => ([y.1, y.2.1] : List Int))) (ea_cons (ev_call (f := (fun (p : (List Int) × Unit) => m_from_big p.1)) (ea_cons (ev_var (i := 4) (x := handed_) rfl) ea_nil)) (ea_cons (ev_call (f := (fun (p : (List Int) × Unit) => m_from_little p.1)) (ea_cons (ev_var (i := 4) (x := handed_) rfl) ea_nil)) ea_nil)) (fun _ => rfl) (fun _ => by show 2 ≤ 100000; decide))) : EvX K (W0 E) [some (.im (toD script_)), some (.im (toD number_)), some (.im (toD size_)), some (.im (toD data_)), some (.im (toD handed_)), some (.im (toD little_)), some (.im (toD big_)), none, none] _ _)
        refine blk_seq (blk_set (i := 8) L trivial hs_ fun found_ => ?_)
        show Blk _ _ _ _ _ [some (.im (toD script_)), some (.im (toD number_)), some (.im (toD size_)), some (.im (toD data_)), some (.im (toD handed_)), some (.im (toD little_)), some (.im (toD big_)), none, some (.im (toD found_))] _
        try refine Blk.nx ?_
        have ht_ := ((et_or (et_not (et_B (ev_call (f := (fun (p : D × Unit) => m_u_law_is_integer p.1)) (ea_cons (ev_as (ev_op opx_ixL (fun x y => idx_mild x y) (ev_var (i := 8) (x := found_) rfl) (ev_int (i := 0))) toD (fun _ => rfl) rfl) ea_nil)))) (et_not (et_B (ev_call (f := (fun (p : D × Unit) => m_u_law_is_integer p.1)) (ea_cons (ev_as (ev_op opx_ixL (fun x y => idx_mild x y) (ev_var (i := 8) (x := found_) rfl) (ev_int (i := 1))) toD (fun _ => rfl) rfl) ea_nil))))) : EvT K (W0 E) [some (.im (toD script_)), some (.im (toD number_)), some (.im (toD size_)), some (.im (toD data_)), some (.im (toD handed_)), some (.im (toD little_)), some (.im (toD big_)), none, some (.im (toD found_))] _ _)
        refine blk_seq (blk_if2 L trivial ht_ ?_ ?_)
        · have hr_ := ((ev_bl (b := false)) : EvX K (W0 E) [some (.im (toD script_)), some (.im (toD number_)), some (.im (toD size_)), some (.im (toD data_)), some (.im (toD handed_)), some (.im (toD little_)), some (.im (toD big_)), none, some (.im (toD found_))] _ _)
          exact blk_ret L trivial hr_
        · refine blk_nil ?_
          try refine Blk.nx ?_
          have hr_ := ((ev_andV (ev_op opx_eqD mild_need (ev_var (i := 8) (x := found_) rfl) (ev_ofN (en_lst (f := (fun y => ([y.1, y.2.1] : List Int))) (ea_cons (ev_var (i := 6) (x := big_) rfl) (ea_cons (ev_var (i := 5) (x := little_) rfl) ea_nil)) (fun _ => rfl) (fun _ => by show 2 ≤ 100000; decide)))) (ev_op opx_eqD mild_need (ev_var (i := 4) (x := handed_) rfl) (ev_var (i := 3) (x := data_) rfl))) : EvX K (W0 E) [some (.im (toD script_)), some (.im (toD number_)), some (.im (toD size_)), some (.im (toD data_)), some (.im (toD handed_)), some (.im (toD little_)), some (.im (toD big_)), none, some (.im (toD found_))] _ _)
          exact blk_ret L trivial hr_
  · intro hk1
    have hs_ := ((ev_cb cx_max (fun _ _ h => nomatch h) (ea_cons (ev_int (i := 0)) (ea_cons (ev_op (opx_I0 (g := fun i j => i - j)) mild_ok (ev_call (f := (fun (p : Int × Unit) => m_u_law_smallest p.1)) (ea_cons (ev_cb cx_abs (fun _ _ h => nomatch h) (ea_cons (ev_var (i := 1) (x := number_) rfl) ea_nil)) ea_nil)) (ev_opI (C := (fun _ j => 0 < j)) (g := fun i j => i % j) (fun x y _ h => by cases h; (show (0 : Int) < _; decide)) (ev_cb cx_abs (fun _ _ h => nomatch h) (ea_cons (ev_call (f := (fun (p : (List Int) × Int × Unit) => m_u_law_cell p.1 p.2.1)) (ea_cons (ev_var (i := 0) (x := script_) rfl) (ea_cons (ev_int (i := 2)) ea_nil))) ea_nil)) (ev_int (i := 2)))) ea_nil))) : EvX K (W0 E) [some (.im (toD script_)), some (.im (toD number_)), some (.im (toD size_)), none, none, none, none, none, none] _ _)
    refine blk_set (i := 2) L trivial hs_ fun size_ => ?_
    show Blk _ _ _ _ _ [some (.im (toD script_)), some (.im (toD number_)), some (.im (toD size_)), none, none, none, none, none, none] _
    try refine Blk.nx ?_
    exact (hk1 size_).weak (.same (.same (.same (.same (.same (.same (.same (.same (.same .nil)))))))))
  · intro hk1
    refine blk_nil ?_
    try refine Blk.nx ?_
    exact (hk1 size_).weak (.same (.same (.same (.same (.same (.same (.same (.same (.same .nil)))))))))
/-! ### the head -/
def dfs : List He.DefD := [⟨("to_little", none), "to_little", "to_little", defArgs s_to_little, defBody s_to_little, defScope s_to_little, [], []⟩, ⟨("to_big", none), "to_big", "to_big", defArgs s_to_big, defBody s_to_big, defScope s_to_big, [], []⟩, ⟨("from_big", none), "from_big", "from_big", defArgs s_from_big, defBody s_from_big, defScope s_from_big, [], []⟩, ⟨("from_little", none), "from_little", "from_little", defArgs s_from_little, defBody s_from_little, defScope s_from_little, [], []⟩, ⟨("_law_cell", none), "_law_cell", "_law_cell", defArgs s_u_law_cell, defBody s_u_law_cell, defScope s_u_law_cell, [], []⟩, ⟨("_law_is_integer", none), "_law_is_integer", "_law_is_integer", defArgs s_u_law_is_integer, defBody s_u_law_is_integer, defScope s_u_law_is_integer, [], []⟩, ⟨("_law_bytes", none), "_law_bytes", "_law_bytes", defArgs s_u_law_bytes, defBody s_u_law_bytes, defScope s_u_law_bytes, [], []⟩, ⟨("_law_is_bytes", none), "_law_is_bytes", "_law_is_bytes", defArgs s_u_law_is_bytes, defBody s_u_law_is_bytes, defScope s_u_law_is_bytes, [], []⟩, ⟨("_law_number", none), "_law_number", "_law_number", defArgs s_u_law_number, defBody s_u_law_number, defScope s_u_law_number, [], []⟩, ⟨("_law_smallest", none), "_law_smallest", "_law_smallest", defArgs s_u_law_smallest, defBody s_u_law_smallest, defScope s_u_law_smallest, [], []⟩, ⟨("_law_written", none), "_law_written", "_law_written", defArgs s_u_law_written, defBody s_u_law_written, defScope s_u_law_written, [], []⟩, ⟨("_law_told", none), "_law_told", "_law_told", defArgs s_u_law_told, defBody s_u_law_told, defScope s_u_law_told, [], []⟩, ⟨("_law_right", none), "_law_right", "_law_right", defArgs s_u_law_right, defBody s_u_law_right, defScope s_u_law_right, [], []⟩, ⟨("law", none), "law", "law", defArgs s_law, defBody s_law, defScope s_law, [], []⟩]
def fas : List He.Fa := [.glo "to_little", .glo "to_big", .glo "from_big", .glo "from_little", .glo "_law_cell", .glo "_law_is_integer", .glo "_law_bytes", .glo "_law_is_bytes", .glo "_law_number", .glo "_law_smallest", .glo "_law_written", .glo "_law_told", .glo "_law_right", .glo "law", .glo "CurveError", .glo "OutOfRange", .glo "Malformed", .glo "Refused", .exc "OutOfRange", .free "ValueError", .free "abs", .free "bool", .free "int", .free "isinstance", .free "len", .free "list", .free "max", .free "range", .exm "CurveError" "CurveError" true, .exm "CurveError" "OutOfRange" false, .exm "CurveError" "Malformed" false, .exm "CurveError" "Refused" false, .exm "OutOfRange" "CurveError" true, .exm "OutOfRange" "OutOfRange" true, .exm "OutOfRange" "Malformed" false, .exm "OutOfRange" "Refused" false, .exm "Malformed" "CurveError" true, .exm "Malformed" "OutOfRange" false, .exm "Malformed" "Malformed" true, .exm "Malformed" "Refused" false, .exm "Refused" "CurveError" true, .exm "Refused" "OutOfRange" false, .exm "Refused" "Malformed" false, .exm "Refused" "Refused" true]
def exB (K : PySem.W.Frag) : Bool := clsB K errs subE
abbrev Rw : PySem.W.OpenRow := PySem.W.OpenLaw.row PySem.Challenge.rw_curveseal_k00_numbers_in_bytes
abbrev hk : PySem.W.Hook := He.hookX 5 fas dfs [] [] exB
def ob (s : PySem.W.SharedT) : He.AlX := He.obsX 5 fas dfs [] [] exB (HandSHeadRun.getT s)
theorem ob_eq (s : PySem.W.SharedT) : ob s = hk.obs s.abs := He.obsX_eq (HandSHeadRun.getT_eq s)
theorem run_ (w : World) : HandSHeadRun.RunEq Rw (PySem.W.view Rw.prog [20]) hk ob 20000 ["to_little", "to_big", "from_big", "from_little", "_law_cell", "_law_is_integer", "_law_bytes", "_law_is_bytes", "_law_number", "_law_smallest", "_law_written", "_law_told", "_law_right", "CurveError", "OutOfRange", "Malformed", "Refused"] w := by
  intro os
  kernel_rfl
theorem facts_of {K : PySem.W.Frag} {h : Heap} {w : World} {mg : Str → Option Value} (X : K.In h) (G : h.Ns mainGlobals mg) (c : He.SaysX fas dfs [] [] exB w h K) : Facts K mg := by
  have cd : He.SaysD fas dfs K := c.t.d
  exact {
    d_to_little := cd.def_ 0 (d := ⟨("to_little", none), "to_little", "to_little", defArgs s_to_little, defBody s_to_little, defScope s_to_little, [], []⟩) rfl
    g_to_little := He.glo_ok X G (cd.fact 0 rfl)
    d_to_big := cd.def_ 1 (d := ⟨("to_big", none), "to_big", "to_big", defArgs s_to_big, defBody s_to_big, defScope s_to_big, [], []⟩) rfl
    g_to_big := He.glo_ok X G (cd.fact 1 rfl)
    d_from_big := cd.def_ 2 (d := ⟨("from_big", none), "from_big", "from_big", defArgs s_from_big, defBody s_from_big, defScope s_from_big, [], []⟩) rfl
    g_from_big := He.glo_ok X G (cd.fact 2 rfl)
    d_from_little := cd.def_ 3 (d := ⟨("from_little", none), "from_little", "from_little", defArgs s_from_little, defBody s_from_little, defScope s_from_little, [], []⟩) rfl
    g_from_little := He.glo_ok X G (cd.fact 3 rfl)
    d_u_law_cell := cd.def_ 4 (d := ⟨("_law_cell", none), "_law_cell", "_law_cell", defArgs s_u_law_cell, defBody s_u_law_cell, defScope s_u_law_cell, [], []⟩) rfl
    g_u_law_cell := He.glo_ok X G (cd.fact 4 rfl)
    d_u_law_is_integer := cd.def_ 5 (d := ⟨("_law_is_integer", none), "_law_is_integer", "_law_is_integer", defArgs s_u_law_is_integer, defBody s_u_law_is_integer, defScope s_u_law_is_integer, [], []⟩) rfl
    g_u_law_is_integer := He.glo_ok X G (cd.fact 5 rfl)
    d_u_law_bytes := cd.def_ 6 (d := ⟨("_law_bytes", none), "_law_bytes", "_law_bytes", defArgs s_u_law_bytes, defBody s_u_law_bytes, defScope s_u_law_bytes, [], []⟩) rfl
    g_u_law_bytes := He.glo_ok X G (cd.fact 6 rfl)
    d_u_law_is_bytes := cd.def_ 7 (d := ⟨("_law_is_bytes", none), "_law_is_bytes", "_law_is_bytes", defArgs s_u_law_is_bytes, defBody s_u_law_is_bytes, defScope s_u_law_is_bytes, [], []⟩) rfl
    g_u_law_is_bytes := He.glo_ok X G (cd.fact 7 rfl)
    d_u_law_number := cd.def_ 8 (d := ⟨("_law_number", none), "_law_number", "_law_number", defArgs s_u_law_number, defBody s_u_law_number, defScope s_u_law_number, [], []⟩) rfl
    g_u_law_number := He.glo_ok X G (cd.fact 8 rfl)
    d_u_law_smallest := cd.def_ 9 (d := ⟨("_law_smallest", none), "_law_smallest", "_law_smallest", defArgs s_u_law_smallest, defBody s_u_law_smallest, defScope s_u_law_smallest, [], []⟩) rfl
    g_u_law_smallest := He.glo_ok X G (cd.fact 9 rfl)
    d_u_law_written := cd.def_ 10 (d := ⟨("_law_written", none), "_law_written", "_law_written", defArgs s_u_law_written, defBody s_u_law_written, defScope s_u_law_written, [], []⟩) rfl
    g_u_law_written := He.glo_ok X G (cd.fact 10 rfl)
    d_u_law_told := cd.def_ 11 (d := ⟨("_law_told", none), "_law_told", "_law_told", defArgs s_u_law_told, defBody s_u_law_told, defScope s_u_law_told, [], []⟩) rfl
    g_u_law_told := He.glo_ok X G (cd.fact 11 rfl)
    d_u_law_right := cd.def_ 12 (d := ⟨("_law_right", none), "_law_right", "_law_right", defArgs s_u_law_right, defBody s_u_law_right, defScope s_u_law_right, [], []⟩) rfl
    g_u_law_right := He.glo_ok X G (cd.fact 12 rfl)
    d_law := cd.def_ 13 (d := ⟨("law", none), "law", "law", defArgs s_law, defBody s_law, defScope s_law, [], []⟩) rfl
    g_law := He.glo_ok X G (cd.fact 13 rfl)
    g_CurveError := He.glo_ok X G (cd.fact 14 rfl)
    g_OutOfRange := He.glo_ok X G (cd.fact 15 rfl)
    g_Malformed := He.glo_ok X G (cd.fact 16 rfl)
    g_Refused := He.glo_ok X G (cd.fact 17 rfl)
    x_OutOfRange := (He.exc_ok (x := "OutOfRange") (cd.fact 18 rfl)).1
    k_OutOfRange := (He.exc_ok (x := "OutOfRange") (cd.fact 18 rfl)).2.1
    b_OutOfRange := (He.exc_ok (x := "OutOfRange") (cd.fact 18 rfl)).2.2.1
    t_OutOfRange := (He.exc_ok (x := "OutOfRange") (cd.fact 18 rfl)).2.2.2
    n_ValueError := He.free_ok X G (cd.fact 19 rfl)
    n_abs := He.free_ok X G (cd.fact 20 rfl)
    n_bool := He.free_ok X G (cd.fact 21 rfl)
    n_int := He.free_ok X G (cd.fact 22 rfl)
    n_isinstance := He.free_ok X G (cd.fact 23 rfl)
    n_len := He.free_ok X G (cd.fact 24 rfl)
    n_list := He.free_ok X G (cd.fact 25 rfl)
    n_max := He.free_ok X G (cd.fact 26 rfl)
    n_range := He.free_ok X G (cd.fact 27 rfl)
    cls := cls_of c.more }
end Mi
namespace Mi
open PySem PySem.Spec L2
/-! ### the law's own helpers -/
theorem cell_ok (ns : List Int) (k : Nat) : m_u_law_cell ns (k : Int) = .ok (ns.getD k 0) := by
  unfold m_u_law_cell
  simp only [Res.bind_ok, cond_dec]
  by_cases h : (k : Int) < (ns.length : Int)
  · rw [if_pos h]
    have h' : k < ns.length := by omega
    rw [idx_nat (List.getElem?_eq_getElem h')]
    simp [Res.bind_ok, h']
  · rw [if_neg h]
    have h' : ¬ k < ns.length := by omega
    simp [h']
theorem cell_bits {ns : List Int} {B : Nat} (hb : ∀ i ∈ ns, Builtin.Int.intBits i ≤ B) (k : Nat) : (ns.getD k 0).natAbs < 2 ^ B := by
  rw [List.getD_eq_getElem?_getD]
  by_cases h : k < ns.length
  · rw [List.getElem?_eq_getElem h]
    exact ibits_le (hb _ (List.getElem_mem h))
  · rw [List.getElem?_eq_none (by omega)]
    exact Nat.two_pow_pos _
theorem isint_ok (i : Int) : m_u_law_is_integer (D.int i) = .ok true := by
  unfold m_u_law_is_integer
  simp [Res.bind_ok, toD, ToD.d, D.plain, isI, tyName, Res.need_pos]
theorem number_loop (k : Int × Int → Res Int) (l : List Int) : ∀ (j : Nat) (s n : Int), 0 ≤ n → n.natAbs < 2 ^ (31 * j) → j + l.length ≤ 1000 → ∃ s' n', m_u_law_number_l3 k l (s, n) = k (s', n') ∧ 0 ≤ n' ∧ n'.natAbs < 2 ^ (31 * (j + l.length)) := by
  induction l with
  | nil => intro j s n h0 h1 h2; exact ⟨s, n, rfl, h0, by simpa using h1⟩
  | cons x r ih =>
    intro j s n h0 h1 h2
    rw [m_u_law_number_l3]
    simp only [Res.bind_ok, need_bind, pow31]
    rw [List.length_cons] at h2
    rw [need_mulx h1 m31_lt (by omega)]
    have q := ih (j + 1) ((s * 48271 + 11) % 2147483647) (n * 2147483648 + (s * 48271 + 11) % 2147483647) (by omega) (by
      have e2 : (2 : Nat) ^ (31 * (j + 1)) = 2 ^ (31 * j) * 2147483648 := by rw [Nat.mul_add, Nat.pow_add]
      have g2 : (n * 2147483648 + (s * 48271 + 11) % 2147483647).natAbs = n.natAbs * 2147483648 + ((s * 48271 + 11) % 2147483647).natAbs := by omega
      rw [g2, e2]
      have g3 : ((s * 48271 + 11) % 2147483647).natAbs < 2147483648 := by omega
      have g4 : n.natAbs + 1 ≤ 2 ^ (31 * j) := h1
      generalize 2 ^ (31 * j) = P at *
      omega) (by omega)
    obtain ⟨s', n', q1, q2, q3⟩ := q
    exact ⟨s', n', q1, q2, by rw [List.length_cons, show j + (r.length + 1) = j + 1 + r.length by omega]; exact q3⟩
theorem number_ok {B : Nat} (hB : 300 ≤ B) (c salt : Int) (hc : c.natAbs < 2 ^ B) : ∃ n, m_u_law_number c salt = .ok n ∧ n.natAbs < 2 ^ B := by
  unfold m_u_law_number
  simp only [Res.bind_ok, need_bind, cond_dec, pow18]
  by_cases h1 : 1000000000000000000 ≤ (c.natAbs : Int)
  · rw [if_pos h1]; exact ⟨c, rfl, hc⟩
  rw [if_neg h1]
  by_cases h2 : (c.natAbs : Int) % 4 = 1
  · rw [if_pos h2]
    refine ⟨_, rfl, ?_⟩
    have : 2 ^ 40 ≤ (2 : Nat) ^ B := Nat.pow_le_pow_right (by decide) (by omega)
    have : ((c.natAbs : Int) / 4 % 100 - 50).natAbs < 2 ^ 40 := by
      have : (2 : Nat) ^ 40 = 1099511627776 := by decide
      omega
    omega
  rw [if_neg h2]
  have hr : okRange (1 + (c.natAbs : Int) % 9) := ⟨by omega, by omega⟩
  rw [Res.need_pos hr]
  have hlen : (pyRange 0 (1 + (c.natAbs : Int) % 9)).length ≤ 9 := by rw [pyRange_len]; omega
  obtain ⟨s', n', q1, q2, q3⟩ := number_loop (m_u_law_number_k5 (c.natAbs : Int)) (pyRange 0 (1 + (c.natAbs : Int) % 9)) 0 ((c.natAbs : Int) + salt * 7919) 0 (by omega) (by simp) (by omega)
  rw [q1]
  have hb : n'.natAbs < 2 ^ B := Nat.lt_of_lt_of_le q3 (Nat.pow_le_pow_right (by decide) (by omega))
  simp only [m_u_law_number_k5, Res.bind_ok, cond_dec]
  by_cases h3 : (c.natAbs : Int) % 4 = 2
  · rw [if_pos h3]; exact ⟨-n', rfl, by rw [Int.natAbs_neg]; exact hb⟩
  · rw [if_neg h3]; exact ⟨n', rfl, hb⟩
end Mi
namespace Mi
open PySem PySem.Spec L2
/-! ### bytes -/
def dg : Nat → Int → List Int
  | 0, _ => []
  | s + 1, n => n % 256 :: dg s (n / 256)
abbrev fb (a d : Int) : Int := a * 256 + d
def Byt (ds : List Int) : Prop := ∀ d ∈ ds, 0 ≤ d ∧ d ≤ 255
theorem dg_len : ∀ (s : Nat) (n : Int), (dg s n).length = s
  | 0, _ => rfl
  | s + 1, n => by rw [dg, List.length_cons, dg_len]
theorem dg_byt : ∀ (s : Nat) (n : Int), Byt (dg s n)
  | 0, _ => fun d hd => by cases hd
  | s + 1, n => fun d hd => by
    rcases List.mem_cons.mp hd with rfl | hd
    · omega
    · exact dg_byt s _ d hd
theorem dg_get : ∀ (s : Nat) (n : Int) (i : Nat) (h : i < (dg s n).length), (dg s n)[i] = n / 256 ^ i % 256
  | 0, _, i, h => by cases h
  | s + 1, n, 0, h => by simp [dg]
  | s + 1, n, i + 1, h => by
    have h' : i < (dg s (n / 256)).length := by
      rw [dg, List.length_cons] at h; omega
    show (dg s (n / 256))[i] = _
    rw [dg_get s (n / 256) i h', Int.ediv_ediv_of_nonneg (by decide), Int.pow_succ, Int.mul_comm]
theorem p256 (k : Nat) : (2 : Int) ^ (8 * k) = 256 ^ k := by rw [Int.pow_mul]; rfl
theorem p256n (k : Nat) : (2 : Nat) ^ (8 * k) = 256 ^ k := by rw [Nat.pow_mul]
theorem dg_val : ∀ (s : Nat) (n : Int), 0 ≤ n → n < 256 ^ s → (dg s n).foldr (fun d a => fb a d) 0 = n
  | 0, n, h0, h1 => by simp at h1; simp [dg]; omega
  | s + 1, n, h0, h1 => by
    rw [dg, List.foldr_cons, dg_val s (n / 256) (by omega) (by rw [Int.pow_succ] at h1; omega)]
    show n / 256 * 256 + n % 256 = n
    omega
theorem mask8 (x : Int) : Builtin.bitAnd x 255 = x % 256 := PySem.W.kbt_mask x 8
theorem ts_ok : ∀ s : Nat, s < 301 → (toString (s : Int) : Str).length ≤ 1000 := by decide +kernel
theorem bits_iff {n : Int} {s : Nat} (h0 : 0 ≤ n) : ((8 * (s : Int) < (Builtin.Int.intBits n : Int)) ↔ ¬ n < 256 ^ s) := by
  rw [← p256]
  constructor
  · intro h h1
    have e : n.natAbs < 2 ^ (8 * s) := by
      have : ((n.natAbs : Nat) : Int) < ((2 ^ (8 * s) : Nat) : Int) := by rw [PySem.W.kbt_cast]; omega
      omega
    have := le_ibits e
    omega
  · intro h
    refine Int.lt_of_not_ge fun h1 => h ?_
    have e := ibits_le (i := n) (n := 8 * s) (by omega)
    have : ((n.natAbs : Nat) : Int) < ((2 ^ (8 * s) : Nat) : Int) := by omega
    rw [PySem.W.kbt_cast] at this; omega
theorem little_ok {n : Int} {s : Nat} (hs : s ≤ 300) (h0 : 0 ≤ n) (h1 : n < 256 ^ s) : m_to_little n (s : Int) = .ok (dg s n) := by
  unfold m_to_little
  have hb : ¬ 8 * (s : Int) < (Builtin.Int.intBits n : Int) := fun h => bits_iff h0 |>.mp h h1
  have hr : okRange (s : Int) := ⟨by omega, by omega⟩
  have hl : (pyRange 0 (s : Int)).length = s := by rw [pyRange_len]; omega
  simp only [Res.bind_ok, need_bind]
  rw [decide_eq_false (show ¬ n < 0 by omega), decide_eq_false hb]
  simp only [cond_false, Res.bind_ok, Res.need_pos hr]
  rw [Res.need_pos (show (pyRange 0 (s : Int)).length ≤ 16777216 by omega)]
  refine compL_get _ (by rw [hl, dg_len]) fun i a b => ?_
  have e : (pyRange 0 (s : Int))[i] = (i : Int) := by simp [pyRange]
  rw [e, Res.need_pos (by omega), dg_get, mask8, show (8 * (i : Int)).toNat = 8 * i by omega, p256]
theorem little_bad {n : Int} {s : Nat} (hs : s ≤ 300) (h : n < 0 ∨ ¬ n < 256 ^ s) : m_to_little n (s : Int) = .exc "OutOfRange" := by
  unfold m_to_little
  have hz : Nat.log2 (Int.natAbs (s : Int)) < 1920 ∧ (toString (s : Int) : Str).length ≤ 1000 := by
    refine ⟨?_, ts_ok s (by omega)⟩
    by_cases hz : (s : Int).natAbs = 0
    · rw [hz]; decide
    · have : Nat.log2 (s : Int).natAbs < 9 := (Nat.log2_lt hz).mpr (by omega)
      omega
  simp only [Res.bind_ok, need_bind, Res.need_pos hz]
  by_cases h0 : n < 0
  · rw [decide_eq_true h0]; rfl
  · rw [decide_eq_false h0, cond_false, Res.bind_ok, decide_eq_true ((bits_iff (by omega)).mpr (h.resolve_left h0))]; rfl
theorem big_loop (k : Int → Res Int) : ∀ (ds : List Int) (acc : Int) (j : Nat), 0 ≤ acc → acc.natAbs < 2 ^ (8 * j) → j + ds.length ≤ 1000 → Byt ds → m_from_big_l1 k ds acc = k (ds.foldl fb acc) := by
  intro ds
  induction ds with
  | nil => intro acc j _ _ _ _; rfl
  | cons d r ih =>
    intro acc j h0 h1 h2 h3
    rw [List.length_cons] at h2
    have hd := h3 d List.mem_cons_self
    have hc : CShl acc 8 := ⟨by decide, by have := le_ibits h1; omega⟩
    have e : Builtin.bitOr (acc * 2 ^ (8 : Int).toNat) d = fb acc d := or_low (k := 8) h0 hd.1 (by have : (2 : Int) ^ 8 = 256 := by decide
                                                                                                   omega)
    rw [m_from_big_l1]
    simp only [Res.bind_ok, need_bind, Res.need_pos hc, e]
    rw [ih (fb acc d) (j + 1) (by show 0 ≤ acc * 256 + d; omega) (by
      have e2 : (2 : Nat) ^ (8 * (j + 1)) = 2 ^ (8 * j) * 256 := by rw [Nat.mul_add, Nat.pow_add]
      rw [e2]
      show (acc * 256 + d).natAbs < _
      omega) (by omega) fun x hx => h3 x (List.mem_cons_of_mem _ hx)]
    rfl
theorem big_ok {ds : List Int} (h : Byt ds) (hl : ds.length ≤ 900) : m_from_big ds = .ok (ds.foldl fb 0) := by
  unfold m_from_big
  simp only [Res.bind_ok]
  rw [big_loop _ ds 0 0 (Int.le_refl 0) (by decide) (by omega) h]
  rfl
theorem byt_rev {ds : List Int} (h : Byt ds) : Byt ds.reverse := fun d hd => h d (List.mem_reverse.mp hd)
theorem litl_ok {ds : List Int} (h : Byt ds) (hl : ds.length ≤ 900) : m_from_little ds = .ok (ds.foldr (fun d a => fb a d) 0) := by
  unfold m_from_little
  simp only [Res.bind_ok]
  rw [big_ok (byt_rev h) (by simpa using hl), List.foldl_reverse]
/-! ### what the law asks of them -/
theorem isbytes_loop (k : Unit → Res Bool) : ∀ ds : List Int, Byt ds → m_u_law_is_bytes_l2 k (ds.map D.int) () = k () := by
  intro ds
  induction ds with
  | nil => intro _; rfl
  | cons d r ih =>
    intro h
    have hd := h d List.mem_cons_self
    have ca : D.asInt (D.int d) = .ok d := rfl
    rw [List.map_cons, m_u_law_is_bytes_l2]
    simp only [Res.bind_ok, isint_ok, ca, Bool.not_true, cond_false]
    rw [decide_eq_false (show ¬ d < 0 by omega), decide_eq_false (show ¬ 255 < d by omega)]
    exact ih fun x hx => h x (List.mem_cons_of_mem _ hx)
theorem isbytes_ok {ds : List Int} (h : Byt ds) : m_u_law_is_bytes (toD ds) (ds.length : Int) = .ok true := by
  unfold m_u_law_is_bytes
  have e1 : (toD (toD ds)).plain = true := rfl
  have e2 : isI "list" (toD (toD ds)) = true := rfl
  have e3 : D.asList (toD ds) = .ok (ds.map D.int) := rfl
  have e4 : (toD ds).lenR = .ok ((ds.map D.int).length : Int) := rfl
  simp only [Res.bind_ok, Res.need_pos e1, e2, e3, e4, Bool.not_true, cond_false, List.length_map, decide_true]
  exact isbytes_loop _ ds h
theorem written_loop (k : Int × List Int → Res (List Int)) : ∀ (ks : List Int) (n : Int) (ds : List Int), ds.length + ks.length ≤ 10000 → m_u_law_written_l1 k ks (n, ds) = k (n / 256 ^ ks.length, ds ++ dg ks.length n) := by
  intro ks
  induction ks with
  | nil => intro n ds _; simp [m_u_law_written_l1, dg]
  | cons x r ih =>
    intro n ds h
    rw [List.length_cons] at h
    rw [m_u_law_written_l1]
    simp only [Res.bind_ok]
    rw [Res.need_pos (by omega), ih _ _ (by simp; omega), List.length_cons, dg, Int.ediv_ediv_of_nonneg (by decide), Int.pow_succ, Int.mul_comm 256, List.append_assoc]
    rfl
theorem written_ok {n : Int} {s : Nat} (hs : s ≤ 300) : m_u_law_written n (s : Int) = .ok (dg s n) := by
  unfold m_u_law_written
  have hr : okRange (s : Int) := ⟨by omega, by omega⟩
  have hl : (pyRange 0 (s : Int)).length = s := by rw [pyRange_len]; omega
  simp only [Res.bind_ok, need_bind, Res.need_pos hr]
  rw [written_loop _ _ _ _ (by rw [hl]; simp; omega), hl]
  rfl
theorem limit_loop (k : Int → Res Bool) : ∀ (ks : List Int) (l : Int), m_u_law_right_l1 k ks l = k (l * 256 ^ ks.length) := by
  intro ks
  induction ks with
  | nil => intro l; simp [m_u_law_right_l1]
  | cons x r ih =>
    intro l
    rw [m_u_law_right_l1]
    simp only [Res.bind_ok]
    rw [ih, List.length_cons, Int.pow_succ, Int.mul_assoc, Int.mul_comm 256]
abbrev refR : T2 Str Str := T2.mk ("refused" : Str) ("range" : Str)
theorem okq_ref : (toD refR).okq = true := by decide +kernel
theorem eq_ref : pyEq (toD refR) (toD refR) = true := by decide +kernel
theorem told_bad {n : Int} {s : Nat} (hs : s ≤ 300) (h : n < 0 ∨ ¬ n < 256 ^ s) (b : Bool) : m_u_law_told n (s : Int) b = .ok (toD refR) := by
  have e := little_bad hs h
  unfold m_u_law_told
  cases b with
  | true =>
    have e2 : m_to_big n (s : Int) = .exc "OutOfRange" := by
      unfold m_to_big
      simp only [Res.bind_ok, e]; rfl
    simp only [Res.bind_ok, cond_true, e2]; rfl
  | false => simp only [Res.bind_ok, cond_false, e]; rfl
theorem told_ok {n : Int} {s : Nat} (hs : s ≤ 300) (h0 : 0 ≤ n) (h : n < 256 ^ s) : m_u_law_told n (s : Int) true = .ok (toD (dg s n).reverse) ∧ m_u_law_told n (s : Int) false = .ok (toD (dg s n)) := by
  have e := little_ok hs h0 h
  unfold m_u_law_told
  constructor
  · have e2 : m_to_big n (s : Int) = .ok (dg s n).reverse := by
      unfold m_to_big
      simp only [Res.bind_ok, e]
    simp only [Res.bind_ok, cond_true, e2]; rfl
  · simp only [Res.bind_ok, cond_false, e]; rfl
theorem right_ok (n : Int) {s : Nat} (hs : s ≤ 300) : m_u_law_right n (s : Int) = .ok true := by
  have hr : okRange (s : Int) := ⟨by omega, by omega⟩
  have hl : (pyRange 0 (s : Int)).length = s := by rw [pyRange_len]; omega
  unfold m_u_law_right
  by_cases h : n < 0 ∨ ¬ n < 256 ^ s
  · simp only [Res.bind_ok, told_bad hs h, need_bind, Res.need_pos hr]
    rw [limit_loop, hl, Int.one_mul]
    unfold m_u_law_right_k5
    have hc : (decide (n < 0) || decide ((256 : Int) ^ s ≤ n)) = true := by
      rcases h with h | h
      · simp [h]
      · simp [Int.not_lt.mp h]
    have hc2 : ∀ a b : Bool, (a || b) = true → cond a (Res.ok true) (Res.ok b) = Res.ok true := by intro a b h; cases a <;> cases b <;> simp_all
    simp only [Res.bind_ok, hc2 _ _ hc, cond_true, toD_D, Res.need_pos (And.intro okq_ref okq_ref), eq_ref]
  · have h0 : 0 ≤ n := by omega
    have h1 : n < 256 ^ s := by
      refine Int.lt_of_not_ge fun z => h (.inr ?_); omega
    obtain ⟨t1, t2⟩ := told_ok hs h0 h1
    simp only [Res.bind_ok, t1, t2, need_bind, Res.need_pos hr]
    rw [limit_loop, hl, Int.one_mul]
    unfold m_u_law_right_k5
    have b1 := isbytes_ok (dg_byt s n)
    have b2 := isbytes_ok (byt_rev (dg_byt s n))
    rw [dg_len] at b1
    rw [List.length_reverse, dg_len] at b2
    have hc : compL (fun (x : Int) => Res.ok true) (fun (x : Int) => idx (dg s n) ((s : Int) - 1 - x)) (pyRange 0 (s : Int)) = .ok (dg s n).reverse := by
      refine compL_get _ (by rw [hl, List.length_reverse, dg_len]) fun i h1 h2 => ?_
      rw [List.length_reverse, dg_len] at h2
      have e : (pyRange 0 (s : Int))[i] = (i : Int) := by simp [pyRange]
      rw [e, List.getElem_reverse, show (s : Int) - 1 - (i : Int) = (((dg s n).length - 1 - i : Nat) : Int) by rw [dg_len]; omega]
      exact idx_nat (List.getElem?_eq_getElem (by rw [dg_len]; omega))
    have v1 := big_ok (byt_rev (dg_byt s n)) (by rw [List.length_reverse, dg_len]; omega)
    have v2 := litl_ok (dg_byt s n) (by rw [dg_len]; omega)
    rw [List.foldl_reverse] at v1
    have hv := dg_val s n h0 h1
    simp only [Res.bind_ok, need_bind]
    rw [decide_eq_false (show ¬ n < 0 by omega), decide_eq_false (show ¬ (256 : Int) ^ s ≤ n by omega)]
    simp only [cond_false, Res.bind_ok, written_ok hs, b1, b2, Bool.not_true, toD_D, Res.need_pos (And.intro (okq_ints (dg s n)) (okq_ints (dg s n))), pyEq_ints, decide_true, Res.need_pos hr]
    rw [Res.need_pos (show (pyRange 0 (s : Int)).length ≤ 16777216 by omega), hc]
    simp only [Res.bind_ok, Res.need_pos (And.intro (okq_ints (dg s n).reverse) (okq_ints (dg s n).reverse)), pyEq_ints, decide_true, Bool.not_true, cond_false, asInts_toD, v1, v2, hv, cond_true]
/-! ### the drawn bytes -/
theorem bytes_l1 (k : Int × List Int → Res (List Int)) : ∀ (ks : List Int) (r : Int) (ds : List Int), Byt ds → ds.length + ks.length ≤ 10000 → ∃ r' es, m_u_law_bytes_l1 k ks (r, ds) = k (r', es) ∧ Byt es ∧ es.length = ds.length + ks.length := by
  intro ks
  induction ks with
  | nil => intro r ds h1 h2; exact ⟨r, ds, rfl, h1, rfl⟩
  | cons x t ih =>
    intro r ds h1 h2
    rw [List.length_cons] at h2
    rw [m_u_law_bytes_l1]
    simp only [Res.bind_ok]
    rw [Res.need_pos (by omega)]
    obtain ⟨r', es, q1, q2, q3⟩ := ih (r / 256) (ds ++ [r % 256]) (fun d hd => by
      rcases List.mem_append.mp hd with hd | hd
      · exact h1 d hd
      · cases List.mem_singleton.mp hd; omega) (by simp; omega)
    exact ⟨r', es, q1, q2, by rw [q3]; simp; omega⟩
theorem bytes_l5 (k : List Int × Int → Res (List Int)) : ∀ (ks : List Int) (r : Int) (ds : List Int), Byt ds → ds.length + ks.length ≤ 10000 → ∃ r' es, m_u_law_bytes_l5 k ks (ds, r) = k (es, r') ∧ Byt es ∧ es.length = ds.length + ks.length := by
  intro ks
  induction ks with
  | nil => intro r ds h1 h2; exact ⟨r, ds, rfl, h1, rfl⟩
  | cons x t ih =>
    intro r ds h1 h2
    rw [List.length_cons] at h2
    rw [m_u_law_bytes_l5]
    simp only [Res.bind_ok]
    rw [Res.need_pos (by omega)]
    obtain ⟨r', es, q1, q2, q3⟩ := ih ((r * 16807 + x) % 2147483647) (ds ++ [(r * 16807 + x) % 2147483647 / 251 % 256]) (fun d hd => by
      rcases List.mem_append.mp hd with hd | hd
      · exact h1 d hd
      · cases List.mem_singleton.mp hd; omega) (by simp; omega)
    exact ⟨r', es, q1, q2, by rw [q3]; simp; omega⟩
theorem bytes_ok (c salt : Int) {n : Nat} (hn : n ≤ 300) : ∃ ds, m_u_law_bytes c salt (n : Int) = .ok ds ∧ Byt ds ∧ ds.length = n := by
  have hr : okRange (n : Int) := ⟨by omega, by omega⟩
  have hl : (pyRange 0 (n : Int)).length = n := by rw [pyRange_len]; omega
  unfold m_u_law_bytes
  simp only [Res.bind_ok, need_bind, pow18, cond_dec, Res.need_pos hr]
  by_cases h1 : 1000000000000000000 ≤ (c.natAbs : Int)
  · rw [if_pos h1]
    obtain ⟨r', es, q1, q2, q3⟩ := bytes_l1 m_u_law_bytes_k2 (pyRange 0 (n : Int)) ((c.natAbs : Int) - 1000000000000000000) [] (fun d hd => by cases hd) (by simp; omega)
    exact ⟨es, by rw [q1]; rfl, q2, by rw [q3, hl]; simp⟩
  rw [if_neg h1]
  by_cases h2 : (c.natAbs : Int) % 7 = 5
  · rw [if_pos h2, Res.need_pos (by omega)]
    have ht : ∃ v : Int, idx ([0, 255, 1, 128, 127] : List Int) ((c.natAbs : Int) / 7 % 5) = .ok v ∧ 0 ≤ v ∧ v ≤ 255 := by
      have h0 := Int.emod_nonneg ((c.natAbs : Int) / 7) (show (5 : Int) ≠ 0 by decide)
      have h1 := Int.emod_lt_of_pos ((c.natAbs : Int) / 7) (show (0 : Int) < 5 by decide)
      generalize (c.natAbs : Int) / 7 % 5 = z at *
      rcases (by omega : z = 0 ∨ z = 1 ∨ z = 2 ∨ z = 3 ∨ z = 4) with rfl | rfl | rfl | rfl | rfl <;> exact ⟨_, rfl, by decide, by decide⟩
    obtain ⟨v, v1, v2, v3⟩ := ht
    rw [compL_map (g := fun _ => v) (fun _ _ => rfl) fun _ _ => v1]
    refine ⟨_, rfl, fun d hd => ?_, by rw [List.length_map, hl]⟩
    obtain ⟨_, _, rfl⟩ := List.mem_map.mp hd
    exact ⟨v2, v3⟩
  · rw [if_neg h2]
    obtain ⟨r', es, q1, q2, q3⟩ := bytes_l5 m_u_law_bytes_k6 (pyRange 0 (n : Int)) (((c.natAbs : Int) * 48271 + salt * 69621 + 12345) % 2147483647) [] (fun d hd => by cases hd) (by simp; omega)
    exact ⟨es, by rw [q1]; rfl, q2, by rw [q3, hl]; simp⟩
theorem smallest_loop (k : Int × Int → Res Int) (hk : ∀ n s, k (n, s) = .ok s) : ∀ (ks : List Int) (n s : Int), 0 ≤ s → ∃ s', m_u_law_smallest_l1 k ks (n, s) = .ok s' ∧ 0 ≤ s' ∧ s' ≤ s + ks.length := by
  intro ks
  induction ks with
  | nil => intro n s h; exact ⟨s, hk n s, h, by simp⟩
  | cons x r ih =>
    intro n s h
    rw [m_u_law_smallest_l1]
    simp only [Res.bind_ok, cond_dec]
    by_cases hn : n = 0
    · rw [if_pos hn]; exact ⟨s, rfl, h, by simp; omega⟩
    · rw [if_neg hn]
      obtain ⟨s', q1, q2, q3⟩ := ih (n / 256) (s + 1) (by omega)
      exact ⟨s', q1, q2, by rw [List.length_cons]; omega⟩
theorem smallest_ok (n : Int) : ∃ s, m_u_law_smallest n = .ok s ∧ 0 ≤ s ∧ s ≤ 300 := by
  unfold m_u_law_smallest
  simp only [Res.bind_ok, need_bind]
  rw [Res.need_pos ⟨by decide, by decide⟩]
  obtain ⟨s, q1, q2, q3⟩ := smallest_loop m_u_law_smallest_k3 (fun _ _ => rfl) (pyRange 0 300) n 0 (by decide)
  exact ⟨s, q1, q2, by rw [pyRange_len] at q3; omega⟩
/-! ### the law -/
theorem sum_loop (data : List Int) (k : Int × Int → Res Bool) : ∀ (d i : Nat) (l b : Int), d + i = data.length → m_law_l3 data k ((pyRange 0 (data.length : Int)).drop i) (l, b) = k ((data.reverse.drop i).foldl fb l, (data.drop i).foldl fb b) := by
  intro d
  induction d with
  | zero =>
    intro i l b h
    have hl : (pyRange 0 (data.length : Int)).length = data.length := by rw [pyRange_len]; omega
    rw [List.drop_of_length_le (by omega), List.drop_of_length_le (by rw [List.length_reverse]; omega), List.drop_of_length_le (by omega)]
    rfl
  | succ d ih =>
    intro i l b h
    have hi : i < data.length := by omega
    have hi2 : i < data.reverse.length := by rw [List.length_reverse]; exact hi
    rw [pyRange_drop hi, m_law_l3]
    have e1 : idx data (i : Int) = .ok data[i] := idx_nat (List.getElem?_eq_getElem hi)
    have e2 : idx data ((data.length : Int) - 1 - (i : Int)) = .ok data.reverse[i] := by
      rw [List.getElem_reverse, show (data.length : Int) - 1 - (i : Int) = ((data.length - 1 - i : Nat) : Int) by omega]
      exact idx_nat (List.getElem?_eq_getElem (by omega))
    simp only [Res.bind_ok, e1, e2]
    rw [ih (i + 1) _ _ (by omega), List.drop_eq_getElem_cons hi, List.drop_eq_getElem_cons hi2]
    rfl
theorem law_true (ns : List Int) (hl : ns.length ≤ 63) (hb : ∀ i ∈ ns, Builtin.Int.intBits i ≤ 1048576) : m_law ns = .ok true := by
  obtain ⟨B, hB, hb, hB3⟩ : ∃ B, B ≤ 2000000 ∧ (∀ i ∈ ns, Builtin.Int.intBits i ≤ B) ∧ 300 ≤ B := ⟨1048576, by decide, hb, by decide⟩
  have c0 : m_u_law_cell ns 0 = _ := cell_ok ns 0
  have c1 : m_u_law_cell ns 1 = _ := cell_ok ns 1
  have c2 : m_u_law_cell ns 2 = _ := cell_ok ns 2
  have c3 : m_u_law_cell ns 3 = _ := cell_ok ns 3
  have c4 : m_u_law_cell ns 4 = _ := cell_ok ns 4
  obtain ⟨n, hn, hnb⟩ := number_ok hB3 (ns.getD 0 0) 1 (cell_bits hb 0)
  have fin : ∀ s : Int, 0 ≤ s → s ≤ 300 → m_law_k1 ns n s = .ok true := by
    intro s s0 s1
    obtain ⟨s, rfl⟩ := Int.eq_ofNat_of_zero_le s0
    have hs : s ≤ 300 := by omega
    obtain ⟨m, hm⟩ : ∃ m : Nat, ((ns.getD 4 0).natAbs : Int) % 41 = m := ⟨(((ns.getD 4 0).natAbs : Int) % 41).toNat, by omega⟩
    obtain ⟨ds, q1, q2, q3⟩ := bytes_ok (ns.getD 3 0) 2 (n := m) (by omega)
    have hr : okRange (ds.length : Int) := ⟨by omega, by omega⟩
    unfold m_law_k1
    simp only [Res.bind_ok, right_ok _ hs, Bool.not_true, cond_false, c3, c4, hm, q1, need_bind, Res.need_pos hr]
    have lp := sum_loop ds (m_law_k5 ds ds) ds.length 0 0 0 rfl
    rw [List.drop_zero, List.drop_zero, List.drop_zero] at lp
    rw [lp]
    unfold m_law_k5
    have v1 := big_ok q2 (by omega)
    have v2 := litl_ok q2 (by omega)
    have hf : ds.reverse.foldl fb 0 = ds.foldr (fun d a => fb a d) 0 := List.foldl_reverse
    simp only [Res.bind_ok, v1, v2, hf]
    have i0 : idx ([ds.foldl fb 0, ds.foldr (fun d a => fb a d) 0] : List Int) 0 = .ok (ds.foldl fb 0) := rfl
    have i1 : idx ([ds.foldl fb 0, ds.foldr (fun d a => fb a d) 0] : List Int) 1 = .ok (ds.foldr (fun d a => fb a d) 0) := rfl
    have td : ∀ i : Int, toD i = D.int i := fun _ => rfl
    simp only [i0, i1, Res.bind_ok, td, isint_ok, Bool.not_true, cond_false, Res.need_pos (And.intro (okq_ints _) (okq_ints _)), pyEq_ints, decide_true, cond_true]
  unfold m_law
  simp only [Res.bind_ok, c0, c1, c2, hn, cond_dec]
  by_cases h : ((ns.getD 1 0).natAbs : Int) / 41 % 3 = 1
  · rw [if_pos h]
    obtain ⟨s, q1, q2, q3⟩ := smallest_ok (n.natAbs : Int)
    simp only [q1, Res.bind_ok]
    exact fin _ (by omega) (by omega)
  · rw [if_neg h]
    exact fin _ (by omega) (by omega)
end Mi
open PySem PySem.W PySem.Calls PyProof.Rows
theorem PySem.Challenge.cw_curveseal_k00_numbers_in_bytes_holds : PySem.Challenge.rw_curveseal_k00_numbers_in_bytes.Holds := by
  w_on; o_law
  refine HandSHeadRun.head_any (r := OpenLaw.row PySem.Challenge.rw_curveseal_k00_numbers_in_bytes) (q := view (OpenLaw.row PySem.Challenge.rw_curveseal_k00_numbers_in_bytes).prog [20]) (H := Mi.hk) (ob := Mi.ob) (M := 20000) (loose := ["to_little", "to_big", "from_big", "from_little", "_law_cell", "_law_is_integer", "_law_bytes", "_law_is_bytes", "_law_number", "_law_smallest", "_law_written", "_law_told", "_law_right", "CurveError", "OutOfRange", "Malformed", "Refused"]) (d := HandSHeadRun.topDef (OpenLaw.row PySem.Challenge.rw_curveseal_k00_numbers_in_bytes).prog 20) (kwd := []) Mi.ob_eq
    (by kernel_rfl) (fun s => by kernel_rfl) Mi.run_ (by kernel_rfl) (by kernel_rfl) (by kernel_rfl) (by rfl) (by first | assumption | decide +kernel) (by decide +kernel) ⟨rfl, rfl, rfl, rfl, rfl, by decide +kernel⟩ ?hw ?hc
  case hw => w_witness2
  case hc =>
    refine Mi.walk_end (l := PySem.Challenge.rw_curveseal_k00_numbers_in_bytes) (n := 63) (k := 5) (x := "script") (m := Mi.m_law) rfl (by decide) (by kernel_rfl) ⟨rfl, by decide, by decide⟩ ?F Mi.law_true
    intro w mg fa h Y G hmg0
    obtain ⟨K, KX, c⟩ := Y
    have hmg : mg ("law" : PySem.Str) = some (.ref fa) := by
      have e : (HandSHeadRun.topDef (OpenLaw.row PySem.Challenge.rw_curveseal_k00_numbers_in_bytes).prog 20).name = ("law" : PySem.Str) := by kernel_rfl
      rw [← e]
      exact hmg0
    have T := Mi.facts_of KX G c
    have ea := hmg.symm.trans T.g_law
    cases ea
    obtain ⟨fd, FL⟩ := T.d_law
    have b := L2.FunD.bindsA (ps := ["script"]) FL fun _ _ _ _ _ _ us hl => match us, hl with | [_], _ => rfl
    exact ⟨K, fd, KX, fun s u => b s [u] rfl, fun base _ _ => Mi.ok_law T FL⟩
