import PyProof.Rows.All
import Wide.All
import OpenK.AllK
import Wide.FinOn
import HandS.Base
import HandS.Call
import HandS.List
import HandS.Comp
import HandS.Ends
import HandS.Exc
import HandS.ExcOwn
import HandS.TryOnly
import HandS.ExcIs
import HandS.IsInst
import HandS.FStr
import HandS.RaiseMore
import HandS.Words
import HandS.WordsList
import HandS.WordsExc
import HandS.WideBits
import HandS.Iter
import HandS.Text
import HandS.Evl
import HandS.Head0
import HandS.Head1
import HandS.Head2
import HandS.HeadEnd
import HandS.HeadHook1
import HandS.HeadHook2
import HandS.HeadHook4
import HandS.EndBits
import HandS.Style
import PySem.Challenge.RW_curveseal_k04_jacobi_symbols
set_option Elab.async false
set_option linter.all false
set_option maxRecDepth 100000
set_option autoImplicit false
set_option maxHeartbeats 4000000
set_option maxHeartbeats 1000000
namespace Mi
open PySem PySem.Spec L2
open Evl (Ex)

/-! ### data -/
inductive D where
  | non | bl (b : Bool) | int (i : Int) | str (s : Str) | ty (n : String)
  | tup (xs : List D) | lst (xs : List D) | obj (c : Str) (ks : List Str) (ds : List D) | ro (xs : List D) | dct (ks : List Str) (ds : List D)

class ToD (α : Type) where
  d : α → D
abbrev toD {α : Type} [ToD α] (x : α) : D := ToD.d x
instance : ToD D := ⟨fun x => x⟩
instance : ToD Int := ⟨D.int⟩
instance : ToD Bool := ⟨D.bl⟩
instance : ToD Unit := ⟨fun _ => .non⟩
instance : ToD Str := ⟨D.str⟩
instance {α : Type} [ToD α] : ToD (List α) := ⟨fun xs => .lst (xs.map ToD.d)⟩
instance {α : Type} [ToD α] : ToD (Option α) := ⟨fun o => match o with | none => .non | some x => ToD.d x⟩
structure T1 (α : Type) where
  a : α
structure T2 (α β : Type) where
  a : α
  b : β
structure T3 (α β γ : Type) where
  a : α
  b : β
  c : γ
structure T4 (α β γ δ : Type) where
  a : α
  b : β
  c : γ
  e : δ
structure Ro (α : Type) where
  xs : List α
structure Tu (α : Type) where
  xs : List α
instance {α : Type} [ToD α] : ToD (T1 α) := ⟨fun x => .tup [ToD.d x.a]⟩
instance {α β : Type} [ToD α] [ToD β] : ToD (T2 α β) := ⟨fun x => .tup [ToD.d x.a, ToD.d x.b]⟩
instance {α β γ : Type} [ToD α] [ToD β] [ToD γ] : ToD (T3 α β γ) := ⟨fun x => .tup [ToD.d x.a, ToD.d x.b, ToD.d x.c]⟩
instance {α β γ δ : Type} [ToD α] [ToD β] [ToD γ] [ToD δ] : ToD (T4 α β γ δ) := ⟨fun x => .tup [ToD.d x.a, ToD.d x.b, ToD.d x.c, ToD.d x.e]⟩
instance {α : Type} [ToD α] : ToD (Ro α) := ⟨fun x => .ro (x.xs.map ToD.d)⟩
instance {α : Type} [ToD α] : ToD (Tu α) := ⟨fun x => .tup (x.xs.map ToD.d)⟩

mutual
def Rep (K : PySem.W.Frag) (F : Hp) : D → V → Prop
  | .non, v => v = .non
  | .bl b, v => v = .bl b
  | .int i, v => v = .int i
  | .str s, v => v = .str s
  | .ty n, v => v = .ty n
  | .tup ds, v => ∃ a vs, v = .ref a ∧ SqT K F a vs ∧ Reps K F ds vs
  | .lst ds, v => ∃ a vs, v = .ref a ∧ F a = some (.lst vs) ∧ Reps K F ds vs
  | .obj c ks ds, v => ∃ a dx vs, v = .ref a ∧ F a = some (.ins (He.ga K c) dx (ks.zip vs)) ∧ ks.length = vs.length ∧ Reps K F ds vs
  | .ro ds, v => ∃ a vs, v = .ref a ∧ SqL K F a vs ∧ Reps K F ds vs
  | .dct ks ds, v => ∃ a vs, v = .ref a ∧ F a = some (.dK ((ks.map Sum.inr).zip vs)) ∧ ks.length = vs.length ∧ Reps K F ds vs ∧ ks.Nodup
def Reps (K : PySem.W.Frag) (F : Hp) : List D → List V → Prop
  | [], vs => vs = []
  | d :: ds, vs => ∃ v r, vs = v :: r ∧ Rep K F d v ∧ Reps K F ds r
end

theorem sq_ex {K : PySem.W.Frag} {F H : Hp} {a : Addr} {xs : List V} (e : Ex F H) (h : F a = some (.lst xs)) : SqL K H a xs := Or.inl (Or.inl (e _ _ h))
mutual
theorem Rep.mono {K : PySem.W.Frag} {F F' : Hp} (e : Ex F F') : ∀ (d : D) (v : V), Rep K F d v → Rep K F' d v
  | .non, v, h => h
  | .bl b, v, h => h
  | .int i, v, h => h
  | .str s, v, h => h
  | .ty n, v, h => h
  | .tup ds, v, h => by
    obtain ⟨a, vs, h1, h2, h3⟩ := h
    exact ⟨a, vs, h1, Evl.ex_t e h2, Reps.mono e ds vs h3⟩
  | .lst ds, v, h => by
    obtain ⟨a, vs, h1, h2, h3⟩ := h
    exact ⟨a, vs, h1, e _ _ h2, Reps.mono e ds vs h3⟩
  | .obj c ks ds, v, h => by
    obtain ⟨a, dx, vs, h1, h2, h3, h4⟩ := h
    exact ⟨a, dx, vs, h1, e _ _ h2, h3, Reps.mono e ds vs h4⟩
  | .ro ds, v, h => by
    obtain ⟨a, vs, h1, h2, h3⟩ := h
    exact ⟨a, vs, h1, Evl.ex_l e h2, Reps.mono e ds vs h3⟩
  | .dct ks ds, v, h => by
    obtain ⟨a, vs, h1, h2, h3, h4, h5⟩ := h
    exact ⟨a, vs, h1, e _ _ h2, h3, Reps.mono e ds vs h4, h5⟩
theorem Reps.mono {K : PySem.W.Frag} {F F' : Hp} (e : Ex F F') : ∀ (ds : List D) (vs : List V), Reps K F ds vs → Reps K F' ds vs
  | [], vs, h => h
  | d :: ds, vs, h => by
    obtain ⟨v, r, h1, h2, h3⟩ := h
    exact ⟨v, r, h1, Rep.mono e d v h2, Reps.mono e ds r h3⟩
end
section
variable {K : PySem.W.Frag} {F F' H H' H1 : Hp}
theorem Reps.length : ∀ {ds : List D} {vs : List V}, Reps K F ds vs → ds.length = vs.length
  | [], vs, h => by rw [show vs = [] from h]; rfl
  | d :: ds, vs, h => by
    obtain ⟨v, r, rfl, _, h3⟩ := h
    simp [Reps.length h3]
theorem Reps.get : ∀ {ds : List D} {vs : List V} {i : Nat} {e : D}, Reps K F ds vs → ds[i]? = some e → ∃ v, vs[i]? = some v ∧ Rep K F e v
  | [], vs, i, e, h, q => by simp at q
  | d :: ds, vs, 0, e, h, q => by
    obtain ⟨v, r, rfl, h2, h3⟩ := h
    simp at q; subst q
    exact ⟨v, rfl, h2⟩
  | d :: ds, vs, i + 1, e, h, q => by
    obtain ⟨v, r, rfl, h2, h3⟩ := h
    simp at q
    obtain ⟨w, a, b⟩ := Reps.get h3 q
    exact ⟨w, by simpa using a, b⟩
theorem Reps.append : ∀ {ds es : List D} {vs ws : List V}, Reps K F ds vs → Reps K F es ws → Reps K F (ds ++ es) (vs ++ ws)
  | [], es, vs, ws, h, q => by rw [show vs = [] from h]; exact q
  | d :: ds, es, vs, ws, h, q => by
    obtain ⟨v, r, rfl, h2, h3⟩ := h
    exact ⟨v, r ++ ws, rfl, h2, Reps.append h3 q⟩
theorem Reps.one {e : D} {v : V} (h : Rep K F e v) : Reps K F [e] [v] := ⟨v, [], rfl, h, rfl⟩
theorem Reps.set : ∀ {ds : List D} {vs : List V} (i : Nat) {e : D} {v : V}, Reps K F ds vs → Rep K F e v → Reps K F (ds.set i e) (vs.set i v)
  | [], vs, i, e, v, h, q => by rw [show vs = [] from h]; exact rfl
  | d :: ds, vs, 0, e, v, h, q => by
    obtain ⟨w, r, rfl, h2, h3⟩ := h
    exact ⟨v, r, rfl, q, h3⟩
  | d :: ds, vs, i + 1, e, v, h, q => by
    obtain ⟨w, r, rfl, h2, h3⟩ := h
    exact ⟨w, r.set i v, rfl, h2, Reps.set i h3 q⟩
theorem Reps.drop : ∀ {ds : List D} {vs : List V} (i : Nat), Reps K F ds vs → Reps K F (ds.drop i) (vs.drop i)
  | [], vs, i, h => by rw [show vs = [] from h]; simp [Reps]
  | d :: ds, vs, 0, h => h
  | d :: ds, vs, i + 1, h => by
    obtain ⟨w, r, rfl, h2, h3⟩ := h
    exact Reps.drop i h3
theorem Reps.take : ∀ {ds : List D} {vs : List V} (i : Nat), Reps K F ds vs → Reps K F (ds.take i) (vs.take i)
  | [], vs, i, h => by rw [show vs = [] from h]; simp [Reps]
  | d :: ds, vs, 0, h => by simp [Reps]
  | d :: ds, vs, i + 1, h => by
    obtain ⟨w, r, rfl, h2, h3⟩ := h
    exact ⟨w, r.take i, rfl, h2, Reps.take i h3⟩
theorem Reps.dropLast {ds : List D} {vs : List V} (h : Reps K F ds vs) : Reps K F ds.dropLast vs.dropLast := by
  rw [List.dropLast_eq_take, List.dropLast_eq_take, h.length]
  exact Reps.take _ h
theorem Reps.reverse : ∀ {ds : List D} {vs : List V}, Reps K F ds vs → Reps K F ds.reverse vs.reverse
  | [], vs, h => by rw [show vs = [] from h]; simp [Reps]
  | d :: ds, vs, h => by
    obtain ⟨w, r, rfl, h2, h3⟩ := h
    rw [List.reverse_cons, List.reverse_cons]
    exact Reps.append (Reps.reverse h3) (Reps.one h2)
theorem Reps.ints : ∀ {ns : List Int} {vs : List V}, Reps K F (ns.map D.int) vs → vs = ns.map V.int
  | [], vs, h => h
  | n :: ns, vs, h => by
    obtain ⟨w, r, rfl, h2, h3⟩ := h
    rw [show w = V.int n from h2, Reps.ints h3]; rfl
theorem Reps.of_ints : ∀ (ns : List Int), Reps K F (ns.map D.int) (ns.map V.int)
  | [] => rfl
  | n :: ns => ⟨_, _, rfl, rfl, Reps.of_ints ns⟩
theorem Reps.bls : ∀ {ns : List Bool} {vs : List V}, Reps K F (ns.map D.bl) vs → vs = ns.map V.bl
  | [], vs, h => h
  | n :: ns, vs, h => by
    obtain ⟨w, r, rfl, h2, h3⟩ := h
    rw [show w = V.bl n from h2, Reps.bls h3]; rfl
theorem Reps.strs : ∀ {ns : List Str} {vs : List V}, Reps K F (ns.map D.str) vs → vs = ns.map V.str
  | [], vs, h => h
  | n :: ns, vs, h => by
    obtain ⟨w, r, rfl, h2, h3⟩ := h
    rw [show w = V.str n from h2, Reps.strs h3]; rfl

/-! ### how the heap goes on -/
structure Adv (F H F' H' : Hp) : Prop where
  f : Ex F F'
  h : Ex H H'
  in_ : Ex F' H'
  out : ∀ p, F p = none → H p ≠ none → F' p = none
theorem Adv.refl (e : Ex F H) : Adv F H F H := ⟨Ex.refl F, Ex.refl H, e, fun _ h _ => h⟩
theorem Adv.trans {F1 H1 F2 H2 F3 H3 : Hp} (a : Adv F1 H1 F2 H2) (b : Adv F2 H2 F3 H3) : Adv F1 H1 F3 H3 :=
  ⟨a.f.trans b.f, a.h.trans b.h, b.in_, fun p h1 h2 => b.out p (a.out p h1 h2) fun z => h2 (Evl.fresh_back a.h z)⟩
theorem none_of_ex (e : Ex F H) {p : Addr} (h : H p = none) : F p = none := Evl.fresh_back e h
theorem Adv.new {p : Addr} {o : HO} (e : Ex F H) (h : H p = none) : Adv F H (upd F p o) (upd H p o) := by
  refine ⟨Ex.new (none_of_ex e h), Ex.new h, fun a u q => ?_, fun q h1 h2 => ?_⟩
  · by_cases z : a = p
    · subst z; rw [upd_same] at q ⊢; exact q
    · rw [upd_ne z] at q ⊢; exact e a u q
  · have z : q ≠ p := fun z => h2 (by rw [z]; exact h)
    rw [upd_ne z]; exact h1
/-- a new object, not frozen -/
theorem Adv.newO {p : Addr} {o : HO} (e : Ex F H) (h : H p = none) : Adv F H F (upd H p o) :=
  ⟨Ex.refl F, Ex.new h, fun a u q => (Ex.new h) a u (e a u q), fun _ h1 _ => h1⟩
end

/-! ### what a def gives -/
inductive Res (α : Type) where
  | ok (x : α) | exc (c : Str) | stuck
namespace Res
def bind {α β : Type} : Res α → (α → Res β) → Res β
  | .ok x, f => f x
  | .exc c, _ => .exc c
  | .stuck, _ => .stuck
theorem bind_ok {α β : Type} (x : α) (f : α → Res β) : (Res.ok x).bind f = f x := rfl
theorem bind_exc {α β : Type} (c : Str) (f : α → Res β) : (Res.exc c : Res α).bind f = .exc c := rfl
theorem bind_stuck {α β : Type} (f : α → Res β) : (Res.stuck : Res α).bind f = .stuck := rfl
theorem bind_assoc {α β γ : Type} (m : Res α) (f : α → Res β) (g : β → Res γ) : (m.bind f).bind g = m.bind fun x => (f x).bind g := by
  cases m <;> rfl
theorem bind_pure {α : Type} (m : Res α) : m.bind Res.ok = m := by cases m <;> rfl
/-- a condition that must hold -/
@[irreducible] noncomputable def need {α : Type} (p : Prop) (m : Res α) : Res α := @ite _ p (Classical.propDecidable p) m .stuck
theorem need_pos {α : Type} {p : Prop} {m : Res α} (h : p) : need p m = m := by unfold need; exact if_pos h
theorem need_neg {α : Type} {p : Prop} {m : Res α} (h : ¬ p) : need p m = .stuck := by unfold need; exact if_neg h
def map {α β : Type} (f : α → β) (m : Res α) : Res β := m.bind fun x => .ok (f x)
end Res

/-! ### slots -/
inductive Sk where
  | im (e : D) | ow (xs : List D) | raw (v : V) | oi (p : Option Addr) (c : Str) (ks : List Str) (ds : List D)
/-- what only this frame knows -/
def Sk.own : Sk → Bool
  | .ow _ => true
  | .oi _ _ _ _ => true
  | _ => false
abbrev En := List (Option Sk)
def SkOk (K : PySem.W.Frag) (H0 F H : Hp) : Sk → V → Prop
  | .im e, v => Rep K F e v
  | .ow xs, v => ∃ p vs, v = .ref p ∧ H0 p = none ∧ F p = none ∧ H p = some (.lst vs) ∧ Reps K F xs vs
  | .raw w, v => v = w
  | .oi pp c ks ds, v => ∃ p dx vs, v = .ref p ∧ H0 p = none ∧ F p = none ∧ H p = some (.ins (He.ga K c) dx (ks.zip vs)) ∧ ks.length = vs.length ∧ Reps K F ds vs ∧ ∀ a, pp = some a → p = a
structure Sl (K : PySem.W.Frag) (F0 H0 F H : Hp) (σ : L2.St) (env : En) : Prop where
  adv : Adv F0 H0 F H
  slot : ∀ (i : Nat) (sk : Sk), env[i]? = some (some sk) → ∃ v, σ[i]? = some (some v) ∧ SkOk K H0 F H sk v
  dis : ∀ (i j : Nat) (sk sk' : Sk) (p : Addr), i ≠ j → env[i]? = some (some sk) → env[j]? = some (some sk') → sk.own = true → sk'.own = true → σ[i]? = some (some (.ref p)) → σ[j]? ≠ some (some (.ref p))
  len : σ.length = env.length
section
variable {K : PySem.W.Frag} {F0 H0 F H F' H' : Hp} {σ : L2.St} {env : En}
theorem Sl.ex (S : Sl K F0 H0 F H σ env) : Ex F H := S.adv.in_
theorem SkOk.adv {sk : Sk} {v : V} (a : Adv F H F' H') (h : SkOk K H0 F H sk v) : SkOk K H0 F' H' sk v := by
  cases sk with
  | im e => exact Rep.mono a.f _ _ h
  | ow xs =>
    obtain ⟨p, vs, e1, e2, e3, e4, e5⟩ := h
    exact ⟨p, vs, e1, e2, a.out p e3 (by rw [e4]; simp), a.h _ _ e4, Reps.mono a.f _ _ e5⟩
  | raw w => exact h
  | oi pp c ks ds =>
    obtain ⟨p, dx, vs, e1, e2, e3, e4, e5, e6, e7⟩ := h
    exact ⟨p, dx, vs, e1, e2, a.out p e3 (by rw [e4]; simp), a.h _ _ e4, e5, Reps.mono a.f _ _ e6, e7⟩
theorem SkOk.at {sk : Sk} {v : V} (ho : sk.own = true) (h : SkOk K H0 F H sk v) : ∃ p o, v = .ref p ∧ H0 p = none ∧ F p = none ∧ H p = some o := by
  cases sk with
  | im e => cases ho
  | raw w => cases ho
  | ow xs =>
    obtain ⟨p, vs, e1, e2, e3, e4, e5⟩ := h
    exact ⟨p, _, e1, e2, e3, e4⟩
  | oi pp c ks ds =>
    obtain ⟨p, dx, vs, e1, e2, e3, e4, e5, e6, e7⟩ := h
    exact ⟨p, _, e1, e2, e3, e4⟩
theorem SkOk.updH {sk : Sk} {v : V} {p : Addr} {o : HO} (hn : sk.own = true → v ≠ .ref p) (h : SkOk K H0 F H sk v) : SkOk K H0 F (upd H p o) sk v := by
  cases sk with
  | im e => exact h
  | raw w => exact h
  | ow xs =>
    obtain ⟨q, vs, e1, e2, e3, e4, e5⟩ := h
    have hne : q ≠ p := fun z => hn rfl (by rw [e1, z])
    exact ⟨q, vs, e1, e2, e3, by rw [upd_ne hne]; exact e4, e5⟩
  | oi pp c ks ds =>
    obtain ⟨q, dx, vs, e1, e2, e3, e4, e5, e6, e7⟩ := h
    have hne : q ≠ p := fun z => hn rfl (by rw [e1, z])
    exact ⟨q, dx, vs, e1, e2, e3, by rw [upd_ne hne]; exact e4, e5, e6, e7⟩
theorem SkOk.updF {sk : Sk} {v : V} {p : Addr} {o : HO} (hf : F p = none) (hn : sk.own = true → v ≠ .ref p) (h : SkOk K H0 F H sk v) : SkOk K H0 (upd F p o) H sk v := by
  have ad : Ex F (upd F p o) := Ex.new hf
  cases sk with
  | im e => exact Rep.mono ad _ _ h
  | raw w => exact h
  | ow xs =>
    obtain ⟨q, vs, e1, e2, e3, e4, e5⟩ := h
    have hne : q ≠ p := fun z => hn rfl (by rw [e1, z])
    exact ⟨q, vs, e1, e2, by rw [upd_ne hne]; exact e3, e4, Reps.mono ad _ _ e5⟩
  | oi pp c ks ds =>
    obtain ⟨q, dx, vs, e1, e2, e3, e4, e5, e6, e7⟩ := h
    have hne : q ≠ p := fun z => hn rfl (by rw [e1, z])
    exact ⟨q, dx, vs, e1, e2, by rw [upd_ne hne]; exact e3, e4, e5, Reps.mono ad _ _ e6, e7⟩
theorem Sl.step (S : Sl K F0 H0 F H σ env) (a : Adv F H F' H') : Sl K F0 H0 F' H' σ env := by
  refine ⟨S.adv.trans a, fun i sk e => ?_, S.dis, S.len⟩
  obtain ⟨v, h1, h2⟩ := S.slot i sk e
  exact ⟨v, h1, h2.adv a⟩
theorem set_get {α : Type} {l : List α} {i j : Nat} {x y : α} (h : (l.set i x)[j]? = some y) : (i = j ∧ x = y) ∨ (i ≠ j ∧ l[j]? = some y) := by
  rw [List.getElem?_set] at h
  by_cases e : i = j
  · rw [if_pos e] at h
    split at h
    · exact .inl ⟨e, Option.some.inj h⟩
    · cases h
  · rw [if_neg e] at h
    exact .inr ⟨e, h⟩
theorem set_len {α : Type} {l : List α} {i : Nat} {x y : α} (h : (l.set i x)[i]? = some y) : i < l.length := by
  have h := (List.getElem?_eq_some_iff.mp h).1
  rwa [List.length_set] at h
theorem Sl.setIm (S : Sl K F0 H0 F H σ env) {i : Nat} {e : D} {v : V} (r : Rep K F e v) : Sl K F0 H0 F H (σ.set i (some v)) (env.set i (some (.im e))) := by
  refine ⟨S.adv, fun j sk q => ?_, fun j k sk sk' p hjk e1 e2 o1 o2 h1 => ?_, by rw [List.length_set, List.length_set]; exact S.len⟩
  · rcases set_get q with ⟨rfl, z⟩ | ⟨z, q⟩
    · cases z
      refine ⟨v, ?_, r⟩
      have hi : i < env.length := set_len q
      rw [List.getElem?_set_self (by rw [S.len]; exact hi)]
    · obtain ⟨w, h1, h2⟩ := S.slot j sk q
      exact ⟨w, by rw [List.getElem?_set_ne z]; exact h1, h2⟩
  · rcases set_get e1 with ⟨_, z⟩ | ⟨z1, e1⟩
    · cases z; cases o1
    rcases set_get e2 with ⟨_, z⟩ | ⟨z2, e2⟩
    · cases z; cases o2
    rw [List.getElem?_set_ne z1] at h1
    rw [List.getElem?_set_ne z2]
    exact S.dis j k sk sk' p hjk e1 e2 o1 o2 h1
/-- a new owned object -/
theorem Sl.setOwn (S : Sl K F0 H0 F H σ env) {i : Nat} {p : Addr} {sk : Sk} (hs : SkOk K H0 F H sk (.ref p)) (hn : ∀ (j : Nat) (sk' : Sk), env[j]? = some (some sk') → sk'.own = true → σ[j]? ≠ some (some (V.ref p))) :
    Sl K F0 H0 F H (σ.set i (some (.ref p))) (env.set i (some sk)) := by
  refine ⟨S.adv, fun j sk q => ?_, fun j k sk1 sk2 p' hjk e1 e2 o1 o2 h1 => ?_, by rw [List.length_set, List.length_set]; exact S.len⟩
  · rcases set_get q with ⟨rfl, z⟩ | ⟨z, q⟩
    · cases z
      refine ⟨_, ?_, hs⟩
      have hi : i < env.length := set_len q
      rw [List.getElem?_set_self (by rw [S.len]; exact hi)]
    · obtain ⟨w, h1, h2⟩ := S.slot j sk q
      exact ⟨w, by rw [List.getElem?_set_ne z]; exact h1, h2⟩
  · rcases set_get e1 with ⟨z0, z⟩ | ⟨z1, e1⟩
    · rcases set_get e2 with ⟨z2, _⟩ | ⟨z2, e2⟩
      · exact absurd (z0.symm.trans z2) hjk
      · subst z0
        rw [List.getElem?_set_ne z2]
        have hi : i < σ.length := set_len h1
        rw [List.getElem?_set_self hi] at h1
        cases h1
        exact hn k sk2 e2 o2
    · rw [List.getElem?_set_ne z1] at h1
      rcases set_get e2 with ⟨z2, z⟩ | ⟨z2, e2⟩
      · subst z2
        intro q
        have hi : i < σ.length := set_len q
        rw [List.getElem?_set_self hi] at q
        cases q
        exact hn j sk1 e1 o1 h1
      · rw [List.getElem?_set_ne z2]
        exact S.dis j k sk1 sk2 p' hjk e1 e2 o1 o2 h1
theorem Sl.setOw (S : Sl K F0 H0 F H σ env) {i : Nat} {p : Addr} {xs : List D} {vs : List V} (h0 : H0 p = none) (hf : F p = none) (hp : H p = some (.lst vs)) (hn : ∀ (j : Nat) (sk' : Sk), env[j]? = some (some sk') → sk'.own = true → σ[j]? ≠ some (some (V.ref p))) (r : Reps K F xs vs) :
    Sl K F0 H0 F H (σ.set i (some (.ref p))) (env.set i (some (.ow xs))) := S.setOwn ⟨p, vs, rfl, h0, hf, hp, r⟩ hn
/-- an owned object changes -/
theorem Sl.chgO (S : Sl K F0 H0 F H σ env) {i : Nat} {p : Addr} {sk sk' : Sk} {o : HO} (e : env[i]? = some (some sk)) (ho : sk.own = true) (hs : σ[i]? = some (some (.ref p))) (hp : F p = none) (h0 : H0 p = none) (hk : SkOk K H0 F (upd H p o) sk' (.ref p)) :
    Sl K F0 H0 F (upd H p o) σ (env.set i (some sk')) := by
  refine ⟨⟨S.adv.f, fun a u q => ?_, fun a u q => ?_, S.adv.out⟩, fun j sk q => ?_, fun j k sk1 sk2 p' hjk e1 e2 o1 o2 h1 => ?_, by rw [List.length_set]; exact S.len⟩
  · rw [upd_ne (ne_of_none q h0)]; exact S.adv.h a u q
  · rw [upd_ne (ne_of_none q hp)]; exact S.adv.in_ a u q
  · rcases set_get q with ⟨rfl, z⟩ | ⟨z, q⟩
    · cases z
      exact ⟨_, hs, hk⟩
    · obtain ⟨w, h1, h2⟩ := S.slot j sk q
      exact ⟨w, h1, h2.updH fun o2 zz => S.dis i j _ _ p z e q ho o2 hs (by rw [h1, zz])⟩
  · have own : ∀ {j : Nat} {s : Sk}, (env.set i (some sk'))[j]? = some (some s) → s.own = true → ∃ s', env[j]? = some (some s') ∧ s'.own = true := by
      intro j s q o
      rcases set_get q with ⟨rfl, _⟩ | ⟨_, q⟩
      · exact ⟨_, e, ho⟩
      · exact ⟨_, q, o⟩
    obtain ⟨_, q1, r1⟩ := own e1 o1
    obtain ⟨_, q2, r2⟩ := own e2 o2
    exact S.dis j k _ _ p' hjk q1 q2 r1 r2 h1
theorem Sl.chg (S : Sl K F0 H0 F H σ env) {i : Nat} {p : Addr} {xs ys : List D} {ws : List V} (e : env[i]? = some (some (.ow xs))) (hs : σ[i]? = some (some (.ref p))) (hp : F p = none) (h0 : H0 p = none) (r : Reps K F ys ws) :
    Sl K F0 H0 F (upd H p (.lst ws)) σ (env.set i (some (.ow ys))) := S.chgO e rfl hs hp h0 ⟨p, ws, rfl, h0, hp, upd_same, r⟩
/-- an owned object is frozen -/
theorem Sl.freezeO (S : Sl K F0 H0 F H σ env) {i : Nat} {sk : Sk} {d : D} (e : env[i]? = some (some sk)) (ho : sk.own = true) (hd : ∀ p o, SkOk K H0 F H sk (.ref p) → H p = some o → F p = none → Rep K (upd F p o) d (.ref p)) : ∃ F', Ex F F' ∧ Sl K F0 H0 F' H σ (env.set i (some (.im d))) := by
  obtain ⟨v, hs, hk⟩ := S.slot i _ e
  obtain ⟨p, o, rfl, h0, hf, hp⟩ := hk.at ho
  have ad : Ex F (upd F p o) := Ex.new hf
  have inn : Ex (upd F p o) H := fun a u q => by
    by_cases z : a = p
    · subst z; rw [upd_same] at q; cases q; exact hp
    · rw [upd_ne z] at q; exact S.ex a u q
  refine ⟨upd F p o, ad, ⟨⟨S.adv.f.trans ad, S.adv.h, inn, fun a h1 h2 => ?_⟩, fun j sk q => ?_, fun j k sk1 sk2 p' hjk e1 e2 o1 o2 h1 => ?_, by rw [List.length_set]; exact S.len⟩⟩
  · have z : a ≠ p := fun z => h2 (by rw [z]; exact h0)
    rw [upd_ne z]; exact S.adv.out a h1 h2
  · rcases set_get q with ⟨rfl, z⟩ | ⟨z, q⟩
    · cases z
      exact ⟨_, hs, hd p o hk hp hf⟩
    · obtain ⟨w, h1, h2⟩ := S.slot j sk q
      exact ⟨w, h1, h2.updF hf fun o2 zz => S.dis i j _ _ p z e q ho o2 hs (by rw [h1, zz])⟩
  · have own : ∀ {j : Nat} {s : Sk}, (env.set i (some (.im d)))[j]? = some (some s) → s.own = true → env[j]? = some (some s) := by
      intro j s q o
      rcases set_get q with ⟨rfl, z⟩ | ⟨_, q⟩
      · cases z; cases o
      · exact q
    exact S.dis j k _ _ p' hjk (own e1 o1) (own e2 o2) o1 o2 h1
theorem Sl.freeze (S : Sl K F0 H0 F H σ env) {i : Nat} {xs : List D} (e : env[i]? = some (some (.ow xs))) : ∃ F', Ex F F' ∧ Sl K F0 H0 F' H σ (env.set i (some (.im (.lst xs)))) :=
  S.freezeO e rfl fun p o h hp hf => by
    obtain ⟨q, vs, e1, _, _, e4, e5⟩ := h
    cases e1
    rw [hp] at e4; cases e4
    exact ⟨_, vs, rfl, upd_same, Reps.mono (Ex.new hf) _ _ e5⟩
theorem Sl.freezeI (S : Sl K F0 H0 F H σ env) {i : Nat} {pp : Option Addr} {c : Str} {ks : List Str} {ds : List D} (e : env[i]? = some (some (.oi pp c ks ds))) : ∃ F', Ex F F' ∧ Sl K F0 H0 F' H σ (env.set i (some (.im (.obj c ks ds)))) :=
  S.freezeO e rfl fun p o h hp hf => by
    obtain ⟨q, dx, vs, e1, _, _, e4, e5, e6, _⟩ := h
    cases e1
    rw [hp] at e4; cases e4
    exact ⟨_, dx, vs, rfl, upd_same, e5, Reps.mono (Ex.new hf) _ _ e6⟩
end
end Mi
set_option maxHeartbeats 1000000
namespace Mi
open PySem PySem.Spec L2
open Evl (Ex)

class ToDs (β : Type) where
  ds : β → List D
instance : ToDs Unit := ⟨fun _ => []⟩
instance {α β : Type} [ToD α] [ToDs β] : ToDs (α × β) := ⟨fun p => ToD.d p.1 :: ToDs.ds p.2⟩

/-! ### what follows a value -/
section
variable (K : PySem.W.Frag) (W : WX) (F H : Hp) (σ : L2.St)
def KE {α : Type} [ToD α] (Q : VK) : Res α → Prop
  | .ok x => ∀ v F' H', Adv F H F' H' → Rep K F' (toD x) v → Q v H'
  | .exc c => ∀ F' H', Adv F H F' H' → W (.ref (He.ga K c)) none σ H'
  | .stuck => False
def KA {β : Type} [ToDs β] (Q : List V → Hp → Prop) : Res β → Prop
  | .ok x => ∀ vs F' H', Adv F H F' H' → Reps K F' (ToDs.ds x) vs → Q vs H'
  | .exc c => ∀ F' H', Adv F H F' H' → W (.ref (He.ga K c)) none σ H'
  | .stuck => False
def KT (Q : Bool → Hp → Prop) : Res Bool → Prop
  | .ok b => ∀ F' H', Adv F H F' H' → Q b H'
  | .exc c => ∀ F' H', Adv F H F' H' → W (.ref (He.ga K c)) none σ H'
  | .stuck => False
def KN {α : Type} [ToD α] (Q : VK) : Res (List α) → Prop
  | .ok xs => ∀ p vs F' H', Adv F H F' H' → H p = none → F' p = none → H' p = some (.lst vs) → Reps K F' (xs.map toD) vs → Q (.ref p) H'
  | .exc c => ∀ F' H', Adv F H F' H' → W (.ref (He.ga K c)) none σ H'
  | .stuck => False
end
def EvX (K : PySem.W.Frag) (W : WX) (env : En) (te : TE) {α : Type} [ToD α] (m : Res α) : Prop :=
  ∀ F0 H0 F H σ Q, Sl K F0 H0 F H σ env → KE K W F H σ Q m → te σ H Q
def EvA (K : PySem.W.Frag) (W : WX) (env : En) (ta : TA) {β : Type} [ToDs β] (m : Res β) : Prop :=
  ∀ F0 H0 F H σ Q, Sl K F0 H0 F H σ env → KA K W F H σ Q m → ta σ H Q
def EvT (K : PySem.W.Frag) (W : WX) (env : En) (tt : TT) (m : Res Bool) : Prop :=
  ∀ F0 H0 F H σ Q, Sl K F0 H0 F H σ env → KT K W F H σ Q m → tt σ H Q
def EvN (K : PySem.W.Frag) (W : WX) (env : En) (te : TE) {α : Type} [ToD α] (m : Res (List α)) : Prop :=
  ∀ F0 H0 F H σ Q, Sl K F0 H0 F H σ env → KN K W F H σ Q m → te σ H Q

section
variable {K : PySem.W.Frag} {W : WX} {F H F' H' : Hp} {σ : L2.St} {env : En} {α β γ τ : Type} [ToD α] [ToD β] [ToD γ] [ToD τ] {ta tb te tc : TE} {tt tu : TT} {r : R2}

/-- from what follows a whole to what follows its first part -/
theorem KE.cut {Q : VK} {Q1 : VK} {m : Res α} {f : α → Res β} (ex : Ex F H) (h : KE K W F H σ Q (m.bind f))
    (k : ∀ x v F' H', m = .ok x → Adv F H F' H' → Rep K F' (toD x) v → KE K W F' H' σ Q (f x) → Q1 v H') : KE K W F H σ Q1 m := by
  cases m with
  | ok x =>
    intro v F1 H1 a r
    refine k x v F1 H1 rfl a r ?_
    have h : KE K W F H σ Q (f x) := h
    revert h
    generalize f x = y
    intro h
    cases y with
    | ok y => exact fun v F2 H2 b q => h v F2 H2 (a.trans b) q
    | exc c => exact fun F2 H2 b => h F2 H2 (a.trans b)
    | stuck => exact h.elim
  | exc c => exact h
  | stuck => exact h.elim
theorem KE.adv {Q : VK} {m : Res β} (a : Adv F H F' H') (h : KE K W F H σ Q m) : KE K W F' H' σ Q m := by
  cases m with
  | ok y => exact fun v F2 H2 b q => h v F2 H2 (a.trans b) q
  | exc c => exact fun F2 H2 b => h F2 H2 (a.trans b)
  | stuck => exact h.elim
theorem KT.adv {Q : Bool → Hp → Prop} {m : Res Bool} (a : Adv F H F' H') (h : KT K W F H σ Q m) : KT K W F' H' σ Q m := by
  cases m with
  | ok y => exact fun F2 H2 b => h F2 H2 (a.trans b)
  | exc c => exact fun F2 H2 b => h F2 H2 (a.trans b)
  | stuck => exact h.elim
theorem KA.adv {δ : Type} [ToDs δ] {Q : List V → Hp → Prop} {m : Res δ} (a : Adv F H F' H') (h : KA K W F H σ Q m) : KA K W F' H' σ Q m := by
  cases m with
  | ok y => exact fun v F2 H2 b q => h v F2 H2 (a.trans b) q
  | exc c => exact fun F2 H2 b => h F2 H2 (a.trans b)
  | stuck => exact h.elim

/-- general: te then a use of its value -/
theorem use {Q Q1 : VK} {m : Res α} {F0 H0 : Hp} (hv : EvX K W env te m) (S : Sl K F0 H0 F H σ env)
    (hx : ∀ c, m = .exc c → ∀ F' H', Adv F H F' H' → W (.ref (He.ga K c)) none σ H') (hs : m ≠ .stuck)
    (k : ∀ x v F' H', m = .ok x → Adv F H F' H' → Rep K F' (toD x) v → Q1 v H') : te σ H Q1 := by
  refine hv F0 H0 F H σ Q1 S ?_
  cases m with
  | ok x => exact fun v F' H' a q => k x v F' H' rfl a q
  | exc c => exact hx c rfl
  | stuck => exact hs rfl

/-! ### names and constants -/
theorem ev_var {i : Nat} {x : α} (h : env[i]? = some (some (.im (toD x)))) : EvX K W env (tVar i) (.ok x) := fun F0 H0 F H σ Q S k => by
  obtain ⟨v, e, q⟩ := S.slot i _ h
  exact ⟨v, e, k v F H (Adv.refl S.ex) q⟩
theorem ev_int {i : Int} : EvX K W env (tC (.int i)) (.ok i) := fun F0 H0 F H σ Q S k => k _ F H (Adv.refl S.ex) rfl
theorem ev_bl {b : Bool} : EvX K W env (tC (.bl b)) (.ok b) := fun F0 H0 F H σ Q S k => k _ F H (Adv.refl S.ex) rfl
theorem ev_str {x : Str} : EvX K W env (tC (.str x)) (.ok x) := fun F0 H0 F H σ Q S k => k _ F H (Adv.refl S.ex) rfl
theorem ev_non : EvX K W env (tC .non) (.ok ()) := fun F0 H0 F H σ Q S k => k _ F H (Adv.refl S.ex) rfl
theorem ev_noneO : EvX K W env (tC .non) (.ok (none : Option α)) := fun F0 H0 F H σ Q S k => k _ F H (Adv.refl S.ex) rfl
theorem ev_tyc {n : String} : EvX K W env (tC (.ty n)) (.ok (D.ty n)) := fun F0 H0 F H σ Q S k => k _ F H (Adv.refl S.ex) rfl
/-- the same value in another type -/
theorem ev_as {m : Res α} {m' : Res β} (h : EvX K W env te m) (f : α → β) (e : ∀ x, toD (f x) = toD x) (em : m.bind (fun x => .ok (f x)) = m') : EvX K W env te m' := fun F0 H0 F H σ Q S k => by
  refine h F0 H0 F H σ Q S ?_
  subst em
  cases m with
  | ok x => intro v F' H' a q; exact k v F' H' a (by rw [e]; exact q)
  | exc c => exact k
  | stuck => exact k.elim

/-! ### operators -/
def OpX (K : PySem.W.Frag) (r : R2) (f : α → β → Res γ) : Prop := ∀ (F H : Hp) (x : α) (y : β) (v u : V) (Q : VK), Ex F H → Rep K F (toD x) v → Rep K F (toD y) u →
  KE K (fun _ _ _ _ => False) F H [] Q (f x y) → r v u H Q
theorem KE.exc_false {Q : VK} {c : Str} (h : KE K (fun _ _ _ _ => False) F H [] Q (.exc c : Res α)) (e : Ex F H) : False := h F H (Adv.refl e)
/-- operators let nothing out -/
def Mild (f : α → β → Res γ) : Prop := ∀ x y c, f x y ≠ .exc c
theorem KE.mild {Q : VK} {m : Res γ} (hm : ∀ c, m ≠ .exc c) (h : KE K W F H σ Q m) : KE K (fun _ _ _ _ => False) F H [] Q m := by
  cases m with
  | ok x => exact h
  | exc c => exact absurd rfl (hm c)
  | stuck => exact h.elim
theorem ev_op {m1 : Res α} {m2 : Res β} {f : α → β → Res γ} (ho : OpX K r f) (hm : Mild f) (ha : EvX K W env ta m1) (hb : EvX K W env tb m2) :
    EvX K W env (tOp r ta tb) (m1.bind fun x => m2.bind fun y => f x y) := fun F0 H0 F H σ Q S k => by
  refine ha F0 H0 F H σ _ S (KE.cut S.ex k fun x v F1 H1 e1 a1 r1 k1 => ?_)
  refine hb F0 H0 F1 H1 σ _ (S.step a1) (KE.cut a1.in_ k1 fun y u F2 H2 e2 a2 r2 k2 => ?_)
  exact ho F2 H2 x y v u Q a2.in_ (Rep.mono a2.f _ _ r1) r2 (k2.mild (hm x y))
theorem mild_ok {g : α → β → γ} : Mild (fun x y => Res.ok (g x y)) := fun _ _ _ h => nomatch h
theorem mild_need {p : α → β → Prop} {g : α → β → γ} : Mild (fun x y => Res.need (p x y) (.ok (g x y))) := fun x y c h => by
  by_cases q : p x y
  · have h : Res.need (p x y) (.ok (g x y)) = .exc c := h
    rw [Res.need_pos q] at h; cases h
  · have h : Res.need (p x y) (.ok (g x y)) = .exc c := h
    rw [Res.need_neg q] at h; cases h
theorem opx_I0 {g : Int → Int → Int} : OpX K (rI0 fun i j => .int (g i j)) (fun i j => .ok (g i j)) := fun F H x y v u Q e h1 h2 k =>
  ⟨x, y, h1, h2, k _ F H (Adv.refl e) rfl⟩
theorem opx_B0 {g : Int → Int → Bool} : OpX K (rI0 fun i j => .bl (g i j)) (fun i j => .ok (g i j)) := fun F H x y v u Q e h1 h2 k =>
  ⟨x, y, h1, h2, k _ F H (Adv.refl e) rfl⟩
theorem opx_I {C : Int → Int → Prop} {g : Int → Int → Int} : OpX K (rI C fun i j => .int (g i j)) (fun i j => .need (C i j) (.ok (g i j))) := fun F H x y v u Q e h1 h2 k => by
  by_cases c : C x y
  · have k : KE K (fun _ _ _ _ => False) F H [] Q (Res.need (C x y) (.ok (g x y))) := k
    rw [Res.need_pos c] at k
    exact ⟨x, y, h1, h2, c, k _ F H (Adv.refl e) rfl⟩
  · have k : KE K (fun _ _ _ _ => False) F H [] Q (Res.need (C x y) (.ok (g x y))) := k
    rw [Res.need_neg c] at k
    exact k.elim
/-- the same where the condition is known -/
theorem ev_opI {m1 m2 : Res Int} {C : Int → Int → Prop} {g : Int → Int → Int} (hc : ∀ x y, m1 = .ok x → m2 = .ok y → C x y) (ha : EvX K W env ta m1) (hb : EvX K W env tb m2) :
    EvX K W env (tOp (rI C fun i j => .int (g i j)) ta tb) (m1.bind fun x => m2.bind fun y => .ok (g x y)) := fun F0 H0 F H σ Q S k => by
  refine ha F0 H0 F H σ _ S (KE.cut S.ex k fun x v F1 H1 e1 a1 r1 k1 => ?_)
  refine hb F0 H0 F1 H1 σ _ (S.step a1) (KE.cut a1.in_ k1 fun y u F2 H2 e2 a2 r2 k2 => ?_)
  exact ⟨x, y, r1, r2, hc x y e1 e2, k2 _ F2 H2 (Adv.refl a2.in_) rfl⟩
theorem ev_un {m1 : Res Int} {g : Int → Int} (ha : EvX K W env ta m1) : EvX K W env (tUn (rU fun i => .int (g i)) ta) (m1.bind fun x => .ok (g x)) := fun F0 H0 F H σ Q S k => by
  refine ha F0 H0 F H σ _ S (KE.cut S.ex k fun x v F1 H1 e1 a1 r1 k1 => ?_)
  exact ⟨x, r1, k1 _ F1 H1 (Adv.refl a1.in_) rfl⟩
/-- == of two ints, two bools, two texts -/
theorem opx_eqI : OpX K rEq (fun (i j : Int) => .ok (decide (i = j))) := fun F H x y v u Q e h1 h2 k => by
  cases (show v = V.int x from h1); cases (show u = V.int y from h2)
  refine ⟨rfl, ?_⟩
  rw [show decide (V.int x = V.int y) = decide (x = y) by rw [dec_int]; rfl]
  exact k _ F H (Adv.refl e) rfl
theorem opx_neI : OpX K rNe (fun (i j : Int) => .ok (!decide (i = j))) := fun F H x y v u Q e h1 h2 k => by
  cases (show v = V.int x from h1); cases (show u = V.int y from h2)
  refine ⟨rfl, ?_⟩
  rw [show decide (V.int x = V.int y) = decide (x = y) by rw [dec_int]; rfl]
  exact k _ F H (Adv.refl e) rfl
theorem opx_eqB : OpX K rEq (fun (i j : Bool) => .ok (i == j)) := fun F H x y v u Q e h1 h2 k => by
  cases (show v = V.bl x from h1); cases (show u = V.bl y from h2)
  refine ⟨rfl, ?_⟩
  rw [dec_bl]
  exact k _ F H (Adv.refl e) rfl
theorem opx_neB : OpX K rNe (fun (i j : Bool) => .ok (!(i == j))) := fun F H x y v u Q e h1 h2 k => by
  cases (show v = V.bl x from h1); cases (show u = V.bl y from h2)
  refine ⟨rfl, ?_⟩
  rw [dec_bl]
  exact k _ F H (Adv.refl e) rfl
theorem opx_eqS : OpX K rEq (fun (i j : Str) => .ok (i == j)) := fun F H x y v u Q e h1 h2 k => by
  cases (show v = V.str x from h1); cases (show u = V.str y from h2)
  refine ⟨rfl, ?_⟩
  rw [dec_str]
  exact k _ F H (Adv.refl e) rfl
theorem opx_neS : OpX K rNe (fun (i j : Str) => .ok (!(i == j))) := fun F H x y v u Q e h1 h2 k => by
  cases (show v = V.str x from h1); cases (show u = V.str y from h2)
  refine ⟨rfl, ?_⟩
  rw [dec_str]
  exact k _ F H (Adv.refl e) rfl
def D.isNon : D → Bool
  | .non => true
  | _ => false
theorem rep_isNon : ∀ {x : D} {v : V}, Rep K F x v → decide (v = V.non) = x.isNon
  | .non, v, h => by rw [show v = V.non from h]; rfl
  | .bl b, v, h => by rw [show v = V.bl b from h]; rfl
  | .int b, v, h => by rw [show v = V.int b from h]; rfl
  | .str b, v, h => by rw [show v = V.str b from h]; rfl
  | .ty b, v, h => by rw [show v = V.ty b from h]; rfl
  | .tup ds, v, h => by obtain ⟨a, vs, rfl, _⟩ := h; rfl
  | .lst ds, v, h => by obtain ⟨a, vs, rfl, _⟩ := h; rfl
  | .obj c ks ds, v, h => by obtain ⟨a, dx, vs, rfl, _⟩ := h; rfl
  | .ro ds, v, h => by obtain ⟨a, vs, rfl, _⟩ := h; rfl
  | .dct ks ds, v, h => by obtain ⟨a, vs, rfl, _⟩ := h; rfl
theorem opx_isN : OpX K (fun x y H Q => y = .non ∧ Q (.bl (decide (x = .non))) H) (fun (x : α) (_ : Unit) => .ok (toD x).isNon) := fun F H x y v u Q e h1 h2 k =>
  ⟨h2, by rw [rep_isNon h1]; exact k _ F H (Adv.refl e) rfl⟩
theorem opx_notN : OpX K (fun x y H Q => y = .non ∧ Q (.bl (!decide (x = .non))) H) (fun (x : α) (_ : Unit) => .ok (!(toD x).isNon)) := fun F H x y v u Q e h1 h2 k =>
  ⟨h2, by rw [rep_isNon h1]; exact k _ F H (Adv.refl e) rfl⟩

/-! ### == of data -/
mutual
def D.py : D → PyData
  | .non => .none
  | .bl b => .bool b
  | .int i => .int i
  | .str s => .str s
  | .ty _ => .none
  | .tup xs => .tuple (pyL xs)
  | .lst xs => .list (pyL xs)
  | .obj _ _ _ => .none
  | .ro _ => .none
  | .dct _ _ => .none
def pyL : List D → List PyData
  | [] => []
  | x :: xs => D.py x :: pyL xs
end
mutual
/-- no objects, no classes within -/
def D.flat : D → Bool
  | .ty _ => false
  | .obj _ _ _ => false
  | .ro _ => false
  | .dct _ _ => false
  | .tup xs => flatL xs
  | .lst xs => flatL xs
  | _ => true
def flatL : List D → Bool
  | [] => true
  | x :: xs => D.flat x && flatL xs
end
mutual
theorem dp_of : ∀ {x : D} {v : V}, Rep K F x v → x.flat = true → Dp K F v x.py
  | .non, v, h, _ => by rw [show v = V.non from h]; exact .non
  | .bl b, v, h, _ => by rw [show v = V.bl b from h]; exact .bl b
  | .int b, v, h, _ => by rw [show v = V.int b from h]; exact .int b
  | .str b, v, h, _ => by rw [show v = V.str b from h]; exact .str b
  | .ty b, v, h, q => by cases q
  | .tup ds, v, h, q => by obtain ⟨a, vs, rfl, h2, h3⟩ := h; exact .tup h2 (dps_of h3 q)
  | .lst ds, v, h, q => by obtain ⟨a, vs, rfl, h2, h3⟩ := h; exact .lst (Evl.sq_of h2) (dps_of h3 q)
  | .obj c ks ds, v, h, q => by cases q
  | .ro ds, v, h, q => by cases q
  | .dct ks ds, v, h, q => by cases q
theorem dps_of : ∀ {xs : List D} {vs : List V}, Reps K F xs vs → flatL xs = true → DpAll K F vs (pyL xs)
  | [], vs, h, _ => by rw [show vs = [] from h]; exact .nil
  | x :: xs, vs, h, q => by
    obtain ⟨v, r, rfl, h2, h3⟩ := h
    have q2 := Bool.and_eq_true_iff.mp (show (D.flat x && flatL xs) = true from q)
    exact .cons (dp_of h2 q2.1) (dps_of h3 q2.2)
end
mutual
theorem Dp.mono {e : Ex F F'} : ∀ {v : V} {x : PyData}, Dp K F v x → Dp K F' v x
  | _, _, .non => .non
  | _, _, .bl b => .bl b
  | _, _, .int b => .int b
  | _, _, .str b => .str b
  | _, _, .lst h1 h2 => .lst (Evl.ex_l e h1) (Dps.mono (e := e) h2)
  | _, _, .tup h1 h2 => .tup (Evl.ex_t e h1) (Dps.mono (e := e) h2)
theorem Dps.mono {e : Ex F F'} : ∀ {v : List V} {x : List PyData}, DpAll K F v x → DpAll K F' v x
  | _, _, .nil => .nil
  | _, _, .cons h1 h2 => .cons (Dp.mono (e := e) h1) (Dps.mono (e := e) h2)
end
/-- data that == may be asked of -/
def D.okq (x : D) : Bool := x.flat && SeqAt.shaped x.py
def pyEq (x y : D) : Bool := PyData.eqv x.py y.py
theorem opx_eqD : OpX K (rEqD K) (fun (x : α) (y : β) => .need ((toD x).okq = true ∧ (toD y).okq = true) (.ok (pyEq (toD x) (toD y)))) := fun F H x y v u Q e h1 h2 k => by
  dsimp only at k
  by_cases c : (toD x).okq = true ∧ (toD y).okq = true
  · rw [Res.need_pos c] at k
    obtain ⟨c1, c2⟩ := c
    obtain ⟨a1, a2⟩ := Bool.and_eq_true_iff.mp c1
    obtain ⟨b1, b2⟩ := Bool.and_eq_true_iff.mp c2
    exact ⟨_, _, Dp.mono (e := e) (dp_of h1 a1), Dp.mono (e := e) (dp_of h2 b1), a2, b2, k _ F H (Adv.refl e) rfl⟩
  · rw [Res.need_neg c] at k
    exact k.elim
theorem opx_neD : OpX K (rNeD K) (fun (x : α) (y : β) => .need ((toD x).okq = true ∧ (toD y).okq = true) (.ok (!pyEq (toD x) (toD y)))) := fun F H x y v u Q e h1 h2 k => by
  dsimp only at k
  by_cases c : (toD x).okq = true ∧ (toD y).okq = true
  · rw [Res.need_pos c] at k
    obtain ⟨c1, c2⟩ := c
    obtain ⟨a1, a2⟩ := Bool.and_eq_true_iff.mp c1
    obtain ⟨b1, b2⟩ := Bool.and_eq_true_iff.mp c2
    exact ⟨_, _, Dp.mono (e := e) (dp_of h1 a1), Dp.mono (e := e) (dp_of h2 b1), a2, b2, k _ F H (Adv.refl e) rfl⟩
  · rw [Res.need_neg c] at k
    exact k.elim

/-! ### an item -/
def idx {α : Type} (xs : List α) (i : Int) : Res α := match atI xs i with
  | some x => .ok x
  | none => .stuck
theorem idx_mild {α : Type} (xs : List α) (i : Int) (c : Str) : idx xs i ≠ .exc c := by
  unfold idx; split <;> intro h <;> cases h
theorem atI_map {α β : Type} (f : α → β) (xs : List α) (i : Int) : atI (xs.map f) i = (atI xs i).map f := by
  unfold atI
  rw [List.length_map]
  cases ixN xs.length i with
  | none => rfl
  | some j => simp
theorem Reps.at {xs : List D} {vs : List V} {i : Int} {x : D} (h : Reps K F xs vs) (e : atI xs i = some x) : ∃ v, atI vs i = some v ∧ Rep K F x v := by
  unfold atI at e ⊢
  rw [← h.length]
  cases q : ixN xs.length i with
  | none => rw [q] at e; cases e
  | some j => rw [q] at e; exact Reps.get h e
theorem opx_ixL : OpX K (rIxL K) (fun (xs : List α) (i : Int) => idx xs i) := fun F H xs i v u Q e h1 h2 k => by
  obtain ⟨a, vs, rfl, hl, hr⟩ := h1
  cases (show u = V.int i from h2)
  dsimp only [idx] at k
  cases q : atI xs i with
  | none => rw [q] at k; exact k.elim
  | some x =>
    rw [q] at k
    obtain ⟨w, hw, rw_⟩ := Reps.at (i := i) hr (x := toD x) (by rw [atI_map, q]; rfl)
    exact ⟨a, vs, i, w, rfl, rfl, sq_ex e hl, hw, k _ F H (Adv.refl e) rw_⟩
theorem opx_ixT : OpX K (rIxT K) (fun (xs : Tu α) (i : Int) => idx xs.xs i) := fun F H xs i v u Q e h1 h2 k => by
  obtain ⟨a, vs, rfl, hl, hr⟩ := h1
  cases (show u = V.int i from h2)
  dsimp only [idx] at k
  cases q : atI xs.xs i with
  | none => rw [q] at k; exact k.elim
  | some x =>
    rw [q] at k
    obtain ⟨w, hw, rw_⟩ := Reps.at (i := i) hr (x := toD x) (by rw [atI_map, q]; rfl)
    exact ⟨a, vs, i, w, rfl, rfl, Evl.ex_t e hl, hw, k _ F H (Adv.refl e) rw_⟩
/-- t[i], i written, t a tuple whose parts have types of their own -/
theorem ev_ixTC {m : Res α} {i : Int} {f : α → β} (ha : EvX K W env ta m) (hf : ∀ x, ∃ ds, toD x = .tup ds ∧ atI ds i = some (toD (f x))) :
    EvX K W env (tOp (rIxT K) ta (tC (.int i))) (m.bind fun x => .ok (f x)) := fun F0 H0 F H σ Q S k => by
  refine ha F0 H0 F H σ _ S (KE.cut S.ex k fun x v F1 H1 e1 a1 r1 k1 => ?_)
  obtain ⟨ds, e, q⟩ := hf x
  rw [e] at r1
  obtain ⟨a, vs, rfl, hl, hr⟩ := r1
  obtain ⟨w, hw, rw_⟩ := Reps.at (i := i) hr q
  exact ⟨a, vs, i, w, rfl, rfl, Evl.ex_t a1.in_ hl, hw, k1 _ F1 H1 (Adv.refl a1.in_) rw_⟩
/-- xs[i], xs the owned list of slot j -/
theorem ev_ixO {j : Nat} {xs : List α} {m : Res Int} (h : env[j]? = some (some (.ow (xs.map toD)))) (hb : EvX K W env tb m) : EvX K W env (tOp (rIxL K) (tVar j) tb) (m.bind fun i => idx xs i) := fun F0 H0 F H σ Q S k => by
  obtain ⟨v, e, p, vs, rfl, h0, hf, hp, hr⟩ := S.slot j _ h
  refine ⟨_, e, ?_⟩
  refine hb F0 H0 F H σ _ S (KE.cut S.ex k fun i u F1 H1 e1 a1 r1 k1 => ?_)
  cases (show u = V.int i from r1)
  unfold idx at k1
  cases q : atI xs i with
  | none => rw [q] at k1; exact k1.elim
  | some x =>
    rw [q] at k1
    obtain ⟨w, hw, rw_⟩ := Reps.at (i := i) hr (x := toD x) (by rw [atI_map, q]; rfl)
    exact ⟨p, vs, i, w, rfl, rfl, .inl (.inl (a1.h _ _ hp)), hw, k1 _ F1 H1 (Adv.refl a1.in_) (Rep.mono a1.f _ _ rw_)⟩

/-! ### tests, and, or, not -/
theorem et_test {m : Res Bool} (ha : EvX K W env te m) : EvT K W env (tTest te) m := fun F0 H0 F H σ Q S k => by
  refine ha F0 H0 F H σ _ S ?_
  cases m with
  | ok b => exact fun v F' H' a q => ⟨b, q, k F' H' a⟩
  | exc c => exact k
  | stuck => exact k.elim
theorem et_B {m : Res Bool} (ha : EvX K W env te m) : EvT K W env (tB te) m := et_test ha
theorem et_not {m : Res Bool} (ha : EvT K W env tt m) : EvT K W env (tNot tt) (m.bind fun b => .ok (!b)) := fun F0 H0 F H σ Q S k => by
  refine ha F0 H0 F H σ _ S ?_
  cases m with
  | ok b => exact k
  | exc c => exact k
  | stuck => exact k.elim
theorem et_and {m1 m2 : Res Bool} (ha : EvT K W env tt m1) (hb : EvT K W env tu m2) : EvT K W env (tAnd tt tu) (m1.bind fun b => cond b m2 (.ok false)) := fun F0 H0 F H σ Q S k => by
  refine ha F0 H0 F H σ _ S ?_
  cases m1 with
  | ok b =>
    intro F' H' a
    cases b with
    | true =>
      have k : KT K W F H σ Q m2 := k
      show tu σ H' Q
      exact hb F0 H0 F' H' σ Q (S.step a) (k.adv a)
    | false => exact k F' H' a
  | exc c => exact k
  | stuck => exact k.elim
theorem et_or {m1 m2 : Res Bool} (ha : EvT K W env tt m1) (hb : EvT K W env tu m2) : EvT K W env (tOr tt tu) (m1.bind fun b => cond b (.ok true) m2) := fun F0 H0 F H σ Q S k => by
  refine ha F0 H0 F H σ _ S ?_
  cases m1 with
  | ok b =>
    intro F' H' a
    cases b with
    | false =>
      have k : KT K W F H σ Q m2 := k
      show tu σ H' Q
      exact hb F0 H0 F' H' σ Q (S.step a) (k.adv a)
    | true => exact k F' H' a
  | exc c => exact k
  | stuck => exact k.elim
theorem ev_andV {m1 m2 : Res Bool} (ha : EvX K W env ta m1) (hb : EvX K W env tb m2) : EvX K W env (tAndV ta tb) (m1.bind fun b => cond b m2 (.ok false)) := fun F0 H0 F H σ Q S k => by
  refine ha F0 H0 F H σ _ S ?_
  cases m1 with
  | ok b =>
    intro v F' H' a r
    refine ⟨b, r, ?_⟩
    cases b with
    | true =>
      have k : KE K W F H σ Q m2 := k
      exact hb F0 H0 F' H' σ Q (S.step a) (k.adv a)
    | false => exact k _ F' H' a rfl
  | exc c => exact k
  | stuck => exact k.elim
theorem ev_orV {m1 m2 : Res Bool} (ha : EvX K W env ta m1) (hb : EvX K W env tb m2) : EvX K W env (tOrV ta tb) (m1.bind fun b => cond b (.ok true) m2) := fun F0 H0 F H σ Q S k => by
  refine ha F0 H0 F H σ _ S ?_
  cases m1 with
  | ok b =>
    intro v F' H' a r
    refine ⟨b, r, ?_⟩
    cases b with
    | false =>
      have k : KE K W F H σ Q m2 := k
      exact hb F0 H0 F' H' σ Q (S.step a) (k.adv a)
    | true => exact k _ F' H' a rfl
  | exc c => exact k
  | stuck => exact k.elim
theorem ev_notV {m : Res Bool} (ha : EvX K W env ta m) : EvX K W env (tNotV ta) (m.bind fun b => .ok (!b)) := fun F0 H0 F H σ Q S k => by
  refine ha F0 H0 F H σ _ S ?_
  cases m with
  | ok b => exact fun v F' H' a r => ⟨b, r, k _ F' H' a rfl⟩
  | exc c => exact k
  | stuck => exact k.elim
theorem ev_if {m : Res Bool} {m1 m2 : Res α} (hc : EvT K W env tt m) (ha : EvX K W env ta m1) (hb : EvX K W env tb m2) : EvX K W env (tIf tt ta tb) (m.bind fun b => cond b m1 m2) := fun F0 H0 F H σ Q S k => by
  refine hc F0 H0 F H σ _ S ?_
  cases m with
  | ok b =>
    intro F' H' a
    cases b with
    | true =>
      have k : KE K W F H σ Q m1 := k
      show ta σ H' Q
      exact ha F0 H0 F' H' σ Q (S.step a) (k.adv a)
    | false =>
      have k : KE K W F H σ Q m2 := k
      show tb σ H' Q
      exact hb F0 H0 F' H' σ Q (S.step a) (k.adv a)
  | exc c => exact k
  | stuck => exact k.elim
/-- a < b < c -/
theorem ev_chain {m1 : Res α} {m2 : Res β} {m3 : Res γ} {r' : R2} {f : α → β → Res Bool} {g : β → γ → Res Bool} (ho : OpX K r f) (hf : Mild f) (ho' : OpX K r' g) (hg : Mild g) (ha : EvX K W env ta m1) (hb : EvX K W env tb m2) (hc : EvX K W env tc m3) :
    EvX K W env (tChain r r' ta tb tc) (m1.bind fun x => m2.bind fun y => (f x y).bind fun b => cond b (m3.bind fun z => g y z) (.ok false)) := fun F0 H0 F H σ Q S k => by
  refine ha F0 H0 F H σ _ S (KE.cut S.ex k fun x v F1 H1 e1 a1 r1 k1 => ?_)
  refine hb F0 H0 F1 H1 σ _ (S.step a1) (KE.cut a1.in_ k1 fun y u F2 H2 e2 a2 r2 k2 => ?_)
  refine ho F2 H2 x y v u _ a2.in_ (Rep.mono a2.f _ _ r1) r2 ?_
  cases q : f x y with
  | ok b =>
    rw [q] at k2
    intro w F3 H3 a3 rb
    refine ⟨b, rb, ?_⟩
    cases b with
    | true =>
      have k3 : KE K W F2 H2 σ Q (m3.bind fun z => g y z) := k2
      show tc σ H3 _
      refine hc F0 H0 F3 H3 σ _ (((S.step a1).step a2).step a3) (KE.cut a3.in_ (k3.adv a3) fun z w F4 H4 e4 a4 r4 k4 => ?_)
      exact ho' F4 H4 y z u w Q a4.in_ (Rep.mono (a3.trans a4).f _ _ r2) r4 (k4.mild (hg y z))
    | false => exact k2 _ F3 H3 a3 rfl
  | exc c => exact absurd q (hf x y c)
  | stuck => rw [q] at k2; exact k2.elim

/-! ### arguments, displays, calls -/
theorem ea_nil : EvA K W env tNil (.ok ()) := fun F0 H0 F H σ Q S k => k [] F H (Adv.refl S.ex) rfl
theorem ea_cons {δ : Type} [ToDs δ] {t : TA} {m1 : Res α} {m2 : Res δ} (ha : EvX K W env te m1) (hb : EvA K W env t m2) : EvA K W env (tCons te t) (m1.bind fun x => m2.bind fun y => .ok (x, y)) := fun F0 H0 F H σ Q S k => by
  refine ha F0 H0 F H σ _ S ?_
  cases m1 with
  | ok x =>
    intro v F1 H1 a1 r1
    have k1 : KA K W F H σ Q (m2.bind fun y => .ok (x, y)) := k
    refine hb F0 H0 F1 H1 σ _ (S.step a1) ?_
    cases m2 with
    | ok y =>
      intro vs F2 H2 a2 r2
      exact k1 (v :: vs) F2 H2 (a1.trans a2) ⟨v, vs, rfl, Rep.mono a2.f _ _ r1, r2⟩
    | exc c => exact fun F2 H2 a2 => k1 F2 H2 (a1.trans a2)
    | stuck => exact k1.elim
  | exc c => exact k
  | stuck => exact k.elim
/-- a tuple that is made; its type by f -/
theorem ev_tup {δ : Type} [ToDs δ] {t : TA} {m : Res δ} {f : δ → α} (ha : EvA K W env t m) (hf : ∀ y : δ, toD (f y) = .tup (ToDs.ds y)) (hn : ∀ y : δ, (ToDs.ds y).length ≤ 100000) : EvX K W env (tTup t) (m.bind fun y => .ok (f y)) := fun F0 H0 F H σ Q S k => by
  refine ha F0 H0 F H σ _ S ?_
  cases m with
  | ok y =>
    intro vs F1 H1 a1 r1
    refine ⟨by rw [← r1.length]; exact Evl.sz_of (hn y), fun p hp => ?_⟩
    have a2 : Adv F1 H1 (upd F1 p (.tup vs)) (upd H1 p (.tup vs)) := Adv.new a1.in_ hp
    refine k _ _ _ (a1.trans a2) ?_
    rw [hf]
    exact ⟨p, vs, rfl, .inl (.inl upd_same), Reps.mono a2.f _ _ r1⟩
  | exc c => exact k
  | stuck => exact k.elim
/-- a list that is made -/
theorem en_lst {δ : Type} [ToDs δ] {t : TA} {m : Res δ} {f : δ → List α} (ha : EvA K W env t m) (hf : ∀ y : δ, (f y).map toD = ToDs.ds y) (hn : ∀ y : δ, (ToDs.ds y).length ≤ 100000) : EvN K W env (tLst t) (m.bind fun y => .ok (f y)) := fun F0 H0 F H σ Q S k => by
  refine ha F0 H0 F H σ _ S ?_
  cases m with
  | ok y =>
    intro vs F1 H1 a1 r1
    refine ⟨by rw [← r1.length]; exact Evl.sz_of (hn y), fun p hp => ?_⟩
    refine k p vs _ _ (a1.trans (Adv.newO a1.in_ hp)) (Evl.fresh_back a1.h hp) (none_of_ex a1.in_ hp) upd_same ?_
    rw [hf]
    exact r1
  | exc c => exact k
  | stuck => exact k.elim
/-- a new list as a value that is not changed later -/
theorem ev_ofN {m : Res (List α)} (h : EvN K W env te m) : EvX K W env te m := fun F0 H0 F H σ Q S k => by
  refine h F0 H0 F H σ Q S ?_
  cases m with
  | ok xs =>
    intro p vs F1 H1 a1 hp hf hh r
    have e : Ex F1 (upd F1 p (.lst vs)) := Ex.new hf
    refine k _ (upd F1 p (.lst vs)) H1 ⟨a1.f.trans e, a1.h, fun a u q => ?_, fun q h1 h2 => ?_⟩ ⟨p, vs, rfl, upd_same, Reps.mono e _ _ r⟩
    · by_cases z : a = p
      · subst z; rw [upd_same] at q; cases q; exact hh
      · rw [upd_ne z] at q; exact a1.in_ a u q
    · have z : q ≠ p := fun z => h2 (by rw [z]; exact hp)
      rw [upd_ne z]; exact a1.out q h1 h2
  | exc c => exact k
  | stuck => exact k.elim
/-- a def's promise, by the function that tells what it gives -/
def spM (K : PySem.W.Frag) {δ : Type} [ToDs δ] (f : δ → Res α) : Sp := fun vs H Q E => ∃ F x, Ex F H ∧ Reps K F (ToDs.ds x) vs ∧ KE K (fun cls d _ H => E cls d H) F H [] Q (f x)
theorem ev_call {δ : Type} [ToDs δ] {t : TA} {m : Res δ} {f : δ → Res α} (ha : EvA K W env t m) : EvX K W env (tCallS (spM K f) (WE W) t) (m.bind f) := fun F0 H0 F H σ Q S k => by
  refine ha F0 H0 F H σ _ S ?_
  cases m with
  | ok y =>
    intro vs F1 H1 a1 r1
    refine ⟨F1, y, a1.in_, r1, ?_⟩
    have k : KE K W F H σ Q (f y) := k
    have k := k.adv a1
    revert k
    generalize f y = z
    intro k
    cases z with
    | ok z => exact k
    | exc c => exact k
    | stuck => exact k.elim
  | exc c => exact k
  | stuck => exact k.elim
namespace Res
def noexc {α : Type} : Res α → Res α
  | .exc _ => .stuck
  | m => m
end Res
/-- a call of a def that lets nothing out there -/
theorem ev_call0 {δ : Type} [ToDs δ] {t : TA} {m : Res δ} {f : δ → Res α} (ha : EvA K W env t m) : EvX K W env (tCall (spM K f) [] E0 t) (m.bind fun y => (f y).noexc) := fun F0 H0 F H σ Q S k => by
  refine ha F0 H0 F H σ _ S ?_
  cases m with
  | ok y =>
    intro vs F1 H1 a1 r1
    refine ⟨F1, y, a1.in_, by rw [List.append_nil]; exact r1, ?_⟩
    have k : KE K W F H σ Q (f y).noexc := k
    have k := k.adv a1
    revert k
    generalize f y = z
    intro k
    cases z with
    | ok z => exact k
    | exc c => exact k.elim
    | stuck => exact k.elim
  | exc c => exact k
  | stuck => exact k.elim
/-- built-in defs by their values -/
def CrX (K : PySem.W.Frag) (r : List V → Hp → VK → Prop) {δ : Type} [ToDs δ] (f : δ → Res α) : Prop := ∀ (F H : Hp) (x : δ) (vs : List V) (Q : VK), Ex F H → Reps K F (ToDs.ds x) vs → KE K (fun _ _ _ _ => False) F H [] Q (f x) → r vs H Q
theorem ev_cb {δ : Type} [ToDs δ] {r : List V → Hp → VK → Prop} {t : TA} {m : Res δ} {f : δ → Res α} (ho : CrX K r f) (hm : ∀ x c, f x ≠ .exc c) (ha : EvA K W env t m) : EvX K W env (tCB r t) (m.bind f) := fun F0 H0 F H σ Q S k => by
  refine ha F0 H0 F H σ _ S ?_
  cases m with
  | ok y =>
    intro vs F1 H1 a1 r1
    have k : KE K W F H σ Q (f y) := k
    exact ho F1 H1 y vs Q a1.in_ r1 ((k.adv a1).mild (hm y))
  | exc c => exact k
  | stuck => exact k.elim
end
end Mi
set_option maxHeartbeats 1000000
namespace Mi
open PySem PySem.Spec L2
open Evl (Ex)

/-! ### statements -/
inductive EnLe : En → En → Prop
  | nil : EnLe [] []
  | same {e : Option Sk} {l m : En} : EnLe l m → EnLe (e :: l) (e :: m)
  | drop {e : Option Sk} {l m : En} : EnLe l m → EnLe (e :: l) (none :: m)
theorem EnLe.refl : ∀ l : En, EnLe l l
  | [] => .nil
  | _ :: l => .same (EnLe.refl l)
theorem EnLe.get : ∀ {l m : En}, EnLe l m → ∀ {i : Nat} {sk : Sk}, m[i]? = some (some sk) → l[i]? = some (some sk)
  | _, _, .nil, i, sk, h => h
  | _, _, .same t, 0, sk, h => h
  | _, _, .same t, i + 1, sk, h => EnLe.get t (by simpa using h)
  | _, _, .drop t, 0, sk, h => by simp at h
  | _, _, .drop t, i + 1, sk, h => EnLe.get t (by simpa using h)
theorem EnLe.len {l m : En} (h : EnLe l m) : l.length = m.length := by
  induction h with
  | nil => rfl
  | same _ ih => simp [ih]
  | drop _ ih => simp [ih]
theorem Sl.weak {K : PySem.W.Frag} {F0 H0 F H : Hp} {σ : L2.St} {env env' : En} (S : Sl K F0 H0 F H σ env) (h : EnLe env env') : Sl K F0 H0 F H σ env' :=
  ⟨S.adv, fun i sk e => S.slot i sk (h.get e), fun i j sk sk' p hij e1 e2 => S.dis i j sk sk' p hij (h.get e1) (h.get e2), S.len.trans h.len⟩
def Blk (K : PySem.W.Frag) (F0 H0 : Hp) {τ : Type} (KP : Res τ → Prop) (T : L2.St → Hp → Prop) (env : En) (m : Res τ) : Prop :=
  ∀ F H σ, Sl K F0 H0 F H σ env → KP m → T σ H
structure Lk (K : PySem.W.Frag) (W : WX) (F0 H0 : Hp) (rt : VK) (PT : En → Prop) {τ : Type} [ToD τ] (KP : Res τ → Prop) : Prop where
  ok : ∀ x, KP (.ok x) → ∀ v F H, Adv F0 H0 F H → Rep K F (toD x) v → rt v H
  exc : ∀ c F H σ env, KP (.exc c) → PT env → Sl K F0 H0 F H σ env → W (.ref (He.ga K c)) none σ H
  no : ¬ KP .stuck
section
variable {K : PySem.W.Frag} {W : WX} {F0 H0 F H F' H' F1 : Hp} {rt : VK} {PT : En → Prop} {env env' : En} {α β γ τ : Type} [ToD α] [ToD β] [ToD γ] [ToD τ] {KP : Res τ → Prop} {te ta tb tc : TE} {tt : TT} {Z : Ends} {t u : TS} {T : L2.St → Hp → Prop}
theorem Sl.base {σ : L2.St} (S : Sl K F0 H0 F1 H' σ env) {σ' : L2.St} (S' : Sl K F1 H0 F H σ' env') : Sl K F0 H0 F H σ' env' :=
  ⟨⟨S.adv.f.trans S'.adv.f, S'.adv.h, S'.adv.in_, fun p h1 h2 => S'.adv.out p (S.adv.out p h1 h2) h2⟩, S'.slot, S'.dis, S'.len⟩
theorem Lk.base (L : Lk K W F0 H0 rt PT KP) {σ : L2.St} (S : Sl K F0 H0 F1 H' σ env) : Lk K W F1 H0 rt PT KP :=
  ⟨fun x h v F H a r => L.ok x h v F H ⟨S.adv.f.trans a.f, a.h, a.in_, fun p h1 h2 => a.out p (S.adv.out p h1 h2) h2⟩ r,
   fun c F H σ' env' h p S' => L.exc c F H σ' env' h p (S.base S'), L.no⟩
theorem Blk.base {m : Res τ} (B : Blk K F0 H0 KP T env' m) {σ : L2.St} (S : Sl K F0 H0 F1 H' σ env) : Blk K F1 H0 KP T env' m := fun F H σ' S' h => B F H σ' (S.base S') h
theorem Blk.weak {m : Res τ} (B : Blk K F0 H0 KP T env' m) (h : EnLe env env') : Blk K F0 H0 KP T env m := fun F H σ S k => B F H σ (S.weak h) k

/-- what follows an expression in a block -/
theorem Lk.ke (L : Lk K W F0 H0 rt PT KP) (hT : PT env) {σ : L2.St} (S : Sl K F0 H0 F H σ env) {m : Res α} {f : α → Res τ} (h : KP (m.bind f)) {Q : VK}
    (k : ∀ x v F' H', m = .ok x → Adv F H F' H' → Rep K F' (toD x) v → KP (f x) → Q v H') : KE K W F H σ Q m := by
  cases m with
  | ok x => exact fun v F' H' a r => k x v F' H' rfl a r h
  | exc c => exact fun F' H' a => L.exc c F' H' σ env h hT (S.step a)
  | stuck => exact (L.no h).elim
theorem Lk.kt (L : Lk K W F0 H0 rt PT KP) (hT : PT env) {σ : L2.St} (S : Sl K F0 H0 F H σ env) {m : Res Bool} {f : Bool → Res τ} (h : KP (m.bind f)) {Q : Bool → Hp → Prop}
    (k : ∀ x F' H', m = .ok x → Adv F H F' H' → KP (f x) → Q x H') : KT K W F H σ Q m := by
  cases m with
  | ok x => exact fun F' H' a => k x F' H' rfl a h
  | exc c => exact fun F' H' a => L.exc c F' H' σ env h hT (S.step a)
  | stuck => exact (L.no h).elim
theorem Lk.kn (L : Lk K W F0 H0 rt PT KP) (hT : PT env) {σ : L2.St} (S : Sl K F0 H0 F H σ env) {m : Res (List α)} {f : List α → Res τ} (h : KP (m.bind f)) {Q : VK}
    (k : ∀ xs p vs F' H', m = .ok xs → Adv F H F' H' → H p = none → F' p = none → H' p = some (.lst vs) → Reps K F' (xs.map toD) vs → KP (f xs) → Q (.ref p) H') : KN K W F H σ Q m := by
  cases m with
  | ok x => exact fun p vs F' H' a h1 h2 h3 h4 => k x p vs F' H' rfl a h1 h2 h3 h4 h
  | exc c => exact fun F' H' a => L.exc c F' H' σ env h hT (S.step a)
  | stuck => exact (L.no h).elim

theorem blk_seq {m : Res τ} (h : Blk K F0 H0 KP (t { Z with nx := u Z }) env m) : Blk K F0 H0 KP (tSeq t u Z) env m := h
theorem blk_nil {m : Res τ} (h : Blk K F0 H0 KP Z.nx env m) : Blk K F0 H0 KP (tNext Z) env m := h

theorem Blk.nx {m : Res τ} {T bk ct : L2.St → Hp → Prop} {r : VK} (h : Blk K F0 H0 KP T env m) : Blk K F0 H0 KP (Ends.nx ⟨T, r, bk, ct⟩) env m := h
/-! targets -/
def GX (K : PySem.W.Frag) (g : TG) (x : D) (f : En → En) (ws : List Nat) : Prop := ∀ (F0 H0 F H : Hp) (σ : L2.St) (env : En) (v : V) (T : L2.St → Hp → Prop), Sl K F0 H0 F H σ env → Rep K F x v →
  (∀ σ', Sl K F0 H0 F H σ' (f env) → σ'.length = σ.length → (∀ j, j ∉ ws → σ'[j]? = σ[j]?) → T σ' H) → g v σ H T
def GXs (K : PySem.W.Frag) (g : TGs) (xs : List D) (f : En → En) (ws : List Nat) : Prop := ∀ (F0 H0 F H : Hp) (σ : L2.St) (env : En) (vs : List V) (T : L2.St → Hp → Prop), Sl K F0 H0 F H σ env → Reps K F xs vs →
  (∀ σ', Sl K F0 H0 F H σ' (f env) → σ'.length = σ.length → (∀ j, j ∉ ws → σ'[j]? = σ[j]?) → T σ' H) → g vs σ H T
def stE (i : Nat) (x : D) : En → En := fun env => env.set i (some (.im x))
theorem gx_name {i : Nat} {x : D} : GX K (gName i) x (stE i x) [i] := fun F0 H0 F H σ env v T S r k =>
  k _ (S.setIm r) (by rw [List.length_set]) fun j hj => List.getElem?_set_ne fun e => hj (by rw [e]; exact List.mem_singleton.mpr rfl)
theorem gxs_nil : GXs K gNil [] (fun e => e) [] := fun F0 H0 F H σ env vs T S r k => ⟨r, k σ S rfl fun _ _ => rfl⟩
theorem gxs_cons {g : TG} {gs : TGs} {x : D} {xs : List D} {f1 f2 : En → En} {w1 w2 : List Nat} (h1 : GX K g x f1 w1) (h2 : GXs K gs xs f2 w2) : GXs K (gCons g gs) (x :: xs) (fun e => f2 (f1 e)) (w1 ++ w2) := fun F0 H0 F H σ env vs T S r k => by
  obtain ⟨v, rs, rfl, r1, r2⟩ := r
  refine ⟨v, rs, rfl, h1 F0 H0 F H σ env v _ S r1 fun σ1 S1 l1 o1 => ?_⟩
  refine h2 F0 H0 F H σ1 _ rs T S1 r2 fun σ2 S2 l2 o2 => ?_
  refine k σ2 S2 (l2.trans l1) fun j hj => ?_
  rw [o2 j fun z => hj (List.mem_append_right _ z), o1 j fun z => hj (List.mem_append_left _ z)]
theorem gx_tup {gs : TGs} {n : Nat} {xs : List D} {f : En → En} {ws : List Nat} (h : GXs K gs xs f ws) (hn : xs.length = n) : GX K (gTup K n gs) (.tup xs) f ws := fun F0 H0 F H σ env v T S r k => by
  obtain ⟨a, vs, rfl, h1, h2⟩ := r
  exact ⟨a, vs, rfl, Evl.ex_t S.ex h1, by rw [← h2.length]; exact hn, h F0 H0 F H σ env vs T S h2 k⟩

theorem blk_asg {g : TG} {m : Res α} {f : α → Res τ} {fe : α → En → En} {ws : List Nat} (L : Lk K W F0 H0 rt PT KP) (hT : PT env) (he : EvX K W env te m) (hg : ∀ x, GX K g (toD x) (fe x) ws)
    (k : ∀ x, Blk K F0 H0 KP Z.nx (fe x env) (f x)) : Blk K F0 H0 KP (tAsg te g Z) env (m.bind f) := fun F H σ S h =>
  he F0 H0 F H σ _ S (L.ke hT S h fun x v F1 H1 e1 a1 r1 h1 => hg x F0 H0 F1 H1 σ env v _ (S.step a1) r1 fun σ' S' _ _ => k x F1 H1 σ' S' h1)
theorem blk_set {i : Nat} {m : Res α} {f : α → Res τ} (L : Lk K W F0 H0 rt PT KP) (hT : PT env) (he : EvX K W env te m)
    (k : ∀ x, Blk K F0 H0 KP Z.nx (env.set i (some (.im (toD x)))) (f x)) : Blk K F0 H0 KP (tAsg te (gName i) Z) env (m.bind f) :=
  blk_asg L hT he (fun _ => gx_name) k
/-- x = a new list that is changed later -/
theorem blk_own {i : Nat} {m : Res (List α)} {f : List α → Res τ} (L : Lk K W F0 H0 rt PT KP) (hT : PT env) (he : EvN K W env te m)
    (k : ∀ xs, Blk K F0 H0 KP Z.nx (env.set i (some (.ow (xs.map toD)))) (f xs)) : Blk K F0 H0 KP (tAsg te (gName i) Z) env (m.bind f) := fun F H σ S h =>
  he F0 H0 F H σ _ S (L.kn hT S h fun xs p vs F1 H1 e1 a1 hp hf hh r h1 => by
    have S1 := S.step a1
    refine k xs F1 H1 _ (S1.setOw (Evl.fresh_back S.adv.h hp) hf hh (fun j sk' e ho z => ?_) r) h1
    obtain ⟨v, e2, q⟩ := S.slot j _ e
    obtain ⟨p', o', rfl, _, _, q4⟩ := q.at ho
    rw [e2] at z
    cases z
    rw [hp] at q4; cases q4)
/-- x.append(e), x an owned list -/
theorem blk_app {i : Nat} {xs : List β} {m : Res β} {f : β → Res τ} (L : Lk K W F0 H0 rt PT KP) (hT : PT env) (hx : env[i]? = some (some (.ow (xs.map toD)))) (he : EvX K W env te m)
    (k : ∀ y, Blk K F0 H0 KP Z.nx (env.set i (some (.ow ((xs ++ [y]).map toD)))) (f y)) :
    Blk K F0 H0 KP (tDrop (tBM K "list" rAppend (tVar i) (tCons te tNil)) Z) env (m.bind fun y => .need (xs.length < 16777216) (f y)) := fun F H σ S h => by
  obtain ⟨v, e, p, vs, rfl, h0, hf, hp, hr⟩ := S.slot i _ hx
  refine ⟨_, e, .inl ⟨rfl, _, .inl (.inl hp)⟩, ?_⟩
  refine he F0 H0 F H σ _ S (L.ke hT S h fun y u F1 H1 e1 a1 r1 h1 => ?_)
  by_cases c : xs.length < 16777216
  · rw [Res.need_pos c] at h1
    have hr' := Reps.mono a1.f _ _ hr
    refine ⟨p, vs, u, rfl, rfl, a1.h _ _ hp, by rw [sizeLine_eq, ← hr.length, List.length_map]; exact c, ?_⟩
    refine k y F1 _ σ ((S.step a1).chg hx e (a1.out p hf (by rw [hp]; simp)) h0 ?_) h1
    rw [List.map_append]
    exact Reps.append hr' (Reps.one r1)
  · rw [Res.need_neg c] at h1
    exact (L.no h1).elim
/-- x[i] = e, x an owned list -/
theorem blk_setI {i : Nat} {xs : List β} {m : Res β} {mi : Res Int} {f : List β → Res τ} (L : Lk K W F0 H0 rt PT KP) (hT : PT env) (hx : env[i]? = some (some (.ow (xs.map toD)))) (he : EvX K W env te m) (hi : EvX K W env tb mi)
    (k : ∀ ys, Blk K F0 H0 KP Z.nx (env.set i (some (.ow (ys.map toD)))) (f ys)) :
    Blk K F0 H0 KP (tAsg te (gSub (tVar i) tb rSetL) Z) env (m.bind fun y => mi.bind fun j => match ixN xs.length j with | some a => f (xs.set a y) | none => .stuck) := fun F H σ S h => by
  obtain ⟨v, e, p, vs, rfl, h0, hf, hp, hr⟩ := S.slot i _ hx
  refine he F0 H0 F H σ _ S (L.ke hT S h fun y u F1 H1 e1 a1 r1 h1 => ?_)
  refine ⟨_, e, ?_⟩
  refine hi F0 H0 F1 H1 σ _ (S.step a1) (L.ke hT (S.step a1) h1 fun j w F2 H2 e2 a2 r2 h2 => ?_)
  cases (show w = V.int j from r2)
  have hr' := Reps.mono (a1.trans a2).f _ _ hr
  have ha := (a1.trans a2)
  have hl : vs.length = xs.length := by rw [← hr.length, List.length_map]
  cases q : ixN xs.length j with
  | none => rw [q] at h2; exact (L.no h2).elim
  | some a =>
    rw [q] at h2
    refine ⟨p, vs, j, a, rfl, rfl, ha.h _ _ hp, by rw [hl]; exact q, ?_⟩
    refine k (xs.set a y) F2 _ σ ((S.step ha).chg hx e (ha.out p hf (by rw [hp]; simp)) h0 ?_) h2
    rw [List.map_set]
    exact Reps.set a hr' (Rep.mono a2.f _ _ r1)
theorem blk_freeze {xs : List D} (i : Nat) {m : Res τ} (hx : env[i]? = some (some (.ow xs))) (k : Blk K F0 H0 KP T (env.set i (some (.im (.lst xs)))) m) : Blk K F0 H0 KP T env m := fun F H σ S h => by
  obtain ⟨F', _, S'⟩ := S.freeze hx
  exact k F' H σ S' h
theorem blk_if {m : Res Bool} {f : Bool → Res τ} (L : Lk K W F0 H0 rt PT KP) (hT : PT env) (hc : EvT K W env tt m) (h1 : Blk K F0 H0 KP (t Z) env (f true)) (h2 : Blk K F0 H0 KP (u Z) env (f false)) :
    Blk K F0 H0 KP (tIfS tt t u Z) env (m.bind f) := fun F H σ S h =>
  hc F0 H0 F H σ _ S (L.kt hT S h fun b F1 H1 e1 a1 k1 => by
    cases b with
    | true => exact h1 F1 H1 σ (S.step a1) k1
    | false => exact h2 F1 H1 σ (S.step a1) k1)
theorem blk_ret {m : Res τ} (L : Lk K W F0 H0 rt PT KP) (hT : PT env) (he : EvX K W env te m) (hZ : Z.rt = rt := by rfl) : Blk K F0 H0 KP (tRet te Z) env m := fun F H σ S h => by
  subst hZ
  rw [← Res.bind_pure m] at h
  exact he F0 H0 F H σ _ S (L.ke hT S h fun x v F1 H1 e1 a1 r1 h1 => L.ok x h1 v F1 H1 (S.adv.trans a1) r1)
/-- a value of another type is handed back -/
theorem blk_retAs {m : Res α} {f : α → τ} (L : Lk K W F0 H0 rt PT KP) (hT : PT env) (he : EvX K W env te m) (hf : ∀ x, toD (f x) = toD x) (hZ : Z.rt = rt := by rfl) : Blk K F0 H0 KP (tRet te Z) env (m.bind fun x => .ok (f x)) := fun F H σ S h => by
  subst hZ
  exact he F0 H0 F H σ _ S (L.ke hT S h fun x v F1 H1 e1 a1 r1 h1 => L.ok (f x) h1 v F1 H1 (S.adv.trans a1) (by rw [hf]; exact r1))
theorem blk_retN {x : τ} (L : Lk K W F0 H0 rt PT KP) (hx : toD x = .non) (hZ : Z.rt = rt := by rfl) : Blk K F0 H0 KP (tRetN Z) env (.ok x) := fun F H σ S h => by
  subst hZ
  exact L.ok x h .non F H S.adv (by rw [hx]; rfl)
theorem blk_expr {m : Res α} {f : α → Res τ} (L : Lk K W F0 H0 rt PT KP) (hT : PT env) (he : EvX K W env te m) (k : ∀ x, Blk K F0 H0 KP Z.nx env (f x)) : Blk K F0 H0 KP (tDrop te Z) env (m.bind f) := fun F H σ S h =>
  he F0 H0 F H σ _ S (L.ke hT S h fun x v F1 H1 e1 a1 r1 h1 => k x F1 H1 σ (S.step a1) h1)
/-- raise X('..') -/
theorem blk_raise {c : Str} (L : Lk K W F0 H0 rt PT KP) (hT : PT env) : Blk K F0 H0 KP (fun σ H => W (.ref (He.ga K c)) none σ H) env (.exc c) := fun F H σ S h => L.exc c F H σ env h hT S
theorem blk_raise1 {c : Str} {m : Res α} (L : Lk K W F0 H0 rt PT KP) (hT : PT env) (he : EvX K W env te m) : Blk K F0 H0 KP (fun σ H => te σ H fun _ H1 => W (.ref (He.ga K c)) none σ H1) env (m.bind fun _ => .exc c) := fun F H σ S h =>
  he F0 H0 F H σ _ S (L.ke hT S h fun x v F1 H1 e1 a1 r1 h1 => L.exc c F1 H1 σ env h1 hT (S.step a1))
/-- a, b = e1, e2 -/
theorem blk_par {i j : Nat} {m1 : Res α} {m2 : Res β} {f : α → β → Res τ} (L : Lk K W F0 H0 rt PT KP) (hT : PT env) (h1 : EvX K W env ta m1) (h2 : EvX K W env tb m2)
    (k : ∀ x y, Blk K F0 H0 KP Z.nx ((env.set i (some (.im (toD x)))).set j (some (.im (toD y)))) (f x y)) : Blk K F0 H0 KP (tPar i j (tCons ta (tCons tb tNil)) Z) env (m1.bind fun x => m2.bind fun y => f x y) := fun F H σ S h => by
  refine h1 F0 H0 F H σ _ S (L.ke hT S h fun x v F1 H1 e1 a1 r1 k1 => ?_)
  refine h2 F0 H0 F1 H1 σ _ (S.step a1) (L.ke hT (S.step a1) k1 fun y w F2 H2 e2 a2 r2 k2 => ?_)
  refine ⟨v, w, rfl, ?_⟩
  exact k x y F2 H2 _ ((((S.step a1).step a2).setIm (Rep.mono a2.f _ _ r1)).setIm r2) k2
/-- x op= e -/
theorem blk_aug {i : Nat} {x : Int} {m : Res Int} {f : Int → Res τ} {g : Int → Int → Int} (L : Lk K W F0 H0 rt PT KP) (hT : PT env) (hx : env[i]? = some (some (.im (.int x)))) (he : EvX K W env te m)
    (k : ∀ y, Blk K F0 H0 KP Z.nx (env.set i (some (.im (.int (g x y))))) (f y)) : Blk K F0 H0 KP (tAug i te (ipI g) Z) env (m.bind f) := fun F H σ S h => by
  obtain ⟨v, e, q⟩ := S.slot i _ hx
  cases (show v = V.int x from q)
  refine ⟨_, e, he F0 H0 F H σ _ S (L.ke hT S h fun y w F1 H1 e1 a1 r1 k1 => ?_)⟩
  exact ⟨x, y, rfl, r1, k y F1 H1 _ ((S.step a1).setIm rfl) k1⟩
theorem blk_augR {i : Nat} {x : α} {m : Res β} {f : γ → Res τ} {r : R2} {g : α → β → Res γ} (L : Lk K W F0 H0 rt PT KP) (hT : PT env) (hx : env[i]? = some (some (.im (toD x)))) (ho : OpX K r g) (hm : Mild g) (he : EvX K W env te m)
    (k : ∀ z, Blk K F0 H0 KP Z.nx (env.set i (some (.im (toD z)))) (f z)) : Blk K F0 H0 KP (tAug i te r Z) env (m.bind fun y => (g x y).bind f) := fun F H σ S h => by
  obtain ⟨v, e, q⟩ := S.slot i _ hx
  refine ⟨_, e, he F0 H0 F H σ _ S (L.ke hT S h fun y w F1 H1 e1 a1 r1 k1 => ?_)⟩
  refine ho F1 H1 x y v w _ a1.in_ (Rep.mono a1.f _ _ q) r1 ?_
  refine KE.mild (W := W) (σ := σ) (hm x y) ?_
  exact L.ke hT (S.step a1) k1 fun z u F2 H2 e2 a2 r2 k2 => k z F2 H2 _ (((S.step a1).step a2).setIm r2) k2

/-! ### loops -/
structure JS (K : PySem.W.Frag) (F : Hp) (J : It) (xs : List D) : Prop where
  go : ∀ i H, Ex F H → i < xs.length → J.go i H
  stop : ∀ i H, Ex F H → xs.length ≤ i → J.stop i H
  yld : ∀ i H v H' F1, Ex F F1 → Ex F1 H → i < xs.length → J.yld i H v H' → ∃ F2 x, Adv F1 H F2 H' ∧ xs[i]? = some x ∧ Rep K F2 x v
def KI (K : PySem.W.Frag) (W : WX) (F H : Hp) (σ : L2.St) {α : Type} [ToD α] (R : It → Hp → Prop) : Res (List α) → Prop
  | .ok xs => ∀ J F' H', Adv F H F' H' → JS K F' J (xs.map toD) → R J H'
  | .exc c => ∀ F' H', Adv F H F' H' → W (.ref (He.ga K c)) none σ H'
  | .stuck => False
def EvI (K : PySem.W.Frag) (W : WX) (env : En) (wi : TI) {α : Type} [ToD α] (m : Res (List α)) : Prop :=
  ∀ F0 H0 F H σ R, Sl K F0 H0 F H σ env → KI K W F H σ R m → wi σ H R
theorem Lk.ki (L : Lk K W F0 H0 rt PT KP) (hT : PT env) {σ : L2.St} (S : Sl K F0 H0 F H σ env) {m : Res (List α)} {f : List α → Res τ} (h : KP (m.bind f)) {R : It → Hp → Prop}
    (k : ∀ xs J F' H', m = .ok xs → Adv F H F' H' → JS K F' J (xs.map toD) → KP (f xs) → R J H') : KI K W F H σ R m := by
  cases m with
  | ok x => exact fun J F' H' a h1 => k x J F' H' rfl a h1 h
  | exc c => exact fun F' H' a => L.exc c F' H' σ env h hT (S.step a)
  | stuck => exact (L.no h).elim
theorem js_list {a : Addr} {vs : List V} {xs : List D} (hl : SqL K F a vs) (hr : Reps K F xs vs) : JS K F (Itl K a) xs := by
  have hn := hr.length
  refine ⟨fun i H e hi => ?_, fun i H e hi => ?_, fun i H v H' F1 e1 e2 hi hy => ?_⟩
  · exact ⟨vs, vs[i]'(by omega), Evl.ex_l e hl, List.getElem?_eq_getElem (by omega)⟩
  · exact ⟨vs, Evl.ex_l e hl, by omega⟩
  · obtain ⟨e, f⟩ := hy
    subst e
    have g := f vs (Evl.ex_l (e1.trans e2) hl)
    obtain ⟨w, q1, q2⟩ := hr.get (i := i) (e := xs[i]) (List.getElem?_eq_getElem hi)
    rw [g] at q1; cases q1
    exact ⟨F1, xs[i], Adv.refl e2, List.getElem?_eq_getElem hi, Rep.mono e1 _ _ q2⟩
theorem js_tup {a : Addr} {vs : List V} {xs : List D} (hl : SqT K F a vs) (hr : Reps K F xs vs) : JS K F (Itt K a) xs := by
  have hn := hr.length
  refine ⟨fun i H e hi => ?_, fun i H e hi => ?_, fun i H v H' F1 e1 e2 hi hy => ?_⟩
  · exact ⟨vs, vs[i]'(by omega), Evl.ex_t e hl, List.getElem?_eq_getElem (by omega)⟩
  · exact ⟨vs, Evl.ex_t e hl, by omega⟩
  · obtain ⟨e, f⟩ := hy
    subst e
    have g := f vs (Evl.ex_t (e1.trans e2) hl)
    obtain ⟨w, q1, q2⟩ := hr.get (i := i) (e := xs[i]) (List.getElem?_eq_getElem hi)
    rw [g] at q1; cases q1
    exact ⟨F1, xs[i], Adv.refl e2, List.getElem?_eq_getElem hi, Rep.mono e1 _ _ q2⟩
theorem ei_list {m : Res (List α)} (h : EvX K W env te m) : EvI K W env (iList K te) m := fun F0 H0 F H σ R S k => by
  refine h F0 H0 F H σ _ S ?_
  cases m with
  | ok xs =>
    intro v F1 H1 a r
    obtain ⟨p, vs, rfl, h1, h2⟩ := r
    exact ⟨p, rfl, ⟨vs, sq_ex a.in_ h1⟩, k _ F1 H1 a (js_list (Evl.sq_of h1) h2)⟩
  | exc c => exact k
  | stuck => exact k.elim
theorem ei_tup {m : Res (Tu α)} (h : EvX K W env te m) : EvI K W env (iTup K te) (m.bind fun x => .ok x.xs) := fun F0 H0 F H σ R S k => by
  refine h F0 H0 F H σ _ S ?_
  cases m with
  | ok xs =>
    intro v F1 H1 a r
    obtain ⟨p, vs, rfl, h1, h2⟩ := r
    exact ⟨p, rfl, ⟨vs, Evl.ex_t a.in_ h1⟩, k _ F1 H1 a (js_tup h1 h2)⟩
  | exc c => exact k
  | stuck => exact k.elim
def pyRange (lo hi : Int) : List Int := (List.range (hi - lo).toNat).map fun (i : Nat) => lo + (i : Int)
theorem pyRange_len (lo hi : Int) : (pyRange lo hi).length = (hi - lo).toNat := by simp [pyRange]
theorem pyRange_get {lo hi : Int} {i : Nat} (h : i < (hi - lo).toNat) : (pyRange lo hi)[i]? = some (lo + (i : Int)) := by
  simp [pyRange, h]
theorem js_range {lo hi : Int} : JS K F (Itr lo (hi - lo).toNat) ((pyRange lo hi).map toD) := by
  refine ⟨fun i H e h => ?_, fun i H e h => ?_, fun i H v H' F1 e1 e2 h hy => ?_⟩
  · rw [List.length_map, pyRange_len] at h; exact h
  · rw [List.length_map, pyRange_len] at h; exact h
  · rw [List.length_map, pyRange_len] at h
    obtain ⟨e, q⟩ := hy
    subst e q
    exact ⟨F1, .int (lo + (i : Int)), Adv.refl e2, by rw [List.getElem?_map, pyRange_get h]; rfl, rfl⟩
abbrev okRange (i : Int) : Prop := -(2 ^ 62) ≤ i ∧ i < 2 ^ 62
theorem ei_range1 {m : Res Int} (h : EvX K W env te m) : EvI K W env (iRng1 (tCons te tNil)) (m.bind fun j => .need (okRange j) (.ok (pyRange 0 j))) := fun F0 H0 F H σ R S k => by
  refine h F0 H0 F H σ _ S ?_
  cases m with
  | ok j =>
    intro v F1 H1 a r
    cases (show v = V.int j from r)
    have k : KI K W F H σ R (.need (okRange j) (.ok (pyRange 0 j))) := k
    by_cases c : okRange j
    · rw [Res.need_pos c] at k
      refine ⟨j, rfl, c.1, c.2, k _ F1 H1 a ?_⟩
      have := js_range (K := K) (F := F1) (lo := 0) (hi := j)
      rw [Int.sub_zero] at this
      exact this
    · rw [Res.need_neg c] at k; exact k.elim
  | exc c => exact k
  | stuck => exact k.elim
theorem ei_range2 {m1 m2 : Res Int} (h1 : EvX K W env ta m1) (h2 : EvX K W env tb m2) : EvI K W env (iRng2 (tCons ta (tCons tb tNil))) (m1.bind fun i => m2.bind fun j => .need (okRange i ∧ okRange j) (.ok (pyRange i j))) := fun F0 H0 F H σ R S k => by
  refine h1 F0 H0 F H σ _ S ?_
  cases m1 with
  | ok i =>
    intro v F1 H1 a r
    cases (show v = V.int i from r)
    refine h2 F0 H0 F1 H1 σ _ (S.step a) ?_
    have k : KI K W F H σ R (m2.bind fun j => .need (okRange i ∧ okRange j) (.ok (pyRange i j))) := k
    cases m2 with
    | ok j =>
      intro v F2 H2 a2 r
      cases (show v = V.int j from r)
      have k : KI K W F H σ R (.need (okRange i ∧ okRange j) (.ok (pyRange i j))) := k
      by_cases c : okRange i ∧ okRange j
      · rw [Res.need_pos c] at k
        exact ⟨i, j, rfl, ⟨c.1.1, c.1.2, c.2.1, c.2.2⟩, k _ F2 H2 (a.trans a2) js_range⟩
      · rw [Res.need_neg c] at k; exact k.elim
    | exc c => exact fun F2 H2 a2 => k F2 H2 (a.trans a2)
    | stuck => exact k.elim
  | exc c => exact k
  | stuck => exact k.elim
/-- range(i, j, -1) -/
def pyDown (i j : Int) : List Int := (List.range (i - j).toNat).map fun (a : Nat) => i - (a : Int)
theorem pyDown_len (lo hi : Int) : (pyDown lo hi).length = (lo - hi).toNat := by simp [pyDown]
theorem pyDown_get {lo hi : Int} {i : Nat} (h : i < (lo - hi).toNat) : (pyDown lo hi)[i]? = some (lo - (i : Int)) := by
  simp [pyDown, h]
theorem js_down {lo hi : Int} : JS K F (Itc lo (-1) (lo - hi).toNat) ((pyDown lo hi).map toD) := by
  refine ⟨fun i H e h => ?_, fun i H e h => ?_, fun i H v H' F1 e1 e2 h hy => ?_⟩
  · rw [List.length_map, pyDown_len] at h; exact h
  · rw [List.length_map, pyDown_len] at h; exact h
  · rw [List.length_map, pyDown_len] at h
    obtain ⟨e, q⟩ := hy
    subst e q
    refine ⟨F1, .int (lo - (i : Int)), Adv.refl e2, by rw [List.getElem?_map, pyDown_get h]; rfl, ?_⟩
    show V.int _ = V.int _
    congr 1; omega
theorem ei_down {m1 m2 : Res Int} (h1 : EvX K W env ta m1) (h2 : EvX K W env tb m2) (h3 : EvX K W env tc (.ok (-1 : Int))) : EvI K W env (iRng3 (tCons ta (tCons tb (tCons tc tNil)))) (m1.bind fun i => m2.bind fun j => .need (okRange i ∧ okRange j) (.ok (pyDown i j))) := fun F0 H0 F H σ R S k => by
  refine h1 F0 H0 F H σ _ S ?_
  cases m1 with
  | ok i =>
    intro v F1 H1 a r
    cases (show v = V.int i from r)
    refine h2 F0 H0 F1 H1 σ _ (S.step a) ?_
    have k : KI K W F H σ R (m2.bind fun j => .need (okRange i ∧ okRange j) (.ok (pyDown i j))) := k
    cases m2 with
    | ok j =>
      intro v F2 H2 a2 r
      cases (show v = V.int j from r)
      refine h3 F0 H0 F2 H2 σ _ ((S.step a).step a2) fun v F3 H3 a3 r => ?_
      cases (show v = V.int (-1) from r)
      have k : KI K W F H σ R (.need (okRange i ∧ okRange j) (.ok (pyDown i j))) := k
      by_cases c : okRange i ∧ okRange j
      · rw [Res.need_pos c] at k
        exact ⟨i, j, -1, (i - j).toNat, rfl, RgC.neg c.1.1 c.1.2 c.2.1 c.2.2, k _ F3 H3 ((a.trans a2).trans a3) js_down⟩
      · rw [Res.need_neg c] at k; exact k.elim
    | exc c => exact fun F2 H2 a2 => k F2 H2 (a.trans a2)
    | stuck => exact k.elim
  | exc c => exact k
  | stuck => exact k.elim

theorem blk_for {S : Type} {wi : TI} {g : TG} {tb : TS} {m : Res (List α)} {fe : α → En → En} {ws : List Nat} (loop : List α → S → Res τ) (k : S → Res τ) (envS : S → En) (s0 : S)
    (L : Lk K W F0 H0 rt PT KP) (hT : PT env) (hi : EvI K W env wi m) (hg : ∀ x, GX K g (toD x) (fe x) ws) (h0 : EnLe env (envS s0)) (hnil : ∀ s, loop [] s = k s)
    (hbody : ∀ F1, Lk K W F1 H0 rt PT KP → (∀ s, Blk K F1 H0 KP Z.nx (envS s) (k s)) → ∀ x r s (N : L2.St → Hp → Prop), (∀ s', Blk K F1 H0 KP N (envS s') (loop r s')) →
      Blk K F1 H0 KP (tb { Z with nx := N, ct := N, bk := Z.nx }) (fe x (envS s)) (loop (x :: r) s))
    (hrest : ∀ s, Blk K F0 H0 KP Z.nx (envS s) (k s)) : Blk K F0 H0 KP (tFor wi g tb Z) env (m.bind fun xs => loop xs s0) := fun F H σ S h => by
  refine hi F0 H0 F H σ _ S (L.ki hT S h fun xs J F1 H1 e1 a1 js h1 => ?_)
  have S1 := (S.step a1).weak h0
  have S11 : Sl K F1 H0 F1 H1 σ (envS s0) := ⟨⟨Ex.refl _, S1.adv.h, S1.adv.in_, fun p q _ => q⟩, S1.slot, S1.dis, S1.len⟩
  have hB := hbody F1 (L.base S1) (fun s => (hrest s).base S1)
  have hn : (xs.map toD).length = xs.length := List.length_map ..
  refine ⟨fun i m σ H => m = xs.length - i ∧ i ≤ xs.length ∧ ∃ F s, Sl K F1 H0 F H σ (envS s) ∧ KP (loop (xs.drop i) s), ⟨xs.length, rfl, Nat.zero_le _, F1, s0, S11, h1⟩, ?_⟩
  rintro i m σ H ⟨rfl, hle, F, s, S, h⟩
  by_cases hlt : i < xs.length
  · refine .inr ⟨js.go i H (S.adv.f.trans S.ex) (by rw [hn]; exact hlt), fun σ' H' => ∃ F s, Sl K F1 H0 F H' σ' (envS s) ∧ KP (loop (xs.drop (i + 1)) s), fun σ' H' w => ⟨_, by omega, rfl, hlt, w⟩, fun v H' hy => ?_⟩
    obtain ⟨F2, x, a2, ex, rx⟩ := js.yld i H v H' F S.adv.f S.ex (by rw [hn]; exact hlt) hy
    rw [List.getElem?_map, List.getElem?_eq_getElem hlt] at ex
    cases ex
    refine hg xs[i] F1 H0 F2 H' σ (envS s) v _ (S.step a2) rx fun σ' S' _ _ => ?_
    have e : xs.drop i = xs[i] :: xs.drop (i + 1) := List.drop_eq_getElem_cons hlt
    rw [e] at h
    exact hB xs[i] (xs.drop (i + 1)) s _ (fun s' F H σ S h => ⟨F, s', S, h⟩) F2 H' σ' S' h
  · have e : xs.drop i = [] := List.drop_of_length_le (by omega)
    rw [e, hnil] at h
    exact .inl ⟨js.stop i H (S.adv.f.trans S.ex) (by rw [hn]; omega), (hrest s).base S1 F H σ S h⟩
theorem blk_while {S : Type} {tb : TS} (loop : Nat → S → Res τ) (test : S → Res Bool) (body : Nat → S → Res τ) (k : S → Res τ) (envS : S → En) (s0 : S) (fuel : Nat)
    (L : Lk K W F0 H0 rt PT KP) (hT : ∀ s, PT (envS s)) (h0 : EnLe env (envS s0)) (hc : ∀ s, EvT K W (envS s) tt (test s)) (l0 : ∀ s, loop 0 s = .stuck) (l1 : ∀ n s, loop (n + 1) s = (test s).bind fun b => cond b (body n s) (k s))
    (hbody : ∀ n s (N : L2.St → Hp → Prop), (∀ s', Blk K F0 H0 KP N (envS s') (loop n s')) → Blk K F0 H0 KP (tb { Z with nx := N, ct := N, bk := Z.nx }) (envS s) (body n s))
    (hrest : ∀ s, Blk K F0 H0 KP Z.nx (envS s) (k s)) : Blk K F0 H0 KP (tWhile tt tb Z) env (loop fuel s0) := fun F H σ S h => by
  refine ⟨fun n σ H => ∃ F s, Sl K F0 H0 F H σ (envS s) ∧ KP (loop n s), ⟨fuel, F, s0, S.weak h0, h⟩, ?_⟩
  rintro n σ H ⟨F, s, S, h⟩
  cases n with
  | zero => rw [l0] at h; exact (L.no h).elim
  | succ n =>
    rw [l1] at h
    refine hc s F0 H0 F H σ _ S (L.kt (hT s) S h fun b F1 H1 e1 a1 h1 => ?_)
    cases b with
    | true =>
      show ∃ N, _
      exact ⟨fun σ' H' => ∃ F s, Sl K F0 H0 F H' σ' (envS s) ∧ KP (loop n s), fun σ' H' w => ⟨n, Nat.lt_succ_self n, w⟩, hbody n s _ (fun s' F H σ S h => ⟨F, s', S, h⟩) F1 H1 σ (S.step a1) h1⟩
    | false => exact hrest s F1 H1 σ (S.step a1) h1

/-! ### comprehensions -/
def compL {α β : Type} (t : α → Res Bool) (e : α → Res β) : List α → Res (List β)
  | [] => .ok []
  | x :: r => (t x).bind fun b => cond b ((e x).bind fun y => (compL t e r).bind fun ys => .ok (y :: ys)) (compL t e r)
def mapL {α β : Type} (e : α → Res β) : List α → Res (List β)
  | [] => .ok []
  | x :: r => (e x).bind fun y => (mapL e r).bind fun ys => .ok (y :: ys)
theorem compL_yes {α β : Type} (e : α → Res β) : ∀ xs : List α, compL (fun _ => .ok true) e xs = mapL e xs
  | [] => rfl
  | x :: r => by
    show (e x).bind _ = (e x).bind _
    rw [compL_yes e r]
end
end Mi
set_option maxHeartbeats 1000000
namespace Mi
open PySem PySem.Spec L2
open Evl (Ex)
section
variable {K : PySem.W.Frag} {W : WX} {F0 H0 F H F' H' F1 : Hp} {rt : VK} {PT : En → Prop} {env env' : En} {α β γ τ : Type} [ToD α] [ToD β] [ToD γ] [ToD τ] {KP : Res τ → Prop} {te ta tb tc : TE} {tt : TT} {Z : Ends} {t u : TS} {T : L2.St → Hp → Prop} {σ : L2.St}

/-! ### comprehensions -/
theorem Sl.updN (S : Sl K F0 H0 F H σ env) {p : Addr} {o : HO} (hp : F p = none) (h0 : H0 p = none) (hn : ∀ (i : Nat) (sk : Sk), env[i]? = some (some sk) → sk.own = true → σ[i]? ≠ some (some (V.ref p))) : Sl K F0 H0 F (upd H p o) σ env := by
  refine ⟨⟨S.adv.f, fun a u q => ?_, fun a u q => ?_, S.adv.out⟩, fun j sk q => ?_, S.dis, S.len⟩
  · rw [upd_ne (ne_of_none q h0)]; exact S.adv.h a u q
  · rw [upd_ne (ne_of_none q hp)]; exact S.adv.in_ a u q
  · obtain ⟨w, h1, h2⟩ := S.slot j sk q
    exact ⟨w, h1, h2.updH fun o2 zz => hn j sk q o2 (by rw [h1, zz])⟩
/-- the names of a comprehension are forgotten -/
def unset : List Nat → En → En
  | [], e => e
  | i :: is, e => (unset is e).set i none
theorem unset_len (e : En) : ∀ ws : List Nat, (unset ws e).length = e.length
  | [] => rfl
  | i :: is => by show ((unset is e).set i none).length = _; rw [List.length_set, unset_len e is]
theorem unset_get {e : En} {j : Nat} {sk : Sk} : ∀ {ws : List Nat}, (unset ws e)[j]? = some (some sk) → e[j]? = some (some sk) ∧ j ∉ ws
  | [], h => ⟨h, by simp⟩
  | i :: is, h => by
    have h : ((unset is e).set i none)[j]? = some (some sk) := h
    rcases set_get h with ⟨_, z⟩ | ⟨z, h⟩
    · cases z
    · obtain ⟨h1, h2⟩ := unset_get h
      exact ⟨h1, by simp only [List.mem_cons, not_or]; exact ⟨fun e => z e.symm, h2⟩⟩
theorem Sl.wipe (S : Sl K F0 H0 F H σ env) (ws : List Nat) : Sl K F0 H0 F H (L2.wipe σ ws) (unset ws env) := by
  refine ⟨S.adv, fun i sk e => ?_, fun i j xs ys p hij e1 e2 o1 o2 h1 => ?_, by rw [wipe_length, unset_len]; exact S.len⟩
  · obtain ⟨e, hn⟩ := unset_get e
    rw [wipe_out hn]; exact S.slot i sk e
  · obtain ⟨e1, n1⟩ := unset_get e1
    obtain ⟨e2, n2⟩ := unset_get e2
    rw [wipe_out n1] at h1
    rw [wipe_out n2]
    exact S.dis i j xs ys p hij e1 e2 o1 o2 h1
theorem wipe_in {j : Nat} : ∀ {ws : List Nat}, j ∈ ws → j < σ.length → (L2.wipe σ ws)[j]? = some none
  | [], h, _ => by cases h
  | i :: is, h, hl => by
    show ((L2.wipe σ is).set i none)[j]? = some none
    by_cases e : i = j
    · subst e
      rw [List.getElem?_set_self (by rw [wipe_length]; exact hl)]
    · rw [List.getElem?_set_ne e]
      rcases List.mem_cons.mp h with z | z
      · exact absurd z.symm e
      · exact wipe_in z hl
theorem wipe_eq {σ' : L2.St} {ws : List Nat} (hl : σ'.length = (L2.wipe σ ws).length) (ho : ∀ j, j ∉ ws → σ'[j]? = (L2.wipe σ ws)[j]?) : L2.wipe σ' ws = L2.wipe σ ws := by
  rw [wipe_length] at hl
  apply List.ext_getElem?
  intro j
  by_cases hj : j ∈ ws
  · by_cases hlt : j < σ.length
    · rw [wipe_in hj hlt, wipe_in hj (by rw [hl]; exact hlt)]
    · rw [List.getElem?_eq_none (by rw [wipe_length]; omega), List.getElem?_eq_none (by rw [wipe_length]; omega)]
  · rw [wipe_out hj, ho j hj]
abbrev WT : WX := fun _ _ _ _ => True
theorem ev_comp {wi : TI} {g : TG} {m : Res (List α)} {fe : α → En → En} {ws : List Nat} {tst : α → Res Bool} {el : α → Res β} (hi : EvI K W env wi m) (hg : ∀ x, GX K g (toD x) (fe x) ws)
    (ht : ∀ x, EvT K WT (fe x (unset ws env)) tt (tst x)) (he : ∀ x, EvX K WT (fe x (unset ws env)) te (el x)) :
    EvN K W env (tLc wi g tt te ws) (m.bind fun xs => .need (xs.length ≤ 16777216) (compL tst el xs)) := fun F0 H0 F H σ Q S k => by
  refine hi F0 H0 F H σ _ S ?_
  cases m with
  | exc c => exact k
  | stuck => exact k.elim
  | ok xs =>
  intro J F1 H1 a1 js D hD
  have k : KN K W F H σ Q (.need (xs.length ≤ 16777216) (compL tst el xs)) := k
  by_cases c : xs.length ≤ 16777216
  case neg => rw [Res.need_neg c] at k; exact k.elim
  rw [Res.need_pos c] at k
  have hn : (xs.map toD).length = xs.length := List.length_map ..
  have hDF : F1 D = none := none_of_ex a1.in_ hD
  have hDH : H D = none := Evl.fresh_back a1.h hD
  have hD0 : H0 D = none := Evl.fresh_back S.adv.h hDH
  -- the new list is none of the slots'
  have hne : ∀ (i : Nat) (sk : Sk), env[i]? = some (some sk) → sk.own = true → σ[i]? ≠ some (some (V.ref D)) := fun i sk e ho z => by
    obtain ⟨v, e1, q⟩ := S.slot i _ e
    obtain ⟨p, o, rfl, _, _, q⟩ := q.at ho
    rw [e1] at z; cases z
    rw [hDH] at q; cases q
  have S1 : Sl K F0 H0 F1 (upd H1 D (.lst [])) σ env := (S.step a1).updN hDF hD0 hne
  refine ⟨fun i n H' => n = xs.length - i ∧ i ≤ xs.length ∧ ∃ F' acc vs, Sl K F0 H0 F' H' σ env ∧ Adv F H F' H' ∧ Ex F1 F' ∧ F' D = none ∧ H' D = some (.lst vs) ∧ Reps K F' (acc.map toD) vs ∧ acc.length ≤ i ∧
    (∀ ys, compL tst el (xs.drop i) = .ok ys → compL tst el xs = .ok (acc ++ ys)) ∧ (∀ c, compL tst el (xs.drop i) = .exc c → compL tst el xs = .exc c) ∧ (compL tst el (xs.drop i) = .stuck → compL tst el xs = .stuck),
    ⟨xs.length, rfl, Nat.zero_le _, F1, ([] : List β), [], S1, a1.trans (Adv.newO a1.in_ hD), Ex.refl _, hDF, upd_same, (show Reps K F1 [] [] from rfl), Nat.le_refl _, fun ys h => h, fun c h => h, fun h => h⟩, ?_⟩
  rintro i n H2 ⟨rfl, hle, F2, acc, vs, S2, a2, x2, f2, h2, r2, l2, q1, q2, q3⟩
  by_cases hlt : i < xs.length
  · refine .inr ⟨js.go i H2 (x2.trans a2.in_) (by rw [hn]; exact hlt), fun H' => (i + 1 ≤ xs.length ∧ ∃ F' acc vs, Sl K F0 H0 F' H' σ env ∧ Adv F H F' H' ∧ Ex F1 F' ∧ F' D = none ∧ H' D = some (.lst vs) ∧ Reps K F' (acc.map toD) vs ∧ acc.length ≤ i + 1 ∧
      (∀ ys, compL tst el (xs.drop (i + 1)) = .ok ys → compL tst el xs = .ok (acc ++ ys)) ∧ (∀ c, compL tst el (xs.drop (i + 1)) = .exc c → compL tst el xs = .exc c) ∧ (compL tst el (xs.drop (i + 1)) = .stuck → compL tst el xs = .stuck)),
      fun H' w => ⟨_, by omega, rfl, w⟩, fun v H3 hy => ?_⟩
    obtain ⟨F3, x, a3, ex, rx⟩ := js.yld i H2 v H3 F2 x2 a2.in_ (by rw [hn]; exact hlt) hy
    rw [List.getElem?_map, List.getElem?_eq_getElem hlt] at ex
    cases ex
    have e : xs.drop i = xs[i] :: xs.drop (i + 1) := List.drop_eq_getElem_cons hlt
    rw [e] at q1 q2 q3
    have S3 := S2.step a3
    refine hg xs[i] F0 H0 F3 H3 _ _ v _ (S3.wipe ws) rx fun σ' S' sl so => ⟨wipe_eq sl so, ?_⟩
    have f3 : F3 D = none := a3.out D f2 (by rw [h2]; simp)
    refine ht xs[i] F0 H0 F3 H3 σ' _ S' ?_
    cases qt : tst xs[i] with
    | exc c => exact fun _ _ _ => trivial
    | stuck =>
      have := q3 (by show (tst xs[i]).bind _ = _; rw [qt]; rfl)
      rw [this] at k; exact k.elim
    | ok b =>
    intro F4 H4 a4
    have f4 : F4 D = none := a4.out D f3 (by rw [a3.h _ _ h2]; simp)
    cases b with
    | false =>
      show i + 1 ≤ xs.length ∧ _
      refine ⟨hlt, F4, acc, vs, S3.step a4, (a2.trans a3).trans a4, (x2.trans a3.f).trans a4.f, f4, a4.h _ _ (a3.h _ _ h2), Reps.mono (a3.trans a4).f _ _ r2, by omega, fun ys h => ?_, fun c h => ?_, fun h => ?_⟩
      · exact q1 ys (by show (tst xs[i]).bind _ = _; rw [qt]; exact h)
      · exact q2 c (by show (tst xs[i]).bind _ = _; rw [qt]; exact h)
      · exact q3 (by show (tst xs[i]).bind _ = _; rw [qt]; exact h)
    | true =>
      show te σ' H4 _
      refine he xs[i] F0 H0 F4 H4 σ' _ (S'.step a4) ?_
      cases qe : el xs[i] with
      | exc c => exact fun _ _ _ => trivial
      | stuck =>
        have := q3 (by show (tst xs[i]).bind _ = _; rw [qt]; show (el xs[i]).bind _ = _; rw [qe]; rfl)
        rw [this] at k; exact k.elim
      | ok y =>
      intro w F5 H5 a5 r5
      have f5 : F5 D = none := a5.out D f4 (by rw [a4.h _ _ (a3.h _ _ h2)]; simp)
      have h5 : H5 D = some (.lst vs) := a5.h _ _ (a4.h _ _ (a3.h _ _ h2))
      have ad := ((a2.trans a3).trans a4).trans a5
      refine ⟨vs, h5, by rw [sizeLine_eq, ← r2.length, List.length_map]; omega, hlt, F5, acc ++ [y], vs ++ [w], ((S3.step a4).step a5).updN f5 hD0 hne, ⟨ad.f, fun a u q => ?_, fun a u q => ?_, ad.out⟩,
        ((x2.trans a3.f).trans a4.f).trans a5.f, f5, upd_same, ?_, by rw [List.length_append]; simp; omega, fun ys h => ?_, fun c h => ?_, fun h => ?_⟩
      · rw [upd_ne (ne_of_none q hDH)]; exact ad.h a u q
      · rw [upd_ne (ne_of_none q f5)]; exact ad.in_ a u q
      · rw [List.map_append]
        exact Reps.append (Reps.mono ((a3.trans a4).trans a5).f _ _ r2) (Reps.one r5)
      · rw [q1 (y :: ys) (by show (tst xs[i]).bind _ = _; rw [qt]; show (el xs[i]).bind _ = _; rw [qe]; show (compL tst el _).bind _ = _; rw [h]; rfl)]
        rw [List.append_assoc]; rfl
      · exact q2 c (by show (tst xs[i]).bind _ = _; rw [qt]; show (el xs[i]).bind _ = _; rw [qe]; show (compL tst el _).bind _ = _; rw [h]; rfl)
      · exact q3 (by show (tst xs[i]).bind _ = _; rw [qt]; show (el xs[i]).bind _ = _; rw [qe]; show (compL tst el _).bind _ = _; rw [h]; rfl)
  · have e : xs.drop i = [] := List.drop_of_length_le (by omega)
    rw [e] at q1
    have := q1 [] rfl
    rw [List.append_nil] at this
    rw [this] at k
    exact .inl ⟨js.stop i H2 (x2.trans a2.in_) (by rw [hn]; omega), k D vs F2 H2 a2 hDH f2 h2 r2⟩
theorem et_yes : EvT K W env tYes (.ok true) := fun F0 H0 F H σ Q S k => k F H (Adv.refl S.ex)

/-! ### built-in defs -/
theorem cx_len : CrX K (fun xs H Q => ∃ p ys, xs = [.ref p] ∧ (SqL K H p ys ∨ SqT K H p ys) ∧ Q (.int ys.length) H) (fun (p : List α × Unit) => .ok (p.1.length : Int)) := fun F H x vs Q e r k => by
  obtain ⟨v, r1, rfl, ⟨a, ws, rfl, hl, hr⟩, h2⟩ := r
  cases (show r1 = [] from h2)
  refine ⟨a, ws, rfl, .inl (sq_ex e hl), ?_⟩
  rw [← hr.length, List.length_map]
  exact k _ F H (Adv.refl e) rfl
theorem cx_lenT {n : Nat} (hn : ∀ x : α, ∃ ds, toD x = .tup ds ∧ ds.length = n) : CrX K (fun xs H Q => ∃ p ys, xs = [.ref p] ∧ (SqL K H p ys ∨ SqT K H p ys) ∧ Q (.int ys.length) H) (fun (p : α × Unit) => .ok (n : Int)) := fun F H x vs Q e r k => by
  obtain ⟨v, r1, rfl, hv, h2⟩ := r
  obtain ⟨ds, e1, e2⟩ := hn x.1
  have hv : Rep K F (toD x.1) v := hv
  rw [e1] at hv
  obtain ⟨a, ws, rfl, hl, hr⟩ := hv
  cases (show r1 = [] from h2)
  refine ⟨a, ws, rfl, .inr (Evl.ex_t e hl), ?_⟩
  rw [← hr.length, e2]
  exact k _ F H (Adv.refl e) rfl
theorem ev_lenO {j : Nat} {xs : List α} (h : env[j]? = some (some (.ow (xs.map toD)))) : EvX K W env (tCB (fun xs H Q => ∃ p ys, xs = [V.ref p] ∧ (SqL K H p ys ∨ SqT K H p ys) ∧ Q (.int ys.length) H) (tCons (tVar j) tNil)) (.ok (xs.length : Int)) := fun F0 H0 F H σ Q S k => by
  obtain ⟨v, e, p, vs, rfl, h0, hf, hp, hr⟩ := S.slot j _ h
  refine ⟨_, e, p, vs, rfl, .inl (.inl (.inl hp)), ?_⟩
  rw [← hr.length, List.length_map]
  exact k _ F H (Adv.refl S.ex) rfl
theorem cx_abs : CrX K (fun xs H Q => ∃ i, xs = [.int i] ∧ Q (.int (if i < 0 then -i else i)) H) (fun (p : Int × Unit) => .ok (p.1.natAbs : Int)) := fun F H x vs Q e r k => by
  obtain ⟨v, r1, rfl, h1, h2⟩ := r
  cases (show r1 = [] from h2); cases (show v = V.int x.1 from h1)
  refine ⟨x.1, rfl, ?_⟩
  have q : (if x.1 < 0 then -x.1 else x.1) = (x.1.natAbs : Int) := by split <;> omega
  rw [q]
  exact k _ F H (Adv.refl e) rfl
theorem cx_max : CrX K (fun xs H Q => ∃ i j, xs = [.int i, .int j] ∧ Q (.int (if j > i then j else i)) H) (fun (p : Int × Int × Unit) => .ok (max p.1 p.2.1)) := fun F H x vs Q e r k => by
  obtain ⟨v, r1, rfl, h1, w, r2, rfl, h2, h3⟩ := r
  cases (show r2 = [] from h3); cases (show v = V.int x.1 from h1); cases (show w = V.int x.2.1 from h2)
  refine ⟨x.1, x.2.1, rfl, ?_⟩
  have q : (if x.2.1 > x.1 then x.2.1 else x.1) = max x.1 x.2.1 := by split <;> omega
  rw [q]
  exact k _ F H (Adv.refl e) rfl
theorem cx_min : CrX K (fun xs H Q => ∃ i j, xs = [.int i, .int j] ∧ Q (.int (if j < i then j else i)) H) (fun (p : Int × Int × Unit) => .ok (min p.1 p.2.1)) := fun F H x vs Q e r k => by
  obtain ⟨v, r1, rfl, h1, w, r2, rfl, h2, h3⟩ := r
  cases (show r2 = [] from h3); cases (show v = V.int x.1 from h1); cases (show w = V.int x.2.1 from h2)
  refine ⟨x.1, x.2.1, rfl, ?_⟩
  have q : (if x.2.1 < x.1 then x.2.1 else x.1) = min x.1 x.2.1 := by split <;> omega
  rw [q]
  exact k _ F H (Adv.refl e) rfl
theorem cx_int : CrX K (fun xs H Q => (∃ i, xs = [.int i] ∧ Q (.int i) H) ∨ ∃ k, xs = [.bl k] ∧ Q (.int (if k then 1 else 0)) H) (fun (p : Int × Unit) => .ok p.1) := fun F H x vs Q e r k => by
  obtain ⟨v, r1, rfl, h1, h2⟩ := r
  cases (show r1 = [] from h2); cases (show v = V.int x.1 from h1)
  exact .inl ⟨x.1, rfl, k _ F H (Adv.refl e) rfl⟩
theorem cx_intB : CrX K (fun xs H Q => (∃ i, xs = [.int i] ∧ Q (.int i) H) ∨ ∃ k, xs = [.bl k] ∧ Q (.int (if k then 1 else 0)) H) (fun (p : Bool × Unit) => .ok (if p.1 = true then (1 : Int) else 0)) := fun F H x vs Q e r k => by
  obtain ⟨v, r1, rfl, h1, h2⟩ := r
  cases (show r1 = [] from h2); cases (show v = V.bl x.1 from h1)
  exact .inr ⟨x.1, rfl, k _ F H (Adv.refl e) rfl⟩
/-- the greatest, the least of a list that is not empty -/
def lmax : List Int → Int
  | [] => 0
  | x :: r => r.foldl max x
def lmin : List Int → Int
  | [] => 0
  | x :: r => r.foldl min x
theorem foldl_max_ge (r : List Int) : ∀ x, x ≤ r.foldl max x ∧ ∀ y ∈ r, y ≤ r.foldl max x := by
  induction r with
  | nil => intro x; exact ⟨Int.le_refl _, fun y h => by cases h⟩
  | cons a r ih =>
    intro x
    obtain ⟨h1, h2⟩ := ih (max x a)
    refine ⟨by have : x ≤ max x a := Int.le_max_left ..; exact Int.le_trans this h1, fun y hy => ?_⟩
    rcases List.mem_cons.mp hy with rfl | hy
    · exact Int.le_trans (Int.le_max_right ..) h1
    · exact h2 y hy
theorem foldl_max_mem (r : List Int) : ∀ x, r.foldl max x = x ∨ r.foldl max x ∈ r := by
  induction r with
  | nil => intro x; exact .inl rfl
  | cons a r ih =>
    intro x
    rcases ih (max x a) with h | h
    · show List.foldl max (max x a) r = x ∨ List.foldl max (max x a) r ∈ _
      rw [h]
      by_cases c : x ≤ a
      · rw [Int.max_eq_right c]; exact .inr List.mem_cons_self
      · rw [Int.max_eq_left (by omega)]; exact .inl rfl
    · exact .inr (List.mem_cons_of_mem _ h)
theorem foldl_min_le (r : List Int) : ∀ x, r.foldl min x ≤ x ∧ ∀ y ∈ r, r.foldl min x ≤ y := by
  induction r with
  | nil => intro x; exact ⟨Int.le_refl _, fun y h => by cases h⟩
  | cons a r ih =>
    intro x
    obtain ⟨h1, h2⟩ := ih (min x a)
    refine ⟨by have : min x a ≤ x := Int.min_le_left ..; exact Int.le_trans h1 this, fun y hy => ?_⟩
    rcases List.mem_cons.mp hy with rfl | hy
    · exact Int.le_trans h1 (Int.min_le_right ..)
    · exact h2 y hy
theorem foldl_min_mem (r : List Int) : ∀ x, r.foldl min x = x ∨ r.foldl min x ∈ r := by
  induction r with
  | nil => intro x; exact .inl rfl
  | cons a r ih =>
    intro x
    rcases ih (min x a) with h | h
    · show List.foldl min (min x a) r = x ∨ List.foldl min (min x a) r ∈ _
      rw [h]
      by_cases c : x ≤ a
      · rw [Int.min_eq_left c]; exact .inl rfl
      · rw [Int.min_eq_right (by omega)]; exact .inr List.mem_cons_self
    · exact .inr (List.mem_cons_of_mem _ h)
theorem lmax_spec {ns : List Int} {m : Int} (h1 : m ∈ ns) (h2 : ∀ y ∈ ns, y ≤ m) : m = lmax ns := by
  cases ns with
  | nil => cases h1
  | cons x r =>
    show m = r.foldl max x
    obtain ⟨g1, g2⟩ := foldl_max_ge r x
    have a : m ≤ r.foldl max x := by
      rcases List.mem_cons.mp h1 with rfl | h
      · exact g1
      · exact g2 m h
    have b : r.foldl max x ≤ m := by
      rcases foldl_max_mem r x with e | e
      · rw [e]; exact h2 x List.mem_cons_self
      · exact h2 _ (List.mem_cons_of_mem _ e)
    omega
theorem lmin_spec {ns : List Int} {m : Int} (h1 : m ∈ ns) (h2 : ∀ y ∈ ns, m ≤ y) : m = lmin ns := by
  cases ns with
  | nil => cases h1
  | cons x r =>
    show m = r.foldl min x
    obtain ⟨g1, g2⟩ := foldl_min_le r x
    have a : r.foldl min x ≤ m := by
      rcases List.mem_cons.mp h1 with rfl | h
      · exact g1
      · exact g2 m h
    have b : m ≤ r.foldl min x := by
      rcases foldl_min_mem r x with e | e
      · rw [e]; exact h2 x List.mem_cons_self
      · exact h2 _ (List.mem_cons_of_mem _ e)
    omega
theorem cx_lmax : CrX K (rMax K) (fun (p : List Int × Unit) => .need (0 < p.1.length) (.ok (lmax p.1))) := fun F H x vs Q e r k => by
  obtain ⟨v, r1, rfl, ⟨a, ws, rfl, hl, hr⟩, h2⟩ := r
  cases (show r1 = [] from h2)
  have e2 : ws = x.1.map V.int := Reps.ints hr
  subst e2
  by_cases c : 0 < x.1.length
  · dsimp only at k
    rw [Res.need_pos c] at k
    refine ⟨a, x.1, rfl, sq_ex e hl, c, fun m h1 h2 => ?_⟩
    rw [lmax_spec h1 h2]
    exact k _ F H (Adv.refl e) rfl
  · dsimp only at k; rw [Res.need_neg c] at k; exact k.elim
theorem cx_lmin : CrX K (rMin K) (fun (p : List Int × Unit) => .need (0 < p.1.length) (.ok (lmin p.1))) := fun F H x vs Q e r k => by
  obtain ⟨v, r1, rfl, ⟨a, ws, rfl, hl, hr⟩, h2⟩ := r
  cases (show r1 = [] from h2)
  have e2 : ws = x.1.map V.int := Reps.ints hr
  subst e2
  by_cases c : 0 < x.1.length
  · dsimp only at k
    rw [Res.need_pos c] at k
    refine ⟨a, x.1, rfl, sq_ex e hl, c, fun m h1 h2 => ?_⟩
    rw [lmin_spec h1 h2]
    exact k _ F H (Adv.refl e) rfl
  · dsimp only at k; rw [Res.need_neg c] at k; exact k.elim
theorem cx_sum : CrX K (rSum K) (fun (p : List Int × Unit) => .ok p.1.sum) := fun F H x vs Q e r k => by
  obtain ⟨v, r1, rfl, ⟨a, ws, rfl, hl, hr⟩, h2⟩ := r
  cases (show r1 = [] from h2)
  have e2 : ws = x.1.map V.int := Reps.ints hr
  subst e2
  exact ⟨a, x.1, rfl, sq_ex e hl, k _ F H (Adv.refl e) rfl⟩
theorem cx_all : CrX K (rAll K) (fun (p : List Bool × Unit) => .ok (p.1.all id)) := fun F H x vs Q e r k => by
  obtain ⟨v, r1, rfl, ⟨a, ws, rfl, hl, hr⟩, h2⟩ := r
  cases (show r1 = [] from h2)
  have e2 : ws = x.1.map V.bl := Reps.bls hr
  subst e2
  exact ⟨a, x.1, rfl, sq_ex e hl, k _ F H (Adv.refl e) rfl⟩
theorem cx_any : CrX K (rAny K) (fun (p : List Bool × Unit) => .ok (p.1.any id)) := fun F H x vs Q e r k => by
  obtain ⟨v, r1, rfl, ⟨a, ws, rfl, hl, hr⟩, h2⟩ := r
  cases (show r1 = [] from h2)
  have e2 : ws = x.1.map V.bl := Reps.bls hr
  subst e2
  exact ⟨a, x.1, rfl, sq_ex e hl, k _ F H (Adv.refl e) rfl⟩
/-- list(xs): a new list -/
theorem en_list {m : Res (List α)} (h : EvX K W env te m) : EvN K W env (tCB (fun xs H Q => ∃ p ys, xs = [V.ref p] ∧ (SqL K H p ys ∨ SqT K H p ys) ∧ ∀ l, H l = none → Q (.ref l) (upd H l (.lst ys))) (tCons te tNil)) m := fun F0 H0 F H σ Q S k => by
  refine h F0 H0 F H σ _ S ?_
  cases m with
  | ok xs =>
    intro v F1 H1 a r
    obtain ⟨p, vs, rfl, h1, h2⟩ := r
    exact ⟨p, vs, rfl, .inl (sq_ex a.in_ h1), fun l hl => k l vs F1 _ (a.trans (Adv.newO a.in_ hl)) (Evl.fresh_back a.h hl) (none_of_ex a.in_ hl) upd_same h2⟩
  | exc c => exact k
  | stuck => exact k.elim
theorem en_listT {m : Res (Tu α)} (h : EvX K W env te m) : EvN K W env (tCB (fun xs H Q => ∃ p ys, xs = [V.ref p] ∧ (SqL K H p ys ∨ SqT K H p ys) ∧ ∀ l, H l = none → Q (.ref l) (upd H l (.lst ys))) (tCons te tNil)) (m.bind fun x => .ok x.xs) := fun F0 H0 F H σ Q S k => by
  refine h F0 H0 F H σ _ S ?_
  cases m with
  | ok xs =>
    intro v F1 H1 a r
    obtain ⟨p, vs, rfl, h1, h2⟩ := r
    exact ⟨p, vs, rfl, .inr (Evl.ex_t a.in_ h1), fun l hl => k l vs F1 _ (a.trans (Adv.newO a.in_ hl)) (Evl.fresh_back a.h hl) (none_of_ex a.in_ hl) upd_same h2⟩
  | exc c => exact k
  | stuck => exact k.elim
/-- tuple(xs) of a list -/
theorem ev_tupleL {m : Res (List α)} (h : EvX K W env te m) : EvX K W env (tCB (fun xs H Q => ∃ p ys, xs = [V.ref p] ∧ ((SqL K H p ys ∧ ∀ l, H l = none → Q (.ref l) (upd H l (.tup ys))) ∨ (SqT K H p ys ∧ Q (.ref p) H))) (tCons te tNil)) (m.bind fun x => .ok (Tu.mk x)) := fun F0 H0 F H σ Q S k => by
  refine h F0 H0 F H σ _ S ?_
  cases m with
  | ok xs =>
    intro v F1 H1 a r
    obtain ⟨p, vs, rfl, h1, h2⟩ := r
    refine ⟨p, vs, rfl, .inl ⟨sq_ex a.in_ h1, fun l hl => ?_⟩⟩
    have a2 : Adv F1 H1 (upd F1 l (.tup vs)) (upd H1 l (.tup vs)) := Adv.new a.in_ hl
    exact k _ _ _ (a.trans a2) ⟨l, vs, rfl, .inl (.inl upd_same), Reps.mono a2.f _ _ h2⟩
  | exc c => exact k
  | stuck => exact k.elim
/-- xs[lo:hi] -/
theorem en_slice {m : Res (List α)} {lo hi : Option Int} {tl th : TO} (h : EvX K W env te m) (hl : ∀ σ H Q, Q lo H → tl σ H Q) (hh : ∀ σ H Q, Q hi H → th σ H Q) :
    EvN K W env (tSl (rSlL K) te tl th) (m.bind fun xs => .ok ((xs.drop (HT.sIx xs.length 0 lo)).take (HT.sIx xs.length xs.length hi - HT.sIx xs.length 0 lo))) := fun F0 H0 F H σ Q S k => by
  refine h F0 H0 F H σ _ S ?_
  cases m with
  | ok xs =>
    intro v F1 H1 a r
    obtain ⟨p, vs, rfl, h1, h2⟩ := r
    refine hl _ _ _ (hh _ _ _ ⟨p, vs, rfl, sq_ex a.in_ h1, fun l hl => ?_⟩)
    refine k l _ F1 _ (a.trans (Adv.newO a.in_ hl)) (Evl.fresh_back a.h hl) (none_of_ex a.in_ hl) upd_same ?_
    have e : xs.length = vs.length := by have := h2.length; rwa [List.length_map] at this
    unfold cutV
    rw [List.map_take, List.map_drop, e]
    exact Reps.take _ (Reps.drop _ h2)
  | exc c => exact k
  | stuck => exact k.elim
theorem to_none : ∀ (σ : L2.St) (H : Hp) (Q : Option Int → Hp → Prop), Q none H → tNoPart σ H Q := fun _ _ _ q => q
theorem to_int {i : Int} : ∀ (σ : L2.St) (H : Hp) (Q : Option Int → Hp → Prop), Q (some i) H → tPart (tC (.int i)) σ H Q := fun _ _ _ q => ⟨i, rfl, q⟩

/-! ### isinstance of data -/
def tyName : D → String
  | .non => "NoneType" | .bl _ => "bool" | .int _ => "int" | .str _ => "str" | .ty _ => "type" | .tup _ => "tuple" | .lst _ => "list" | .obj _ _ _ => "object" | .ro _ => "list" | .dct _ _ => "dict"
def D.plain : D → Bool
  | .ty _ => false | .obj _ _ _ => false | .ro _ => false | .dct _ _ => false | _ => true
theorem tyx_of {x : D} {v : V} (h : Rep K F x v) (e : Ex F H) (p : x.plain = true) : TyX K H v (.type (tyName x)) := by
  cases x with
  | non => rw [show v = V.non from h]; exact .base .non
  | bl b => rw [show v = V.bl b from h]; exact .base (.bl b)
  | int b => rw [show v = V.int b from h]; exact .base (.int b)
  | str b => rw [show v = V.str b from h]; exact .base (.str b)
  | ty b => cases p
  | obj c ks ds => cases p
  | ro ds => cases p
  | dct ks ds => cases p
  | lst ds =>
    obtain ⟨a, vs, rfl, hl, _⟩ := h
    rcases sq_ex e hl with (q | ⟨o, q⟩) | ⟨o, its, n, q1, q2, _⟩
    · exact .base (.lst q)
    · exact .base (.frz q)
    · exact .kList q1 q2
  | tup ds =>
    obtain ⟨a, vs, rfl, hl, _⟩ := h
    rcases Evl.ex_t e hl with (q | ⟨o, q⟩) | ⟨o, its, n, q1, q2, _⟩
    · exact .base (.tup q)
    · exact .fTuple q
    · exact .kTuple q1 q2
/-- isinstance(x, T), T a built-in class, x any data but objects -/
def isI (n : String) (x : D) : Bool := tyName x == n || (n == "int" && tyName x == "bool")
def isiOk (n : String) : Prop := kitB "NoneType" n = some ("NoneType" == n) ∧ kitB "bool" n = some ("bool" == n || n == "int") ∧ kitB "int" n = some ("int" == n) ∧ kitB "str" n = some ("str" == n) ∧ kitB "tuple" n = some ("tuple" == n) ∧ kitB "list" n = some ("list" == n)
theorem ev_isi {n : String} {m : Res α} (hn : isiOk n) (h : EvX K W env te m) : EvX K W env (tCB (rIsi K) (tCons te (tCons (tC (.ty n)) tNil))) (m.bind fun x => .need ((toD x).plain = true) (.ok (isI n (toD x)))) := fun F0 H0 F H σ Q S k => by
  refine h F0 H0 F H σ _ S (KE.cut S.ex k fun x v F1 H1 e1 a1 r1 k1 => ?_)
  by_cases c : (toD x).plain = true
  · rw [Res.need_pos c] at k1
    refine ⟨v, .ty n, _, _, isI n (toD x), rfl, .ty n, tyx_of r1 a1.in_ c, ?_, k1 _ F1 H1 (Adv.refl a1.in_) rfl⟩
    refine kit_ty ?_
    obtain ⟨h1, h2, h3, h4, h5, h6⟩ := hn
    revert c
    generalize toD x = y
    intro c
    cases y with
    | non => rw [show tyName .non = "NoneType" from rfl, h1]; simp [isI, tyName]
    | bl b => rw [show tyName (.bl b) = "bool" from rfl, h2]; simp [isI, tyName]
    | int b => rw [show tyName (.int b) = "int" from rfl, h3]; simp [isI, tyName]
    | str b => rw [show tyName (.str b) = "str" from rfl, h4]; simp [isI, tyName]
    | tup b => rw [show tyName (.tup b) = "tuple" from rfl, h5]; simp [isI, tyName]
    | lst b => rw [show tyName (.lst b) = "list" from rfl, h6]; simp [isI, tyName]
    | ty b => cases c
    | obj a b d => cases c
    | ro a => cases c
    | dct a b => cases c
  · rw [Res.need_neg c] at k1; exact k1.elim
theorem isi_int : isiOk "int" := by unfold isiOk; decide +kernel
theorem isi_bool : isiOk "bool" := by unfold isiOk; decide +kernel
theorem isi_list : isiOk "list" := by unfold isiOk; decide +kernel
theorem isi_tuple : isiOk "tuple" := by unfold isiOk; decide +kernel
theorem isi_str : isiOk "str" := by unfold isiOk; decide +kernel

/-! ### errors -/
/-- what a body of a try gives: it falls through, or it hands back -/
inductive Fall (S τ : Type) where
  | go (s : S) | back (x : τ)
instance {S τ : Type} [ToD τ] : ToD (Fall S τ) := ⟨fun x => match x with | .go _ => .obj Str.empty [] [.non] | .back x => ToD.d x⟩
theorem no_go {S : Type} {s : S} {v : V} (h : Rep K F (toD (Fall.go s : Fall S τ)) v) : False := by
  obtain ⟨a, dx, vs, _, _, h3, h4⟩ := h
  obtain ⟨w, r, e, _⟩ := h4
  subst e
  simp at h3
/-- the classes of the errors: which they are, which is under which -/
structure Cls (K : PySem.W.Frag) (cs : List Str) (sub : Str → Str → Bool) : Prop where
  exc : ∀ c ∈ cs, ExcC K (He.ga K c)
  exm : ∀ c ∈ cs, ∀ d ∈ cs, PySem.W.exmOne K (.ref (He.ga K c)) (.ref (He.ga K d)) = some (sub c d)
  kit : ∀ c ∈ cs, ∀ d ∈ cs, PySem.W.kitOne K (.ref (He.ga K c)) (.ref (He.ga K d)) = some (sub c d)
  kiv : ∀ c ∈ cs, PySem.W.kitOne K (.ref (He.ga K c)) (.type "ValueError") = some true
/-- the outcome of: try body, except X -/
def tryR {S τ : Type} (known : Str → Bool) (sub : Str → Bool) (m : Res (Fall S τ)) (rest : S → Res τ) (hd : Str → Res τ) : Res τ := match m with
  | .ok (.go s) => rest s
  | .ok (.back x) => .ok x
  | .exc c => if known c = true then (if sub c = true then hd c else .exc c) else .stuck
  | .stuck => .stuck
theorem Sl.setNone {K : PySem.W.Frag} {F0 H0 F H : Hp} {σ : L2.St} {env : En} (S : Sl K F0 H0 F H σ env) (i : Nat) : Sl K F0 H0 F H (σ.set i none) (env.set i none) := by
  refine ⟨S.adv, fun j sk e => ?_, fun j k xs ys p hjk e1 e2 o1 o2 h1 => ?_, by rw [List.length_set, List.length_set]; exact S.len⟩
  · rcases set_get e with ⟨_, z⟩ | ⟨z, e⟩
    · cases z
    · obtain ⟨w, q1, q2⟩ := S.slot j sk e
      exact ⟨w, by rw [List.getElem?_set_ne z]; exact q1, q2⟩
  · rcases set_get e1 with ⟨_, z⟩ | ⟨z1, e1⟩
    · cases z
    rcases set_get e2 with ⟨_, z⟩ | ⟨z2, e2⟩
    · cases z
    rw [List.getElem?_set_ne z1] at h1
    rw [List.getElem?_set_ne z2]
    exact S.dis j k xs ys p hjk e1 e2 o1 o2 h1
/-- the body falls through by s (envS s, rest s), or hands back; the suite hands back, or falls through to mr -/
theorem blk_tryAs {S : Type} {cs : List Str} {sub : Str → Str → Bool} {x : Str} {i : Nat} {tb : WX → TS} {ts : Addr → Value → Option Addr → TS} {envS : S → En} {m : Res (Fall S τ)} {rest : S → Res τ} {hd : Str → Res τ}
    (L : Lk K W F0 H0 rt PT KP) (hT : PT env) (C : Cls K cs sub) (hx : x ∈ cs)
    (hb : ∀ (W' : WX) (KP' : Res (Fall S τ) → Prop), Lk K W' F0 H0 rt (fun e => EnLe e env) KP' → (∀ s, Blk K F0 H0 KP' Z.nx (envS s) (.ok (.go s))) → Blk K F0 H0 KP' (tb W' Z) env m)
    (hs : ∀ (c : Str) (a : Addr) (nx bk ct : L2.St → Hp → Prop), c ∈ cs → sub c x = true → (∀ env' m', Blk K F0 H0 KP Z.nx (env'.set i none) m' → Blk K F0 H0 KP nx env' m') →
      Blk K F0 H0 KP (ts a (.ref (He.ga K c)) none { nx := nx, rt := rt, bk := bk, ct := ct }) (env.set i (some (.raw (.ref a)))) (hd c))
    (hr : ∀ s, Blk K F0 H0 KP Z.nx (envS s) (rest s)) (hZ : Z.rt = rt := by rfl) :
    Blk K F0 H0 KP (tb (wAs K (.ref (He.ga K x)) i ts W Z) Z) env (tryR (fun c => decide (c ∈ cs)) (fun c => sub c x) m rest hd) := fun F H σ S1 h => by
  subst hZ
  refine hb (wAs K (.ref (He.ga K x)) i ts W Z) (fun r => KP (tryR (fun c => decide (c ∈ cs)) (fun c => sub c x) r rest hd)) ⟨fun y h v F H a r => ?_, fun c F H σ env' h p S' => ?_, L.no⟩ (fun s F H σ S h => hr s F H σ S h) F H σ S1 h
  · cases y with
    | go s => exact (no_go r).elim
    | back y => exact L.ok y h v F H a r
  · have h : KP (if decide (c ∈ cs) = true then (if sub c x = true then hd c else .exc c) else .stuck) := h
    by_cases hc : c ∈ cs
    · rw [if_pos (decide_eq_true hc)] at h
      have S2 := S'.weak p
      refine ⟨sub c x, C.exm c hc x hx, fun q a ha => ?_, fun q => ?_⟩
      · rw [if_pos q] at h
        refine hs c a _ _ _ hc q (fun env' m' B F H σ S h => B F H _ (S.setNone i) h) F H _ ?_ h
        refine ⟨S2.adv, fun j sk e => ?_, fun j k xs ys p hjk e1 e2 o1 o2 h1 => ?_, by rw [List.length_set, List.length_set]; exact S2.len⟩
        · rcases set_get e with ⟨rfl, z⟩ | ⟨z, e⟩
          · cases z
            have hi : i < env.length := by
              have h := (List.getElem?_eq_some_iff.mp e).1
              rwa [List.length_set] at h
            exact ⟨_, by rw [List.getElem?_set_self (by rw [S2.len]; exact hi)], rfl⟩
          · obtain ⟨w, q1, q2⟩ := S2.slot j sk e
            exact ⟨w, by rw [List.getElem?_set_ne z]; exact q1, q2⟩
        · rcases set_get e1 with ⟨_, z⟩ | ⟨z1, e1⟩
          · cases z; cases o1
          rcases set_get e2 with ⟨_, z⟩ | ⟨z2, e2⟩
          · cases z; cases o2
          rw [List.getElem?_set_ne z1] at h1
          rw [List.getElem?_set_ne z2]
          exact S2.dis j k xs ys p hjk e1 e2 o1 o2 h1
      · rw [if_neg (by rw [q]; exact Bool.false_ne_true)] at h
        exact L.exc c F H σ env h hT S2
    · rw [if_neg (by simpa using hc)] at h
      exact (L.no h).elim
/-- isinstance(e, C), isinstance(e, (C1, C2)) in the suite -/
def rIsE2 (K : PySem.W.Frag) (a : Addr) (cls : Value) (d : Option Addr) : List V → Hp → VK → Prop := fun xs H Q => ∃ (Dc : Addr) (c : V) (cv : Value) (b : Bool), cls = .ref Dc ∧ d = none ∧ ExcC K Dc ∧ xs = [.ref a, c] ∧ (∀ u, RelV c u → u = cv) ∧ PySem.W.kitOne K (.ref Dc) cv = some b ∧ Q (.bl b) H
theorem call_isE2 {X : Cx} {a : Addr} {cls : Value} {d : Option Addr} {oe : Obj} {pn : List (Addr × Obj)} (hz : Zc cls d oe) (hf : ∃ vs, oe.data = .fields vs) : CallR (X.suite a ((a, oe) :: pn)) (.builtin "isinstance") (rIsE2 X.K a cls d) := by
  intro pins s σ H xs us Q I r h
  obtain ⟨Dc, c, cv, b, rfl, rfl, C, e, k, q, hQ⟩ := h
  exact call_isE (X := X) C hz hf pins s σ H xs us Q I r ⟨c, cv, b, e, k, q, hQ⟩
def rIsET (K : PySem.W.Frag) (a : Addr) (cls : Value) (d : Option Addr) : List V → Hp → VK → Prop := fun xs H Q => ∃ (Dc tp : Addr) (cl : List V) (us : List Value) (b : Bool), cls = .ref Dc ∧ d = none ∧ ExcC K Dc ∧ xs = [.ref a, .ref tp] ∧ H tp = some (.tup cl) ∧ Paired ClsV cl us ∧ PySem.W.kitAny K (.ref Dc) us = some b ∧ Q (.bl b) H
theorem call_isET {X : Cx} {a : Addr} {cls : Value} {d : Option Addr} {oe : Obj} {pn : List (Addr × Obj)} (hz : Zc cls d oe) (hf : ∃ vs, oe.data = .fields vs) : CallR (X.suite a ((a, oe) :: pn)) (.builtin "isinstance") (rIsET X.K a cls d) := by
  intro pins s σ H xs us Q I r h
  obtain ⟨Dc, tp, cl, ws, b, rfl, rfl, C, rfl, hT, k, e, q⟩ := h
  obtain ⟨u1, u2, rfl, r1, r2⟩ := vals2 r
  cases (show u2 = Value.ref tp from r2)
  cases (show u1 = Value.ref a from r1)
  obtain ⟨_, its, rv, o, h1, h2, n, h3⟩ := (show ObjOk X.prog X.w H s.heap tp (.tup cl) from I.hok tp _ hT)
  have e3 := ClsV.all k rv
  subst e3
  obtain ⟨oc, od, dt, sl⟩ := o
  simp only at h2 h3
  subst h2 h3
  obtain ⟨hget, _⟩ := I.pin (a, oe) (List.mem_append.mpr (.inl List.mem_cons_self))
  obtain ⟨vs, hv⟩ := hf
  have J : PySem.W.InstAt s.heap a oe Dc none := by
    obtain ⟨oc, od, oda, osl⟩ := oe
    obtain ⟨h1, h2⟩ := hz
    dsimp only at h1 h2 hv
    subst h1 h2 hv
    exact ⟨hget, rfl, rfl, trivial⟩
  exact PySem.W.kia_tup (PySem.W.handS_kitx_exc C.hg C.hk C.hs C.hd C.ha C.hn C.ht C.hm) I.kIn J h1 e (fun z => nomatch z) fun tk => ⟨.bl b, H, I.tok tk, rfl, q⟩
theorem ev_isE {cs : List Str} {sub : Str → Str → Bool} {c x : Str} {i : Nat} {a : Addr} (C : Cls K cs sub) (hc : c ∈ cs) (hx : x ∈ cs) (h : env[i]? = some (some (.raw (.ref a)))) :
    EvX K W env (tCB (rIsE2 K a (.ref (He.ga K c)) none) (tCons (tVar i) (tCons (tC (.ref (He.ga K x))) tNil))) (.ok (sub c x)) := fun F0 H0 F H σ Q S k => by
  obtain ⟨v, e, q⟩ := S.slot i _ h
  cases (show v = V.ref a from q)
  exact ⟨_, e, He.ga K c, .ref (He.ga K x), .ref (He.ga K x), sub c x, rfl, rfl, C.exc c hc, rfl, fun u r => r, C.kit c hc x hx, k _ F H (Adv.refl S.ex) rfl⟩
theorem ev_isEV {cs : List Str} {sub : Str → Str → Bool} {c : Str} {i : Nat} {a : Addr} (C : Cls K cs sub) (hc : c ∈ cs) (h : env[i]? = some (some (.raw (.ref a)))) :
    EvX K W env (tCB (rIsE2 K a (.ref (He.ga K c)) none) (tCons (tVar i) (tCons (tC (.ty "ValueError")) tNil))) (.ok true) := fun F0 H0 F H σ Q S k => by
  obtain ⟨v, e, q⟩ := S.slot i _ h
  cases (show v = V.ref a from q)
  exact ⟨_, e, He.ga K c, .ty "ValueError", .type "ValueError", true, rfl, rfl, C.exc c hc, rfl, fun u r => r, C.kiv c hc, k _ F H (Adv.refl S.ex) rfl⟩
theorem kit_any {cs : List Str} {sub : Str → Str → Bool} {c : Str} (C : Cls K cs sub) (hc : c ∈ cs) : ∀ {xs : List Str}, (∀ x ∈ xs, x ∈ cs) → PySem.W.kitAny K (.ref (He.ga K c)) (xs.map fun x => .ref (He.ga K x)) = some (xs.any (sub c))
  | [], _ => rfl
  | x :: xs, h => by
    show (match PySem.W.kitOne K (.ref (He.ga K c)) (.ref (He.ga K x)) with | some true => some true | some false => PySem.W.kitAny K (.ref (He.ga K c)) (xs.map fun x => .ref (He.ga K x)) | none => none) = _
    rw [C.kit c hc x (h x List.mem_cons_self), kit_any C hc fun y hy => h y (List.mem_cons_of_mem _ hy)]
    cases q : sub c x <;> simp [q]
theorem ev_isET2 {cs : List Str} {sub : Str → Str → Bool} {c x y : Str} {i : Nat} {a : Addr} (C : Cls K cs sub) (hc : c ∈ cs) (hx : x ∈ cs) (hy : y ∈ cs) (h : env[i]? = some (some (.raw (.ref a)))) :
    EvX K W env (tCB (rIsET K a (.ref (He.ga K c)) none) (tCons (tVar i) (tCons (tTup (tCons (tC (.ref (He.ga K x))) (tCons (tC (.ref (He.ga K y))) tNil))) tNil))) (.ok (sub c x || sub c y)) := fun F0 H0 F H σ Q S k => by
  obtain ⟨v, e, q⟩ := S.slot i _ h
  cases (show v = V.ref a from q)
  refine ⟨_, e, by show 2 ≤ sizeLine; decide, fun p hp => ?_⟩
  have a2 : Adv F H (upd F p (.tup [.ref (He.ga K x), .ref (He.ga K y)])) (upd H p (.tup [.ref (He.ga K x), .ref (He.ga K y)])) := Adv.new S.ex hp
  refine ⟨He.ga K c, p, [.ref (He.ga K x), .ref (He.ga K y)], [.ref (He.ga K x), .ref (He.ga K y)], sub c x || sub c y, rfl, rfl, C.exc c hc, rfl, upd_same, .cons (.own _) (.cons (.own _) .nil), ?_, k _ _ _ a2 rfl⟩
  have := kit_any C hc (xs := [x, y]) (by simp [hx, hy])
  simpa using this
end

/-! ### a def -/
def enStart (N : List Str) (ds : List D) : En := ds.map (fun x => some (.im x)) ++ List.replicate (N.length - ds.length) none
theorem sl_start {K : PySem.W.Frag} {F H : Hp} {N : List Str} {ds : List D} {vs : List V} (e : Ex F H) (r : Reps K F ds vs) : Sl K F H F H (L2.start N vs) (enStart N ds) := by
  have hl := r.length
  refine ⟨Adv.refl e, fun i sk q => ?_, fun i j xs ys p _ q _ oo _ _ => ?_, by simp [L2.start, enStart, hl]⟩
  · unfold enStart at q
    by_cases c : i < ds.length
    · rw [List.getElem?_append_left (by simpa using c), List.getElem?_map, List.getElem?_eq_getElem c] at q
      cases q
      obtain ⟨v, h1, h2⟩ := r.get (List.getElem?_eq_getElem c)
      refine ⟨v, ?_, h2⟩
      unfold L2.start
      rw [List.getElem?_append_left (by rw [List.length_map]; omega), List.getElem?_map, h1]; rfl
    · rw [List.getElem?_append_right (by simpa using c), List.getElem?_replicate] at q
      split at q <;> cases q
  · unfold enStart at q
    by_cases c : i < ds.length
    · rw [List.getElem?_append_left (by simpa using c), List.getElem?_map, List.getElem?_eq_getElem c] at q
      cases q; cases oo
    · rw [List.getElem?_append_right (by simpa using c), List.getElem?_replicate] at q
      split at q <;> cases q
section
variable {P : Program} {w : World} {K : PySem.W.Frag} {mg : Str → Option Value} {base : Heap} {x qual : Str} {params : Arguments} {body : List Stmt} {scope : Scope} {dvs : List V} {kws : List (Str × V)} {f : Addr} {fd : FuncData}
theorem fn_ok {N ps : List Str} {k : Nat} {β τ : Type} [ToDs β] [ToD τ] {fM : β → Res τ} (F : FunD K x qual params body scope dvs kws f fd) (S : FnScope N ps scope) (hl : ∀ y : β, (ToDs.ds y).length = ps.length)
    (hbody : ∀ (cdv : Value) (A : Around) (outer : List Env) (s : Shared) (H : Hp) (E : XK), Room k (A.deeper (PyProof.Rows.envOfC qual scope s.heap.objs.size f cdv)) →
      ∃ t, PSs (cxOf (L2.CX P w) P w K mg base N qual scope f cdv A outer s H E) body t ∧
        ∀ (y : β) (F0 H0 : Hp) (Q : VK) (KP : Res τ → Prop), Lk K (fun cls d _ H => E cls d H) F0 H0 Q (fun _ => True) KP → Blk K F0 H0 KP (t { nx := fun _ H' => Q .non H', rt := Q }) (enStart N (ToDs.ds y)) (fM y)) :
    FnOk P w K mg base (L2.CX P w) (k + 1) f fd ps (spM K fM) := by
  refine F.ok S (fun vs H Q E h => ?_) (fun cdv A outer s H vs Q E hr h => ?_)
  · obtain ⟨F, y, _, r, _⟩ := h
    rw [← r.length]; exact hl y
  · obtain ⟨t, h1, h2⟩ := hbody cdv A outer s H E hr
    refine ⟨t, h1, ?_⟩
    obtain ⟨F, y, e, r, q⟩ := h
    refine h2 y F H Q (fun r => KE K (fun cls d _ H => E cls d H) F H [] Q r) ⟨fun z h v F' H' a r => h v F' H' a r, fun c F' H' σ env h _ S' => h F' H' S'.adv, fun z => z⟩ F H _ (sl_start e r) q
end
end Mi
set_option maxHeartbeats 1000000
namespace Mi
open PySem PySem.Spec L2
open Evl (Ex)
abbrev W0 (E : XK) : WX := fun cls d _ H => E cls d H
theorem need_mild {α : Type} {p : Prop} {x : α} {c : Str} (h : Res.need p (.ok x) = .exc c) : False := by
  by_cases q : p
  · rw [Res.need_pos q] at h; cases h
  · rw [Res.need_neg q] at h; cases h
/-! what a value of any kind is taken for -/
def D.asInt : D → Res Int
  | .int i => .ok i
  | _ => .stuck
def D.asBool : D → Res Bool
  | .bl i => .ok i
  | _ => .stuck
def D.asStr : D → Res Str
  | .str i => .ok i
  | _ => .stuck
def D.asList : D → Res (List D)
  | .lst i => .ok i
  | _ => .stuck
def D.asTu : D → Res (Tu D)
  | .tup i => .ok ⟨i⟩
  | _ => .stuck
def intsOf : List D → Res (List Int)
  | [] => .ok []
  | .int i :: r => (intsOf r).bind fun s => .ok (i :: s)
  | _ :: _ => .stuck
def D.asInts : D → Res (List Int)
  | .lst i => intsOf i
  | _ => .stuck
theorem asInt_ok : ∀ (x : D) (y : Int), x.asInt = .ok y → toD y = x
  | .int i, y, h => by cases h; rfl
theorem asInt_x (x : D) (c : Str) : x.asInt ≠ .exc c := by cases x <;> intro h <;> cases h
theorem asBool_ok : ∀ (x : D) (y : Bool), x.asBool = .ok y → toD y = x
  | .bl i, y, h => by cases h; rfl
theorem asBool_x (x : D) (c : Str) : x.asBool ≠ .exc c := by cases x <;> intro h <;> cases h
theorem asStr_ok : ∀ (x : D) (y : Str), x.asStr = .ok y → toD y = x
  | .str i, y, h => by cases h; rfl
theorem asStr_x (x : D) (c : Str) : x.asStr ≠ .exc c := by cases x <;> intro h <;> cases h
theorem asList_ok : ∀ (x : D) (y : List D), x.asList = .ok y → toD y = x
  | .lst i, y, h => by cases h; show D.lst (i.map fun x => x) = _; rw [List.map_id']
theorem asList_x (x : D) (c : Str) : x.asList ≠ .exc c := by cases x <;> intro h <;> cases h
theorem asTu_ok : ∀ (x : D) (y : Tu D), x.asTu = .ok y → toD y = x
  | .tup i, y, h => by cases h; show D.tup (i.map fun x => x) = _; rw [List.map_id']
theorem asTu_x (x : D) (c : Str) : x.asTu ≠ .exc c := by cases x <;> intro h <;> cases h
theorem intsOf_ok : ∀ (x : List D) (y : List Int), intsOf x = .ok y → y.map D.int = x
  | [], y, h => by cases h; rfl
  | .int i :: r, y, h => by
    have h : (intsOf r).bind (fun s => .ok (i :: s)) = .ok y := h
    cases e : intsOf r with
    | ok z => rw [e] at h; cases h; rw [List.map_cons, intsOf_ok r z e]
    | exc c => rw [e] at h; cases h
    | stuck => rw [e] at h; cases h
theorem intsOf_x : ∀ (x : List D) (c : Str), intsOf x ≠ .exc c
  | [], c, h => by cases h
  | .int i :: r, c, h => by
    have h : (intsOf r).bind (fun s => .ok (i :: s)) = .exc c := h
    cases e : intsOf r with
    | ok z => rw [e] at h; cases h
    | exc c => exact intsOf_x r c e
    | stuck => rw [e] at h; cases h
  | .non :: _, c, h => by cases h
  | .bl _ :: _, c, h => by cases h
  | .str _ :: _, c, h => by cases h
  | .ty _ :: _, c, h => by cases h
  | .tup _ :: _, c, h => by cases h
  | .lst _ :: _, c, h => by cases h
  | .obj _ _ _ :: _, c, h => by cases h
  | .ro _ :: _, c, h => by cases h
  | .dct _ _ :: _, c, h => by cases h
theorem asInts_ok : ∀ (x : D) (y : List Int), x.asInts = .ok y → toD y = x
  | .lst i, y, h => congrArg D.lst (intsOf_ok i y h)
theorem asInts_x : ∀ (x : D) (c : Str), x.asInts ≠ .exc c
  | .lst i, c, h => intsOf_x i c h
  | .non, c, h => by cases h
  | .bl _, c, h => by cases h
  | .int _, c, h => by cases h
  | .str _, c, h => by cases h
  | .ty _, c, h => by cases h
  | .tup _, c, h => by cases h
  | .obj _ _ _, c, h => by cases h
  | .ro _, c, h => by cases h
  | .dct _ _, c, h => by cases h
theorem intsOf_map : ∀ (y : List Int), intsOf (y.map D.int) = .ok y
  | [] => rfl
  | i :: r => by show (intsOf (r.map D.int)).bind _ = _; rw [intsOf_map r]; rfl
theorem asInts_toD (y : List Int) : (toD y).asInts = .ok y := intsOf_map y
/-- xs[lo:hi] -/
def cutL {α : Type} (xs : List α) (lo hi : Option Int) : List α := (xs.drop (HT.sIx xs.length 0 lo)).take (HT.sIx xs.length xs.length hi - HT.sIx xs.length 0 lo)
section
variable {K : PySem.W.Frag} {W : WX} {F0 H0 F H F' H' F1 : Hp} {rt : VK} {PT : En → Prop} {env env' : En} {α β γ τ : Type} [ToD α] [ToD β] [ToD γ] [ToD τ] {KP : Res τ → Prop} {te ta tb tc : TE} {tt : TT} {Z : Ends} {t u : TS} {T : L2.St → Hp → Prop} {σ : L2.St}
theorem ev_bits {m : Res Int} (h : EvX K W env te m) : EvX K W env (tBits te) (m.bind fun i => .ok ((Builtin.Int.intBits i : Nat) : Int)) := fun F0 H0 F H σ Q S k => by
  refine h F0 H0 F H σ _ S (KE.cut S.ex k fun x v F1 H1 e1 a1 r1 k1 => ?_)
  exact ⟨x, r1, k1 _ F1 H1 (Adv.refl a1.in_) rfl⟩
theorem ev_cast {m : Res D} {f : D → Res α} (hf : ∀ x y, f x = .ok y → toD y = x) (hx : ∀ x c, f x ≠ .exc c) (h : EvX K W env te m) : EvX K W env te (m.bind f) := fun F0 H0 F H σ Q S k => by
  refine h F0 H0 F H σ _ S ?_
  cases m with
  | ok x =>
    intro v F1 H1 a r
    have k : KE K W F H σ Q (f x) := k
    cases e : f x with
    | ok y => rw [e] at k; exact k v F1 H1 a (by rw [hf x y e]; exact r)
    | exc c => exact absurd e (hx x c)
    | stuck => rw [e] at k; exact k.elim
  | exc c => exact k
  | stuck => exact k.elim
theorem blk_fin {Q : VK} {x : τ} (L : Lk K W F0 H0 Q PT KP) (hx : toD x = .non) : Blk K F0 H0 KP (fun _ H' => Q .non H') env (.ok x) := fun F H σ S h => L.ok x h .non F H S.adv (by rw [hx]; rfl)
/-- what follows first, then the statement -/
theorem blk_with {m1 m : Res τ} {env1 : En} (h1 : Blk K F0 H0 KP Z.nx env1 m1) (h2 : Blk K F0 H0 KP Z.nx env1 m1 → Blk K F0 H0 KP (t Z) env m) : Blk K F0 H0 KP (t Z) env m := h2 h1
theorem blk_if2 {m : Res Bool} {a b : Res τ} (L : Lk K W F0 H0 rt PT KP) (hT : PT env) (hc : EvT K W env tt m) (h1 : Blk K F0 H0 KP (t Z) env a) (h2 : Blk K F0 H0 KP (u Z) env b) :
    Blk K F0 H0 KP (tIfS tt t u Z) env (m.bind fun c => cond c a b) := blk_if L hT hc h1 h2
theorem blk_ifj {S : Type} (envS : S → En) (k : S → Res τ) {m : Res Bool} {a b : Res τ} (L : Lk K W F0 H0 rt PT KP) (hT : PT env) (hc : EvT K W env tt m) (hr : ∀ s, Blk K F0 H0 KP Z.nx (envS s) (k s))
    (h1 : (∀ s, Blk K F0 H0 KP Z.nx (envS s) (k s)) → Blk K F0 H0 KP (t Z) env a) (h2 : (∀ s, Blk K F0 H0 KP Z.nx (envS s) (k s)) → Blk K F0 H0 KP (u Z) env b) :
    Blk K F0 H0 KP (tIfS tt t u Z) env (m.bind fun c => cond c a b) := blk_if L hT hc (h1 hr) (h2 hr)
end
/-- try: .. except X as n: .. -/
def tTry (K : PySem.W.Frag) (c : Value) (i : Nat) (ts : Addr → Value → Option Addr → TS) (W : WX) (tb : WX → TS) : TS := fun D σ H => tb (wAs K c i ts W D) D σ H
section
variable {X : Cx} {x n : Str} {i : Nat} {c : Value} {body suite : List Stmt} {b₀ : Stmt} {np pos pos' : Pos} {tb : WX → TS} {ts : Addr → Value → Option Addr → TS} {Wout : WX}
theorem ps_tryW (hs : X.stack = X.env :: X.outer) (hf : X.env.frame = some X.env.locals) (hN : X.N.Nodup) (hi : X.N[i]? = some n) (hln : X.env.kindOf n = some .local) (hc : Names X x c) (tk : Takes X Wout)
    (hb : ∀ (W : WX) (pn : List (Addr × Obj)) (xe : Value → Shared → Prop), Takes (X.tr pn xe) W → PassesOwn (model X.prog X.w) X.A X.env xe → PSs (X.tr pn xe) body (tb W))
    (hsu : ∀ (a : Addr) (oe : Obj) (cls : Value) (d : Option Addr) (pn : List (Addr × Obj)), Zc cls d oe → (∃ vs, oe.data = .fields vs) → PSs (X.suite a ((a, oe) :: pn)) (b₀ :: suite) (ts a cls d)) :
    PS X (.Try body [.ExceptHandler (some (.Name x np)) (some n) (b₀ :: suite) pos'] [] [] pos) (tTry X.K c i ts Wout tb) := ps_try_as hs hf hN hi hln hc tk hb hsu
end
section
variable {K : PySem.W.Frag} {W : WX} {F0 H0 F H F' H' F1 : Hp} {rt : VK} {PT : En → Prop} {env env' : En} {τ : Type} [ToD τ] {KP : Res τ → Prop} {Z : Ends}
theorem blk_tryW {S : Type} {cs : List Str} {sub : Str → Str → Bool} {x : Str} {i : Nat} {tb : WX → TS} {ts : Addr → Value → Option Addr → TS} {envS : S → En} {m : Res (Fall S τ)} {rest : S → Res τ} {hd : Str → Res τ}
    (L : Lk K W F0 H0 rt PT KP) (hT : PT env) (C : Cls K cs sub) (hx : x ∈ cs)
    (hb : ∀ (W' : WX) (KP' : Res (Fall S τ) → Prop), Lk K W' F0 H0 rt (fun e => EnLe e env) KP' → (∀ s, Blk K F0 H0 KP' Z.nx (envS s) (.ok (.go s))) → Blk K F0 H0 KP' (tb W' Z) env m)
    (hs : ∀ (c : Str) (a : Addr) (nx bk ct : L2.St → Hp → Prop), c ∈ cs → sub c x = true → (∀ env' m', Blk K F0 H0 KP Z.nx (env'.set i none) m' → Blk K F0 H0 KP nx env' m') →
      Blk K F0 H0 KP (ts a (.ref (He.ga K c)) none { nx := nx, rt := rt, bk := bk, ct := ct }) (env.set i (some (.raw (.ref a)))) (hd c))
    (hr : ∀ s, Blk K F0 H0 KP Z.nx (envS s) (rest s)) (hZ : Z.rt = rt := by rfl) :
    Blk K F0 H0 KP (tTry K (.ref (He.ga K x)) i ts W tb Z) env (tryR (fun c => decide (c ∈ cs)) (fun c => sub c x) m rest hd) := blk_tryAs L hT C hx hb hs hr hZ
end
section
variable {X : Cx}
theorem ip_of {op : Operator} {r : R2} (h : OpR X (inplaceOp op) r) : PIp X op r := by
  intro pins s σ H x y v u Q I rx ry q
  exact h pins s σ H x y v u Q I rx ry q
theorem iop_mulX : OpR X (inplaceOp .Mult) (rI CMulX fun i j => .int (i * j)) := opI fun _ _ _ _ _ _ _ hc q => PyProof.Rows.imul_int q hc.ok
end

/-! ### the errors' facts, by one Bool -/
def eqOV (a : Option (Option Value)) (b : Value) : Bool := decide (a = some (some b))
def excCB (K : PySem.W.Frag) (C : Addr) : Bool :=
  He.eqO (PySem.W.findIn K (.ref C) "__getattribute__") (some (some (.builtin "BaseException.__getattribute__"))) && (He.eqO (PySem.W.findIn K (.ref C) "__getattr__") (some none) && (decide (PySem.W.subIn K (.ref C) (.type "BaseException") = some true) && (PySem.W.hasDictIn K C &&
    (He.eqO (PySem.W.findIn K (.ref C) "__class__") (some (some (.builtin "object.__class__"))) && (He.eqO (PySem.W.specialIn K (.builtin "object.__class__") "__get__") (some (some (.builtin "getset_descriptor.__get__"))) &&
      (decide (PySem.W.takesIn K (.builtin "object.__class__") = some true) && decide (PySem.W.mroIn K C (.type "object") = some true)))))))
theorem excC_of {K : PySem.W.Frag} {C : Addr} (h : excCB K C = true) : ExcC K C := by
  obtain ⟨h1, h⟩ := He.ba h
  obtain ⟨h2, h⟩ := He.ba h
  obtain ⟨h3, h⟩ := He.ba h
  obtain ⟨h4, h⟩ := He.ba h
  obtain ⟨h5, h⟩ := He.ba h
  obtain ⟨h6, h⟩ := He.ba h
  obtain ⟨h7, h8⟩ := He.ba h
  exact ⟨He.eqO_ok h1, He.eqO_ok h2, of_decide_eq_true h3, h4, He.eqO_ok h5, He.eqO_ok h6, of_decide_eq_true h7, of_decide_eq_true h8⟩
def clsB (K : PySem.W.Frag) (cs : List Str) (sub : Str → Str → Bool) : Bool := cs.all fun c => excCB K (He.ga K c) && ((cs.all fun d => decide (PySem.W.kitOne K (.ref (He.ga K c)) (.ref (He.ga K d)) = some (sub c d)) && decide (PySem.W.exmOne K (.ref (He.ga K c)) (.ref (He.ga K d)) = some (sub c d))) &&
  decide (PySem.W.kitOne K (.ref (He.ga K c)) (.type "ValueError") = some true))
theorem cls_of {K : PySem.W.Frag} {cs : List Str} {sub : Str → Str → Bool} (h : clsB K cs sub = true) : Cls K cs sub := by
  have h1 : ∀ c ∈ cs, _ := fun c hc => He.ba (List.all_eq_true.mp h c hc)
  refine ⟨fun c hc => excC_of (h1 c hc).1, fun c hc d hd => ?_, fun c hc d hd => ?_, fun c hc => ?_⟩
  · exact of_decide_eq_true (He.ba (List.all_eq_true.mp (He.ba (h1 c hc).2).1 d hd)).2
  · exact of_decide_eq_true (He.ba (List.all_eq_true.mp (He.ba (h1 c hc).2).1 d hd)).1
  · exact of_decide_eq_true (He.ba (h1 c hc).2).2
end Mi
set_option maxHeartbeats 1000000
namespace Mi
open PySem PySem.Spec L2
open Evl (Ex)
theorem walk_end {l : PySem.W.OpenLaw} {n k : Nat} {q : Program} {loose : List Str} {XP : (Str → Option Value) → Heap → Prop} {YP : World → Heap → Prop} {d : PySem.DefRec} {x : Str} {m : Ro Int → Res Bool}
    (hn : l.most = some n) (hn2 : n ≤ sizeLine) (hdf : d.params.defaults = []) (hr : Room k PySem.callerA)
    (F : ∀ (w : World) (mg : Str → Option Value) (fa : Addr) (h : Heap), YP w h → h.Ns mainGlobals mg → mg d.name = some (.ref fa) →
      ∃ (K : PySem.W.Frag) (fd : FuncData), K.In h ∧ (∀ (s : Shared) (u : Value), PySem.BindsTo s fd ⟨[u], []⟩ [(x, u)]) ∧
        ∀ base : Heap, K.In base → base.Ns mainGlobals mg → FnOk l.prog w K mg base (L2.CX l.prog w) k fa fd [x] (spM K (fun (p : Ro Int × Unit) => m p.1)))
    (ht : ∀ ns : List Int, ns.length ≤ n → (∀ i ∈ ns, Builtin.Int.intBits i ≤ 1048576) → m ⟨ns⟩ = .ok true) :
    PySem.W.WalkO q loose XP YP l.row.toRowW d [] (fun f vs => PySem.call f vs) := by
  refine Att.attach_callB hn hdf fun w s₀ s₁ mg mb fa o pm cd doc a vs ns G Y ho hd hcd hmg hobj hints hlen hbits hg => ?_
  obtain ⟨K, fd, KX, hb, hF⟩ := F w mg fa _ Y G.T.g hmg
  refine law_call KX G.T.g G.T.b G.T.builtins G.T.nolimit hg hobj hints (Nat.le_trans hlen hn2) hr hF hb (fun H hO hS => ?_) fun H e s' z => ?_
  · refine ⟨H, (⟨ns⟩, ()), Ex.refl H, ⟨.ref a, [], rfl, ⟨a, ns.map V.int, rfl, hS, Reps.of_ints ns⟩, rfl⟩, ?_⟩
    show KE K _ H H [] _ (m ⟨ns⟩)
    rw [ht ns hlen hbits]
    exact fun v F' H' _ r => r
  · obtain ⟨_, _, _, _, _, _, _, _, _, _, _, _, z⟩ := z
    exact z
end Mi
set_option maxHeartbeats 1000000
namespace Mi
open PySem PySem.Spec L2
open Evl (Ex)
abbrev rLenS (K : PySem.W.Frag) : List V → Hp → VK → Prop := fun xs H Q => ∃ p ys, xs = [.ref p] ∧ (SqL K H p ys ∨ SqT K H p ys) ∧ Q (.int ys.length) H
theorem cr_len {X : Cx} {K : PySem.W.Frag} (h : X.K = K) : CallR X (.builtin "len") (rLenS K) := by
  subst h; exact call_len_seq
theorem cr_ixL {X : Cx} {K : PySem.W.Frag} (h : X.K = K) : IxR X (rIxL K) := by
  subst h; exact ix_list
theorem cr_ixT {X : Cx} {K : PySem.W.Frag} (h : X.K = K) : IxR X (rIxT K) := by
  subst h; exact ix_tup
theorem cr_slL {X : Cx} {K : PySem.W.Frag} (h : X.K = K) : SlR X (rSlL K) := by
  subst h; exact sl_list
section
variable {K : PySem.W.Frag} {W : WX} {F0 H0 F H F' H' F1 : Hp} {rt : VK} {PT : En → Prop} {env env' : En} {α β γ τ : Type} [ToD α] [ToD β] [ToD γ] [ToD τ] {KP : Res τ → Prop} {te ta tb tc : TE} {tt : TT} {Z : Ends} {t u : TS} {T : L2.St → Hp → Prop} {σ : L2.St}
/-- xs[::-1] -/
theorem en_rev {m : Res (List α)} (h : EvX K W env te m) : EvN K W env (tRevL K te) (m.bind fun xs => .ok xs.reverse) := fun F0 H0 F H σ Q S k => by
  refine h F0 H0 F H σ _ S ?_
  cases m with
  | ok xs =>
    intro v F1 H1 a r
    obtain ⟨p, vs, rfl, h1, h2⟩ := r
    refine ⟨p, vs, rfl, sq_ex a.in_ h1, fun l hl => ?_⟩
    refine k l _ F1 _ (a.trans (Adv.newO a.in_ hl)) (Evl.fresh_back a.h hl) (none_of_ex a.in_ hl) upd_same ?_
    rw [List.map_reverse]
    exact Reps.reverse h2
  | exc c => exact k
  | stuck => exact k.elim
/-- the parts of a text of an error -/
def EvJ (K : PySem.W.Frag) (W : WX) (env : En) (ts : List TE) (N : Nat) (m : Res Unit) : Prop :=
  ∀ F0 H0 F H σ acc (Q : Str → Hp → Prop), Sl K F0 H0 F H σ env → acc.length + N ≤ sizeLine → KE K W F H σ (fun _ H' => ∀ out, Q out H') m → tJs ts acc σ H Q
theorem ej_nil : EvJ K W env [] 0 (.ok ()) := fun F0 H0 F H σ acc Q S hn k => k .non F H (Adv.refl S.ex) rfl acc
theorem ej_txt {x : Str} {n N : Nat} {ts : List TE} {m : Res Unit} (hx : x.length ≤ n) (h : EvJ K W env ts N m) : EvJ K W env (tC (.str x) :: ts) (n + N) m := fun F0 H0 F H σ acc Q S hn k => by
  have e : (acc ++ x).length = acc.length + x.length := Str.length_append ..
  exact ⟨x, rfl, by omega, h F0 H0 F H σ (acc ++ x) Q S (by omega) k⟩
theorem ej_int {te : TE} {N : Nat} {ts : List TE} {m1 : Res Int} {m : Res Unit} (h1 : EvX K W env te m1) (h : EvJ K W env ts N m) : EvJ K W env (tFmt te :: ts) (1000 + N) (m1.bind fun i => .need (i.natAbs.log2 < 1920 ∧ (toString i : Str).length ≤ 1000) m) := fun F0 H0 F H σ acc Q S hn k => by
  refine h1 F0 H0 F H σ _ S (k.cut S.ex fun i v F1 H1 e1 a1 r1 k1 => ?_)
  have r1 : v = V.int i := r1
  subst r1
  by_cases q : i.natAbs.log2 < 1920 ∧ (toString i : Str).length ≤ 1000
  · rw [Res.need_pos q] at k1
    have e : (acc ++ toString i).length = acc.length + (toString i : Str).length := Str.length_append ..
    exact .inr ⟨i, rfl, q.1, toString i, rfl, by omega, h F0 H0 F1 H1 σ _ Q (S.step a1) (by omega) k1⟩
  · rw [Res.need_neg q] at k1; exact k1.elim
theorem blk_raiseJ {c : Str} {m : Res Unit} {ts : List TE} {N : Nat} (L : Lk K W F0 H0 rt PT KP) (hT : PT env) (hN : N ≤ sizeLine) (he : EvJ K W env ts N m) : Blk K F0 H0 KP (fun σ H => tJs ts Str.empty σ H fun _ H1 => W (.ref (He.ga K c)) none σ H1) env (m.bind fun _ => .exc c) := fun F H σ S h => by
  refine he F0 H0 F H σ _ _ S (by show 0 + N ≤ _; omega) (L.ke hT S h fun x v F1 H1 e1 a1 r1 h1 => ?_)
  exact fun _ => L.exc c F1 H1 σ env h1 hT (S.step a1)
end
end Mi
set_option maxHeartbeats 1000000
namespace Mi
open PySem PySem.Spec L2
open Evl (Ex)

/-! ### own classes: rules with what is raised at the caller's slots -/
section
variable {X : Cx} {CX : CXT} {k : Nat} {f C : Addr} {fd : FuncData} {ps : List Str} {sp : Sp} {E : L2.St → XK} {x m : Str} {p pos apos : Pos} {e o : Expr} {es : List Expr} {ta : TE} {t : TA}
def tMethQ (C : Addr) (m : Str) (sp : Sp) (E : L2.St → XK) (ta : TE) (t : TA) : TE := fun σ H Q => ta σ H fun x H1 => ∃ a dx fs, x = .ref a ∧ H1 a = some (.ins C dx fs) ∧ fs.lookup m = none ∧ t σ H1 fun vs H2 => sp (x :: vs) H2 Q (E σ)
theorem pe_methQ {pl : Sem Bool} (he : PE X o ta) (c : L2.Cls X.K C) (hm : Meth X.K C m f) (F : FnOk X.prog X.w X.K X.mg X.base CX k f fd ps sp) (hr : Room k X.A) (hb : Binds X.K fd ps []) (hx : ∀ σ, PassesAt CX X σ (E σ)) (ha : PA X (e :: es) t)
    (hst : starEach (e :: es) X.env = (false, eval e X.env) :: starEach es X.env := by rfl) (hpl : (backTo pos (starEach es X.env)).any (·.1) = false := by rfl)
    (ht : eval (.Call (.Attribute o m apos) (e :: es) [] pos) X.env = (do
      let ov ← eval o X.env
      standAt apos.atName
      let (f, first) ← holding [ov] (getMethod ov m pl)
      callWith pos f first (backTo pos (starEach (e :: es) X.env)) (backToKw pos (keywordEach [] X.env))) := by rfl) :
    PE X (.Call (.Attribute o m apos) (e :: es) [] pos) (tMethQ C m sp E ta t) := by
  refine ⟨fun pins s σ H Q I h => ?_⟩
  refine PySem.W.methodCall_KW (pl := pl) (thn (he.run pins s σ H _ I h) fun u s1 ⟨x, H1, I1, rx, a, dx, fs, ex, ea, l, q⟩ => ?_) ht
  subst ex
  obtain rfl : u = Value.ref a := rx
  refine getmeth_ok I1 ea c hm l ?_
  refine PySem.W.callWith_K (first := [.ref a]) (h₀ := X.base) I.ok.mod.kin hm.kp (thn (ha.run pos pins s1 σ H1 _ I1 q) fun us s2 ⟨vs, H2, I2, r, q2⟩ => ⟨I2.kIn, ?_⟩) hst hpl
  exact run_fnS (us := .ref a :: us) (vs := .ref a :: vs) F hr hb (hx σ) I2 (.cons rfl r) q2
theorem pe_methQ0 {pl : Sem Bool} (he : PE X o ta) (c : L2.Cls X.K C) (hm : Meth X.K C m f) (F : FnOk X.prog X.w X.K X.mg X.base CX k f fd ps sp) (hr : Room k X.A) (hb : Binds X.K fd ps []) (hx : ∀ σ, PassesAt CX X σ (E σ))
    (ht : eval (.Call (.Attribute o m apos) [] [] pos) X.env = (do
      let ov ← eval o X.env
      standAt apos.atName
      let (f, first) ← holding [ov] (getMethod ov m pl)
      callWith pos f first (backTo pos (starEach [] X.env)) (backToKw pos (keywordEach [] X.env))) := by rfl) :
    PE X (.Call (.Attribute o m apos) [] [] pos) (tMethQ C m sp E ta tNil) := by
  refine ⟨fun pins s σ H Q I h => ?_⟩
  refine PySem.W.methodCall_KW (pl := pl) (thn (he.run pins s σ H _ I h) fun u s1 ⟨x, H1, I1, rx, a, dx, fs, ex, ea, l, q⟩ => ?_) ht
  subst ex
  obtain rfl : u = Value.ref a := rx
  refine getmeth_ok I1 ea c hm l ?_
  exact PySem.W.callWith_K0 (first := [.ref a]) I1.kIn hm.kp (run_fnS (us := [.ref a]) (vs := [.ref a]) F hr hb (hx σ) I1 (.cons rfl .nil) q)
def tMakeQ (C : Addr) (sp : Sp) (E : L2.St → XK) (t : TA) : TE := fun σ H Q => t σ H fun vs H1 => ∀ x dx, H1 x = none → H1 dx = none → dx ≠ x → sp (.ref x :: vs) (upd (upd H1 dx (.own x)) x (.ins C dx [])) (fun v H2 => v = .non ∧ Q (.ref x) H2) (E σ)
theorem run_makeQ {pins : List (Addr × Obj)} {σ : L2.St} {H : Hp} {s : Shared} {Q : VK} {us : List Value} {vs : List V} (M : Mk X.K C f) (F : FnOk X.prog X.w X.K X.mg X.base CX k f fd ps sp) (hr : Room (k + 1) X.A) (hb : Binds X.K fd ps [])
    (hx : PassesAt CX X σ (E σ)) (I : Inv X pins σ H s) (r : Vals vs us)
    (h : ∀ x dx, H x = none → H dx = none → dx ≠ x → sp (.ref x :: vs) (upd (upd H dx (.own x)) x (.ins C dx [])) (fun v H2 => v = .non ∧ Q (.ref x) H2) (E σ)) :
    wpAny (model X.prog X.w) X.A (call (.ref C) us) (EP X pins σ Q) X.xe s := by
  have hq := h (s.heap.objs.size + 1) s.heap.objs.size (I.hok.fresh (Nat.le_succ _)) (I.hok.fresh (Nat.le_refl _)) (Nat.ne_of_lt (Nat.lt_succ_self _))
  have I2 := Inv.made (C := C) I
  have r2 : Vals (V.ref (s.heap.objs.size + 1) :: vs) (Value.ref (s.heap.objs.size + 1) :: us) := .cons rfl r
  have hl : (Value.ref (s.heap.objs.size + 1) :: us ++ []).length = ps.length := by
    rw [List.append_nil]
    have e := r2.length
    rw [F.len _ _ _ _ hq] at e
    exact e.symm
  have b := hb _ (Value.ref (s.heap.objs.size + 1) :: us) I2.kIn hl
  rw [List.append_nil] at b
  refine wpAny_call (make_map (f := f) I.kIn M.makes M.init (beq_iff_eq.mp M.fn) (codeAny_mono (F.run _ X.stack _ _ ⟨Value.ref (s.heap.objs.size + 1) :: us, []⟩ (Value.ref (s.heap.objs.size + 1) :: us) _ _ (E σ) (hr.make C us [])
    (I2.env0.make C us []) b r2 hq) fun r s' hq' => ?_))
  cases r with
  | error e => exact hx pins _ _ e s' I2 hq'
  | ok fl =>
    cases fl with
    | ret u =>
      obtain ⟨v, H', I3, rv, ev, q3⟩ := I2.after hq'
      subst ev
      exact ⟨rv, ⟨V.ref (s.heap.objs.size + 1), H', I3, rfl, q3⟩⟩
    | next => exact False.elim hq'
    | brk => exact False.elim hq'
    | cont => exact False.elim hq'
theorem pe_makeQ (M : Mk X.K C f) (F : FnOk X.prog X.w X.K X.mg X.base CX k f fd ps sp) (hr : Room (k + 1) X.A) (hg : Gl X x) (hm : X.mg x = some (.ref C)) (hb : Binds X.K fd ps []) (hx : ∀ σ, PassesAt CX X σ (E σ))
    (ha : PA X (e :: es) t) (hdb : (x == ("__debug__" : Str)) = false := by decide) (he : starEach (e :: es) X.env = (false, eval e X.env) :: starEach es X.env := by rfl) (hpl : (backTo pos (starEach es X.env)).any (·.1) = false := by rfl) :
    PE X (.Call (.Name x p) (e :: es) [] pos) (tMakeQ C sp E t) := by
  refine ⟨fun pins s σ H Q I h => ?_⟩
  refine wpAny_Call_Name_kw (ld_glob I hg hm ?_ hdb)
  refine PySem.W.callWith_K (h₀ := X.base) I.ok.mod.kin M.kp (thn (ha.run pos pins s σ H _ I h) fun us s1 ⟨vs, H1, I1, r, q⟩ => ⟨I1.kIn, ?_⟩) he hpl
  exact run_makeQ M F hr hb (hx σ) I1 r q
theorem pe_makeQ0 (M : Mk X.K C f) (F : FnOk X.prog X.w X.K X.mg X.base CX k f fd ps sp) (hr : Room (k + 1) X.A) (hg : Gl X x) (hm : X.mg x = some (.ref C)) (hb : Binds X.K fd ps []) (hx : ∀ σ, PassesAt CX X σ (E σ))
    (hdb : (x == ("__debug__" : Str)) = false := by decide) : PE X (.Call (.Name x p) [] [] pos) (tMakeQ C sp E tNil) := by
  refine ⟨fun pins s σ H Q I h => ?_⟩
  refine wpAny_Call_Name_kw (ld_glob I hg hm ?_ hdb)
  exact PySem.W.callWith_K0 I.kIn M.kp (run_makeQ (us := []) M F hr hb (hx σ) I .nil h)
end

/-! ### fields by their place -/
def posK (f : Str) : List Str → Option Nat
  | [] => none
  | g :: r => if g = f then some 0 else (posK f r).map (· + 1)
theorem lookup_pos {f : Str} {v : V} : ∀ {ks : List Str} {vs : List V} {j : Nat}, posK f ks = some j → vs[j]? = some v → (ks.zip vs).lookup f = some v
  | [], _, _, h, _ => by cases h
  | g :: r, [], j, h, q => by simp at q
  | g :: r, w :: ws, j, h, q => by
    unfold posK at h
    by_cases c : g = f
    · rw [if_pos c] at h; cases h
      simp at q; subst q c
      simp [List.zip_cons_cons, List.lookup]
    · rw [if_neg c] at h
      have c2 : (f == g) = false := beq_eq_false_iff_ne.mpr fun z => c z.symm
      cases e : posK f r with
      | none => rw [e] at h; cases h
      | some i =>
        rw [e] at h; cases h
        simp only [List.zip_cons_cons, List.lookup, c2]
        exact lookup_pos e (by simpa using q)
theorem lookup_no {f : Str} : ∀ {ks : List Str} {vs : List V}, posK f ks = none → (ks.zip vs).lookup f = none
  | [], _, _ => rfl
  | g :: r, [], _ => rfl
  | g :: r, w :: ws, h => by
    unfold posK at h
    by_cases c : g = f
    · rw [if_pos c] at h; cases h
    · rw [if_neg c] at h
      have c2 : (f == g) = false := beq_eq_false_iff_ne.mpr fun z => c z.symm
      simp only [List.zip_cons_cons, List.lookup, c2]
      refine lookup_no ?_
      cases e : posK f r with
      | none => rfl
      | some i => rw [e] at h; cases h
theorem putF_new {f : Str} {v : V} : ∀ {ks : List Str} {vs : List V}, posK f ks = none → ks.length = vs.length → putF f v (ks.zip vs) = (ks ++ [f]).zip (vs ++ [v])
  | [], [], _, _ => rfl
  | [], _ :: _, _, h => by simp at h
  | g :: r, [], _, h => by simp at h
  | g :: r, w :: ws, h, hl => by
    unfold posK at h
    by_cases c : g = f
    · rw [if_pos c] at h; cases h
    · rw [if_neg c] at h
      show (if g = f then _ else (g, w) :: putF f v (r.zip ws)) = _
      rw [if_neg c]
      rw [putF_new (ks := r) (vs := ws) (by cases e : posK f r with | none => rfl | some i => rw [e] at h; cases h) (by simpa using hl)]
      rfl
theorem putF_old {f : Str} {v : V} : ∀ {ks : List Str} {vs : List V} {j : Nat}, posK f ks = some j → ks.length = vs.length → putF f v (ks.zip vs) = ks.zip (vs.set j v)
  | [], _, _, h, _ => by cases h
  | g :: r, [], _, _, h => by simp at h
  | g :: r, w :: ws, j, h, hl => by
    unfold posK at h
    by_cases c : g = f
    · rw [if_pos c] at h; cases h
      show (if g = f then (g, v) :: r.zip ws else _) = _
      rw [if_pos c]; rfl
    · rw [if_neg c] at h
      cases e : posK f r with
      | none => rw [e] at h; cases h
      | some i =>
        rw [e] at h; cases h
        show (if g = f then _ else (g, w) :: putF f v (r.zip ws)) = _
        rw [if_neg c, putF_old e (by simpa using hl)]
        rfl
section
variable {K : PySem.W.Frag} {W : WX} {F0 H0 F H F' H' F1 : Hp} {rt : VK} {PT : En → Prop} {env env' : En} {α β γ τ : Type} [ToD α] [ToD β] [ToD γ] [ToD τ] {KP : Res τ → Prop} {te ta tb tc : TE} {tt : TT} {Z : Ends} {t u : TS} {T : L2.St → Hp → Prop} {σ : L2.St}
/-- e.f, e an object that stands still -/
theorem ev_fld {m : Res α} {g : α → β} {c f : Str} {ks : List Str} {j : Nat} (he : EvX K W env te m) (hc : L2.Cls K (He.ga K c)) (hn : NoAttr K (He.ga K c) f) (hj : posK f ks = some j) (hf : ∀ x : α, ∃ ds, toD x = .obj c ks ds ∧ ds[j]? = some (toD (g x))) :
    EvX K W env (tFld K te f) (m.bind fun x => .ok (g x)) := fun F0 H0 F H σ Q S k => by
  refine he F0 H0 F H σ _ S (KE.cut S.ex k fun x v F1 H1 e1 a1 r1 k1 => ?_)
  obtain ⟨ds, e, q⟩ := hf x
  rw [e] at r1
  obtain ⟨a, dx, vs, rfl, h2, h3, h4⟩ := r1
  obtain ⟨w, hw, rw_⟩ := Reps.get h4 q
  exact ⟨a, _, dx, _, w, rfl, a1.in_ _ _ h2, hc, hn, lookup_pos hj hw, k1 _ F1 H1 (Adv.refl a1.in_) rw_⟩
/-- self.f, self an object that is being made -/
theorem ev_fldO {x : α} {c f : Str} {pp : Option Addr} {ks : List Str} {ds : List D} {i j : Nat} (hi : env[i]? = some (some (.oi pp c ks ds))) (hc : L2.Cls K (He.ga K c)) (hn : NoAttr K (He.ga K c) f) (hj : posK f ks = some j) (hd : ds[j]? = some (toD x)) :
    EvX K W env (tFld K (tVar i) f) (.ok x) := fun F0 H0 F H σ Q S k => by
  obtain ⟨v, e, p, dx, vs, rfl, h0, hf, hp, hl, hr, _⟩ := S.slot i _ hi
  obtain ⟨w, hw, rw_⟩ := Reps.get hr hd
  exact ⟨_, e, p, _, dx, _, w, rfl, hp, hc, hn, lookup_pos hj hw, k _ F H (Adv.refl S.ex) rw_⟩
/-- self.f = e, a new field -/
theorem blk_fldN {i : Nat} {m : Res α} {g : α → Res τ} {c f : Str} {pp : Option Addr} {ks : List Str} {ds : List D} (L : Lk K W F0 H0 rt PT KP) (hT : PT env) (he : EvX K W env te m) (hi : env[i]? = some (some (.oi pp c ks ds))) (hc : L2.Cls K (He.ga K c)) (hn : NoAttr K (He.ga K c) f) (hj : posK f ks = none) (hk : ks.length < 1000)
    (k : ∀ x, Blk K F0 H0 KP Z.nx (env.set i (some (.oi pp c (ks ++ [f]) (ds ++ [toD x])))) (g x)) : Blk K F0 H0 KP (sFld K (tVar i) te f Z) env (m.bind g) := fun F H σ S h =>
  he F0 H0 F H σ _ S (L.ke hT S h fun x v F1 H1 e1 a1 r1 h1 => by
    have S1 := S.step a1
    obtain ⟨w, e, p, dx, vs, rfl, h0, hf, hp, hl, hr, hpp⟩ := S1.slot i _ hi
    refine ⟨_, e, p, _, dx, _, rfl, hp, hc, hn, by rw [List.length_zip, ← hl, Nat.min_self]; exact hk, ?_⟩
    refine k x F1 _ σ (S1.chgO hi rfl e hf h0 ⟨p, dx, vs ++ [v], rfl, h0, hf, ?_, by simp [hl], Reps.append hr (Reps.one r1), hpp⟩) h1
    rw [upd_same, putF_new hj hl])
/-- self.f = e, a field that is there -/
theorem blk_fldR {i j : Nat} {m : Res α} {g : α → Res τ} {c f : Str} {pp : Option Addr} {ks : List Str} {ds : List D} (L : Lk K W F0 H0 rt PT KP) (hT : PT env) (he : EvX K W env te m) (hi : env[i]? = some (some (.oi pp c ks ds))) (hc : L2.Cls K (He.ga K c)) (hn : NoAttr K (He.ga K c) f) (hj : posK f ks = some j) (hk : ks.length < 1000)
    (k : ∀ x, Blk K F0 H0 KP Z.nx (env.set i (some (.oi pp c ks (ds.set j (toD x))))) (g x)) : Blk K F0 H0 KP (sFld K (tVar i) te f Z) env (m.bind g) := fun F H σ S h =>
  he F0 H0 F H σ _ S (L.ke hT S h fun x v F1 H1 e1 a1 r1 h1 => by
    have S1 := S.step a1
    obtain ⟨w, e, p, dx, vs, rfl, h0, hf, hp, hl, hr, hpp⟩ := S1.slot i _ hi
    refine ⟨_, e, p, _, dx, _, rfl, hp, hc, hn, by rw [List.length_zip, ← hl, Nat.min_self]; exact hk, ?_⟩
    refine k x F1 _ σ (S1.chgO hi rfl e hf h0 ⟨p, dx, vs.set j v, rfl, h0, hf, ?_, by simp [hl], Reps.set j hr r1, hpp⟩) h1
    rw [upd_same, putF_old hj hl])
/-- o.m(e, ..), o an object that stands still -/
theorem ev_meth {δ : Type} [ToDs δ] {ts : TA} {mo : Res α} {ma : Res δ} {c m : Str} {ks : List Str} {f : α × δ → Res β} (ho : EvX K W env te mo) (ha : EvA K W env ts ma) (hj : posK m ks = none) (hf : ∀ x : α, ∃ ds, toD x = .obj c ks ds) :
    EvX K W env (tMethQ (He.ga K c) m (spM K f) (WE W) te ts) (mo.bind fun x => ma.bind fun y => f (x, y)) := fun F0 H0 F H σ Q S k => by
  refine ho F0 H0 F H σ _ S (KE.cut S.ex k fun x v F1 H1 e1 a1 r1 k1 => ?_)
  obtain ⟨ds, e⟩ := hf x
  have r1' := r1
  rw [e] at r1
  obtain ⟨a, dx, vs, rfl, h2, h3, h4⟩ := r1
  refine ⟨a, dx, _, rfl, a1.in_ _ _ h2, lookup_no hj, ?_⟩
  refine ha F0 H0 F1 H1 σ _ (S.step a1) ?_
  cases ma with
  | ok y =>
    intro ws F2 H2 a2 r2
    have k1 : KE K W F1 H1 σ Q (f (x, y)) := k1
    have k1 := k1.adv a2
    refine ⟨F2, (x, y), a2.in_, ⟨_, ws, rfl, Rep.mono a2.f _ _ r1', r2⟩, ?_⟩
    revert k1
    generalize f (x, y) = z
    intro k1
    cases z with
    | ok z => exact k1
    | exc c => exact k1
    | stuck => exact k1.elim
  | exc c => exact k1
  | stuck => exact k1.elim
theorem ev_meth0 {δ : Type} [ToDs δ] {ts : TA} {mo : Res α} {ma : Res δ} {c m : Str} {ks : List Str} {f : α × δ → Res β} (ho : EvX K W env te mo) (ha : EvA K W env ts ma) (hj : posK m ks = none) (hf : ∀ x : α, ∃ ds, toD x = .obj c ks ds) :
    EvX K W env (tMeth (He.ga K c) m (spM K f) [] E0 te ts) (mo.bind fun x => ma.bind fun y => (f (x, y)).noexc) := fun F0 H0 F H σ Q S k => by
  refine ho F0 H0 F H σ _ S (KE.cut S.ex k fun x v F1 H1 e1 a1 r1 k1 => ?_)
  obtain ⟨ds, e⟩ := hf x
  have r1' := r1
  rw [e] at r1
  obtain ⟨a, dx, vs, rfl, h2, h3, h4⟩ := r1
  refine ⟨a, dx, _, rfl, a1.in_ _ _ h2, lookup_no hj, ?_⟩
  refine ha F0 H0 F1 H1 σ _ (S.step a1) ?_
  cases ma with
  | ok y =>
    intro ws F2 H2 a2 r2
    have k1 : KE K W F1 H1 σ Q (f (x, y)).noexc := k1
    have k1 := k1.adv a2
    refine ⟨F2, (x, y), a2.in_, by rw [List.append_nil]; exact ⟨_, ws, rfl, Rep.mono a2.f _ _ r1', r2⟩, ?_⟩
    revert k1
    generalize f (x, y) = z
    intro k1
    cases z with
    | ok z => exact k1
    | exc c => exact k1.elim
    | stuck => exact k1.elim
  | exc c => exact k1
  | stuck => exact k1.elim
/-- the heap without an object that a def changes -/
def hide (H : Hp) (p : Addr) : Hp := fun q => if q = p then none else H q
theorem hide_same {H : Hp} {p : Addr} : hide H p p = none := if_pos rfl
theorem hide_ne {H : Hp} {p q : Addr} (h : q ≠ p) : hide H p q = H q := if_neg h
theorem hide_ex {H : Hp} {p : Addr} : Ex (hide H p) H := fun a u q => by
  by_cases z : a = p
  · subst z; rw [hide_same] at q; cases q
  · rw [hide_ne z] at q; exact q
/-- the promise of an __init__ -/
def KIn (K : PySem.W.Frag) (F H : Hp) (p : Addr) (Q : VK) (E : XK) : Res α → Prop
  | .ok x => ∀ F' H', Adv F (hide H p) F' H' → Rep K F' (toD x) (.ref p) → Q .non H'
  | .exc c => ∀ F' H', Adv F (hide H p) F' H' → E (.ref (He.ga K c)) none H'
  | .stuck => False
def spI (K : PySem.W.Frag) (c : Str) {δ : Type} [ToDs δ] (f : δ → Res α) : Sp := fun vs H Q E => ∃ F y p dx ws, vs = .ref p :: ws ∧ Ex F H ∧ F p = none ∧ H p = some (.ins (He.ga K c) dx []) ∧ Reps K F (ToDs.ds y) ws ∧ KIn K F H p Q E (f y)
theorem ev_make {δ : Type} [ToDs δ] {ts : TA} {ma : Res δ} {c : Str} {f : δ → Res α} (ha : EvA K W env ts ma) : EvX K W env (tMakeQ (He.ga K c) (spI K c f) (WE W) ts) (ma.bind f) := fun F0 H0 F H σ Q S k => by
  refine ha F0 H0 F H σ _ S ?_
  cases ma with
  | ok y =>
    intro vs F1 H1 a1 r1 x dx nx ndx hne
    have k : KE K W F H σ Q (f y) := k
    have k := k.adv a1
    have ex1 : Ex H1 (hide (upd (upd H1 dx (.own x)) x (.ins (He.ga K c) dx [])) x) := fun a u q => by
      have z : a ≠ x := ne_of_none q nx
      rw [hide_ne z, upd_ne z, upd_ne (ne_of_none q ndx)]
      exact q
    have exF : Ex F1 (upd (upd H1 dx (.own x)) x (.ins (He.ga K c) dx [])) := fun a u q => hide_ex _ _ (ex1 _ _ (a1.in_ _ _ q))
    have ad : ∀ {F' H' : Hp}, Adv F1 (hide (upd (upd H1 dx (.own x)) x (.ins (He.ga K c) dx [])) x) F' H' → Adv F1 H1 F' H' := fun {F' H'} b =>
      ⟨b.f, ex1.trans b.h, b.in_, fun q h1 h2 => b.out q h1 (by
        cases e : H1 q with
        | none => exact absurd e h2
        | some o => rw [ex1 _ _ e]; simp)⟩
    refine ⟨F1, y, x, dx, vs, rfl, exF, none_of_ex a1.in_ nx, upd_same, r1, ?_⟩
    revert k
    generalize f y = z
    intro k
    cases z with
    | ok z => exact fun F' H' b r => ⟨rfl, k _ F' H' (ad b) r⟩
    | exc c => exact fun F' H' b => k F' H' (ad b)
    | stuck => exact k.elim
  | exc c => exact k
  | stuck => exact k.elim
/-- the end of an __init__ -/
theorem blk_finI {Q : VK} {x : τ} {p : Addr} {c : Str} {ks : List Str} {ds : List D} {i : Nat} (L : Lk K W F0 H0 (fun v H' => v = .ref p → Q .non H') PT KP) (hi : env[i]? = some (some (.oi (some p) c ks ds))) (hx : toD x = .obj c ks ds) : Blk K F0 H0 KP (fun _ H' => Q .non H') env (.ok x) := fun F H σ S h => by
  obtain ⟨v, e, q, dx, vs, rfl, h0, hf, hp, hl, hr, hpp⟩ := S.slot i _ hi
  have : q = p := hpp p rfl
  subst this
  obtain ⟨F', ex, S'⟩ := S.freezeI hi
  have hi' : i < env.length := by
    have := (List.getElem?_eq_some_iff.mp hi).1
    exact this
  obtain ⟨v2, e2, r2⟩ := S'.slot i (.im (.obj c ks ds)) (by rw [List.getElem?_set_self hi'])
  rw [e] at e2; cases e2
  exact L.ok x h (.ref q) F' H S'.adv (by rw [hx]; exact r2) rfl
end
section
variable {P : Program} {w : World} {K : PySem.W.Frag} {mg : Str → Option Value} {base : Heap} {x qual : Str} {params : Arguments} {body : List Stmt} {scope : Scope} {dvs : List V} {kws : List (Str × V)} {f : Addr} {fd : FuncData}
theorem sl_startI {K : PySem.W.Frag} {F H : Hp} {N : List Str} {ds : List D} {vs : List V} {p dx : Addr} {c : Str} {n0 : Str} (e : Ex F H) (hf : F p = none) (hp : H p = some (.ins (He.ga K c) dx [])) (r : Reps K F ds vs) :
    Sl K F (hide H p) F H (L2.start (n0 :: N) (.ref p :: vs)) (some (.oi (some p) c [] []) :: enStart N ds) := by
  have hl := r.length
  refine ⟨⟨Ex.refl F, hide_ex, e, fun q h _ => h⟩, fun i sk q => ?_, fun i j sk sk' a hij q q' o o' h1 => ?_, by simp [L2.start, enStart, hl]⟩
  · cases i with
    | zero =>
      simp at q; subst q
      exact ⟨.ref p, by simp [L2.start], p, dx, [], rfl, hide_same, hf, hp, rfl, rfl, fun a h => Option.some.inj h⟩
    | succ i =>
      have q : (enStart N ds)[i]? = some (some sk) := by simpa using q
      unfold enStart at q
      by_cases c : i < ds.length
      · rw [List.getElem?_append_left (by simpa using c), List.getElem?_map, List.getElem?_eq_getElem c] at q
        cases q
        obtain ⟨v, h1, h2⟩ := r.get (List.getElem?_eq_getElem c)
        refine ⟨v, ?_, h2⟩
        unfold L2.start
        rw [List.getElem?_append_left (by simp only [List.map_cons, List.length_cons, List.length_map]; omega), List.getElem?_map, List.getElem?_cons_succ, h1]; rfl
      · rw [List.getElem?_append_right (by simpa using c), List.getElem?_replicate] at q
        split at q <;> cases q
  · have im : ∀ (i : Nat) (sk : Sk), (some (Sk.oi (some p) c [] []) :: enStart N ds)[i]? = some (some sk) → sk.own = true → i = 0 := by
      intro i sk q o
      cases i with
      | zero => rfl
      | succ i =>
        have q : (enStart N ds)[i]? = some (some sk) := by simpa using q
        unfold enStart at q
        by_cases c : i < ds.length
        · rw [List.getElem?_append_left (by simpa using c), List.getElem?_map, List.getElem?_eq_getElem c] at q
          cases q; cases o
        · rw [List.getElem?_append_right (by simpa using c), List.getElem?_replicate] at q
          split at q <;> cases q
    exact absurd ((im i sk q o).trans (im j sk' q' o').symm) hij
theorem fn_okI {N ps : List Str} {n0 : Str} {k : Nat} {β τ : Type} [ToDs β] [ToD τ] {fM : β → Res τ} {c : Str} (F : FunD K x qual params body scope dvs kws f fd) (S : FnScope (n0 :: N) ps scope) (hl : ∀ y : β, (ToDs.ds y).length + 1 = ps.length)
    (hbody : ∀ (cdv : Value) (A : Around) (outer : List Env) (s : Shared) (H : Hp) (E : XK), Room k (A.deeper (PyProof.Rows.envOfC qual scope s.heap.objs.size f cdv)) →
      ∃ t, PSs (cxOf (L2.CX P w) P w K mg base (n0 :: N) qual scope f cdv A outer s H E) body t ∧
        ∀ (y : β) (p : Addr) (F0 H0 : Hp) (Q : VK) (KP : Res τ → Prop), Lk K (fun cls d _ H => E cls d H) F0 H0 (fun v H' => v = .ref p → Q .non H') (fun _ => True) KP → Blk K F0 H0 KP (t { nx := fun _ H' => Q .non H', rt := Q }) (some (.oi (some p) c [] []) :: enStart N (ToDs.ds y)) (fM y)) :
    FnOk P w K mg base (L2.CX P w) (k + 1) f fd ps (spI K c fM) := by
  refine F.ok S (fun vs H Q E h => ?_) (fun cdv A outer s H vs Q E hr h => ?_)
  · obtain ⟨F, y, p, dx, ws, rfl, _, _, _, r, _⟩ := h
    rw [← hl y, List.length_cons, ← r.length]
  · obtain ⟨t, h1, h2⟩ := hbody cdv A outer s H E hr
    refine ⟨t, h1, ?_⟩
    obtain ⟨F, y, p, dx, ws, rfl, e, hf, hp, r, q⟩ := h
    refine h2 y p F (hide H p) Q (fun r => KIn K F H p Q E r) ⟨fun z h v F' H' a r z => ?_, fun c F' H' σ env h _ S' => h F' H' S'.adv, fun z => z⟩ F H _ (sl_startI e hf hp r) q
    subst z
    exact h F' H' a r
end
end Mi
namespace Mi
open PySem PySem.Spec L2
open Evl (Ex)
structure T5 (α β γ δ ε : Type) where
  a : α
  b : β
  c : γ
  e : δ
  f : ε
structure T6 (α β γ δ ε ζ : Type) where
  a : α
  b : β
  c : γ
  e : δ
  f : ε
  g : ζ
structure T8 (α β γ δ ε ζ η θ : Type) where
  a : α
  b : β
  c : γ
  e : δ
  f : ε
  g : ζ
  h : η
  i : θ
instance {α β γ δ ε : Type} [ToD α] [ToD β] [ToD γ] [ToD δ] [ToD ε] : ToD (T5 α β γ δ ε) := ⟨fun x => .tup [ToD.d x.a, ToD.d x.b, ToD.d x.c, ToD.d x.e, ToD.d x.f]⟩
instance {α β γ δ ε ζ : Type} [ToD α] [ToD β] [ToD γ] [ToD δ] [ToD ε] [ToD ζ] : ToD (T6 α β γ δ ε ζ) := ⟨fun x => .tup [ToD.d x.a, ToD.d x.b, ToD.d x.c, ToD.d x.e, ToD.d x.f, ToD.d x.g]⟩
instance {α β γ δ ε ζ η θ : Type} [ToD α] [ToD β] [ToD γ] [ToD δ] [ToD ε] [ToD ζ] [ToD η] [ToD θ] : ToD (T8 α β γ δ ε ζ η θ) := ⟨fun x => .tup [ToD.d x.a, ToD.d x.b, ToD.d x.c, ToD.d x.e, ToD.d x.f, ToD.d x.g, ToD.d x.h, ToD.d x.i]⟩
def optGet {α : Type} : Option α → Res α
  | some x => .ok x
  | none => .stuck
theorem optGet_ok {α : Type} [ToD α] : ∀ (x : Option α) (y : α), optGet x = .ok y → toD y = toD x
  | some x, y, h => by cases h; rfl
  | none, y, h => by cases h
theorem optGet_x {α : Type} : ∀ (x : Option α) (c : Str), optGet x ≠ .exc c
  | some x, c, h => by cases h
  | none, c, h => by cases h
def D.asT1 : D → Res (T1 D)
  | .tup [a] => .ok ⟨a⟩
  | _ => .stuck
def D.asT2 : D → Res (T2 D D)
  | .tup [a, b] => .ok ⟨a, b⟩
  | _ => .stuck
def D.asT3 : D → Res (T3 D D D)
  | .tup [a, b, c] => .ok ⟨a, b, c⟩
  | _ => .stuck
theorem asT1_ok : ∀ (x : D) (y : T1 D), x.asT1 = .ok y → toD y = x := by
  intro x y h
  unfold D.asT1 at h
  split at h
  · cases h; rfl
  · cases h
theorem asT2_ok : ∀ (x : D) (y : T2 D D), x.asT2 = .ok y → toD y = x := by
  intro x y h
  unfold D.asT2 at h
  split at h
  · cases h; rfl
  · cases h
theorem asT3_ok : ∀ (x : D) (y : T3 D D D), x.asT3 = .ok y → toD y = x := by
  intro x y h
  unfold D.asT3 at h
  split at h
  · cases h; rfl
  · cases h
theorem asT1_x (x : D) (c : Str) : x.asT1 ≠ .exc c := by intro h; unfold D.asT1 at h; split at h <;> cases h
theorem asT2_x (x : D) (c : Str) : x.asT2 ≠ .exc c := by intro h; unfold D.asT2 at h; split at h <;> cases h
theorem asT3_x (x : D) (c : Str) : x.asT3 ≠ .exc c := by intro h; unfold D.asT3 at h; split at h <;> cases h
def D.lenR : D → Res Int
  | .tup xs => .ok (xs.length : Int)
  | .lst xs => .ok (xs.length : Int)
  | _ => .stuck
section
variable {K : PySem.W.Frag} {W : WX} {F0 H0 F H F' H' F1 : Hp} {rt : VK} {PT : En → Prop} {env env' : En} {α β γ τ : Type} [ToD α] [ToD β] [ToD γ] [ToD τ] {KP : Res τ → Prop} {te ta tb tc : TE} {tt : TT} {Z : Ends} {t u : TS} {T : L2.St → Hp → Prop} {σ : L2.St}
theorem ev_castG {m : Res α} {f : α → Res β} (hf : ∀ x y, f x = .ok y → toD y = toD x) (hx : ∀ x c, f x ≠ .exc c) (h : EvX K W env te m) : EvX K W env te (m.bind f) := fun F0 H0 F H σ Q S k => by
  refine h F0 H0 F H σ _ S ?_
  cases m with
  | ok x =>
    intro v F1 H1 a r
    have k : KE K W F H σ Q (f x) := k
    cases e : f x with
    | ok y => rw [e] at k; exact k v F1 H1 a (by rw [hf x y e]; exact r)
    | exc c => exact absurd e (hx x c)
    | stuck => rw [e] at k; exact k.elim
  | exc c => exact k
  | stuck => exact k.elim
theorem ev_lenD {m : Res D} (h : EvX K W env te m) : EvX K W env (tCB (rLenS K) (tCons te tNil)) (m.bind fun x => D.lenR x) := fun F0 H0 F H σ Q S k => by
  refine h F0 H0 F H σ _ S (KE.cut S.ex k fun x v F1 H1 e1 a1 r1 k1 => ?_)
  have k1 : KE K W F1 H1 σ Q (D.lenR x) := k1
  cases x with
  | tup xs =>
    obtain ⟨a, vs, rfl, h2, h3⟩ := r1
    refine ⟨a, vs, rfl, .inr (Evl.ex_t a1.in_ h2), ?_⟩
    have := k1 (.int xs.length) F1 H1 (Adv.refl a1.in_) rfl
    rw [← h3.length]; exact this
  | lst xs =>
    obtain ⟨a, vs, rfl, h2, h3⟩ := r1
    refine ⟨a, vs, rfl, .inl (sq_ex a1.in_ h2), ?_⟩
    have := k1 (.int xs.length) F1 H1 (Adv.refl a1.in_) rfl
    rw [← h3.length]; exact this
  | _ => exact k1.elim
theorem cx_lenTu : CrX K (rLenS K) (fun (p : Tu α × Unit) => .ok (p.1.xs.length : Int)) := fun F H x vs Q e r k => by
  obtain ⟨v, rs, rfl, r1, r2⟩ := r
  cases (show rs = [] from r2)
  obtain ⟨a, ws, rfl, h2, h3⟩ := r1
  refine ⟨a, ws, rfl, .inr (Evl.ex_t e h2), ?_⟩
  have := k (.int x.1.xs.length) F H (Adv.refl e) rfl
  rw [← h3.length, List.length_map]; exact this
end
end Mi
set_option maxHeartbeats 1000000
namespace Mi
open PySem PySem.Spec L2
open Evl (Ex)
def CPowX (i j : Int) : Prop := 0 ≤ j ∧ (Builtin.Int.intBits i : Int) * j ≤ 2 ^ 27
theorem op_powX {X : Cx} : OpR X (binaryOp .Pow) (rI CPowX fun i j => .int (i ^ j.toNat)) := opI fun _ _ _ _ _ _ _ hc q => PyProof.Rows.pow_int hc.1 hc.2 q
end Mi
namespace Mi
open PySem PySem.Spec L2
/-- a promise of nothing -/
theorem fnok_stuck {P : Program} {w : World} {K : PySem.W.Frag} {mg : Str → Option Value} {base : Heap} {k : Nat} {f : Addr} {fd : FuncData} {ps : List Str} {β τ : Type} [ToDs β] [ToD τ] (fM : β → Res τ) (h : ∀ y, fM y = .stuck) : FnOk P w K mg base (L2.CX P w) k f fd ps (spM K fM) := by
  have no : ∀ vs H Q E, ¬ spM K fM vs H Q E := by
    rintro vs H Q E ⟨F, x, _, _, q⟩
    rw [h x] at q
    exact q
  exact ⟨fun vs H Q E q => absurd q (no _ _ _ _), fun A outer s H args us vs Q E _ _ _ _ q => absurd q (no _ _ _ _)⟩
end Mi
set_option maxHeartbeats 1000000
namespace Mi
open PySem PySem.Spec L2
open Evl (Ex)
structure T7 (α β γ δ ε ζ η : Type) where
  a : α
  b : β
  c : γ
  e : δ
  f : ε
  g : ζ
  h : η
instance {α β γ δ ε ζ η : Type} [ToD α] [ToD β] [ToD γ] [ToD δ] [ToD ε] [ToD ζ] [ToD η] : ToD (T7 α β γ δ ε ζ η) := ⟨fun x => .tup [ToD.d x.a, ToD.d x.b, ToD.d x.c, ToD.d x.e, ToD.d x.f, ToD.d x.g, ToD.d x.h]⟩

/-! ### the module's constants -/
def tupB (K : PySem.W.Frag) (a : Addr) : Option (List Value) := match K.lookup a with
  | some o => match o.data with
    | .seq its n => if o.cls = .type "tuple" ∧ its.size ≤ sizeLine then some its.toList else none
    | _ => none
  | none => none
mutual
def repB (K : PySem.W.Frag) : D → Value → Bool
  | .non, u => decide (u = .none)
  | .bl b, u => decide (u = .bool b)
  | .int i, .int j _ => decide (j = i)
  | .str s, .str z _ => decide (z = s)
  | .ty n, u => decide (u = .type n)
  | .tup ds, .ref a => (match tupB K a with
    | some us => repsB K ds us
    | none => false)
  | _, _ => false
def repsB (K : PySem.W.Frag) : List D → List Value → Bool
  | [], us => us.isEmpty
  | d :: ds, u :: us => repB K d u && repsB K ds us
  | _ :: _, [] => false
end
theorem tupB_ok {K : PySem.W.Frag} {a : Addr} {us : List Value} (h : tupB K a = some us) {xs : List V} (r : Vals xs us) (F : Hp) : SqT K F a xs := by
  unfold tupB at h
  split at h
  · rename_i o e
    split at h
    · rename_i its n ed
      split at h
      · rename_i hc
        cases h
        exact .inr ⟨o, its, n, e, hc.1, ed, hc.2, r⟩
      · cases h
    · cases h
  · cases h
mutual
theorem repB_ok {K : PySem.W.Frag} : ∀ (d : D) (u : Value), repB K d u = true → ∃ v, RelV v u ∧ ∀ F, Rep K F d v
  | .non, u, h => ⟨.non, (of_decide_eq_true (show decide (u = Value.none) = true from h) : u = Value.none), fun _ => rfl⟩
  | .bl b, u, h => ⟨.bl b, (of_decide_eq_true (show decide (u = Value.bool b) = true from h) : u = Value.bool b), fun _ => rfl⟩
  | .ty n, u, h => ⟨.ty n, (of_decide_eq_true (show decide (u = Value.type n) = true from h) : u = Value.type n), fun _ => rfl⟩
  | .int i, u, h => by
    cases u with
    | int j t => exact ⟨.int i, ⟨t, by rw [of_decide_eq_true (show decide (j = i) = true from h)]⟩, fun _ => rfl⟩
    | _ => cases h
  | .str s, u, h => by
    cases u with
    | str z t => exact ⟨.str s, ⟨t, by rw [of_decide_eq_true (show decide (z = s) = true from h)]⟩, fun _ => rfl⟩
    | _ => cases h
  | .tup ds, u, h => by
    cases u with
    | ref a =>
      rw [repB] at h
      split at h
      · rename_i us e
        obtain ⟨xs, r, hr⟩ := repsB_ok ds us h
        exact ⟨.ref a, rfl, fun F => ⟨a, xs, rfl, tupB_ok e r F, hr F⟩⟩
      · cases h
    | _ => cases h
  | .lst ds, u, h => by cases u <;> cases h
  | .obj c ks ds, u, h => by cases u <;> cases h
  | .ro ds, u, h => by cases u <;> cases h
  | .dct ks ds, u, h => by cases u <;> cases h
theorem repsB_ok {K : PySem.W.Frag} : ∀ (ds : List D) (us : List Value), repsB K ds us = true → ∃ xs, Vals xs us ∧ ∀ F, Reps K F ds xs
  | [], us, h => by
    cases us with
    | nil => exact ⟨[], .nil, fun _ => rfl⟩
    | cons u us => cases h
  | d :: ds, us, h => by
    cases us with
    | nil => cases h
    | cons u us =>
      rw [repsB] at h
      obtain ⟨h1, h2⟩ := He.ba h
      obtain ⟨v, r, hv⟩ := repB_ok d u h1
      obtain ⟨xs, rs, hx⟩ := repsB_ok ds us h2
      exact ⟨v :: xs, .cons r rs, fun F => ⟨v, xs, rfl, hv F, hx F⟩⟩
end
def conB (K : PySem.W.Frag) (cs : List (Str × D)) : Bool := cs.all fun c => match PySem.W.nsIn K mainGlobals c.1 with
  | some (some u) => repB K c.2 u
  | _ => false
/-- a name of the module that stands for data -/
def ConF (K : PySem.W.Frag) (mg : Str → Option Value) (x : Str) (d : D) : Prop := ∃ u v, mg x = some u ∧ RelV v u ∧ ∀ F, Rep K F d v
theorem con_of {K : PySem.W.Frag} {h : Heap} {mg : Str → Option Value} {cs : List (Str × D)} (X : K.In h) (G : h.Ns mainGlobals mg) (c : conB K cs = true) {x : Str} {d : D} (m : (x, d) ∈ cs) : ConF K mg x d := by
  have q := List.all_eq_true.mp c _ m
  dsimp only at q
  split at q
  · rename_i u e
    obtain ⟨v, r, hv⟩ := repB_ok d u q
    exact ⟨u, v, PySem.W.mg_of X G e, r, hv⟩
  · cases q
section
variable {K : PySem.W.Frag} {mg : Str → Option Value} {x : Str} {d : D}
noncomputable def ConF.u (h : ConF K mg x d) : Value := h.choose
noncomputable def ConF.v (h : ConF K mg x d) : V := h.choose_spec.choose
theorem ConF.m (h : ConF K mg x d) : mg x = some h.u := h.choose_spec.choose_spec.1
theorem ConF.r (h : ConF K mg x d) : RelV h.v h.u := h.choose_spec.choose_spec.2.1
theorem ConF.p (h : ConF K mg x d) (F : Hp) : Rep K F d h.v := h.choose_spec.choose_spec.2.2 F
theorem ev_con {α : Type} [ToD α] {W : WX} {env : En} {z : α} (h : ConF K mg x (toD z)) : EvX K W env (tC h.v) (.ok z) := fun F0 H0 F H σ Q S k => k _ F H (Adv.refl S.ex) (h.p F)
end
/-! ### is True, is False -/
theorem opx_isB {K : PySem.W.Frag} : OpX K rIsB (fun (i j : Bool) => .ok (decide (i = j))) := fun F H x y v u Q e h1 h2 k => by
  cases (show v = V.bl x from h1); cases (show u = V.bl y from h2)
  exact ⟨x, y, rfl, rfl, k _ F H (Adv.refl e) rfl⟩
theorem opx_notB {K : PySem.W.Frag} : OpX K rNotB (fun (i j : Bool) => .ok (!decide (i = j))) := fun F H x y v u Q e h1 h2 k => by
  cases (show v = V.bl x from h1); cases (show u = V.bl y from h2)
  exact ⟨x, y, rfl, rfl, k _ F H (Adv.refl e) rfl⟩
theorem ev_isET3 {K : PySem.W.Frag} {W : WX} {env : En} {cs : List Str} {sub : Str → Str → Bool} {c x y z : Str} {i : Nat} {a : Addr} (C : Cls K cs sub) (hc : c ∈ cs) (hx : x ∈ cs) (hy : y ∈ cs) (hz : z ∈ cs) (h : env[i]? = some (some (.raw (.ref a)))) :
    EvX K W env (tCB (rIsET K a (.ref (He.ga K c)) none) (tCons (tVar i) (tCons (tTup (tCons (tC (.ref (He.ga K x))) (tCons (tC (.ref (He.ga K y))) (tCons (tC (.ref (He.ga K z))) tNil)))) tNil))) (.ok ([x, y, z].any (sub c))) := fun F0 H0 F H σ Q S k => by
  obtain ⟨v, e, q⟩ := S.slot i _ h
  cases (show v = V.ref a from q)
  refine ⟨_, e, by show 3 ≤ sizeLine; decide, fun p hp => ?_⟩
  have a2 : Adv F H (upd F p (.tup [.ref (He.ga K x), .ref (He.ga K y), .ref (He.ga K z)])) (upd H p (.tup [.ref (He.ga K x), .ref (He.ga K y), .ref (He.ga K z)])) := Adv.new S.ex hp
  refine ⟨He.ga K c, p, [.ref (He.ga K x), .ref (He.ga K y), .ref (He.ga K z)], [.ref (He.ga K x), .ref (He.ga K y), .ref (He.ga K z)], [x, y, z].any (sub c), rfl, rfl, C.exc c hc, rfl, upd_same, (.cons (.own _) (.cons (.own _) (.cons (.own _) .nil))), ?_, k _ _ _ a2 rfl⟩
  exact kit_any C hc (xs := [x, y, z]) (by simp [hx, hy, hz])
theorem ev_isET4 {K : PySem.W.Frag} {W : WX} {env : En} {cs : List Str} {sub : Str → Str → Bool} {c x y z w : Str} {i : Nat} {a : Addr} (C : Cls K cs sub) (hc : c ∈ cs) (hx : x ∈ cs) (hy : y ∈ cs) (hz : z ∈ cs) (hw : w ∈ cs) (h : env[i]? = some (some (.raw (.ref a)))) :
    EvX K W env (tCB (rIsET K a (.ref (He.ga K c)) none) (tCons (tVar i) (tCons (tTup (tCons (tC (.ref (He.ga K x))) (tCons (tC (.ref (He.ga K y))) (tCons (tC (.ref (He.ga K z))) (tCons (tC (.ref (He.ga K w))) tNil))))) tNil))) (.ok ([x, y, z, w].any (sub c))) := fun F0 H0 F H σ Q S k => by
  obtain ⟨v, e, q⟩ := S.slot i _ h
  cases (show v = V.ref a from q)
  refine ⟨_, e, by show 4 ≤ sizeLine; decide, fun p hp => ?_⟩
  have a2 : Adv F H (upd F p (.tup [.ref (He.ga K x), .ref (He.ga K y), .ref (He.ga K z), .ref (He.ga K w)])) (upd H p (.tup [.ref (He.ga K x), .ref (He.ga K y), .ref (He.ga K z), .ref (He.ga K w)])) := Adv.new S.ex hp
  refine ⟨He.ga K c, p, [.ref (He.ga K x), .ref (He.ga K y), .ref (He.ga K z), .ref (He.ga K w)], [.ref (He.ga K x), .ref (He.ga K y), .ref (He.ga K z), .ref (He.ga K w)], [x, y, z, w].any (sub c), rfl, rfl, C.exc c hc, rfl, upd_same, (.cons (.own _) (.cons (.own _) (.cons (.own _) (.cons (.own _) .nil)))), ?_, k _ _ _ a2 rfl⟩
  exact kit_any C hc (xs := [x, y, z, w]) (by simp [hx, hy, hz, hw])
/-! ### lists that are only read -/
section
variable {K : PySem.W.Frag} {W : WX} {F0 H0 F H F' H' F1 : Hp} {env : En} {α β γ : Type} [ToD α] [ToD β] [ToD γ] {te ta tb : TE}
theorem opx_ixR : OpX K (rIxL K) (fun (xs : Ro α) (i : Int) => idx xs.xs i) := fun F H xs i v u Q e h1 h2 k => by
  obtain ⟨a, vs, rfl, hl, hr⟩ := h1
  cases (show u = V.int i from h2)
  dsimp only [idx] at k
  cases q : atI xs.xs i with
  | none => rw [q] at k; exact k.elim
  | some x =>
    rw [q] at k
    obtain ⟨w, hw, rw_⟩ := Reps.at (i := i) hr (x := toD x) (by rw [atI_map, q]; rfl)
    exact ⟨a, vs, i, w, rfl, rfl, Evl.ex_l e hl, hw, k _ F H (Adv.refl e) rw_⟩
theorem cx_lenRo : CrX K (rLenS K) (fun (p : Ro α × Unit) => .ok (p.1.xs.length : Int)) := fun F H x vs Q e r k => by
  obtain ⟨v, rs, rfl, r1, r2⟩ := r
  cases (show rs = [] from r2)
  obtain ⟨a, ws, rfl, hl, hr⟩ := r1
  refine ⟨a, ws, rfl, .inl (Evl.ex_l e hl), ?_⟩
  have := k (.int (x.1.xs.length : Int)) F H (Adv.refl e) rfl
  have l := hr.length
  rw [List.length_map] at l
  rw [← l]; exact this
theorem ei_ro {m : Res (Ro α)} (h : EvX K W env te m) : EvI K W env (iList K te) (m.bind fun x => .ok x.xs) := fun F0 H0 F H σ R S k => by
  refine h F0 H0 F H σ _ S ?_
  cases m with
  | ok x =>
    intro v F1 H1 a r
    obtain ⟨p, vs, rfl, h1, h2⟩ := r
    exact ⟨p, rfl, ⟨vs, Evl.ex_l a.in_ h1⟩, k _ F1 H1 a (js_list h1 h2)⟩
  | exc c => exact k
  | stuck => exact k.elim
theorem en_listR {m : Res (Ro α)} (h : EvX K W env te m) : EvN K W env (tCB (fun xs H Q => ∃ p ys, xs = [V.ref p] ∧ (SqL K H p ys ∨ SqT K H p ys) ∧ ∀ l, H l = none → Q (.ref l) (upd H l (.lst ys))) (tCons te tNil)) (m.bind fun x => .ok x.xs) := fun F0 H0 F H σ Q S k => by
  refine h F0 H0 F H σ _ S ?_
  cases m with
  | ok x =>
    intro v F1 H1 a r
    obtain ⟨p, vs, rfl, h1, h2⟩ := r
    exact ⟨p, vs, rfl, .inl (Evl.ex_l a.in_ h1), fun l hl => k l vs F1 _ (a.trans (Adv.newO a.in_ hl)) (Evl.fresh_back a.h hl) (none_of_ex a.in_ hl) upd_same h2⟩
  | exc c => exact k
  | stuck => exact k.elim
/-! ### joined and repeated lists -/
theorem en_cat {m1 m2 : Res (List α)} (ha : EvX K W env ta m1) (hb : EvX K W env tb m2) : EvN K W env (tOp rCat ta tb) (m1.bind fun x => m2.bind fun y => .need (x.length + y.length ≤ 16777216) (.ok (x ++ y))) := fun F0 H0 F H σ Q S k => by
  refine ha F0 H0 F H σ _ S ?_
  cases m1 with
  | ok x =>
    intro v F1 H1 a1 r1
    refine hb F0 H0 F1 H1 σ _ (S.step a1) ?_
    cases m2 with
    | ok y =>
      intro u F2 H2 a2 r2
      have k : KN K W F H σ Q (Res.need (x.length + y.length ≤ 16777216) (.ok (x ++ y))) := k
      by_cases c : x.length + y.length ≤ 16777216
      · rw [Res.need_pos c] at k
        obtain ⟨p, vs, rfl, h1, h2⟩ := r1
        obtain ⟨q, ws, rfl, g1, g2⟩ := r2
        have l1 := h2.length
        have l2 := g2.length
        rw [List.length_map] at l1 l2
        refine ⟨p, q, vs, ws, rfl, rfl, a2.h _ _ (a1.in_ _ _ h1), a2.in_ _ _ g1, ?_, fun z hz => ?_⟩
        · rw [← l1, ← l2]; exact c
        · refine k z (vs ++ ws) F2 _ ((a1.trans a2).trans (Adv.newO a2.in_ hz)) (Evl.fresh_back (a1.trans a2).h hz) (none_of_ex a2.in_ hz) upd_same ?_
          rw [List.map_append]
          exact Reps.append (Reps.mono a2.f _ _ h2) g2
      · rw [Res.need_neg c] at k; exact k.elim
    | exc c => exact fun F2 H2 a2 => k F2 H2 (a1.trans a2)
    | stuck => exact k.elim
  | exc c => exact k
  | stuck => exact k.elim
theorem Reps.flat {xs : List D} {vs : List V} (h : Reps K F xs vs) : ∀ n : Nat, Reps K F (List.replicate n xs).flatten (List.replicate n vs).flatten
  | 0 => rfl
  | n + 1 => by
    rw [List.replicate_succ, List.replicate_succ, List.flatten_cons, List.flatten_cons]
    exact Reps.append h (Reps.flat h n)
def RepOk (n : Nat) (k : Int) : Prop := -(2 ^ 63) ≤ k ∧ k < 2 ^ 63 ∧ n * k.toNat ≤ 16777216
theorem en_rep {m1 : Res (List α)} {m2 : Res Int} (ha : EvX K W env ta m1) (hb : EvX K W env tb m2) : EvN K W env (tOp rRep ta tb) (m1.bind fun x => m2.bind fun y => .need (RepOk x.length y) (.ok (List.replicate y.toNat x).flatten)) := fun F0 H0 F H σ Q S k => by
  refine ha F0 H0 F H σ _ S ?_
  cases m1 with
  | ok x =>
    intro v F1 H1 a1 r1
    refine hb F0 H0 F1 H1 σ _ (S.step a1) ?_
    cases m2 with
    | ok y =>
      intro u F2 H2 a2 r2
      have k : KN K W F H σ Q (Res.need (RepOk x.length y) (.ok (List.replicate y.toNat x).flatten)) := k
      by_cases c : RepOk x.length y
      · rw [Res.need_pos c] at k
        obtain ⟨p, vs, rfl, h1, h2⟩ := r1
        cases (show u = V.int y from r2)
        have l1 := h2.length
        rw [List.length_map] at l1
        refine ⟨p, y, vs, rfl, rfl, a2.h _ _ (a1.in_ _ _ h1), c.1, c.2.1, ?_, fun z hz => ?_⟩
        · rw [← l1]; exact c.2.2
        · refine k z _ F2 _ ((a1.trans a2).trans (Adv.newO a2.in_ hz)) (Evl.fresh_back (a1.trans a2).h hz) (none_of_ex a2.in_ hz) upd_same ?_
          have := Reps.flat h2 y.toNat
          rw [List.map_flatten, List.map_replicate]
          exact Reps.mono a2.f _ _ this
      · rw [Res.need_neg c] at k; exact k.elim
    | exc c => exact fun F2 H2 a2 => k F2 H2 (a1.trans a2)
    | stuck => exact k.elim
  | exc c => exact k
  | stuck => exact k.elim
theorem rep1 {α : Type} (x : α) (n : Nat) : (List.replicate n [x]).flatten = List.replicate n x := by
  induction n with
  | zero => rfl
  | succ n ih => rw [List.replicate_succ, List.flatten_cons, ih, List.replicate_succ]; rfl
end
end Mi
set_option maxHeartbeats 1000000
namespace Mi
open PySem PySem.Spec L2 PyProof.Rows
open Evl (Ex)
/-! ### xs[i] += e -/
def rGetL : V → V → Hp → VK → Prop := fun o i H Q => ∃ p xs k v, o = .ref p ∧ i = .int k ∧ H p = some (.lst xs) ∧ 0 ≤ k ∧ xs[k.toNat]? = some v ∧ Q v H
theorem pget_list {X : Cx} : PGet X rGetL := by
  intro pins s σ H o i ov iv Q I ro ri h
  obtain ⟨p, xs, k, z, rfl, rfl, hp, h0, hz, q⟩ := h
  cases ro
  obtain ⟨t, rfl⟩ := ri
  obtain ⟨its, r, pl, hs⟩ := I.list (show SqL X.K H p xs from Or.inl (Or.inl hp))
  obtain ⟨w, ew, rw'⟩ := r.get hz
  have hl := r.length
  have hn := line63
  have hlt : k.toNat < xs.length := (List.getElem?_eq_some_iff.mp hz).1
  exact getItem_listL pl.isList h0 (by omega) ew ⟨z, H, I, rw', q⟩
section
variable {K : PySem.W.Frag} {W : WX} {F0 H0 F H F' H' F1 : Hp} {rt : VK} {PT : En → Prop} {env env' : En} {τ : Type} [ToD τ] {KP : Res τ → Prop} {te ta tb tc : TE} {Z : Ends}
theorem blk_augI {i : Nat} {xs : List Int} {m mi : Res Int} {f : List Int → Res τ} {g : Int → Int → Int} (L : Lk K W F0 H0 rt PT KP) (hT : PT env) (hx : env[i]? = some (some (.ow (xs.map toD)))) (hi : EvX K W env tb mi) (he : EvX K W env te m)
    (k : ∀ ys : List Int, Blk K F0 H0 KP Z.nx (env.set i (some (.ow (ys.map toD)))) (f ys)) :
    Blk K F0 H0 KP (tAugS (tVar i) tb te rGetL (ipI g) rSetL Z) env (mi.bind fun j => .need (0 ≤ j) (match xs[j.toNat]? with | some x => m.bind fun y => f (xs.set j.toNat (g x y)) | none => .stuck)) := fun F H σ S h => by
  obtain ⟨v, e, p, vs, rfl, h0, hf, hp, hr⟩ := S.slot i _ hx
  refine ⟨_, e, ?_⟩
  refine hi F0 H0 F H σ _ S (L.ke hT S h fun j w F1 H1 e1 a1 r1 h1 => ?_)
  cases (show w = V.int j from r1)
  have hl : vs.length = xs.length := by rw [← hr.length, List.length_map]
  by_cases c : 0 ≤ j
  · rw [Res.need_pos c] at h1
    cases q : xs[j.toNat]? with
    | none => rw [q] at h1; exact (L.no h1).elim
    | some x =>
      rw [q] at h1
      have hr1 := Reps.mono a1.f _ _ hr
      obtain ⟨z, hz, rz⟩ := Reps.get hr1 (i := j.toNat) (e := D.int x) (by rw [List.getElem?_map, q]; rfl)
      cases (show z = V.int x from rz)
      refine ⟨p, vs, j, _, rfl, rfl, a1.h _ _ hp, c, hz, ?_⟩
      refine he F0 H0 F1 H1 σ _ (S.step a1) (L.ke hT (S.step a1) h1 fun y u F2 H2 e2 a2 r2 h2 => ?_)
      cases (show u = V.int y from r2)
      have ha := a1.trans a2
      have hj : ixN vs.length j = some j.toNat := by
        have := (List.getElem?_eq_some_iff.mp q).1
        unfold ixN
        rw [if_pos c, if_pos (by rw [hl]; omega)]
      refine ⟨x, y, rfl, rfl, p, vs, j, j.toNat, rfl, rfl, ha.h _ _ hp, hj, ?_⟩
      refine k (xs.set j.toNat (g x y)) F2 _ σ ((S.step ha).chg hx e (ha.out p hf (by rw [hp]; simp)) h0 ?_) h2
      rw [List.map_set]
      exact Reps.set j.toNat (Reps.mono ha.f _ _ hr) rfl
  · rw [Res.need_neg c] at h1; exact (L.no h1).elim
end
theorem cr_fld {X : Cx} {K : PySem.W.Frag} {e : Expr} {ta : TE} {f : Str} {pos : Pos} (h : X.K = K) (he : PE X e ta) (hb : attributeBase e f X.env (eval e X.env) = eval e X.env) : PE X (.Attribute e f pos) (tFld K ta f) := by
  subst h; exact pe_fld he hb
end Mi
set_option maxHeartbeats 1000000
namespace Mi
open PySem PySem.Spec L2
open Evl (Ex)
section
variable {K : PySem.W.Frag}
/-! ### x in a list or tuple of ints, of texts -/
theorem flat_intV : ∀ ns : List Int, (ns.map V.int).all flatV = true
  | [] => rfl
  | n :: ns => by rw [List.map_cons, List.all_cons, flat_intV ns]; rfl
theorem flat_strV : ∀ ns : List Str, (ns.map V.str).all flatV = true
  | [] => rfl
  | n :: ns => by rw [List.map_cons, List.all_cons, flat_strV ns]; rfl
theorem in_intV (x : Int) : ∀ ns : List Int, inV (.int x) (ns.map V.int) = decide (x ∈ ns)
  | [] => by simp [inV]
  | n :: ns => by
    have ih := in_intV x ns
    unfold inV at ih ⊢
    rw [List.map_cons, List.any_cons, ih]
    by_cases h : x = n
    · subst h; simp [eqV]
    · have : (n == x) = false := by simp; exact fun z => h z.symm
      simp [eqV, h, this]
theorem in_strV (x : Str) : ∀ ns : List Str, inV (.str x) (ns.map V.str) = decide (x ∈ ns)
  | [] => by simp [inV]
  | n :: ns => by
    have ih := in_strV x ns
    unfold inV at ih ⊢
    rw [List.map_cons, List.any_cons, ih]
    by_cases h : x = n
    · subst h; simp [eqV]
    · have : (n == x) = false := by simp; exact fun z => h z.symm
      simp [eqV, h, this]
/-- what holds items -/
class Holds (σ : Type) (α : Type) [ToD α] [ToD σ] where
  xs : σ → List α
  at_ : ∀ (K : PySem.W.Frag) (F H : Hp) (y : σ) (u : V), Ex F H → Rep K F (toD y) u → ∃ p vs, u = .ref p ∧ (SqL K H p vs ∨ SqT K H p vs) ∧ Reps K F ((xs y).map toD) vs
instance {α : Type} [ToD α] : Holds (List α) α := ⟨fun x => x, fun K F H y u e h => by
  obtain ⟨a, vs, rfl, hl, hr⟩ := h
  exact ⟨a, vs, rfl, .inl (sq_ex e hl), hr⟩⟩
instance {α : Type} [ToD α] : Holds (Ro α) α := ⟨fun x => x.xs, fun K F H y u e h => by
  obtain ⟨a, vs, rfl, hl, hr⟩ := h
  exact ⟨a, vs, rfl, .inl (Evl.ex_l e hl), hr⟩⟩
instance {α : Type} [ToD α] : Holds (Tu α) α := ⟨fun x => x.xs, fun K F H y u e h => by
  obtain ⟨a, vs, rfl, hl, hr⟩ := h
  exact ⟨a, vs, rfl, .inr (Evl.ex_t e hl), hr⟩⟩
theorem opx_inI {σ : Type} [ToD σ] [Hd : Holds σ Int] (neg : Bool) : OpX K (rIn K neg) (fun (x : Int) (ys : σ) => .ok (if neg then !decide (x ∈ Hd.xs ys) else decide (x ∈ Hd.xs ys))) := fun F H x y v u Q e h1 h2 k => by
  obtain ⟨p, vs, rfl, hq, hr⟩ := Hd.at_ K F H y u e h2
  cases (show v = V.int x from h1)
  have hr : Reps K F ((Hd.xs y).map D.int) vs := hr
  have q := hr.ints
  subst q
  refine ⟨p, _, rfl, hq, rfl, flat_intV _, ?_⟩
  rw [in_intV]
  exact k _ F H (Adv.refl e) rfl
theorem opx_inS {σ : Type} [ToD σ] [Hd : Holds σ Str] (neg : Bool) : OpX K (rIn K neg) (fun (x : Str) (ys : σ) => .ok (if neg then !decide (x ∈ Hd.xs ys) else decide (x ∈ Hd.xs ys))) := fun F H x y v u Q e h1 h2 k => by
  obtain ⟨p, vs, rfl, hq, hr⟩ := Hd.at_ K F H y u e h2
  cases (show v = V.str x from h1)
  have hr : Reps K F ((Hd.xs y).map D.str) vs := hr
  have q := hr.strs
  subst q
  refine ⟨p, _, rfl, hq, rfl, flat_strV _, ?_⟩
  rw [in_strV]
  exact k _ F H (Adv.refl e) rfl
end
end Mi
set_option maxHeartbeats 1000000
namespace Mi
open PySem PySem.Spec L2
/-! ### what follows, in plain mathematics -/
theorem need_bind {α β : Type} {p : Prop} (m : Res α) (f : α → Res β) : (Res.need p m).bind f = Res.need p (m.bind f) := by
  by_cases h : p
  · rw [Res.need_pos h, Res.need_pos h]
  · rw [Res.need_neg h, Res.need_neg h]; rfl
theorem cond_dec {α : Type} {p : Prop} [Decidable p] (a b : α) : cond (decide p) a b = if p then a else b := by
  by_cases h : p <;> simp [h]
theorem cond_not {α : Type} {p : Bool} (a b : α) : cond (!p) a b = cond p b a := by cases p <;> rfl
theorem ibits_le {i : Int} {n : Nat} (h : Builtin.Int.intBits i ≤ n) : i.natAbs < 2 ^ n := by
  unfold Builtin.Int.intBits at h
  split at h
  · rename_i h0
    have : i = 0 := by simpa using h0
    subst this
    exact Nat.two_pow_pos n
  · rename_i h0
    have hne : i.natAbs ≠ 0 := by
      intro z
      apply h0
      have : i = 0 := Int.natAbs_eq_zero.mp z
      simp [this]
    have h1 : i.natAbs.log2 < n := by omega
    exact (Nat.log2_lt hne).mp h1
theorem le_ibits {i : Int} {n : Nat} (h : i.natAbs < 2 ^ n) : Builtin.Int.intBits i ≤ n := by
  unfold Builtin.Int.intBits
  split
  · exact Nat.zero_le _
  · rename_i h0
    have hne : i.natAbs ≠ 0 := by
      intro z
      apply h0
      have : i = 0 := Int.natAbs_eq_zero.mp z
      simp [this]
    have := (Nat.log2_lt hne).mpr h
    omega
theorem cmulx {i j : Int} {a b : Nat} (ha : i.natAbs < 2 ^ a) (hb : j.natAbs < 2 ^ b) (h : a + b ≤ 134217728) : CMulX i j := mulx_ok ha hb h
theorem need_mulx {α : Type} {i j : Int} {m : Res α} {a b : Nat} (ha : i.natAbs < 2 ^ a) (hb : j.natAbs < 2 ^ b) (h : a + b ≤ 134217728) : Res.need (CMulX i j) m = m := Res.need_pos (cmulx ha hb h)
theorem pow_add_lt {x y a b : Nat} (ha : x < 2 ^ a) (hb : y < 2 ^ b) : x * y < 2 ^ (a + b) := by
  rw [Nat.pow_add]; exact Nat.mul_lt_mul'' ha hb
theorem idx_nat {α : Type} {xs : List α} {j : Nat} {v : α} (h : xs[j]? = some v) : idx xs (j : Int) = .ok v := by
  unfold idx; rw [atI_nat h]
theorem idx_int {α : Type} {xs : List α} {i : Int} {v : α} (h0 : 0 ≤ i) (h : xs[i.toNat]? = some v) : idx xs i = .ok v := by
  have : i = (i.toNat : Int) := by omega
  rw [this]; exact idx_nat h
theorem idx_last {α : Type} (xs : List α) (v : α) : idx (xs ++ [v]) (-1) = .ok v := by
  unfold idx; rw [atI_last]
theorem pow31 : ((2 : Int) ^ (31 : Int).toNat) = 2147483648 := by decide +kernel
theorem pow18 : ((10 : Int) ^ (18 : Int).toNat) = 1000000000000000000 := by decide +kernel
theorem m31_lt : (2147483648 : Int).natAbs < 2 ^ 32 := by decide +kernel
theorem compL_none {α β : Type} {t : α → Res Bool} {e : α → Res β} {xs : List α} (h : ∀ x ∈ xs, t x = .ok false) : compL t e xs = .ok [] := by
  induction xs with
  | nil => rfl
  | cons x r ih =>
    show (t x).bind _ = _
    rw [h x List.mem_cons_self]
    exact ih fun y hy => h y (List.mem_cons_of_mem _ hy)
theorem compL_map {α β : Type} {t : α → Res Bool} {e : α → Res β} {g : α → β} {xs : List α} (ht : ∀ x ∈ xs, t x = .ok true) (he : ∀ x ∈ xs, e x = .ok (g x)) : compL t e xs = .ok (xs.map g) := by
  induction xs with
  | nil => rfl
  | cons x r ih =>
    show (t x).bind _ = _
    rw [ht x List.mem_cons_self]
    show (e x).bind _ = _
    rw [he x List.mem_cons_self]
    show (compL t e r).bind _ = _
    rw [ih (fun y hy => ht y (List.mem_cons_of_mem _ hy)) fun y hy => he y (List.mem_cons_of_mem _ hy)]
    rfl
theorem bit1 (x : Int) : Builtin.bitAnd x 1 = x % 2 := by
  have := PySem.W.kbt_mask x 1
  simpa using this
theorem bind_ite {α β : Type} {p : Prop} [Decidable p] (a b : Res α) (f : α → Res β) : (if p then a else b).bind f = if p then a.bind f else b.bind f := by split <;> rfl
theorem idx_getLast {α : Type} {xs : List α} {v : α} (h : xs.getLast? = some v) : idx xs (-1) = .ok v := by
  obtain ⟨ys, rfl⟩ := List.getLast?_eq_some_iff.mp h
  exact idx_last ys v
/-! == of data -/
theorem pyEq_int (i j : Int) : pyEq (.int i) (.int j) = (i == j) := by simp [pyEq, D.py, PyData.eqv]
mutual
/-- no truth values within -/
def D.nob : D → Bool
  | .bl _ => false
  | .ty _ => false
  | .obj _ _ _ => false
  | .ro _ => false
  | .dct _ _ => false
  | .tup xs => nobL xs
  | .lst xs => nobL xs
  | _ => true
def nobL : List D → Bool
  | [] => true
  | x :: xs => D.nob x && nobL xs
end
mutual
theorem pyEq_iff : ∀ (x y : D), x.nob = true → y.nob = true → (PyData.eqv x.py y.py = true ↔ x = y)
  | .non, y, _, h => by cases y <;> simp_all [D.py, PyData.eqv, D.nob]
  | .int i, y, _, h => by cases y <;> simp_all [D.py, PyData.eqv, D.nob]
  | .str s, y, _, h => by cases y <;> simp_all [D.py, PyData.eqv, D.nob]
  | .bl b, y, h, _ => by cases h
  | .ty b, y, h, _ => by cases h
  | .obj a b c, y, h, _ => by cases h
  | .ro a, y, h, _ => by cases h
  | .dct a b, y, h, _ => by cases h
  | .tup xs, y, h1, h => by
    cases y with
    | tup ys =>
      have := pyEqL_iff xs ys h1 h
      simp only [D.py, PyData.eqv, D.tup.injEq]; exact this
    | bl b => cases h
    | ty b => cases h
    | obj a b c => cases h
    | ro a => cases h
    | dct a b => cases h
    | _ => simp [D.py, PyData.eqv]
  | .lst xs, y, h1, h => by
    cases y with
    | lst ys =>
      have := pyEqL_iff xs ys h1 h
      simp only [D.py, PyData.eqv, D.lst.injEq]; exact this
    | bl b => cases h
    | ty b => cases h
    | obj a b c => cases h
    | ro a => cases h
    | dct a b => cases h
    | _ => simp [D.py, PyData.eqv]
theorem pyEqL_iff : ∀ (xs ys : List D), nobL xs = true → nobL ys = true → (PyData.eqvAll (pyL xs) (pyL ys) = true ↔ xs = ys)
  | [], ys, _, h => by cases ys <;> simp [pyL, PyData.eqvAll]
  | x :: xs, ys, h1, h => by
    cases ys with
    | nil => simp [pyL, PyData.eqvAll]
    | cons y ys =>
      obtain ⟨a1, a2⟩ := Bool.and_eq_true_iff.mp (show (D.nob x && nobL xs) = true from h1)
      obtain ⟨b1, b2⟩ := Bool.and_eq_true_iff.mp (show (D.nob y && nobL ys) = true from h)
      simp only [pyL, PyData.eqvAll, Bool.and_eq_true, pyEq_iff x y a1 b1, pyEqL_iff xs ys a2 b2, List.cons.injEq]
end
theorem pyEq_dec {x y : D} (hx : x.nob = true) (hy : y.nob = true) : pyEq x y = true ↔ x = y := pyEq_iff x y hx hy
theorem pyEq_self {x : D} (hx : x.nob = true) : pyEq x x = true := (pyEq_dec hx hx).mpr rfl
theorem pyEq_ne {x y : D} (hx : x.nob = true) (hy : y.nob = true) (h : x ≠ y) : pyEq x y = false := by
  cases e : pyEq x y with
  | false => rfl
  | true => exact absurd ((pyEq_dec hx hy).mp e) h
theorem nob_ints : ∀ xs : List Int, nobL (xs.map D.int) = true
  | [] => rfl
  | _ :: xs => nob_ints xs
theorem nob_strs : ∀ xs : List Str, nobL (xs.map D.str) = true
  | [] => rfl
  | _ :: xs => nob_strs xs
theorem flat_ints : ∀ xs : List Int, flatL (xs.map D.int) = true
  | [] => rfl
  | _ :: xs => flat_ints xs
theorem lay_ints : ∀ xs : List Int, PyData.canLayAll0 (pyL (xs.map D.int)) = true
  | [] => rfl
  | _ :: xs => by show (true && _) = true; rw [lay_ints xs]; rfl
theorem dep_ints : ∀ xs : List Int, PyData.depthAll (pyL (xs.map D.int)) = 0
  | [] => rfl
  | _ :: xs => by show max 0 _ = 0; rw [dep_ints xs]; rfl
theorem okq_ints (xs : List Int) : (toD xs).okq = true := by
  show (flatL (xs.map D.int) && (PyData.canLayAll0 (pyL (xs.map D.int)) && decide (PyData.depthAll (pyL (xs.map D.int)) + 1 ≤ 64))) = true
  rw [flat_ints, lay_ints, dep_ints]; rfl
theorem toD_ints_inj {xs ys : List Int} (h : toD xs = toD ys) : xs = ys := by
  have h : xs.map D.int = ys.map D.int := D.lst.inj h
  exact List.map_inj_right (fun a b q => D.int.inj q) |>.mp h
theorem pyEq_ints (xs ys : List Int) : pyEq (toD xs) (toD ys) = decide (xs = ys) := by
  by_cases h : xs = ys
  · subst h; rw [pyEq_self (show (toD xs).nob = true from nob_ints xs)]; simp
  · rw [pyEq_ne (show (toD xs).nob = true from nob_ints xs) (show (toD ys).nob = true from nob_ints ys) fun e => h (toD_ints_inj e)]; simp [h]
theorem lmin_mem {es : List Int} (h : 0 < es.length) : lmin es ∈ es := by
  cases es with
  | nil => simp at h
  | cons x r =>
    rcases foldl_min_mem r x with q | q
    · show r.foldl min x ∈ x :: r
      rw [q]; exact List.mem_cons_self
    · exact List.mem_cons_of_mem _ q
theorem lmax_mem {es : List Int} (h : 0 < es.length) : lmax es ∈ es := by
  cases es with
  | nil => simp at h
  | cons x r =>
    rcases foldl_max_mem r x with q | q
    · show r.foldl max x ∈ x :: r
      rw [q]; exact List.mem_cons_self
    · exact List.mem_cons_of_mem _ q
theorem pyRange_drop {n i : Nat} (h : i < n) : (pyRange 0 (n : Int)).drop i = (i : Int) :: (pyRange 0 (n : Int)).drop (i + 1) := by
  have hl : (pyRange 0 (n : Int)).length = n := by rw [pyRange_len]; omega
  rw [List.drop_eq_getElem_cons (by omega)]
  congr 1
  have := pyRange_get (lo := 0) (hi := (n : Int)) (i := i) (by omega)
  rw [List.getElem?_eq_getElem (by omega)] at this
  have := Option.some.inj this
  omega
theorem pyRange_nonneg {k n : Int} (h : k ∈ pyRange 0 n) : 0 ≤ k := by
  obtain ⟨i, _, rfl⟩ := List.mem_map.mp h
  omega
theorem toD_D (x : D) : toD x = x := rfl
theorem okq_int (i : Int) : (toD (D.int i)).okq = true := rfl
theorem compL_get {α β : Type} (f : α → Res β) {xs : List α} {ys : List β} (h : xs.length = ys.length) (he : ∀ i (h1 : i < xs.length) (h2 : i < ys.length), f xs[i] = .ok ys[i]) : compL (fun _ => .ok true) f xs = .ok ys := by
  induction xs generalizing ys with
  | nil => cases ys with
    | nil => rfl
    | cons y r => simp at h
  | cons x xs ih =>
    cases ys with
    | nil => simp at h
    | cons y ys =>
      show (f x).bind _ = _
      rw [show f x = .ok y from he 0 (by simp) (by simp)]
      show (compL (fun _ => .ok true) f xs).bind _ = _
      rw [ih (by simpa using h) fun i h1 h2 => he (i + 1) (by simp; omega) (by simp; omega)]
      rfl
end Mi
set_option maxHeartbeats 1000000
namespace Mi
/-! ### primes -/
def IsP (n : Nat) : Prop := 2 ≤ n ∧ ∀ d, d ∣ n → d = 1 ∨ d = n
theorem IsP.cop {p a : Nat} (h : IsP p) (ha : ¬ p ∣ a) : Nat.Coprime p a := by
  rcases h.2 _ (Nat.gcd_dvd_left p a) with e | e
  · exact e
  · exact absurd (e ▸ Nat.gcd_dvd_right p a) ha
theorem IsP.dvd_mul {p a b : Nat} (h : IsP p) (hd : p ∣ a * b) : p ∣ a ∨ p ∣ b := by
  by_cases ha : p ∣ a
  · exact .inl ha
  · exact .inr ((h.cop ha).dvd_of_dvd_mul_left hd)
theorem IsP.dvd_pow {p a : Nat} (h : IsP p) : ∀ k, p ∣ a ^ k → p ∣ a
  | 0, hd => by
    rw [Nat.pow_zero] at hd
    have := Nat.le_of_dvd (by decide) hd
    have := h.1
    omega
  | k + 1, hd => by
    rw [Nat.pow_succ] at hd
    rcases h.dvd_mul hd with q | q
    · exact h.dvd_pow k q
    · exact q
def prodL (l : List Nat) : Nat := l.foldr (· * ·) 1
theorem prodL_perm {l m : List Nat} (h : l.Perm m) : prodL l = prodL m := by
  induction h with
  | nil => rfl
  | cons x _ ih => simp only [prodL, List.foldr_cons] at *; rw [ih]
  | swap x y l => simp only [prodL, List.foldr_cons]; rw [Nat.mul_left_comm]
  | trans _ _ h1 h2 => exact h1.trans h2
theorem perm_of_sub : ∀ (l L : List Nat), l.Nodup → (∀ x ∈ l, x ∈ L) → L.length ≤ l.length → l.Perm L := by
  intro l
  induction l with
  | nil =>
    intro L _ _ h
    have : L = [] := List.eq_nil_of_length_eq_zero (by simpa using h)
    subst this; exact List.Perm.nil
  | cons x r ih =>
    intro L hn hs hl
    obtain ⟨n1, n2⟩ := List.nodup_cons.mp hn
    have hx := hs x List.mem_cons_self
    have e := List.length_erase_of_mem hx
    have hp := List.length_pos_of_mem hx
    have q := ih (L.erase x) n2 (fun y hy => (List.mem_erase_of_ne (by intro z; subst z; exact n1 hy)).mpr (hs y (List.mem_cons_of_mem _ hy))) (by rw [e]; simp at hl; omega)
    exact (q.cons x).trans (List.perm_cons_erase hx).symm
theorem prod_mod (a p : Nat) : ∀ l : List Nat, prodL (l.map fun x => a * x % p) % p = a ^ l.length * prodL l % p := by
  intro l
  induction l with
  | nil => simp [prodL]
  | cons x r ih =>
    show (a * x % p) * prodL (r.map fun x => a * x % p) % p = a ^ (r.length + 1) * (x * prodL r) % p
    rw [Nat.mul_mod, ih, Nat.mod_mod, ← Nat.mul_mod]
    congr 1
    rw [Nat.pow_succ]
    ac_rfl
theorem prod_cop {p : Nat} (h : IsP p) : ∀ l : List Nat, (∀ x ∈ l, 0 < x ∧ x < p) → ¬ p ∣ prodL l := by
  intro l
  induction l with
  | nil =>
    intro _ hd
    have := Nat.le_of_dvd (by decide) hd
    have := h.1
    simp [prodL] at *; omega
  | cons x r ih =>
    intro hx hd
    rcases h.dvd_mul hd with q | q
    · have := hx x List.mem_cons_self
      have := Nat.le_of_dvd this.1 q
      omega
    · exact ih (fun y hy => hx y (List.mem_cons_of_mem _ hy)) q
theorem dvd_sub_of_mod {x y p : Nat} (h : y ≤ x) (e : x % p = y % p) : p ∣ x - y := Nat.dvd_of_mod_eq_zero (Nat.sub_mod_eq_zero_of_mod_eq e)
theorem inj_mod {p a x y : Nat} (h : IsP p) (ha : ¬ p ∣ a) (hx : x < p) (hy : y < p) (e : a * x % p = a * y % p) : x = y := by
  rcases Nat.le_total y x with q | q
  · have d := dvd_sub_of_mod (Nat.mul_le_mul_left a q) e
    rw [← Nat.mul_sub] at d
    rcases h.dvd_mul d with d | d
    · exact absurd d ha
    · have := Nat.eq_zero_of_dvd_of_lt d (by omega); omega
  · have d := dvd_sub_of_mod (Nat.mul_le_mul_left a q) e.symm
    rw [← Nat.mul_sub] at d
    rcases h.dvd_mul d with d | d
    · exact absurd d ha
    · have := Nat.eq_zero_of_dvd_of_lt d (by omega); omega
/-- Fermat -/
theorem fermat {p a : Nat} (h : IsP p) (ha : ¬ p ∣ a) : a ^ (p - 1) % p = 1 := by
  have h2 := h.1
  have hL : ∀ x ∈ List.range' 1 (p - 1), 0 < x ∧ x < p := fun x hx => by
    have := List.mem_range'_1.mp hx; omega
  have nd : (List.range' 1 (p - 1)).Nodup := List.nodup_range'
  have pm : ((List.range' 1 (p - 1)).map fun x => a * x % p).Perm (List.range' 1 (p - 1)) := by
    refine perm_of_sub _ _ ?_ ?_ (by simp)
    · refine List.pairwise_map.mpr (List.Pairwise.imp_of_mem (fun {x y} hx hy q e => q (inj_mod h ha (hL x hx).2 (hL y hy).2 e)) nd)
    · intro y hy
      obtain ⟨x, hx, rfl⟩ := List.mem_map.mp hy
      have q := hL x hx
      have lt := Nat.mod_lt (a * x) (show 0 < p by omega)
      refine List.mem_range'_1.mpr ⟨Nat.pos_of_ne_zero fun z => ?_, by omega⟩
      rcases h.dvd_mul (Nat.dvd_of_mod_eq_zero z) with d | d
      · exact ha d
      · have := Nat.le_of_dvd q.1 d; omega
  have e := prod_mod a p (List.range' 1 (p - 1))
  rw [prodL_perm pm, List.length_range'] at e
  have nc := prod_cop h _ hL
  generalize prodL (List.range' 1 (p - 1)) = P at *
  have hpos : 0 < a := Nat.pos_of_ne_zero fun z => ha (z ▸ Nat.dvd_zero p)
  have h1 : 1 ≤ a ^ (p - 1) := Nat.pow_pos hpos
  have d := dvd_sub_of_mod (x := a ^ (p - 1) * P) (y := P) (by
    have := Nat.mul_le_mul_right P h1; omega) e.symm
  have e3 : a ^ (p - 1) * P - P = (a ^ (p - 1) - 1) * P := by rw [Nat.sub_mul, Nat.one_mul]
  rw [e3] at d
  rcases h.dvd_mul d with d | d
  · obtain ⟨k, hk⟩ := d
    have : a ^ (p - 1) = 1 + p * k := by omega
    rw [this, Nat.add_mul_mod_self_left, Nat.mod_eq_of_lt (by omega)]
  · exact absurd d nc
theorem pow_mod_one {b m : Nat} (hm : 1 < m) {i : Nat} (h : b ^ i % m = 1) (k : Nat) : b ^ (i * k) % m = 1 := by
  rw [Nat.pow_mul, Nat.pow_mod, h, Nat.one_pow, Nat.mod_eq_of_lt hm]
theorem pow_gcd {b m : Nat} (hm : 1 < m) (i j : Nat) : b ^ i % m = 1 → b ^ j % m = 1 → b ^ Nat.gcd i j % m = 1 := by
  induction i, j using Nat.gcd.induction with
  | H0 n => intro _ h; rwa [Nat.gcd_zero_left]
  | H1 i j hi ih =>
    intro h1 h2
    rw [Nat.gcd_rec]
    refine ih ?_ h1
    have e := Nat.div_add_mod j i
    rw [← e, Nat.pow_add, Nat.mul_mod, pow_mod_one hm h1, Nat.one_mul, Nat.mod_mod] at h2
    exact h2
/-- every prime factor of n is 1 above a multiple of q -/
theorem pock {n a q : Nat} (hq : IsP q) (hd : q ∣ n - 1) (h1 : a ^ (n - 1) % n = 1) (hg : Nat.gcd (a ^ ((n - 1) / q) % n - 1) n = 1) (h0 : 0 < a ^ ((n - 1) / q) % n) {p : Nat} (hp : IsP p) (hpn : p ∣ n) : q ∣ p - 1 := by
  have p2 := hp.1
  have hb : (a ^ ((n - 1) / q)) ^ q % p = 1 := by
    rw [← Nat.pow_mul, Nat.div_mul_cancel hd, ← Nat.mod_mod_of_dvd _ hpn, h1, Nat.mod_eq_of_lt (by omega)]
  have hnd : ¬ p ∣ a ^ ((n - 1) / q) := fun d => by
    have : p ∣ (a ^ ((n - 1) / q)) ^ q := by
      have hq0 : q = (q - 1) + 1 := by have := hq.1; omega
      generalize a ^ ((n - 1) / q) = b at *
      rw [hq0, Nat.pow_succ]
      exact Nat.dvd_trans d (Nat.dvd_mul_left ..)
    rw [Nat.mod_eq_zero_of_dvd this] at hb; cases hb
  have f := fermat hp hnd
  have g := pow_gcd (by omega) q (p - 1) hb f
  rcases hq.2 _ (Nat.gcd_dvd_left q (p - 1)) with e | e
  · rw [e, Nat.pow_one] at g
    have d : p ∣ a ^ ((n - 1) / q) % n - 1 := by
      refine dvd_sub_of_mod (by omega) ?_
      rw [Nat.mod_mod_of_dvd _ hpn, g, Nat.mod_eq_of_lt (by omega)]
    have := Nat.dvd_gcd d hpn
    rw [hg] at this
    have := Nat.le_of_dvd (by decide) this
    omega
  · exact e ▸ Nat.gcd_dvd_right q (p - 1)
theorem has_prime : ∀ (n : Nat), 2 ≤ n → ∃ p, IsP p ∧ p ∣ n := by
  intro n
  induction n using Nat.strongRecOn with
  | ind n ih =>
    intro h
    by_cases hp : IsP n
    · exact ⟨n, hp, Nat.dvd_refl n⟩
    · have : ∃ d, d ∣ n ∧ d ≠ 1 ∧ d ≠ n := by
        refine Classical.byContradiction fun c => hp ⟨h, fun d hd => ?_⟩
        refine Classical.byContradiction fun e => c ⟨d, hd, fun z => e (.inl z), fun z => e (.inr z)⟩
      obtain ⟨d, hd, h1, h2⟩ := this
      have hle := Nat.le_of_dvd (by omega) hd
      have h0 : d ≠ 0 := fun z => by subst z; have := Nat.eq_zero_of_zero_dvd hd; omega
      obtain ⟨p, p1, p2⟩ := ih d (by omega) (by omega)
      exact ⟨p, p1, Nat.dvd_trans p2 hd⟩
/-- no prime factor up to the root: a prime -/
theorem isP_of {n : Nat} (h2 : 2 ≤ n) (h : ∀ p, IsP p → p ∣ n → n < p * p) : IsP n := by
  refine ⟨h2, fun d hd => Classical.byContradiction fun c => ?_⟩
  have hle := Nat.le_of_dvd (by omega) hd
  have h0 : d ≠ 0 := fun z => by subst z; have := Nat.eq_zero_of_zero_dvd hd; omega
  have h1 : d ≠ 1 := fun z => c (.inl z)
  have h3 : d ≠ n := fun z => c (.inr z)
  obtain ⟨e, rfl⟩ := hd
  have e2 : 2 ≤ e := by
    rcases (by omega : e = 0 ∨ e = 1 ∨ 2 ≤ e) with rfl | rfl | q
    · omega
    · omega
    · exact q
  obtain ⟨p, p1, p2⟩ := has_prime d (by omega)
  obtain ⟨q, q1, q2⟩ := has_prime e e2
  have a1 := h p p1 (Nat.dvd_trans p2 (Nat.dvd_mul_right d e))
  have a2 := h q q1 (Nat.dvd_trans q2 (Nat.dvd_mul_left e d))
  have b1 := Nat.le_of_dvd (by omega) p2
  have b2 := Nat.le_of_dvd (by omega) q2
  have b3 := Nat.mul_le_mul b1 b2
  rcases Nat.le_total p q with z | z
  · have := Nat.mul_le_mul_left p z; omega
  · have := Nat.mul_le_mul_right q z; omega
/-- the power's residue, as the kernel works it out -/
def pwm (n : Nat) : Nat → Nat → Nat → Nat → Nat
  | 0, _, _, acc => acc
  | f + 1, b, e, acc => pwm n f (b * b % n) (e / 2) (if e % 2 = 1 then acc * b % n else acc)
theorem pwm_eq (n : Nat) : ∀ (f b e acc : Nat), e < 2 ^ f → pwm n f b e acc % n = acc * b ^ e % n := by
  intro f
  induction f with
  | zero => intro b e acc h; have : e = 0 := by simpa using h
            subst this; simp [pwm]
  | succ f ih =>
    intro b e acc h
    rw [pwm, ih _ _ _ (by rw [Nat.pow_succ] at h; omega)]
    have e2 : b ^ e = (b * b) ^ (e / 2) * b ^ (e % 2) := by
      rw [← Nat.pow_two, ← Nat.pow_mul, ← Nat.pow_add, Nat.div_add_mod]
    rw [e2, Nat.mul_mod, ← Nat.pow_mod, ← Nat.mul_mod]
    rcases (by omega : e % 2 = 0 ∨ e % 2 = 1) with z | z
    · rw [z, if_neg (by decide), Nat.pow_zero, Nat.mul_one]
    · rw [z, if_pos rfl, Nat.pow_one, Nat.mul_mod, Nat.mod_mod, ← Nat.mul_mod]
      congr 1; ac_rfl
theorem pwm_one {n f b e : Nat} (h : e < 2 ^ f) : pwm n f b e 1 % n = b ^ e % n := by rw [pwm_eq n f b e 1 h, Nat.one_mul]
/-- one prime q of n - 1, by numbers -/
def pkOk (n a q f : Nat) : Bool := decide (q ∣ n - 1) && decide (n - 1 < 2 ^ f) && decide (pwm n f a (n - 1) 1 % n = 1) && decide (Nat.gcd (pwm n f a ((n - 1) / q) 1 % n - 1) n = 1) && decide (0 < pwm n f a ((n - 1) / q) 1 % n)
theorem pk_of {n a q f : Nat} (hq : IsP q) (h : pkOk n a q f = true) {p : Nat} (hp : IsP p) (hpn : p ∣ n) : q ∣ p - 1 := by
  simp only [pkOk, Bool.and_eq_true, decide_eq_true_eq] at h
  obtain ⟨⟨⟨⟨h1, h2⟩, h3⟩, h4⟩, h5⟩ := h
  have h6 : (n - 1) / q < 2 ^ f := Nat.lt_of_le_of_lt (Nat.div_le_self ..) h2
  rw [pwm_one h2] at h3
  rw [pwm_one h6] at h4 h5
  exact pock hq h1 h3 h4 h5 hp hpn
theorem small_prime {n : Nat} (h2 : 2 ≤ n) (h : ∀ d, 2 ≤ d → d * d ≤ n → ¬ d ∣ n) : IsP n :=
  isP_of h2 fun p hp hd => Nat.lt_of_not_le fun z => h p hp.1 z hd
def noDiv (n : Nat) : Nat → Nat → Bool
  | 0, _ => true
  | f + 1, d => !decide (n % d = 0) && noDiv n f (d + 1)
theorem noDiv_ok (n : Nat) : ∀ (f d : Nat), noDiv n f d = true → ∀ k, d ≤ k → k < d + f → ¬ k ∣ n
  | 0, d, _, k, h1, h2 => by omega
  | f + 1, d, h, k, h1, h2 => by
    rw [noDiv, Bool.and_eq_true] at h
    obtain ⟨a, b⟩ := h
    by_cases e : k = d
    · subst e
      intro z
      rw [Nat.mod_eq_zero_of_dvd z] at a
      simp at a
    · exact noDiv_ok n f (d + 1) b k (by omega) (by omega)
theorem prime_by {n f : Nat} (h2 : 2 ≤ n) (hf : n < (f + 2) * (f + 2)) (h : noDiv n f 2 = true) : IsP n :=
  small_prime h2 fun d h3 h4 h5 => noDiv_ok n f 2 h d h3 (Nat.lt_of_not_le fun z => by
    have := Nat.mul_le_mul z z
    rw [Nat.add_comm] at hf
    omega) h5
theorem IsP.eq_of_dvd {p q : Nat} (hp : IsP p) (hq : IsP q) (h : p ∣ q) : p = q := by
  rcases hq.2 p h with e | e
  · have := hp.1; omega
  · exact e
theorem IsP.dvd_prod {p : Nat} (h : IsP p) : ∀ l : List Nat, (∀ x ∈ l, IsP x) → p ∣ prodL l → p ∈ l := by
  intro l
  induction l with
  | nil =>
    intro _ hd
    have hd : p ∣ 1 := hd
    have := Nat.le_of_dvd (by decide) hd
    have := h.1
    omega
  | cons x r ih =>
    intro hx hd
    rcases h.dvd_mul hd with q | q
    · rw [h.eq_of_dvd (hx x List.mem_cons_self) q]; exact List.mem_cons_self
    · exact List.mem_cons_of_mem _ (ih (fun y hy => hx y (List.mem_cons_of_mem _ hy)) q)
theorem prod_dvd : ∀ (l : List Nat) (m : Nat), l.Nodup → (∀ x ∈ l, IsP x) → (∀ x ∈ l, x ∣ m) → prodL l ∣ m := by
  intro l
  induction l with
  | nil => intro m _ _ _; exact Nat.one_dvd m
  | cons x r ih =>
    intro m hn hp hd
    obtain ⟨n1, n2⟩ := List.nodup_cons.mp hn
    have hx := hp x List.mem_cons_self
    have hr := fun y hy => hp y (List.mem_cons_of_mem x hy)
    have c := hx.cop (fun z => n1 (hx.dvd_prod r hr z))
    exact Nat.Coprime.mul_dvd_of_dvd_of_dvd c (hd x List.mem_cons_self) (ih m n2 hr fun y hy => hd y (List.mem_cons_of_mem _ hy))
theorem isP_pock {n f : Nat} (h2 : 2 ≤ n) (qs : List (Nat × Nat)) (hp : ∀ x ∈ qs, IsP x.1) (hk : (qs.all fun x => pkOk n x.2 x.1 f) = true) (hd : (qs.map (·.1)).Nodup) (hF : n < (prodL (qs.map (·.1)) + 1) * (prodL (qs.map (·.1)) + 1)) : IsP n := by
  refine isP_of h2 fun p p1 p2 => ?_
  have d := prod_dvd (qs.map (·.1)) (p - 1) hd (fun x hx => by
    obtain ⟨y, hy, rfl⟩ := List.mem_map.mp hx
    exact hp y hy) (fun x hx => by
    obtain ⟨y, hy, rfl⟩ := List.mem_map.mp hx
    exact pk_of (hp y hy) (List.all_eq_true.mp hk y hy) p1 p2)
  have := p1.1
  have le := Nat.le_of_dvd (by omega) d
  have := Nat.mul_le_mul (show prodL (qs.map (·.1)) + 1 ≤ p by omega) (show prodL (qs.map (·.1)) + 1 ≤ p by omega)
  omega
theorem p61 : IsP 1321 ∧ IsP 331 ∧ IsP 151 ∧ IsP 61 := ⟨prime_by (f := 40) (by decide) (by decide) (by decide +kernel), prime_by (f := 40) (by decide) (by decide) (by decide +kernel), prime_by (f := 40) (by decide) (by decide) (by decide +kernel), prime_by (f := 40) (by decide) (by decide) (by decide +kernel)⟩
theorem prime_m61 : IsP 2305843009213693951 := isP_pock (f := 61) (by decide) [(1321, 3), (331, 3), (151, 3), (61, 2)] (by simp only [List.forall_mem_cons]; exact ⟨p61.1, p61.2.1, p61.2.2.1, p61.2.2.2, by simp⟩) (by decide +kernel) (by decide +kernel) (by decide +kernel)
theorem prime_m31 : IsP 2147483647 := isP_pock (f := 31) (by decide) [(331, 3), (151, 3)] (by simp only [List.forall_mem_cons]; exact ⟨p61.2.1, p61.2.2.1, by simp⟩) (by decide +kernel) (by decide +kernel) (by decide +kernel)
theorem pr_8574133 : IsP 8574133 := prime_by (f := 2928) (by decide) (by decide) (by decide +kernel)
theorem pr_127 : IsP 127 := prime_by (f := 11) (by decide) (by decide) (by decide +kernel)
theorem pr_1919519569386763 : IsP 1919519569386763 := isP_pock (f := 51) (by decide) [(8574133, 2), (127, 2)] (by simp only [List.forall_mem_cons]; exact ⟨pr_8574133, pr_127, by simp⟩) (by decide +kernel) (by decide +kernel) (by decide +kernel)
theorem pr_569003 : IsP 569003 := prime_by (f := 754) (by decide) (by decide) (by decide +kernel)
theorem pr_2773320623 : IsP 2773320623 := isP_pock (f := 32) (by decide) [(569003, 2)] (by simp only [List.forall_mem_cons]; exact ⟨pr_569003, by simp⟩) (by decide +kernel) (by decide +kernel) (by decide +kernel)
theorem pr_72106336199 : IsP 72106336199 := isP_pock (f := 37) (by decide) [(2773320623, 2)] (by simp only [List.forall_mem_cons]; exact ⟨pr_2773320623, by simp⟩) (by decide +kernel) (by decide +kernel) (by decide +kernel)
theorem pr_75445702479781427272750846543864801 : IsP 75445702479781427272750846543864801 := isP_pock (f := 116) (by decide) [(1919519569386763, 2), (72106336199, 2)] (by simp only [List.forall_mem_cons]; exact ⟨pr_1919519569386763, pr_72106336199, by simp⟩) (by decide +kernel) (by decide +kernel) (by decide +kernel)
theorem pr_430751 : IsP 430751 := prime_by (f := 656) (by decide) (by decide) (by decide +kernel)
theorem pr_4153 : IsP 4153 := prime_by (f := 64) (by decide) (by decide) (by decide +kernel)
theorem pr_31757755568855353 : IsP 31757755568855353 := isP_pock (f := 55) (by decide) [(430751, 2), (4153, 2)] (by simp only [List.forall_mem_cons]; exact ⟨pr_430751, pr_4153, by simp⟩) (by decide +kernel) (by decide +kernel) (by decide +kernel)
theorem pr_74058212732561358302231226437062788676166966415465897661863160754340907 : IsP 74058212732561358302231226437062788676166966415465897661863160754340907 := isP_pock (f := 236) (by decide) [(75445702479781427272750846543864801, 2), (31757755568855353, 2)] (by simp only [List.forall_mem_cons]; exact ⟨pr_75445702479781427272750846543864801, pr_31757755568855353, by simp⟩) (by decide +kernel) (by decide +kernel) (by decide +kernel)
theorem pr_57896044618658097711785492504343953926634992332820282019728792003956564819949 : IsP 57896044618658097711785492504343953926634992332820282019728792003956564819949 := isP_pock (f := 255) (by decide) [(74058212732561358302231226437062788676166966415465897661863160754340907, 2)] (by simp only [List.forall_mem_cons]; exact ⟨pr_74058212732561358302231226437062788676166966415465897661863160754340907, by simp⟩) (by decide +kernel) (by decide +kernel) (by decide +kernel)
theorem pr_53 : IsP 53 := prime_by (f := 7) (by decide) (by decide) (by decide +kernel)
theorem pr_29 : IsP 29 := prime_by (f := 5) (by decide) (by decide) (by decide +kernel)
theorem pr_7 : IsP 7 := prime_by (f := 2) (by decide) (by decide) (by decide +kernel)
theorem pr_107590001 : IsP 107590001 := isP_pock (f := 27) (by decide) [(53, 2), (29, 2), (7, 2)] (by simp only [List.forall_mem_cons]; exact ⟨pr_53, pr_29, pr_7, by simp⟩) (by decide +kernel) (by decide +kernel) (by decide +kernel)
theorem pr_7240687 : IsP 7240687 := prime_by (f := 2690) (by decide) (by decide) (by decide +kernel)
theorem pr_96557 : IsP 96557 := prime_by (f := 310) (by decide) (by decide) (by decide +kernel)
theorem pr_255515944373312847190720520512484175977 : IsP 255515944373312847190720520512484175977 := isP_pock (f := 128) (by decide) [(107590001, 2), (7240687, 2), (96557, 2)] (by simp only [List.forall_mem_cons]; exact ⟨pr_107590001, pr_7240687, pr_96557, by simp⟩) (by decide +kernel) (by decide +kernel) (by decide +kernel)
theorem pr_205115282021455665897114700593932402728804164701536103180137503955397371 : IsP 205115282021455665897114700593932402728804164701536103180137503955397371 := isP_pock (f := 237) (by decide) [(255515944373312847190720520512484175977, 2)] (by simp only [List.forall_mem_cons]; exact ⟨pr_255515944373312847190720520512484175977, by simp⟩) (by decide +kernel) (by decide +kernel) (by decide +kernel)
theorem pr_115792089237316195423570985008687907853269984665640564039457584007908834671663 : IsP 115792089237316195423570985008687907853269984665640564039457584007908834671663 := isP_pock (f := 256) (by decide) [(205115282021455665897114700593932402728804164701536103180137503955397371, 2)] (by simp only [List.forall_mem_cons]; exact ⟨pr_205115282021455665897114700593932402728804164701536103180137503955397371, by simp⟩) (by decide +kernel) (by decide +kernel) (by decide +kernel)
theorem pr_704251 : IsP 704251 := prime_by (f := 839) (by decide) (by decide) (by decide +kernel)
theorem pr_78283 : IsP 78283 := prime_by (f := 279) (by decide) (by decide) (by decide +kernel)
theorem pr_46076956964474543 : IsP 46076956964474543 := isP_pock (f := 56) (by decide) [(704251, 2), (78283, 2)] (by simp only [List.forall_mem_cons]; exact ⟨pr_704251, pr_78283, by simp⟩) (by decide +kernel) (by decide +kernel) (by decide +kernel)
theorem pr_3677 : IsP 3677 := prime_by (f := 60) (by decide) (by decide) (by decide +kernel)
theorem pr_197 : IsP 197 := prime_by (f := 14) (by decide) (by decide) (by decide +kernel)
theorem pr_66417393611 : IsP 66417393611 := isP_pock (f := 36) (by decide) [(3677, 2), (197, 2)] (by simp only [List.forall_mem_cons]; exact ⟨pr_3677, pr_197, by simp⟩) (by decide +kernel) (by decide +kernel) (by decide +kernel)
theorem pr_11290956913871 : IsP 11290956913871 := isP_pock (f := 44) (by decide) [(66417393611, 2)] (by simp only [List.forall_mem_cons]; exact ⟨pr_66417393611, by simp⟩) (by decide +kernel) (by decide +kernel) (by decide +kernel)
theorem pr_774023187263532362759620327192479577272145303 : IsP 774023187263532362759620327192479577272145303 := isP_pock (f := 150) (by decide) [(46076956964474543, 2), (11290956913871, 2)] (by simp only [List.forall_mem_cons]; exact ⟨pr_46076956964474543, pr_11290956913871, by simp⟩) (by decide +kernel) (by decide +kernel) (by decide +kernel)
theorem pr_835945042244614951780389953367877943453916927241 : IsP 835945042244614951780389953367877943453916927241 := isP_pock (f := 160) (by decide) [(774023187263532362759620327192479577272145303, 2)] (by simp only [List.forall_mem_cons]; exact ⟨pr_774023187263532362759620327192479577272145303, by simp⟩) (by decide +kernel) (by decide +kernel) (by decide +kernel)
theorem pr_115792089210356248762697446949407573530086143415290314195533631308867097853951 : IsP 115792089210356248762697446949407573530086143415290314195533631308867097853951 := isP_pock (f := 256) (by decide) [(835945042244614951780389953367877943453916927241, 2)] (by simp only [List.forall_mem_cons]; exact ⟨pr_835945042244614951780389953367877943453916927241, by simp⟩) (by decide +kernel) (by decide +kernel) (by decide +kernel)
end Mi
set_option maxHeartbeats 1000000
namespace Mi
/-! ### residues -/
theorem em_mul {p x y u v : Int} (h : x % p = u % p) (h2 : y % p = v % p) : x * y % p = u * v % p := by rw [Int.mul_emod, h, h2, ← Int.mul_emod]
theorem em_pow {p x u : Int} (h : x % p = u % p) : ∀ k : Nat, x ^ k % p = u ^ k % p
  | 0 => by rw [Int.pow_zero, Int.pow_zero]
  | k + 1 => by rw [Int.pow_succ, Int.pow_succ]; exact em_mul (em_pow h k) h
theorem em_em (x p : Int) : x % p % p = x % p := Int.emod_emod_of_dvd x (Int.dvd_refl p)
theorem em_dvd {p x y : Int} (h : x % p = y % p) : p ∣ x - y := Int.dvd_of_emod_eq_zero (Int.emod_eq_emod_iff_emod_sub_eq_zero.mp h)
theorem em_of_dvd {p x y : Int} (h : p ∣ x - y) : x % p = y % p := Int.emod_eq_emod_iff_emod_sub_eq_zero.mpr (Int.emod_eq_zero_of_dvd h)
theorem IsP.dvd_mulI {p : Nat} (h : IsP p) {a b : Int} (hd : (p : Int) ∣ a * b) : (p : Int) ∣ a ∨ (p : Int) ∣ b := by
  have := Int.natAbs_dvd_natAbs.mpr hd
  rw [Int.natAbs_mul, Int.natAbs_natCast] at this
  rcases h.dvd_mul this with q | q
  · exact .inl (Int.natAbs_dvd_natAbs.mp (by rw [Int.natAbs_natCast]; exact q))
  · exact .inr (Int.natAbs_dvd_natAbs.mp (by rw [Int.natAbs_natCast]; exact q))
theorem IsP.dvd_powI {p : Nat} (h : IsP p) {a : Int} : ∀ k : Nat, (p : Int) ∣ a ^ k → (p : Int) ∣ a
  | 0, hd => by
    rw [Int.pow_zero] at hd
    have := Int.le_of_dvd (by decide) hd
    have := h.1
    omega
  | k + 1, hd => by
    rw [Int.pow_succ] at hd
    rcases h.dvd_mulI hd with q | q
    · exact h.dvd_powI k q
    · exact q
theorem fermatI {p : Nat} (h : IsP p) {a : Int} (ha : ¬ (p : Int) ∣ a) : a ^ (p - 1) % p = 1 := by
  have h2 := h.1
  have e0 := Int.emod_nonneg a (show (p : Int) ≠ 0 by omega)
  obtain ⟨x, hx⟩ := Int.eq_ofNat_of_zero_le e0
  have hn : ¬ p ∣ x := fun d => by
    obtain ⟨k, rfl⟩ := d
    refine ha (Int.dvd_of_emod_eq_zero ?_)
    rw [← em_em a p, hx]
    exact Int.emod_eq_zero_of_dvd ⟨k, by show ((p * k : Nat) : Int) = _; rw [Int.natCast_mul]⟩
  have f := fermat h hn
  rw [em_pow (u := (x : Int)) (by rw [← hx, em_em])]
  rw [← Int.natCast_pow, ← Int.natCast_emod, f]; rfl
theorem sq_one {p : Nat} (h : IsP p) {x : Int} (hx : x * x % p = 1) : x % p = 1 ∨ x % p = p - 1 := by
  have h2 := h.1
  have o : (1 : Int) % p = 1 := Int.emod_eq_of_lt (by decide) (by omega)
  have d := em_dvd (p := p) (x := x * x) (y := 1) (by rw [hx, o])
  rw [show x * x - 1 = (x - 1) * (x - -1) by grind] at d
  rcases h.dvd_mulI d with q | q
  · left; rw [em_of_dvd q, o]
  · right
    rw [em_of_dvd q]
    have : (-1 : Int) = (p - 1 : Int) + p * (-1) := by omega
    rw [this, Int.add_mul_emod_self_left, Int.emod_eq_of_lt (by omega) (by omega)]
theorem m1_sq {p : Nat} (h : IsP p) {x : Int} (hx : x % p = p - 1) : x * x % p = 1 := by
  have h2 := h.1
  have o : (1 : Int) % p = 1 := Int.emod_eq_of_lt (by decide) (by omega)
  have hp : ((p : Int) - 1) % p = p - 1 := Int.emod_eq_of_lt (by omega) (by omega)
  rw [em_mul (hx.trans hp.symm) (hx.trans hp.symm), show ((p : Int) - 1) * (p - 1) = 1 + p * (p - 2) by grind, Int.add_mul_emod_self_left, o]
/-! ### a polynomial's roots -/
def evp : List Int → Int → Int
  | [], _ => 0
  | c :: cs, x => c + x * evp cs x
def dvp : List Int → Int → List Int
  | [], _ => []
  | [_], _ => []
  | _ :: d :: cs, r => evp (d :: cs) r :: dvp (d :: cs) r
theorem evp_dvp : ∀ (cs : List Int) (x r : Int), evp cs x - evp cs r = (x - r) * evp (dvp cs r) x
  | [], x, r => by simp [evp, dvp]
  | [c], x, r => by simp [evp, dvp]
  | c :: d :: cs, x, r => by
    have ih := evp_dvp (d :: cs) x r
    show c + x * evp (d :: cs) x - (c + r * evp (d :: cs) r) = (x - r) * (evp (d :: cs) r + x * evp (dvp (d :: cs) r) x)
    generalize evp (d :: cs) x = u at *
    generalize evp (d :: cs) r = v at *
    generalize evp (dvp (d :: cs) r) x = w at *
    have : u = v + (x - r) * w := by omega
    subst this
    grind
theorem dvp_len : ∀ (cs : List Int) (r : Int), (dvp cs r).length = cs.length - 1
  | [], r => rfl
  | [c], r => rfl
  | c :: d :: cs, r => by
    have ih := dvp_len (d :: cs) r
    simp only [dvp, List.length_cons] at *; omega
theorem dvp_top : ∀ (cs : List Int) (r : Int), 2 ≤ cs.length → cs.getLast? = some 1 → (dvp cs r).getLast? = some 1
  | [], r, h, _ => by simp at h
  | [c], r, h, _ => by simp at h
  | [c, d], r, _, h => by
    have : d = 1 := by simpa using h
    subst this
    simp [dvp, evp]
  | c :: d :: e :: cs, r, _, h => by
    have ih := dvp_top (d :: e :: cs) r (by simp) (by simpa using h)
    rw [dvp]
    have hn : dvp (d :: e :: cs) r ≠ [] := by simp [dvp]
    cases hq : dvp (d :: e :: cs) r with
    | nil => exact absurd hq hn
    | cons y ys => rw [hq] at ih; rw [List.getLast?_cons_cons]; exact ih
theorem roots_le {p : Nat} (h : IsP p) : ∀ (n : Nat) (cs : List Int), cs.length = n + 1 → cs.getLast? = some 1 → ∀ rs : List Int, rs.Pairwise (fun x y => ¬ (p : Int) ∣ y - x) → (∀ r ∈ rs, (p : Int) ∣ evp cs r) → rs.length ≤ n := by
  intro n
  induction n with
  | zero =>
    intro cs hl ht rs hp hr
    cases rs with
    | nil => exact Nat.le_refl 0
    | cons r rs =>
      match cs, hl with
      | [c], _ =>
        have : c = 1 := by simpa using ht
        subst this
        have d := hr r List.mem_cons_self
        have e : evp [1] r = 1 := by simp [evp]
        rw [e] at d
        have := Int.le_of_dvd (by decide) d
        have := h.1
        omega
  | succ n ih =>
    intro cs hl ht rs hp hr
    cases rs with
    | nil => exact Nat.zero_le _
    | cons r rs =>
      obtain ⟨h1, h2⟩ := List.pairwise_cons.mp hp
      have q := ih (dvp cs r) (by rw [dvp_len]; omega) (dvp_top cs r (by omega) ht) rs h2 fun s hs => by
        have d : (p : Int) ∣ evp cs s - evp cs r := Int.dvd_sub (hr s (List.mem_cons_of_mem _ hs)) (hr r List.mem_cons_self)
        rw [evp_dvp] at d
        exact (h.dvd_mulI d).resolve_left (h1 s hs)
      rw [List.length_cons]; omega
theorem evp_pow : ∀ (k : Nat) (x : Int), evp (List.replicate k 0 ++ [1]) x = x ^ k
  | 0, x => by simp [evp]
  | k + 1, x => by
    rw [List.replicate_succ, List.cons_append, evp, evp_pow k x, Int.pow_succ]; grind
/-- a number whose power is not 1 -/
theorem non_root {p : Nat} (h : IsP p) {k : Nat} (k0 : 0 < k) (hk : k < p - 1) : ∃ z : Nat, 1 ≤ z ∧ z < p ∧ (z : Int) ^ k % p ≠ 1 := by
  refine Classical.byContradiction fun c => ?_
  have all : ∀ z : Nat, 1 ≤ z → z < p → (z : Int) ^ k % p = 1 := fun z h1 h2 => Classical.byContradiction fun e => c ⟨z, h1, h2, e⟩
  have q := roots_le h k (-1 :: (List.replicate (k - 1) 0 ++ [1])) (by simp; omega) (by
    cases hq : (List.replicate (k - 1) 0 ++ [(1 : Int)]) with
    | nil => simp at hq
    | cons y ys => rw [List.getLast?_cons_cons, ← hq]; simp) ((List.range' 1 (p - 1)).map fun (z : Nat) => (z : Int)) (by
      refine List.pairwise_map.mpr (List.Pairwise.imp_of_mem (fun {x y} hx hy q d => ?_) (List.nodup_range' (s := 1) (n := p - 1)))
      have hx := List.mem_range'_1.mp hx
      have hy := List.mem_range'_1.mp hy
      have := Int.eq_zero_of_dvd_of_natAbs_lt_natAbs d (by omega)
      exact q (by omega)) (fun r hr => by
      obtain ⟨z, hz, rfl⟩ := List.mem_map.mp hr
      have hz := List.mem_range'_1.mp hz
      have e := all z hz.1 (by omega)
      have o : (1 : Int) % p = 1 := Int.emod_eq_of_lt (by decide) (by have := h.1; omega)
      have d := em_dvd (p := p) (x := (z : Int) ^ k) (y := 1) (by rw [e, o])
      show (p : Int) ∣ -1 + (z : Int) * evp (List.replicate (k - 1) 0 ++ [1]) z
      rw [evp_pow]
      have ek : (z : Int) * (z : Int) ^ (k - 1) = (z : Int) ^ k := by
        rw [Int.mul_comm, ← Int.pow_succ]; congr 1; omega
      rw [ek, show (-1 : Int) + (z : Int) ^ k = (z : Int) ^ k - 1 by omega]
      exact d)
  rw [List.length_map, List.length_range'] at q
  omega
/-- half the exponent: 1 or -1 -/
theorem half_pow {p : Nat} (h : IsP p) (ho : p % 2 = 1) {a : Int} (ha : ¬ (p : Int) ∣ a) : a ^ ((p - 1) / 2) % p = 1 ∨ a ^ ((p - 1) / 2) % p = p - 1 := by
  refine sq_one h ?_
  rw [← Int.pow_add, show (p - 1) / 2 + (p - 1) / 2 = p - 1 by omega]
  exact fermatI h ha
/-! ### the twos of a number -/
theorem low_and (o t : Nat) : (((2 * o + 1) * 2 ^ t) &&& ((2 * o + 1) * 2 ^ t - 1)) = 2 * o * 2 ^ t := by
  induction t with
  | zero =>
    rw [Nat.pow_zero, Nat.mul_one, Nat.mul_one, Nat.add_sub_cancel]
    have e1 := @Nat.and_div_two (2 * o + 1) (2 * o)
    have e2 := @Nat.and_mod_two_eq_one (2 * o + 1) (2 * o)
    rw [show (2 * o + 1) / 2 = o by omega, show 2 * o / 2 = o by omega, Nat.and_self] at e1
    omega
  | succ t ih =>
    have hp := Nat.two_pow_pos t
    have hm : 0 < (2 * o + 1) * 2 ^ t := Nat.mul_pos (by omega) hp
    have ep : (2 * o + 1) * 2 ^ (t + 1) = 2 * ((2 * o + 1) * 2 ^ t) := by rw [Nat.pow_succ]; ac_rfl
    have eq : 2 * o * 2 ^ (t + 1) = 2 * (2 * o * 2 ^ t) := by rw [Nat.pow_succ]; ac_rfl
    rw [ep, eq]
    generalize (2 * o + 1) * 2 ^ t = m at *
    have e1 := @Nat.and_div_two (2 * m) (2 * m - 1)
    have e2 := @Nat.and_mod_two_eq_one (2 * m) (2 * m - 1)
    rw [show 2 * m / 2 = m by omega, show (2 * m - 1) / 2 = m - 1 by omega, ih] at e1
    omega
theorem odd_part : ∀ n : Nat, 0 < n → ∃ o t, n = (2 * o + 1) * 2 ^ t := by
  intro n
  induction n using Nat.strongRecOn with
  | ind n ih =>
    intro h
    by_cases e : n % 2 = 1
    · exact ⟨n / 2, 0, by rw [Nat.pow_zero]; omega⟩
    · obtain ⟨o, t, q⟩ := ih (n / 2) (by omega) (by omega)
      exact ⟨o, t + 1, by rw [Nat.pow_succ, ← Nat.mul_assoc, ← q]; omega⟩
end Mi
set_option maxHeartbeats 1000000
namespace Mi
/-! ### residues as a ring -/
def zr (p : Nat) (x y : Int) : Prop := x % p = y % p
def Zp (p : Nat) : Type := Quot (zr p)
def zm (p : Nat) (x : Int) : Zp p := Quot.mk _ x
theorem zr_iff {p : Nat} {x y : Int} : zr p x y ↔ (p : Int) ∣ x - y := ⟨fun h => em_dvd h, fun h => em_of_dvd h⟩
section
variable {p : Nat}
def zadd : Zp p → Zp p → Zp p := Quot.lift (fun x => Quot.lift (fun y => zm p (x + y)) fun a b h => Quot.sound (by
  rw [zr_iff] at h ⊢; rw [show x + a - (x + b) = a - b by omega]; exact h)) fun a b h => by
  funext y
  induction y using Quot.ind
  refine Quot.sound ?_
  rw [zr_iff] at h ⊢
  rename_i y
  rw [show a + y - (b + y) = a - b by omega]; exact h
def zmul : Zp p → Zp p → Zp p := Quot.lift (fun x => Quot.lift (fun y => zm p (x * y)) fun a b h => Quot.sound (em_mul rfl h)) fun a b h => by
  funext y
  induction y using Quot.ind
  exact Quot.sound (em_mul h rfl)
def zneg : Zp p → Zp p := Quot.lift (fun x => zm p (-x)) fun a b h => Quot.sound (by
  rw [zr_iff] at h ⊢
  rw [show -a - -b = -(a - b) by omega]; exact Int.dvd_neg.mpr h)
instance : Add (Zp p) := ⟨zadd⟩
instance : Mul (Zp p) := ⟨zmul⟩
instance : Neg (Zp p) := ⟨zneg⟩
instance : Sub (Zp p) := ⟨fun x y => x + -y⟩
instance : NatCast (Zp p) := ⟨fun n => zm p (n : Int)⟩
instance : IntCast (Zp p) := ⟨fun n => zm p n⟩
instance (n : Nat) : OfNat (Zp p) n := ⟨zm p (n : Int)⟩
def zpow (x : Zp p) : Nat → Zp p
  | 0 => 1
  | n + 1 => zpow x n * x
instance : HPow (Zp p) Nat (Zp p) := ⟨zpow⟩
instance : SMul Nat (Zp p) := ⟨fun n x => (n : Zp p) * x⟩
instance : SMul Int (Zp p) := ⟨fun n x => (n : Zp p) * x⟩
theorem zm_add (x y : Int) : zm p (x + y) = zm p x + zm p y := rfl
theorem zm_mul (x y : Int) : zm p (x * y) = zm p x * zm p y := rfl
theorem zm_neg (x : Int) : zm p (-x) = -zm p x := rfl
theorem zm_sub (x y : Int) : zm p (x - y) = zm p x - zm p y := by
  rw [Int.sub_eq_add_neg]; rfl
theorem zm_eq {x y : Int} : zm p x = zm p y ↔ x % p = y % p := by
  refine ⟨fun h => ?_, fun h => Quot.sound h⟩
  have : ∀ z : Zp p, zm p x = z → Quot.lift (fun y => x % p = y % p) (fun a b h => by simp only [show a % (p : Int) = b % p from h]) z := by
    intro z e; subst e; rfl
  exact this _ h
theorem zm_num (n : Nat) : zm p (OfNat.ofNat n : Int) = (OfNat.ofNat n : Zp p) := rfl
theorem zm_nat (n : Nat) : zm p (n : Int) = (OfNat.ofNat n : Zp p) := rfl
theorem zm_mod (x : Int) : zm p (x % p) = zm p x := zm_eq.mpr (em_em _ _)
instance : Lean.Grind.CommRing (Zp p) where
  add_zero := fun a => Quot.inductionOn a (fun x => congrArg (zm p) (Int.add_zero x))
  add_comm := fun a b => Quot.inductionOn a (fun x => Quot.inductionOn b (fun y => congrArg (zm p) (Int.add_comm x y)))
  add_assoc := fun a b c => Quot.inductionOn a (fun x => Quot.inductionOn b (fun y => Quot.inductionOn c (fun z => congrArg (zm p) (Int.add_assoc x y z))))
  mul_assoc := fun a b c => Quot.inductionOn a (fun x => Quot.inductionOn b (fun y => Quot.inductionOn c (fun z => congrArg (zm p) (Int.mul_assoc x y z))))
  mul_one := fun a => Quot.inductionOn a (fun x => congrArg (zm p) (Int.mul_one x))
  one_mul := fun a => Quot.inductionOn a (fun x => congrArg (zm p) (Int.one_mul x))
  left_distrib := fun a b c => Quot.inductionOn a (fun x => Quot.inductionOn b (fun y => Quot.inductionOn c (fun z => congrArg (zm p) (Int.mul_add x y z))))
  right_distrib := fun a b c => Quot.inductionOn a (fun x => Quot.inductionOn b (fun y => Quot.inductionOn c (fun z => congrArg (zm p) (Int.add_mul x y z))))
  zero_mul := fun a => Quot.inductionOn a (fun x => congrArg (zm p) (Int.zero_mul x))
  mul_zero := fun a => Quot.inductionOn a (fun x => congrArg (zm p) (Int.mul_zero x))
  pow_zero := fun a => rfl
  pow_succ := fun a n => rfl
  ofNat_succ := fun n => rfl
  ofNat_eq_natCast := fun n => rfl
  nsmul_eq_natCast_mul := fun n a => rfl
  neg_add_cancel := fun a => Quot.inductionOn a (fun x => congrArg (zm p) (Int.add_left_neg x))
  sub_eq_add_neg := fun a b => rfl
  neg_zsmul := fun i a => Quot.inductionOn a (fun x => congrArg (zm p) (Int.neg_mul i x))
  zsmul_natCast_eq_nsmul := fun n a => rfl
  intCast_ofNat := fun n => rfl
  intCast_neg := fun i => rfl
  mul_comm := fun a b => Quot.inductionOn a (fun x => Quot.inductionOn b (fun y => congrArg (zm p) (Int.mul_comm x y)))
theorem zm_zero {x : Int} : zm p x = 0 ↔ x % p = 0 := by
  have : zm p x = zm p 0 ↔ _ := zm_eq
  rw [Int.zero_emod] at this
  exact this
theorem zm_pow (x : Int) : ∀ n : Nat, zm p (x ^ n) = zm p x ^ n
  | 0 => by rw [Int.pow_zero]; rfl
  | n + 1 => by
    rw [Int.pow_succ, zm_mul, zm_pow x n]; rfl
theorem zm_dvd {x : Int} : zm p x = 0 ↔ (p : Int) ∣ x := zm_zero.trans ⟨Int.dvd_of_emod_eq_zero, Int.emod_eq_zero_of_dvd⟩
theorem z_dom (h : IsP p) {x y : Zp p} (e : x * y = 0) : x = 0 ∨ y = 0 := by
  revert e
  refine Quot.inductionOn x (fun x => ?_)
  refine Quot.inductionOn y (fun y => ?_)
  intro e
  rcases h.dvd_mulI (zm_dvd.mp e) with q | q
  · exact .inl (zm_dvd.mpr q)
  · exact .inr (zm_dvd.mpr q)
theorem z_cancel (h : IsP p) {x y : Zp p} (hx : x ≠ 0) (e : x * y = 0) : y = 0 := (z_dom h e).resolve_left hx
theorem z_mul_ne (h : IsP p) {x y : Zp p} (hx : x ≠ 0) (hy : y ≠ 0) : x * y ≠ 0 := fun e => hy (z_cancel h hx e)
theorem z_inv0 (h : IsP p) (x : Int) (hx : zm p x ≠ 0) : zm p x ^ (p - 2) * zm p x = 1 := by
  have h2 := h.1
  have f := fermatI h (a := x) fun d => hx (zm_dvd.mpr d)
  rw [← zm_pow, ← zm_mul, ← Int.pow_succ, show (p - 2).succ = p - 1 by omega]
  exact (show zm p (x ^ (p - 1)) = zm p 1 from zm_eq.mpr (by rw [f, Int.emod_eq_of_lt (by decide) (by omega)]))
theorem z_inv (h : IsP p) {x : Zp p} : x ≠ 0 → x ^ (p - 2) * x = 1 := Quot.inductionOn x fun x hx => z_inv0 h x hx
theorem z_ne_num (n : Nat) (h0 : 0 < n) (h1 : n < p) : (OfNat.ofNat n : Zp p) ≠ 0 := by
  intro e
  have := zm_zero.mp (show zm p (n : Int) = 0 from e)
  rw [Int.emod_eq_of_lt (by omega) (by omega)] at this
  omega
/-- residues are equal if their classes are -/
theorem res_eq {x y : Int} (hx0 : 0 ≤ x) (hx1 : x < p) (hy0 : 0 ≤ y) (hy1 : y < p) (h : zm p x = zm p y) : x = y := by
  have := zm_eq.mp h
  rwa [Int.emod_eq_of_lt hx0 hx1, Int.emod_eq_of_lt hy0 hy1] at this
end
theorem z_test {p : Nat} (x y : Zp p) (h : x * x = y) : (x + 1) ^ 2 - 2 * x - 1 = y := by grind
end Mi
namespace Mi
theorem z_clos {p : Nat} (x1 y1 x2 y2 a b l i : Zp p) (h1 : y1*y1 = x1*x1*x1 + a*x1 + b) (h2 : y2*y2 = x2*x2*x2 + a*x2 + b) (hi : i*(x2-x1) = 1) (hl : l*(x2-x1) = (y2-y1))  : (l*(x1-(l*l - x1 - x2)) - y1)*(l*(x1-(l*l - x1 - x2)) - y1) = (l*l - x1 - x2)*(l*l - x1 - x2)*(l*l - x1 - x2) + a*(l*l - x1 - x2) + b := by
  have q : x1*x1 + x1*x2 + x2*x2 + a = l*(y1+y2) := by
    have : (x2-x1)*(x1*x1 + x1*x2 + x2*x2 + a - l*(y1+y2)) = 0 := by grind
    grind
  have e : y2 = y1 + l*(x2-x1) := by grind
  subst e
  grind
end Mi
set_option maxHeartbeats 1000000
namespace Mi
open PySem PySem.Spec L2
/-! ### sizes, found by themselves -/
class Bd (x : Int) (n : outParam Nat) : Prop where
  lt : x.natAbs < 2 ^ n
class Pb (p : Nat) : Prop where
  pos : 0 < p
  lt : p < 2 ^ 256
theorem Bd.up {x : Int} {m n : Nat} (h : x.natAbs < 2 ^ m) (e : m ≤ n) : x.natAbs < 2 ^ n := Nat.lt_of_lt_of_le h (Nat.pow_le_pow_right (by decide) e)
instance bd_mul {x y : Int} {a b : Nat} [h1 : Bd x a] [h2 : Bd y b] : Bd (x * y) (a + b) := ⟨by rw [Int.natAbs_mul]; exact pow_add_lt h1.lt h2.lt⟩
theorem two_sum {u v a b : Nat} (h1 : u < 2 ^ a) (h2 : v < 2 ^ b) : u + v < 2 ^ (max a b + 1) := by
  have := Nat.lt_of_lt_of_le h1 (Nat.pow_le_pow_right (show 0 < 2 by decide) (Nat.le_max_left a b))
  have := Nat.lt_of_lt_of_le h2 (Nat.pow_le_pow_right (show 0 < 2 by decide) (Nat.le_max_right a b))
  rw [Nat.pow_succ]; omega
instance bd_add {x y : Int} {a b : Nat} [h1 : Bd x a] [h2 : Bd y b] : Bd (x + y) (max a b + 1) := ⟨Nat.lt_of_le_of_lt (Int.natAbs_add_le x y) (two_sum h1.lt h2.lt)⟩
instance bd_sub {x y : Int} {a b : Nat} [h1 : Bd x a] [h2 : Bd y b] : Bd (x - y) (max a b + 1) := ⟨Nat.lt_of_le_of_lt (Int.natAbs_sub_le x y) (two_sum h1.lt h2.lt)⟩
instance bd_neg {x : Int} {a : Nat} [h1 : Bd x a] : Bd (-x) a := ⟨by rw [Int.natAbs_neg]; exact h1.lt⟩
instance bd_pow {x : Int} {a k : Nat} [h1 : Bd x a] : Bd (x ^ k) (a * k + 1) := ⟨by
  rw [Int.natAbs_pow]
  have : x.natAbs ^ k ≤ (2 ^ a) ^ k := Nat.pow_le_pow_left (Nat.le_of_lt h1.lt) k
  rw [← Nat.pow_mul] at this
  have : 2 ^ (a * k) < 2 ^ (a * k + 1) := Nat.pow_lt_pow_right (by decide) (by omega)
  omega⟩
instance : Bd (0 : Int) 8 := ⟨by decide⟩
instance : Bd (1 : Int) 8 := ⟨by decide⟩
instance : Bd (2 : Int) 8 := ⟨by decide⟩
instance : Bd (3 : Int) 8 := ⟨by decide⟩
instance : Bd (4 : Int) 8 := ⟨by decide⟩
instance : Bd (5 : Int) 8 := ⟨by decide⟩
instance : Bd (6 : Int) 8 := ⟨by decide⟩
instance : Bd (7 : Int) 8 := ⟨by decide⟩
instance : Bd (8 : Int) 8 := ⟨by decide⟩
instance : Bd (9 : Int) 8 := ⟨by decide⟩
instance : Bd (12 : Int) 8 := ⟨by decide⟩
instance : Bd (13 : Int) 8 := ⟨by decide⟩
instance : Bd (16 : Int) 8 := ⟨by decide⟩
instance : Bd (27 : Int) 8 := ⟨by decide⟩
instance : Bd (2147483648 : Int) 70 := ⟨by decide +kernel⟩
instance : Bd (4294967296 : Int) 70 := ⟨by decide +kernel⟩
instance : Bd (2305843009213693952 : Int) 70 := ⟨by decide +kernel⟩
instance : Bd (9223372036854775808 : Int) 70 := ⟨by decide +kernel⟩
instance : Bd (18446744073709551616 : Int) 70 := ⟨by decide +kernel⟩
instance : Bd (6277101735386680763835789423207666416102355444464034512896 : Int) 200 := ⟨by decide +kernel⟩
instance bd_p {p : Nat} [h : Pb p] : Bd (p : Int) 256 := ⟨by rw [Int.natAbs_natCast]; exact h.lt⟩
instance bd_mod {p : Nat} {x : Int} [h : Pb p] : Bd (x % (p : Int)) 256 := ⟨by
  have := h.pos; have := h.lt
  have := Int.emod_nonneg x (show (p : Int) ≠ 0 by omega)
  have := Int.emod_lt_of_pos x (show (0 : Int) < (p : Int) by omega)
  omega⟩
theorem need_bd {α : Type} {x y : Int} {a b : Nat} {m : Res α} [h1 : Bd x a] [h2 : Bd y b] (h : (decide (a + b ≤ 134217728)) = true) : Res.need (CMulX x y) m = m := Res.need_pos (cmulx h1.lt h2.lt (of_decide_eq_true h))
theorem need_pw2 {α : Type} {x : Int} {a : Nat} {m : Res α} [h1 : Bd x a] (h : (decide (a * 2 ≤ 134217728)) = true) : Res.need (CPowX x 2) m = m := Res.need_pos ⟨by decide, by
  have := le_ibits h1.lt
  have h := of_decide_eq_true h
  show ((Builtin.Int.intBits x : Nat) : Int) * 2 ≤ 134217728
  omega⟩
theorem need_pw3 {α : Type} {x : Int} {a : Nat} {m : Res α} [h1 : Bd x a] (h : (decide (a * 3 ≤ 134217728)) = true) : Res.need (CPowX x 3) m = m := Res.need_pos ⟨by decide, by
  have := le_ibits h1.lt
  have h := of_decide_eq_true h
  show ((Builtin.Int.intBits x : Nat) : Int) * 3 ≤ 134217728
  omega⟩
theorem need_pw4 {α : Type} {x : Int} {a : Nat} {m : Res α} [h1 : Bd x a] (h : (decide (a * 4 ≤ 134217728)) = true) : Res.need (CPowX x 4) m = m := Res.need_pos ⟨by decide, by
  have := le_ibits h1.lt
  have h := of_decide_eq_true h
  show ((Builtin.Int.intBits x : Nat) : Int) * 4 ≤ 134217728
  omega⟩
theorem need_pw6 {α : Type} {x : Int} {a : Nat} {m : Res α} [h1 : Bd x a] (h : (decide (a * 6 ≤ 134217728)) = true) : Res.need (CPowX x 6) m = m := Res.need_pos ⟨by decide, by
  have := le_ibits h1.lt
  have h := of_decide_eq_true h
  show ((Builtin.Int.intBits x : Nat) : Int) * 6 ≤ 134217728
  omega⟩
theorem need_p {α : Type} {p : Nat} {m : Res α} [h : Pb p] : Res.need (0 < (p : Int)) m = m := Res.need_pos (by have := h.pos; omega)
theorem need_true {α : Type} {m : Res α} : Res.need True m = m := Res.need_pos trivial
theorem tn2 : (2 : Int).toNat = 2 := rfl
theorem tn3 : (3 : Int).toNat = 3 := rfl
theorem tn4 : (4 : Int).toNat = 4 := rfl
theorem tn6 : (6 : Int).toNat = 6 := rfl
theorem bd_test {α : Type} {p : Nat} [Pb p] (x y : Int) [Bd x 256] [Bd y 256] (m : Res α) : Res.need (CMulX (x * y - 27 * x ^ 3) (y + (x * x * x) % (p : Int))) (Res.need (0 < (p : Int)) (Res.need (CPowX (x * y) 3) m)) = m := by
  simp (decide := true) only [need_bd, need_p, need_pw3]
end Mi
set_option maxHeartbeats 1000000
namespace Mi
/-! ### the Jacobi symbol by Schering's count of great residues -/
def pI (l : List Int) : Int := l.foldr (· * ·) 1
theorem pI_cons (x : Int) (l : List Int) : pI (x :: l) = x * pI l := rfl
theorem pI_perm {l m : List Int} (h : l.Perm m) : pI l = pI m := by
  induction h with
  | nil => rfl
  | cons x _ ih => rw [pI_cons, pI_cons, ih]
  | swap x y l => rw [pI_cons, pI_cons, pI_cons, pI_cons]; ac_rfl
  | trans _ _ h1 h2 => exact h1.trans h2
theorem pI_mul {α : Type} (f g : α → Int) : ∀ l : List α, pI (l.map fun x => f x * g x) = pI (l.map f) * pI (l.map g)
  | [] => rfl
  | x :: l => by rw [List.map_cons, List.map_cons, List.map_cons, pI_cons, pI_cons, pI_cons, pI_mul f g l]; ac_rfl
theorem pI_congr {α : Type} {f g : α → Int} {l : List α} (h : ∀ x ∈ l, f x = g x) : pI (l.map f) = pI (l.map g) := by
  rw [List.map_congr_left h]
theorem pI_emod {α : Type} (n : Int) (f g : α → Int) : ∀ l : List α, (∀ x ∈ l, f x % n = g x % n) → pI (l.map f) % n = pI (l.map g) % n
  | [], _ => rfl
  | x :: l, h => by
    rw [List.map_cons, List.map_cons, pI_cons, pI_cons]
    exact em_mul (h x List.mem_cons_self) (pI_emod n f g l fun y hy => h y (List.mem_cons_of_mem _ hy))
theorem pI_const (a : Int) : ∀ l : List Nat, pI (l.map fun _ => a) = a ^ l.length
  | [] => by simp [pI]
  | x :: l => by rw [List.map_cons, pI_cons, pI_const a l, List.length_cons, Int.pow_succ, Int.mul_comm]

def hl (n : Nat) : List Nat := (List.range (n / 2)).map (· + 1)
theorem hl_mem {n k : Nat} : k ∈ hl n ↔ 1 ≤ k ∧ k ≤ n / 2 := by
  unfold hl
  simp only [List.mem_map, List.mem_range]
  constructor
  · rintro ⟨i, h, rfl⟩; omega
  · rintro ⟨h1, h2⟩; exact ⟨k - 1, by omega, by omega⟩
theorem hl_len (n : Nat) : (hl n).length = n / 2 := by unfold hl; simp
theorem hl_nodup (n : Nat) : (hl n).Nodup := by
  unfold hl
  refine List.Pairwise.map _ (fun a b h => ?_) List.nodup_range
  omega
def ng (n a k : Nat) : Bool := decide (n < 2 * (a * k % n))
def rd (n a k : Nat) : Nat := if ng n a k = true then n - a * k % n else a * k % n
def sg (n a k : Nat) : Int := if ng n a k = true then -1 else 1
theorem sg_cases (n a k : Nat) : sg n a k = 1 ∨ sg n a k = -1 := by unfold sg; split <;> simp
theorem sg_sq (n a k : Nat) : sg n a k * sg n a k = 1 := by rcases sg_cases n a k with h | h <;> rw [h] <;> rfl
section
variable {n a : Nat}
theorem ak_pos (hg : Nat.gcd a n = 1) {k : Nat} (h1 : 1 ≤ k) (h2 : k < n) : 0 < a * k % n := by
  rcases Nat.eq_zero_or_pos (a * k % n) with h | h
  · have d : n ∣ a * k := Nat.dvd_of_mod_eq_zero h
    have hc : Nat.Coprime n a := by rw [Nat.Coprime, Nat.gcd_comm]; exact hg
    have := Nat.le_of_dvd h1 (hc.dvd_of_dvd_mul_left d)
    omega
  · exact h
theorem rd_mem (ho : n % 2 = 1) (hg : Nat.gcd a n = 1) {k : Nat} (hk : k ∈ hl n) : rd n a k ∈ hl n := by
  obtain ⟨h1, h2⟩ := hl_mem.mp hk
  have hn : 0 < n := by omega
  have p := ak_pos hg h1 (show k < n by omega)
  have l := Nat.mod_lt (a * k) hn
  rw [hl_mem]
  unfold rd ng
  split
  · rename_i h; have h := of_decide_eq_true h; omega
  · rename_i h
    have h : ¬ n < 2 * (a * k % n) := fun z => h (decide_eq_true z)
    omega
/-- a k = sg rd modulo n -/
theorem sg_rd (n a k : Nat) (hn : 0 < n) : ((a : Int) * k) % n = (sg n a k * (rd n a k : Int)) % n := by
  have e : (((a * k % n : Nat)) : Int) % n = ((a : Int) * k) % n := by rw [Int.natCast_emod, Int.natCast_mul]; exact em_em _ _
  have l := Nat.mod_lt (a * k) hn
  unfold sg rd
  split
  · rw [← e, Int.ofNat_sub (Nat.le_of_lt l)]
    refine em_of_dvd ⟨1, by omega⟩
  · rw [← e, Int.one_mul]
/-- it is the only such -/
theorem sg_uniq (ho : n % 2 = 1) {r s : Int} {u v : Nat} (hu : u ∈ hl n) (hv : v ∈ hl n) (hr : r = 1 ∨ r = -1) (hs : s = 1 ∨ s = -1) (h : (r * (u : Int)) % n = (s * (v : Int)) % n) : r = s ∧ u = v := by
  obtain ⟨u1, u2⟩ := hl_mem.mp hu
  obtain ⟨v1, v2⟩ := hl_mem.mp hv
  have d := em_dvd h
  have big : ∀ z : Int, (n : Int) ∣ z → -(n : Int) < z → z < n → z = 0 := fun z hd h1 h2 => by
    obtain ⟨c, rfl⟩ := hd
    have hn : (0 : Int) < n := by omega
    rcases Int.lt_trichotomy c 0 with q | q | q
    · have : (n : Int) * c ≤ n * (-1) := Int.mul_le_mul_of_nonneg_left (by omega) (by omega)
      omega
    · subst q; simp
    · have : (n : Int) * 1 ≤ n * c := Int.mul_le_mul_of_nonneg_left (by omega) (by omega)
      omega
  rcases hr with rfl | rfl <;> rcases hs with rfl | rfl
  · have := big _ d (by omega) (by omega); exact ⟨rfl, by omega⟩
  · have := big _ d (by omega) (by omega); omega
  · have := big _ d (by omega) (by omega); omega
  · have := big _ d (by omega) (by omega); exact ⟨rfl, by omega⟩
theorem rd_perm (ho : n % 2 = 1) (hg : Nat.gcd a n = 1) : ((hl n).map (rd n a)).Perm (hl n) := by
  have hn : 0 < n := by omega
  refine perm_of_sub _ _ ?_ (fun x hx => ?_) (by rw [List.length_map]; exact Nat.le_refl _)
  · have key : ∀ l : List Nat, l.Nodup → (∀ x ∈ l, x ∈ hl n) → (l.map (rd n a)).Nodup := by
      intro l
      induction l with
      | nil => intro _ _; exact List.nodup_nil
      | cons x r ih =>
        intro hd hs
        obtain ⟨d1, d2⟩ := List.nodup_cons.mp hd
        rw [List.map_cons, List.nodup_cons]
        refine ⟨fun hm => ?_, ih d2 fun y hy => hs y (List.mem_cons_of_mem _ hy)⟩
        obtain ⟨y, hy, e⟩ := List.mem_map.mp hm
        have hx := hs x List.mem_cons_self
        have hy' := hs y (List.mem_cons_of_mem _ hy)
        -- a x = sx r, a y = sy r
        have ex := sg_rd n a x hn
        have ey := sg_rd n a y hn
        rw [e] at ey
        have hc : Nat.Coprime n a := by rw [Nat.Coprime, Nat.gcd_comm]; exact hg
        have cI : ∀ z : Int, (n : Int) ∣ a * z → (n : Int) ∣ z := fun z hz => by
          have h1 : n ∣ ((a : Int) * z).natAbs := Int.ofNat_dvd_left.mp hz
          rw [Int.natAbs_mul, Int.natAbs_natCast] at h1
          exact Int.ofNat_dvd_left.mpr (hc.dvd_of_dvd_mul_left h1)
        have t : ((sg n a x * (x : Int))) % n = ((sg n a y * (y : Int))) % n := by
          refine em_of_dvd (cI _ ?_)
          have e1 : (sg n a x * ((a : Int) * x)) % n = (rd n a x : Int) % n := by
            rw [Int.mul_emod, ex, ← Int.mul_emod, ← Int.mul_assoc, sg_sq, Int.one_mul]
          have e2 : (sg n a y * ((a : Int) * y)) % n = (rd n a x : Int) % n := by
            rw [Int.mul_emod, ey, ← Int.mul_emod, ← Int.mul_assoc, sg_sq, Int.one_mul]
          have := em_dvd (e1.trans e2.symm)
          refine (show (a : Int) * (sg n a x * (x : Int) - sg n a y * (y : Int)) = _ from ?_) ▸ this
          grind
        have := (sg_uniq ho hx hy' (sg_cases n a x) (sg_cases n a y) t).2
        subst this
        exact d1 hy
    exact key _ (hl_nodup n) fun x h => h
  · obtain ⟨k, hk, rfl⟩ := List.mem_map.mp hx
    exact rd_mem ho hg hk
def js (a n : Nat) : Int := if Nat.gcd a n = 1 then pI ((hl n).map (sg n a)) else 0
theorem js_cop (hg : Nat.gcd a n = 1) : js a n = pI ((hl n).map (sg n a)) := if_pos hg
theorem js_non (hg : Nat.gcd a n ≠ 1) : js a n = 0 := if_neg hg
theorem js_mod (a n : Nat) : js (a % n) n = js a n := by
  have hs : sg n (a % n) = sg n a := by
    funext k
    unfold sg ng
    rw [Nat.mod_mul_mod]
  have e : Nat.gcd (a % n) n = Nat.gcd a n := by rw [Nat.gcd_comm a n, Nat.gcd_rec n a]
  by_cases h : Nat.gcd a n = 1
  · rw [js_cop h, js_cop (e.trans h), hs]
  · rw [js_non h, js_non fun z => h (e.symm.trans z)]
theorem js_congr {b : Nat} (h : a % n = b % n) : js a n = js b n := by rw [← js_mod a, h, js_mod]
theorem pI_pm : ∀ l : List Int, (∀ x ∈ l, x = 1 ∨ x = -1) → pI l = 1 ∨ pI l = -1
  | [], _ => .inl rfl
  | x :: l, h => by
    rw [pI_cons]
    rcases pI_pm l fun y hy => h y (List.mem_cons_of_mem _ hy) with e | e <;> rcases h x List.mem_cons_self with q | q <;> rw [e, q] <;> decide
theorem js_pm (hg : Nat.gcd a n = 1) : js a n = 1 ∨ js a n = -1 := by
  rw [js_cop hg]
  refine pI_pm _ fun x hx => ?_
  obtain ⟨k, _, rfl⟩ := List.mem_map.mp hx
  exact sg_cases n a k
theorem gcd_mul_one {a b n : Nat} : Nat.gcd (a * b) n = 1 ↔ Nat.gcd a n = 1 ∧ Nat.gcd b n = 1 := by
  constructor
  · intro h
    exact ⟨Nat.Coprime.coprime_mul_right h, Nat.Coprime.coprime_mul_left h⟩
  · rintro ⟨h1, h2⟩; exact Nat.Coprime.mul_left h1 h2
/-- multiplicative above -/
theorem js_mul (ho : n % 2 = 1) (a b : Nat) : js (a * b) n = js a n * js b n := by
  have hn : 0 < n := by omega
  by_cases ha : Nat.gcd a n = 1
  · by_cases hb : Nat.gcd b n = 1
    · rw [js_cop ha, js_cop hb, js_cop (gcd_mul_one.mpr ⟨ha, hb⟩)]
      have e : pI ((hl n).map (sg n (a * b))) = pI ((hl n).map fun k => sg n a (rd n b k) * sg n b k) := by
        refine pI_congr fun k hk => ?_
        have hk2 := rd_mem ho hb hk
        have e1 := sg_rd n (a * b) k hn
        have e2 := sg_rd n b k hn
        have e3 := sg_rd n a (rd n b k) hn
        have m : (((a * b : Nat) : Int) * k) % n = (sg n a (rd n b k) * sg n b k * (rd n a (rd n b k) : Int)) % n := by
          calc (((a * b : Nat) : Int) * k) % n = ((a : Int) * ((b : Int) * k)) % n := by rw [Int.natCast_mul, Int.mul_assoc]
            _ = ((a : Int) * (sg n b k * (rd n b k : Int))) % n := em_mul rfl e2
            _ = (sg n b k * ((a : Int) * (rd n b k : Int))) % n := by congr 1; ac_rfl
            _ = (sg n b k * (sg n a (rd n b k) * (rd n a (rd n b k) : Int))) % n := em_mul rfl e3
            _ = _ := by congr 1; ac_rfl
        refine (sg_uniq ho (rd_mem ho (gcd_mul_one.mpr ⟨ha, hb⟩) hk) (rd_mem ho ha hk2) (sg_cases _ _ _) ?_ (e1.symm.trans m)).1
        rcases sg_cases n a (rd n b k) with x | x <;> rcases sg_cases n b k with y | y <;> rw [x, y] <;> decide
      rw [e, pI_mul]
      congr 1
      have q := pI_perm ((rd_perm ho hb).map (sg n a))
      rw [List.map_map] at q
      exact q
    · rw [js_non hb, Int.mul_zero]; exact js_non fun h => hb (gcd_mul_one.mp h).2
  · rw [js_non ha, Int.zero_mul]; exact js_non fun h => ha (gcd_mul_one.mp h).1
/-- Gauss: a prime below -/
theorem js_gauss {p a : Nat} (hp : IsP p) (ho : p % 2 = 1) (ha : ¬ p ∣ a) : ((a : Int) ^ (p / 2)) % p = js a p % p := by
  have hn : 0 < p := by have := hp.1; omega
  have hg : Nat.gcd a p = 1 := by rw [Nat.gcd_comm]; exact hp.cop ha
  rw [js_cop hg]
  have e1 : pI ((hl p).map fun k : Nat => (a : Int) * k) = (a : Int) ^ (p / 2) * pI ((hl p).map fun k : Nat => (k : Int)) := by
    rw [pI_mul, pI_const, hl_len]
  have e2 : pI ((hl p).map fun k : Nat => (a : Int) * k) % p = (pI ((hl p).map (sg p a)) * pI ((hl p).map fun k : Nat => (k : Int))) % p := by
    have q := pI_perm ((rd_perm ho hg).map fun k : Nat => (k : Int))
    rw [List.map_map] at q
    rw [← q, ← pI_mul]
    exact pI_emod _ _ _ _ fun k _ => sg_rd p a k hn
  rw [e1] at e2
  have d := em_dvd e2
  rw [← Int.sub_mul] at d
  rcases hp.dvd_mulI d with h | h
  · exact em_of_dvd h
  · exfalso
    have key : ∀ l : List Nat, (∀ x ∈ l, x ∈ hl p) → ¬ (p : Int) ∣ pI (l.map fun k : Nat => (k : Int)) := by
      intro l
      induction l with
      | nil =>
        intro _ q
        have q : (p : Int) ∣ 1 := q
        have := Int.ofNat_dvd_left.mp q
        have := Nat.le_of_dvd (by decide) this
        have hp1 := hp.1
        rw [Int.natAbs_one] at this; omega
      | cons x r ih =>
        intro hs q
        rw [List.map_cons, pI_cons] at q
        rcases hp.dvd_mulI q with z | z
        · have := hl_mem.mp (hs x List.mem_cons_self)
          have z := Int.natCast_dvd_natCast.mp z
          have := Nat.le_of_dvd (by omega) z
          omega
        · exact ih (fun y hy => hs y (List.mem_cons_of_mem _ hy)) z
    exact key _ (fun x hx => hx) h
/-! ### 2 -/
theorem pI_from (c : Nat) : ∀ m : Nat, pI ((List.range m).map fun k => if c ≤ k then (-1 : Int) else 1) = (-1) ^ (m - c)
  | 0 => by simp [pI]
  | m + 1 => by
    have happ : ∀ l m : List Int, pI (l ++ m) = pI l * pI m := by
      intro l
      induction l with
      | nil => intro m; show pI m = 1 * pI m; rw [Int.one_mul]
      | cons x r ih => intro m; rw [List.cons_append, pI_cons, pI_cons, ih, Int.mul_assoc]
    rw [List.range_succ, List.map_append, happ, pI_from c m]
    by_cases h : c ≤ m
    · rw [show m + 1 - c = (m - c) + 1 by omega, Int.pow_succ]
      simp [pI, h]
    · rw [show m + 1 - c = m - c by omega]
      simp [pI, h]
theorem m1_even (k : Nat) : ((-1 : Int)) ^ (2 * k) = 1 := by
  rw [Int.pow_mul, show ((-1 : Int)) ^ 2 = 1 by decide, Int.one_pow]
theorem m1_par (k : Nat) : ((-1 : Int)) ^ k = if k % 2 = 1 then -1 else 1 := by
  have e : k = 2 * (k / 2) + k % 2 := by omega
  rw [e, Int.pow_add, m1_even, Int.one_mul]
  rcases Nat.mod_two_eq_zero_or_one k with h | h <;> rw [h] <;> simp <;> omega
theorem js_two (ho : n % 2 = 1) : js 2 n = if n % 8 = 3 ∨ n % 8 = 5 then -1 else 1 := by
  have hg : Nat.gcd 2 n = 1 := by
    have : Nat.gcd 2 n ∣ 2 := Nat.gcd_dvd_left 2 n
    have h2 : Nat.gcd 2 n ≤ 2 := Nat.le_of_dvd (by decide) this
    have h0 : 0 < Nat.gcd 2 n := Nat.gcd_pos_of_pos_left _ (by decide)
    rcases Nat.lt_or_ge (Nat.gcd 2 n) 2 with h | h
    · omega
    · have e : Nat.gcd 2 n = 2 := by omega
      have := Nat.gcd_dvd_right 2 n
      rw [e] at this
      omega
  rw [js_cop hg]
  unfold hl
  rw [List.map_map]
  have e : pI ((List.range (n / 2)).map (sg n 2 ∘ (· + 1))) = pI ((List.range (n / 2)).map fun k => if n / 4 ≤ k then (-1 : Int) else 1) := by
    refine pI_congr fun k hk => ?_
    have hk := List.mem_range.mp hk
    show sg n 2 (k + 1) = _
    unfold sg ng
    rw [Nat.mod_eq_of_lt (show 2 * (k + 1) < n by omega)]
    by_cases h : n / 4 ≤ k
    · rw [if_pos (decide_eq_true (by omega)), if_pos h]
    · rw [if_neg (fun z => by have := of_decide_eq_true z; omega), if_neg h]
  rw [e, pI_from, m1_par]
  by_cases h : n % 8 = 3 ∨ n % 8 = 5
  · rw [if_pos h, if_pos (by omega)]
  · rw [if_neg h, if_neg (by omega)]
/-! ### reciprocity -/
def sN (l : List Nat) : Nat := l.foldr (· + ·) 0
theorem sN_cons (x : Nat) (l : List Nat) : sN (x :: l) = x + sN l := rfl
theorem sN_perm {l m : List Nat} (h : l.Perm m) : sN l = sN m := by
  induction h with
  | nil => rfl
  | cons x _ ih => rw [sN_cons, sN_cons, ih]
  | swap x y l => rw [sN_cons, sN_cons, sN_cons, sN_cons]; omega
  | trans _ _ h1 h2 => exact h1.trans h2
theorem sN_par {α : Type} (f g h : α → Nat) : ∀ l : List α, (∀ x ∈ l, f x % 2 = (g x + h x) % 2) → sN (l.map f) % 2 = (sN (l.map g) + sN (l.map h)) % 2
  | [], _ => rfl
  | x :: l, q => by
    have a := q x List.mem_cons_self
    have b := sN_par f g h l fun y hy => q y (List.mem_cons_of_mem _ hy)
    rw [List.map_cons, List.map_cons, List.map_cons, sN_cons, sN_cons, sN_cons]
    omega
def ngN (n a k : Nat) : Nat := if ng n a k = true then 1 else 0
theorem pI_sg (n a : Nat) : ∀ l : List Nat, pI (l.map (sg n a)) = (-1) ^ sN (l.map (ngN n a))
  | [] => rfl
  | x :: l => by
    rw [List.map_cons, List.map_cons, pI_cons, sN_cons, pI_sg n a l, Int.pow_add]
    congr 1
    unfold sg ngN
    split <;> rfl
theorem js_floor {a n : Nat} (ho : n % 2 = 1) (ha : a % 2 = 1) (hg : Nat.gcd a n = 1) : js a n = (-1) ^ sN ((hl n).map fun k => a * k / n) := by
  rw [js_cop hg, pI_sg, m1_par, m1_par]
  have hn : 0 < n := by omega
  have e := sN_par (fun k => k) (fun k => a * k / n + ngN n a k) (rd n a) (hl n) fun k hk => by
    have d := Nat.div_add_mod (a * k) n
    have l := Nat.mod_lt (a * k) hn
    have d2 : (n * (a * k / n)) % 2 = (a * k / n) % 2 := by rw [Nat.mul_mod, ho, Nat.one_mul, Nat.mod_mod]
    have d3 : (a * k) % 2 = k % 2 := by rw [Nat.mul_mod, ha, Nat.one_mul, Nat.mod_mod]
    unfold rd ngN
    split <;> omega
  have e2 := sN_par (fun k => a * k / n + ngN n a k) (fun k => a * k / n) (ngN n a) (hl n) fun k hk => rfl
  have e3 := sN_perm (rd_perm ho hg)
  rw [List.map_id'] at e
  have : sN ((hl n).map (ngN n a)) % 2 = sN ((hl n).map fun k => a * k / n) % 2 := by omega
  rw [this]
theorem grid (P : Nat → Nat → Bool) (M : List Nat) : ∀ L : List Nat, sN (L.map fun k => M.countP fun l => P k l) + sN (M.map fun l => L.countP fun k => !P k l) = L.length * M.length
  | [] => by
    have : ∀ M : List Nat, sN (M.map fun _ => 0) = 0 := by
      intro M
      induction M with
      | nil => rfl
      | cons x r ih => rw [List.map_cons, sN_cons, ih]
    simp only [List.map_nil, List.countP_nil, List.length_nil, Nat.zero_mul, this]
    rfl
  | k :: L => by
    have ih := grid P M L
    have key : ∀ M : List Nat, sN (M.map fun l => (k :: L).countP fun k => !P k l) = sN (M.map fun l => L.countP fun k => !P k l) + M.countP fun l => !P k l := by
      intro M
      induction M with
      | nil => rfl
      | cons x r ih =>
        rw [List.map_cons, List.map_cons, sN_cons, sN_cons, ih, List.countP_cons, List.countP_cons]
        omega
    have both : ∀ M : List Nat, (M.countP fun l => P k l) + (M.countP fun l => !P k l) = M.length := by
      intro M
      induction M with
      | nil => rfl
      | cons x r ih =>
        rw [List.countP_cons, List.countP_cons, List.length_cons]
        cases P k x <;> simp <;> omega
    rw [List.map_cons, sN_cons, key, List.length_cons, Nat.add_mul, Nat.one_mul]
    have := both M
    omega
theorem count_le (c : Nat) : ∀ m : Nat, ((List.range m).map (· + 1)).countP (fun l => decide (l ≤ c)) = min m c
  | 0 => by simp
  | m + 1 => by
    rw [List.range_succ, List.map_append, List.countP_append, count_le c m]
    by_cases h : m + 1 ≤ c
    · simp [h]; omega
    · simp [h]; omega
theorem floor_count {a n k : Nat} (ha : a % 2 = 1) (ho : n % 2 = 1) (hg : Nat.gcd a n = 1) (hk : k ∈ hl n) : (hl a).countP (fun l => decide (l * n < a * k)) = a * k / n := by
  obtain ⟨h1, h2⟩ := hl_mem.mp hk
  have hn : 0 < n := by omega
  have e : (hl a).countP (fun l => decide (l * n < a * k)) = (hl a).countP (fun l => decide (l ≤ a * k / n)) := by
    refine List.countP_congr fun l hl => ?_
    rw [decide_eq_true_iff, decide_eq_true_iff, Nat.le_div_iff_mul_le hn]
    have hne : l * n ≠ a * k := fun z => by
      have p := ak_pos hg h1 (show k < n by omega)
      rw [← z, Nat.mul_mod_left] at p
      omega
    omega
  rw [e]
  unfold hl
  rw [count_le]
  have : a * k / n ≤ a / 2 := by
    have h3 : 2 * (a * k) < a * n := by
      have : a * (2 * k) < a * n := Nat.mul_lt_mul_of_pos_left (by omega) (by omega)
      have e : a * (2 * k) = 2 * (a * k) := by ac_rfl
      omega
    have h4 : a * k / n * n ≤ a * k := Nat.div_mul_le_self _ _
    rcases Nat.lt_or_ge (a / 2) (a * k / n) with q | q
    · exfalso
      have : (a / 2 + 1) * n ≤ a * k / n * n := Nat.mul_le_mul_right _ q
      have h5 : a * n ≤ 2 * ((a / 2 + 1) * n) := by
        rw [← Nat.mul_assoc]
        exact Nat.mul_le_mul_right _ (by omega)
      omega
    · exact q
  omega
theorem js_rec {a n : Nat} (ha : a % 2 = 1) (ho : n % 2 = 1) (hg : Nat.gcd a n = 1) : js a n * js n a = if a % 4 = 3 ∧ n % 4 = 3 then -1 else 1 := by
  have hg2 : Nat.gcd n a = 1 := by rw [Nat.gcd_comm]; exact hg
  rw [js_floor ho ha hg, js_floor ha ho hg2, ← Int.pow_add]
  have g := grid (fun k l => decide (l * n < a * k)) (hl a) (hl n)
  have e1 : (hl n).map (fun k => (hl a).countP fun l => decide (l * n < a * k)) = (hl n).map fun k => a * k / n :=
    List.map_congr_left fun k hk => floor_count ha ho hg hk
  have e2 : (hl a).map (fun l => (hl n).countP fun k => !decide (l * n < a * k)) = (hl a).map fun l => n * l / a := by
    refine List.map_congr_left fun l hl' => ?_
    rw [← floor_count ho ha hg2 hl']
    refine List.countP_congr fun k hk => ?_
    obtain ⟨h1, h2⟩ := hl_mem.mp hk
    have p := ak_pos hg h1 (show k < n by omega)
    have hne : l * n ≠ a * k := fun z => by
      rw [← z, Nat.mul_mod_left] at p
      omega
    simp only [Bool.not_eq_true', decide_eq_false_iff_not, decide_eq_true_iff]
    rw [Nat.mul_comm k a, Nat.mul_comm n l]
    omega
  rw [e1, e2, hl_len, hl_len] at g
  rw [g, m1_par]
  have hm : (n / 2 * (a / 2)) % 2 = 1 ↔ (n / 2 % 2 = 1 ∧ a / 2 % 2 = 1) := by
    rw [Nat.mul_mod]
    rcases Nat.mod_two_eq_zero_or_one (n / 2) with x | x <;> rcases Nat.mod_two_eq_zero_or_one (a / 2) with y | y <;> rw [x, y] <;> simp
  by_cases h : a % 4 = 3 ∧ n % 4 = 3
  · rw [if_pos h, if_pos (hm.mpr ⟨by omega, by omega⟩)]
  · rw [if_neg h, if_neg fun z => h ⟨by have := (hm.mp z).2; omega, by have := (hm.mp z).1; omega⟩]
theorem js_flip {a n : Nat} (ha : a % 2 = 1) (ho : n % 2 = 1) : js a n = (if a % 4 = 3 ∧ n % 4 = 3 then -1 else 1) * js n a := by
  by_cases hg : Nat.gcd a n = 1
  · rw [← js_rec ha ho hg, Int.mul_assoc]
    have : js n a * js n a = 1 := by
      rcases js_pm (show Nat.gcd n a = 1 by rw [Nat.gcd_comm]; exact hg) with h | h <;> rw [h] <;> rfl
    rw [this, Int.mul_one]
  · rw [js_non hg, js_non (by rw [Nat.gcd_comm]; exact hg), Int.mul_zero]
theorem odd_mul {m n : Nat} (hm : m % 2 = 1) (hn : n % 2 = 1) : m * n % 2 = 1 := by rw [Nat.mul_mod, hm, hn]
/-- multiplicative below -/
theorem js_below {m n : Nat} (hm : m % 2 = 1) (hn : n % 2 = 1) (a : Nat) : js a (m * n) = js a m * js a n := by
  have key : ∀ a : Nat, a % 2 = 1 → js a (m * n) = js a m * js a n := fun a ha => by
    rw [js_flip ha (odd_mul hm hn), js_mul ha, js_flip ha hm, js_flip ha hn]
    have e : (m * n) % 4 = (m % 4) * (n % 4) % 4 := Nat.mul_mod _ _ _
    have hm4 : m % 4 = 1 ∨ m % 4 = 3 := by omega
    have hn4 : n % 4 = 1 ∨ n % 4 = 3 := by omega
    have ha4 : a % 4 = 1 ∨ a % 4 = 3 := by omega
    rcases hm4 with x | x <;> rcases hn4 with y | y <;> rcases ha4 with z | z <;> rw [e, x, y, z] <;> simp <;> try grind
  rcases Nat.mod_two_eq_zero_or_one a with h | h
  · have e := key (a + m * n) (by have := odd_mul hm hn; omega)
    have c1 : js (a + m * n) (m * n) = js a (m * n) := js_congr (by rw [Nat.add_mod_right])
    have c2 : js (a + m * n) m = js a m := js_congr (by rw [Nat.add_mul_mod_self_left])
    have c3 : js (a + m * n) n = js a n := js_congr (by rw [Nat.add_mul_mod_self_right])
    rw [c1, c2, c3] at e
    exact e
  · exact key a h
theorem js_one (a : Nat) : js a 1 = 1 := by
  have : Nat.gcd a 1 = 1 := Nat.gcd_one_right a
  rw [js_cop this]; rfl
theorem js_zero {n : Nat} : js 0 n = if n = 1 then 1 else 0 := by
  by_cases h : n = 1
  · subst h; rw [if_pos rfl]; exact js_one 0
  · rw [if_neg h]; exact js_non (by rw [Nat.gcd_zero_left]; exact h)
theorem js_pow (ho : n % 2 = 1) (a : Nat) : ∀ k, js (a ^ k) n = js a n ^ k
  | 0 => by
    rw [Nat.pow_zero, js_cop (Nat.gcd_one_left n)]
    have : ∀ l : List Nat, (∀ x ∈ l, x ∈ hl n) → pI (l.map (sg n 1)) = 1 := by
      intro l
      induction l with
      | nil => intro _; rfl
      | cons x r ih =>
        intro hs
        rw [List.map_cons, pI_cons, ih fun y hy => hs y (List.mem_cons_of_mem _ hy), Int.mul_one]
        obtain ⟨h1, h2⟩ := hl_mem.mp (hs x List.mem_cons_self)
        unfold sg ng
        rw [Nat.one_mul, Nat.mod_eq_of_lt (show x < n by omega), if_neg]
        intro z
        have := of_decide_eq_true z
        omega
    rw [Int.pow_zero]
    exact this _ fun x h => h
  | k + 1 => by rw [Nat.pow_succ, js_mul ho, js_pow ho a k, Int.pow_succ]
end
end Mi
set_option maxHeartbeats 4000000
namespace Mi
open PySem PySem.Spec L2
def topS (i : Nat) : Stmt := PySem.Challenge.pw_curveseal_k04_jacobi_symbols.main.body.getD i (.Pass ⟨0, 0, 0, 0⟩)

abbrev s_jacobi : Stmt := topS 5
theorem sc_jacobi : FnScope ["a", "n", "sign", "upper", "lower", "twos"] ["a", "n"] (defScope s_jacobi) := ⟨rfl, rfl, rfl, by decide +kernel, rfl, by decide +kernel, by decide +kernel⟩
abbrev s_split_twos : Stmt := topS 6
theorem sc_split_twos : FnScope ["number", "twos"] ["number"] (defScope s_split_twos) := ⟨rfl, rfl, rfl, by decide +kernel, rfl, by decide +kernel, by decide +kernel⟩
abbrev s_u_law_cell : Stmt := topS 8
theorem sc_u_law_cell : FnScope ["script", "k"] ["script", "k"] (defScope s_u_law_cell) := ⟨rfl, rfl, rfl, by decide +kernel, rfl, by decide +kernel, by decide +kernel⟩
abbrev s_u_law_is_integer : Stmt := topS 9
theorem sc_u_law_is_integer : FnScope ["actual"] ["actual"] (defScope s_u_law_is_integer) := ⟨rfl, rfl, rfl, by decide +kernel, rfl, by decide +kernel, by decide +kernel⟩
abbrev s_u_law_number : Stmt := topS 10
theorem sc_u_law_number : FnScope ["cell", "salt", "rest", "state", "number", "k"] ["cell", "salt"] (defScope s_u_law_number) := ⟨rfl, rfl, rfl, by decide +kernel, rfl, by decide +kernel, by decide +kernel⟩
abbrev s_u_law_class : Stmt := topS 11
theorem sc_u_law_class : FnScope ["a", "prime", "value", "square", "exponent", "k"] ["a", "prime"] (defScope s_u_law_class) := ⟨rfl, rfl, rfl, by decide +kernel, rfl, by decide +kernel, by decide +kernel⟩
abbrev s_u_law_symbol : Stmt := topS 12
theorem sc_u_law_symbol : FnScope ["a", "n", "symbol", "divisor", "k"] ["a", "n"] (defScope s_u_law_symbol) := ⟨rfl, rfl, rfl, by decide +kernel, rfl, by decide +kernel, by decide +kernel⟩
abbrev s_u_law_odd : Stmt := topS 13
theorem sc_u_law_odd : FnScope ["cell", "rest", "number", "k"] ["cell"] (defScope s_u_law_odd) := ⟨rfl, rfl, rfl, by decide +kernel, rfl, by decide +kernel, by decide +kernel⟩
abbrev s_u_law_common : Stmt := topS 14
theorem sc_u_law_common : FnScope ["m", "n", "k"] ["m", "n"] (defScope s_u_law_common) := ⟨rfl, rfl, rfl, by decide +kernel, rfl, by decide +kernel, by decide +kernel⟩
abbrev s_u_law_refused : Stmt := topS 15
theorem sc_u_law_refused : FnScope ["a", "n", "e"] ["a", "n"] (defScope s_u_law_refused) := ⟨rfl, rfl, rfl, by decide +kernel, rfl, by decide +kernel, by decide +kernel⟩
abbrev s_law : Stmt := topS 16
theorem sc_law : FnScope ["script", "n", "m", "a", "b", "number", "lower", "actual"] ["script"] (defScope s_law) := ⟨rfl, rfl, rfl, by decide +kernel, rfl, by decide +kernel, by decide +kernel⟩
def errs : List Str := ["CurveError", "OutOfRange", "NoInverse"]
def ancE : List (Str × List Str) := [("CurveError", ["CurveError"]), ("OutOfRange", ["OutOfRange", "CurveError"]), ("NoInverse", ["NoInverse", "CurveError"])]
def subE (c d : Str) : Bool := match ancE.lookup c with | some l => decide (d ∈ l) | none => false
abbrev FnP (K : PySem.W.Frag) (x q : Str) (st : Stmt) (f : Addr) (fd : FuncData) : Prop := FunD K x q (defArgs st) (defBody st) (defScope st) [] [] f fd
structure Facts (K : PySem.W.Frag) (mg : Str → Option Value) : Prop where
  d_jacobi : ∃ fd, FnP K "jacobi" "jacobi" s_jacobi (He.ga K "jacobi") fd
  g_jacobi : mg "jacobi" = some (.ref (He.ga K "jacobi"))
  d_split_twos : ∃ fd, FnP K "split_twos" "split_twos" s_split_twos (He.ga K "split_twos") fd
  g_split_twos : mg "split_twos" = some (.ref (He.ga K "split_twos"))
  d_u_law_cell : ∃ fd, FnP K "_law_cell" "_law_cell" s_u_law_cell (He.ga K "_law_cell") fd
  g_u_law_cell : mg "_law_cell" = some (.ref (He.ga K "_law_cell"))
  d_u_law_is_integer : ∃ fd, FnP K "_law_is_integer" "_law_is_integer" s_u_law_is_integer (He.ga K "_law_is_integer") fd
  g_u_law_is_integer : mg "_law_is_integer" = some (.ref (He.ga K "_law_is_integer"))
  d_u_law_number : ∃ fd, FnP K "_law_number" "_law_number" s_u_law_number (He.ga K "_law_number") fd
  g_u_law_number : mg "_law_number" = some (.ref (He.ga K "_law_number"))
  d_u_law_class : ∃ fd, FnP K "_law_class" "_law_class" s_u_law_class (He.ga K "_law_class") fd
  g_u_law_class : mg "_law_class" = some (.ref (He.ga K "_law_class"))
  d_u_law_symbol : ∃ fd, FnP K "_law_symbol" "_law_symbol" s_u_law_symbol (He.ga K "_law_symbol") fd
  g_u_law_symbol : mg "_law_symbol" = some (.ref (He.ga K "_law_symbol"))
  d_u_law_odd : ∃ fd, FnP K "_law_odd" "_law_odd" s_u_law_odd (He.ga K "_law_odd") fd
  g_u_law_odd : mg "_law_odd" = some (.ref (He.ga K "_law_odd"))
  d_u_law_common : ∃ fd, FnP K "_law_common" "_law_common" s_u_law_common (He.ga K "_law_common") fd
  g_u_law_common : mg "_law_common" = some (.ref (He.ga K "_law_common"))
  d_u_law_refused : ∃ fd, FnP K "_law_refused" "_law_refused" s_u_law_refused (He.ga K "_law_refused") fd
  g_u_law_refused : mg "_law_refused" = some (.ref (He.ga K "_law_refused"))
  d_law : ∃ fd, FnP K "law" "law" s_law (He.ga K "law") fd
  g_law : mg "law" = some (.ref (He.ga K "law"))
  g_CurveError : mg "CurveError" = some (.ref (He.ga K "CurveError"))
  g_OutOfRange : mg "OutOfRange" = some (.ref (He.ga K "OutOfRange"))
  g_NoInverse : mg "NoInverse" = some (.ref (He.ga K "NoInverse"))
  x_OutOfRange : PySem.W.excIn K (He.ga K "OutOfRange") He.veBase "ValueError.__new__" = true
  k_OutOfRange : PySem.W.keepIn K (.ref (He.ga K "OutOfRange")) = true
  b_OutOfRange : PySem.W.subIn K (.ref (He.ga K "OutOfRange")) (.type "BaseException") = some true
  t_OutOfRange : PySem.W.typeIn K (.ref (He.ga K "OutOfRange")) = some (.type "type")
  n_abs : mg "abs" = none
  n_bool : mg "bool" = none
  n_int : mg "int" = none
  n_isinstance : mg "isinstance" = none
  n_len : mg "len" = none
  n_range : mg "range" = none
  cls : Cls K errs subE
noncomputable def m_split_twos (number_ : Int) : Res (T2 Int Int) :=
  ((Res.ok (((Builtin.Int.intBits (Builtin.bitAnd number_ (-number_)) : Nat) : Int) - (1 : Int)))).bind fun (twos_ : Int) =>   ((Res.need (0 ≤ twos_) (Res.ok (number_ / 2 ^ twos_.toNat))).bind fun a1 => Res.ok (a1, (twos_, ()))).bind fun p3 => Res.ok (T2.mk p3.1 p3.2.1)
theorem ok_split_twos {P : Program} {w : World} {K : PySem.W.Frag} {mg : Str → Option Value} {base : Heap} (T : Facts K mg) {fd : FuncData} (F : FnP K "split_twos" "split_twos" s_split_twos (He.ga K "split_twos") fd) :
    FnOk P w K mg base (L2.CX P w) 1 (He.ga K "split_twos") fd ["number"] (spM K (fun (p : Int × Unit) => m_split_twos p.1)) := by
  refine fn_ok F sc_split_twos (fun y => rfl) (fun cdv A outer s H E hr => ?_)
  refine ⟨_, (pss_cons (ps_set (i := 1) sc_split_twos.nd rfl (Or.inl rfl) (pe_op op_sub (pe_bits (pe_op op_and (pv 0) (pe_un un_neg (pv 0)))) pe_int)) (pss_one (ps_ret (pe_tup (pa_cons (pe_op op_shr (pv 0) (pv 1)) (pa_cons (pv 1) pa_nil)))))), ?_⟩
  rintro ⟨number_, ⟨⟩⟩ F0 H0 Q KP L
  show Blk K F0 H0 KP _ [some (.im (toD number_)), none] (m_split_twos number_)
  unfold m_split_twos
  have hs_ := ((ev_op (opx_I0 (g := fun i j => i - j)) mild_ok (ev_bits (ev_op (opx_I0 (g := Builtin.bitAnd)) mild_ok (ev_var (i := 0) (x := number_) rfl) (ev_un (g := fun i => -i) (ev_var (i := 0) (x := number_) rfl)))) (ev_int (i := 1))) : EvX K (W0 E) [some (.im (toD number_)), none] _ _); replace hs_ : EvX K (W0 E) [some (.im (toD number_)), none] _ (Res.ok (((Builtin.Int.intBits (Builtin.bitAnd number_ (-number_)) : Nat) : Int) - (1 : Int)) : Res Int) := hs_
  refine blk_seq (blk_set (i := 1) L trivial hs_ fun twos_ => ?_)
  show Blk _ _ _ _ _ [some (.im (toD number_)), some (.im (toD twos_))] _
  try refine Blk.nx ?_
  have hr_ := ((ev_tup (f := (fun y => T2.mk y.1 y.2.1)) (ea_cons (ev_op (opx_I (C := (fun _ j => 0 ≤ j)) (g := fun i j => i / 2 ^ j.toNat)) mild_need (ev_var (i := 0) (x := number_) rfl) (ev_var (i := 1) (x := twos_) rfl)) (ea_cons (ev_var (i := 1) (x := twos_) rfl) ea_nil)) (fun _ => rfl) (fun _ => by show 2 ≤ 100000; decide)) : EvX K (W0 E) [some (.im (toD number_)), some (.im (toD twos_))] _ _); replace hr_ : EvX K (W0 E) [some (.im (toD number_)), some (.im (toD twos_))] _ (((Res.need (0 ≤ twos_) (Res.ok (number_ / 2 ^ twos_.toNat))).bind fun a1 => Res.ok (a1, (twos_, ()))).bind fun p3 => Res.ok (T2.mk p3.1 p3.2.1)) := hr_
  exact blk_ret L trivial hr_
noncomputable def m_jacobi_k4 (upper_ : Int) (lower_ : Int) (g2 : Int × Int × Int → Res Int) : Int → Res Int := fun sign_ =>   (Res.need (0 < upper_) (Res.ok (lower_ % upper_))).bind fun (p6 : Int) => ((Res.ok upper_)).bind fun (p7 : Int) =>   (fun (upper_ : Int) (lower_ : Int) => g2 (sign_, upper_, lower_)) p6 p7
noncomputable def m_jacobi_k3 (upper_ : Int) (lower_ : Int) (g2 : Int × Int × Int → Res Int) : Int → Res Int := fun sign_ =>   (cond (decide ((upper_ % (4 : Int)) = (3 : Int))) ((Res.ok (decide ((lower_ % (4 : Int)) = (3 : Int))))) (Res.ok false)).bind fun b => cond b   (((Res.ok (-sign_))).bind fun (sign_ : Int) =>   (m_jacobi_k4 upper_ lower_ (g2)) sign_)   ((m_jacobi_k4 upper_ lower_ (g2)) sign_)
noncomputable def m_jacobi_w2 (k2 : Int × Int × Int → Res Int) : Nat → Int × Int × Int → Res Int
  | 0, _ => Res.stuck
  | n2 + 1, (sign_, upper_, lower_) => ((Res.ok (!decide (upper_ = (0 : Int))))).bind fun b => cond b   ((m_split_twos upper_).bind fun (u4 : (T2 Int Int)) =>   (fun (upper_ : Int) (twos_ : Int) => (cond (decide ((twos_ % (2 : Int)) = (1 : Int))) ((Res.ok (decide ((lower_ % (8 : Int)) ∈ (((fun (x : (T2 Int Int)) => Tu.mk [x.a, x.b]) (T2.mk (3 : Int) (5 : Int)))).xs)))) (Res.ok false)).bind fun b => cond b   (((Res.ok (-sign_))).bind fun (sign_ : Int) =>   (m_jacobi_k3 upper_ lower_ (m_jacobi_w2 k2 n2)) sign_)   ((m_jacobi_k3 upper_ lower_ (m_jacobi_w2 k2 n2)) sign_)) u4.a u4.b)   (k2 (sign_, upper_, lower_))
noncomputable def m_jacobi_k5 : Int × Int × Int → Res Int := fun (sign_, upper_, lower_) =>   cond (decide (lower_ = (1 : Int))) ((Res.ok sign_)) ((Res.ok (0 : Int)))
noncomputable def m_jacobi (a_ : Int) (n_ : Int) : Res Int :=
  (cond (decide (n_ < (1 : Int))) (Res.ok true) ((Res.ok (decide ((n_ % (2 : Int)) = (0 : Int)))))).bind fun b => cond b   (Res.exc "OutOfRange")   (((Res.ok (1 : Int))).bind fun (sign_ : Int) =>   (Res.need (0 < n_) (Res.ok (a_ % n_))).bind fun (p8 : Int) => ((Res.ok n_)).bind fun (p9 : Int) =>   (fun (upper_ : Int) (lower_ : Int) => m_jacobi_w2 (m_jacobi_k5) (upper_.toNat + 1) (sign_, upper_, lower_)) p8 p9)
theorem ok_jacobi {P : Program} {w : World} {K : PySem.W.Frag} {mg : Str → Option Value} {base : Heap} (T : Facts K mg) {fd : FuncData} (F : FnP K "jacobi" "jacobi" s_jacobi (He.ga K "jacobi") fd) :
    FnOk P w K mg base (L2.CX P w) 2 (He.ga K "jacobi") fd ["a", "n"] (spM K (fun (p : Int × Int × Unit) => m_jacobi p.1 p.2.1)) := by
  obtain ⟨fd_split_twos, F_split_twos⟩ := T.d_split_twos
  have G_split_twos := ok_split_twos (P := P) (w := w) (base := base) T F_split_twos
  have b_split_twos : Binds K fd_split_twos ["number"] [] := F_split_twos.bindsN fun _ _ _ _ _ _ us hl => match us, hl with | [_], _ => rfl
  refine fn_ok F sc_jacobi (fun y => rfl) (fun cdv A outer s H E hr => ?_)
  refine ⟨_, (pss_cons (ps_if (PW.pt (pw_or (pt_cmpR op_lt (pv 1) pe_int (nomark _)) (pw_or1 (pt_cmpR op_eq (pe_op op_mod (pv 1) pe_int) pe_int (nomark _))))) (pss_one (ps_raise rfl (takes_of rfl rfl rfl rfl) (pmk_own PySem.F.excBase_ValueError T.x_OutOfRange T.g_OutOfRange T.k_OutOfRange (raises_own T.b_OutOfRange T.t_OutOfRange) rfl))) pss_nil) (pss_cons (ps_set (i := 2) sc_jacobi.nd rfl (Or.inl rfl) pe_int) (pss_cons (ps_par (i := 3) (j := 4) (by rfl) sc_jacobi.nd rfl rfl (by decide) rfl rfl (pa_cons (pe_op op_mod (pv 0) (pv 1)) (pa_cons (pv 1) pa_nil)) (by rfl)) (pss_cons (ps_while (passes_of rfl) (pt_cmpR op_ne (pv 3) pe_int (nomark _)) (pss_cons (ps_asg (pe_callS G_split_twos (hr.mono (by decide)) rfl T.g_split_twos F_split_twos.kp b_split_twos (fun σ => passAt (takes_of rfl rfl rfl rfl) σ) (pa_cons (pv 3) pa_nil)) (pg_tup rfl (pgs_cons (pg_name (i := 3) sc_jacobi.nd rfl (Or.inl rfl)) (pgs_cons (pg_name (i := 5) sc_jacobi.nd rfl (Or.inl rfl)) pgs_nil)))) (pss_cons (ps_if (PW.pt (pw_and (pt_cmpR op_eq (pe_op op_mod (pv 5) pe_int) pe_int (nomark _)) (pw_and1 (pt_cmpR op_in_seq (pe_op op_mod (pv 4) pe_int) (pe_tup (pa_cons pe_int (pa_cons pe_int pa_nil))) rfl)))) (pss_one (ps_set (i := 2) sc_jacobi.nd rfl (Or.inl rfl) (pe_un un_neg (pv 2)))) pss_nil) (pss_cons (ps_if (PW.pt (pw_and (pt_cmpR op_eq (pe_op op_mod (pv 3) pe_int) pe_int (nomark _)) (pw_and1 (pt_cmpR op_eq (pe_op op_mod (pv 4) pe_int) pe_int (nomark _))))) (pss_one (ps_set (i := 2) sc_jacobi.nd rfl (Or.inl rfl) (pe_un un_neg (pv 2)))) pss_nil) (pss_one (ps_par (i := 3) (j := 4) (by rfl) sc_jacobi.nd rfl rfl (by decide) rfl rfl (pa_cons (pe_op op_mod (pv 4) (pv 3)) (pa_cons (pv 3) pa_nil)) (by rfl))))))) (pss_one (ps_ret (pe_ifExp (pt_cmpR op_eq (pv 4) pe_int (nomark _)) (pv 2) pe_int))))))), ?_⟩
  rintro ⟨a_, n_, ⟨⟩⟩ F0 H0 Q KP L
  show Blk K F0 H0 KP _ [some (.im (toD a_)), some (.im (toD n_)), none, none, none, none] (m_jacobi a_ n_)
  unfold m_jacobi
  have ht_ := ((et_or (et_test (ev_op (opx_B0 (g := fun i j => decide (i < j))) mild_ok (ev_var (i := 1) (x := n_) rfl) (ev_int (i := 1)))) (et_test (ev_op opx_eqI mild_ok (ev_opI (C := (fun _ j => 0 < j)) (g := fun i j => i % j) (fun x y _ h => by cases h; (show (0 : Int) < _; decide)) (ev_var (i := 1) (x := n_) rfl) (ev_int (i := 2))) (ev_int (i := 0))))) : EvT K (W0 E) [some (.im (toD a_)), some (.im (toD n_)), none, none, none, none] _ _); replace ht_ : EvT K (W0 E) [some (.im (toD a_)), some (.im (toD n_)), none, none, none, none] _ (cond (decide (n_ < (1 : Int))) (Res.ok true) ((Res.ok (decide ((n_ % (2 : Int)) = (0 : Int)))))) := ht_
  refine blk_seq (blk_if2 L trivial ht_ ?_ ?_)
  · exact blk_raise L trivial
  · refine blk_nil ?_
    try refine Blk.nx ?_
    have hs_ := ((ev_int (i := 1)) : EvX K (W0 E) [some (.im (toD a_)), some (.im (toD n_)), none, none, none, none] _ _); replace hs_ : EvX K (W0 E) [some (.im (toD a_)), some (.im (toD n_)), none, none, none, none] _ (Res.ok (1 : Int) : Res Int) := hs_
    refine blk_seq (blk_set (i := 2) L trivial hs_ fun sign_ => ?_)
    show Blk _ _ _ _ _ [some (.im (toD a_)), some (.im (toD n_)), some (.im (toD sign_)), none, none, none] _
    try refine Blk.nx ?_
    have ha_ := ((ev_op (opx_I (C := (fun _ j => 0 < j)) (g := fun i j => i % j)) mild_need (ev_var (i := 0) (x := a_) rfl) (ev_var (i := 1) (x := n_) rfl)) : EvX K (W0 E) [some (.im (toD a_)), some (.im (toD n_)), some (.im (toD sign_)), none, none, none] _ _); replace ha_ : EvX K (W0 E) [some (.im (toD a_)), some (.im (toD n_)), some (.im (toD sign_)), none, none, none] _ (Res.need (0 < n_) (Res.ok (a_ % n_))) := ha_
    have hb_ := ((ev_var (i := 1) (x := n_) rfl) : EvX K (W0 E) [some (.im (toD a_)), some (.im (toD n_)), some (.im (toD sign_)), none, none, none] _ _); replace hb_ : EvX K (W0 E) [some (.im (toD a_)), some (.im (toD n_)), some (.im (toD sign_)), none, none, none] _ (Res.ok n_ : Res Int) := hb_
    refine blk_seq (blk_par (i := 3) (j := 4) L trivial ha_ hb_ fun upper_ lower_ => ?_)
    show Blk _ _ _ _ _ [some (.im (toD a_)), some (.im (toD n_)), some (.im (toD sign_)), some (.im (toD upper_)), some (.im (toD lower_)), none] _
    try refine Blk.nx ?_
    refine blk_seq (blk_while (S := Int × Int × Int) (m_jacobi_w2 (m_jacobi_k5)) (fun (s : Int × Int × Int) => match s with | (sign_, upper_, lower_) => (Res.ok (!decide (upper_ = (0 : Int))))) (fun n s => match s with | (sign_, upper_, lower_) => (m_split_twos upper_).bind fun (u4 : (T2 Int Int)) =>   (fun (upper_ : Int) (twos_ : Int) => (cond (decide ((twos_ % (2 : Int)) = (1 : Int))) ((Res.ok (decide ((lower_ % (8 : Int)) ∈ (((fun (x : (T2 Int Int)) => Tu.mk [x.a, x.b]) (T2.mk (3 : Int) (5 : Int)))).xs)))) (Res.ok false)).bind fun b => cond b   (((Res.ok (-sign_))).bind fun (sign_ : Int) =>   (m_jacobi_k3 upper_ lower_ (m_jacobi_w2 (m_jacobi_k5) n)) sign_)   ((m_jacobi_k3 upper_ lower_ (m_jacobi_w2 (m_jacobi_k5) n)) sign_)) u4.a u4.b) (m_jacobi_k5) (fun (sign_, upper_, lower_) => [some (.im (toD a_)), some (.im (toD n_)), some (.im (toD sign_)), some (.im (toD upper_)), some (.im (toD lower_)), none]) (sign_, upper_, lower_) (upper_.toNat + 1) L ?_ (.same (.same (.same (.same (.same (.same .nil)))))) ?_ (fun ⟨_, _, _⟩ => rfl) (fun _ ⟨_, _, _⟩ => rfl) ?_ ?_)
    · rintro ⟨sign_, upper_, lower_⟩
      exact trivial
    · rintro ⟨sign_, upper_, lower_⟩
      exact ((et_test (ev_op opx_neI mild_ok (ev_var (i := 3) (x := upper_) rfl) (ev_int (i := 0)))) : EvT K (W0 E) [some (.im (toD a_)), some (.im (toD n_)), some (.im (toD sign_)), some (.im (toD upper_)), some (.im (toD lower_)), none] _ _)
    · intro n2 s_ N_ hN2
      obtain ⟨sign_, upper_, lower_⟩ := s_
      show Blk _ _ _ _ _ [some (.im (toD a_)), some (.im (toD n_)), some (.im (toD sign_)), some (.im (toD upper_)), some (.im (toD lower_)), none] _
      have hs_ := ((ev_call (f := (fun (p : Int × Unit) => m_split_twos p.1)) (ea_cons (ev_var (i := 3) (x := upper_) rfl) ea_nil)) : EvX K (W0 E) [some (.im (toD a_)), some (.im (toD n_)), some (.im (toD sign_)), some (.im (toD upper_)), some (.im (toD lower_)), none] _ _); replace hs_ : EvX K (W0 E) [some (.im (toD a_)), some (.im (toD n_)), some (.im (toD sign_)), some (.im (toD upper_)), some (.im (toD lower_)), none] _ (m_split_twos upper_) := hs_
      refine blk_seq (blk_asg L trivial hs_ (fun _ => (gx_tup (gxs_cons gx_name (gxs_cons gx_name gxs_nil)) rfl)) fun u4 => ?_)
      show Blk _ _ _ _ _ [some (.im (toD a_)), some (.im (toD n_)), some (.im (toD sign_)), some (.im (toD u4.a)), some (.im (toD lower_)), some (.im (toD u4.b))] ((fun (upper_ : Int) (twos_ : Int) => _) u4.a u4.b)
      generalize u4.a = upper_
      generalize u4.b = twos_
      show Blk _ _ _ _ _ [some (.im (toD a_)), some (.im (toD n_)), some (.im (toD sign_)), some (.im (toD upper_)), some (.im (toD lower_)), some (.im (toD twos_))] _
      try refine Blk.nx ?_
      have ht_ := ((et_and (et_test (ev_op opx_eqI mild_ok (ev_opI (C := (fun _ j => 0 < j)) (g := fun i j => i % j) (fun x y _ h => by cases h; (show (0 : Int) < _; decide)) (ev_var (i := 5) (x := twos_) rfl) (ev_int (i := 2))) (ev_int (i := 1)))) (et_test (ev_op (opx_inI false) mild_ok (ev_opI (C := (fun _ j => 0 < j)) (g := fun i j => i % j) (fun x y _ h => by cases h; (show (0 : Int) < _; decide)) (ev_var (i := 4) (x := lower_) rfl) (ev_int (i := 8))) (ev_as (ev_tup (f := (fun y => T2.mk y.1 y.2.1)) (ea_cons (ev_int (i := 3)) (ea_cons (ev_int (i := 5)) ea_nil)) (fun _ => rfl) (fun _ => by show 2 ≤ 100000; decide)) (fun (x : (T2 Int Int)) => Tu.mk [x.a, x.b]) (fun _ => rfl) rfl)))) : EvT K (W0 E) [some (.im (toD a_)), some (.im (toD n_)), some (.im (toD sign_)), some (.im (toD upper_)), some (.im (toD lower_)), some (.im (toD twos_))] _ _); replace ht_ : EvT K (W0 E) [some (.im (toD a_)), some (.im (toD n_)), some (.im (toD sign_)), some (.im (toD upper_)), some (.im (toD lower_)), some (.im (toD twos_))] _ (cond (decide ((twos_ % (2 : Int)) = (1 : Int))) ((Res.ok (decide ((lower_ % (8 : Int)) ∈ (((fun (x : (T2 Int Int)) => Tu.mk [x.a, x.b]) (T2.mk (3 : Int) (5 : Int)))).xs)))) (Res.ok false)) := ht_
      refine blk_seq (blk_ifj (S := Int) (fun sign_ => [some (.im (toD a_)), some (.im (toD n_)), some (.im (toD sign_)), some (.im (toD upper_)), some (.im (toD lower_)), some (.im (toD twos_))]) (m_jacobi_k3 upper_ lower_ (m_jacobi_w2 (m_jacobi_k5) n2)) L trivial ht_ ?_ ?_ ?_)
      · intro sign_
        show Blk _ _ _ _ _ [some (.im (toD a_)), some (.im (toD n_)), some (.im (toD sign_)), some (.im (toD upper_)), some (.im (toD lower_)), some (.im (toD twos_))] ((m_jacobi_k3 upper_ lower_ (m_jacobi_w2 (m_jacobi_k5) n2)) sign_)
        unfold m_jacobi_k3
        try refine Blk.nx ?_
        have ht_ := ((et_and (et_test (ev_op opx_eqI mild_ok (ev_opI (C := (fun _ j => 0 < j)) (g := fun i j => i % j) (fun x y _ h => by cases h; (show (0 : Int) < _; decide)) (ev_var (i := 3) (x := upper_) rfl) (ev_int (i := 4))) (ev_int (i := 3)))) (et_test (ev_op opx_eqI mild_ok (ev_opI (C := (fun _ j => 0 < j)) (g := fun i j => i % j) (fun x y _ h => by cases h; (show (0 : Int) < _; decide)) (ev_var (i := 4) (x := lower_) rfl) (ev_int (i := 4))) (ev_int (i := 3))))) : EvT K (W0 E) [some (.im (toD a_)), some (.im (toD n_)), some (.im (toD sign_)), some (.im (toD upper_)), some (.im (toD lower_)), some (.im (toD twos_))] _ _); replace ht_ : EvT K (W0 E) [some (.im (toD a_)), some (.im (toD n_)), some (.im (toD sign_)), some (.im (toD upper_)), some (.im (toD lower_)), some (.im (toD twos_))] _ (cond (decide ((upper_ % (4 : Int)) = (3 : Int))) ((Res.ok (decide ((lower_ % (4 : Int)) = (3 : Int))))) (Res.ok false)) := ht_
        refine blk_seq (blk_ifj (S := Int) (fun sign_ => [some (.im (toD a_)), some (.im (toD n_)), some (.im (toD sign_)), some (.im (toD upper_)), some (.im (toD lower_)), some (.im (toD twos_))]) (m_jacobi_k4 upper_ lower_ (m_jacobi_w2 (m_jacobi_k5) n2)) L trivial ht_ ?_ ?_ ?_)
        · intro sign_
          show Blk _ _ _ _ _ [some (.im (toD a_)), some (.im (toD n_)), some (.im (toD sign_)), some (.im (toD upper_)), some (.im (toD lower_)), some (.im (toD twos_))] ((m_jacobi_k4 upper_ lower_ (m_jacobi_w2 (m_jacobi_k5) n2)) sign_)
          unfold m_jacobi_k4
          try refine Blk.nx ?_
          have ha_ := ((ev_op (opx_I (C := (fun _ j => 0 < j)) (g := fun i j => i % j)) mild_need (ev_var (i := 4) (x := lower_) rfl) (ev_var (i := 3) (x := upper_) rfl)) : EvX K (W0 E) [some (.im (toD a_)), some (.im (toD n_)), some (.im (toD sign_)), some (.im (toD upper_)), some (.im (toD lower_)), some (.im (toD twos_))] _ _); replace ha_ : EvX K (W0 E) [some (.im (toD a_)), some (.im (toD n_)), some (.im (toD sign_)), some (.im (toD upper_)), some (.im (toD lower_)), some (.im (toD twos_))] _ (Res.need (0 < upper_) (Res.ok (lower_ % upper_))) := ha_
          have hb_ := ((ev_var (i := 3) (x := upper_) rfl) : EvX K (W0 E) [some (.im (toD a_)), some (.im (toD n_)), some (.im (toD sign_)), some (.im (toD upper_)), some (.im (toD lower_)), some (.im (toD twos_))] _ _); replace hb_ : EvX K (W0 E) [some (.im (toD a_)), some (.im (toD n_)), some (.im (toD sign_)), some (.im (toD upper_)), some (.im (toD lower_)), some (.im (toD twos_))] _ (Res.ok upper_ : Res Int) := hb_
          refine blk_par (i := 3) (j := 4) L trivial ha_ hb_ fun upper_ lower_ => ?_
          show Blk _ _ _ _ _ [some (.im (toD a_)), some (.im (toD n_)), some (.im (toD sign_)), some (.im (toD upper_)), some (.im (toD lower_)), some (.im (toD twos_))] _
          try refine Blk.nx ?_
          exact (hN2 (sign_, upper_, lower_)).weak (.same (.same (.same (.same (.same (.drop .nil))))))
        · intro hk4
          have hs_ := ((ev_un (g := fun i => -i) (ev_var (i := 2) (x := sign_) rfl)) : EvX K (W0 E) [some (.im (toD a_)), some (.im (toD n_)), some (.im (toD sign_)), some (.im (toD upper_)), some (.im (toD lower_)), some (.im (toD twos_))] _ _); replace hs_ : EvX K (W0 E) [some (.im (toD a_)), some (.im (toD n_)), some (.im (toD sign_)), some (.im (toD upper_)), some (.im (toD lower_)), some (.im (toD twos_))] _ (Res.ok (-sign_) : Res Int) := hs_
          refine blk_set (i := 2) L trivial hs_ fun sign_ => ?_
          show Blk _ _ _ _ _ [some (.im (toD a_)), some (.im (toD n_)), some (.im (toD sign_)), some (.im (toD upper_)), some (.im (toD lower_)), some (.im (toD twos_))] _
          try refine Blk.nx ?_
          exact (hk4 sign_).weak (.same (.same (.same (.same (.same (.same .nil))))))
        · intro hk4
          refine blk_nil ?_
          try refine Blk.nx ?_
          exact (hk4 sign_).weak (.same (.same (.same (.same (.same (.same .nil))))))
      · intro hk3
        have hs_ := ((ev_un (g := fun i => -i) (ev_var (i := 2) (x := sign_) rfl)) : EvX K (W0 E) [some (.im (toD a_)), some (.im (toD n_)), some (.im (toD sign_)), some (.im (toD upper_)), some (.im (toD lower_)), some (.im (toD twos_))] _ _); replace hs_ : EvX K (W0 E) [some (.im (toD a_)), some (.im (toD n_)), some (.im (toD sign_)), some (.im (toD upper_)), some (.im (toD lower_)), some (.im (toD twos_))] _ (Res.ok (-sign_) : Res Int) := hs_
        refine blk_set (i := 2) L trivial hs_ fun sign_ => ?_
        show Blk _ _ _ _ _ [some (.im (toD a_)), some (.im (toD n_)), some (.im (toD sign_)), some (.im (toD upper_)), some (.im (toD lower_)), some (.im (toD twos_))] _
        try refine Blk.nx ?_
        exact (hk3 sign_).weak (.same (.same (.same (.same (.same (.same .nil))))))
      · intro hk3
        refine blk_nil ?_
        try refine Blk.nx ?_
        exact (hk3 sign_).weak (.same (.same (.same (.same (.same (.same .nil))))))
    · rintro ⟨sign_, upper_, lower_⟩
      show Blk _ _ _ _ _ [some (.im (toD a_)), some (.im (toD n_)), some (.im (toD sign_)), some (.im (toD upper_)), some (.im (toD lower_)), none] ((m_jacobi_k5) (sign_, upper_, lower_))
      unfold m_jacobi_k5
      try refine Blk.nx ?_
      have hr_ := ((ev_if (et_test (ev_op opx_eqI mild_ok (ev_var (i := 4) (x := lower_) rfl) (ev_int (i := 1)))) (ev_var (i := 2) (x := sign_) rfl) (ev_int (i := 0))) : EvX K (W0 E) [some (.im (toD a_)), some (.im (toD n_)), some (.im (toD sign_)), some (.im (toD upper_)), some (.im (toD lower_)), none] _ _); replace hr_ : EvX K (W0 E) [some (.im (toD a_)), some (.im (toD n_)), some (.im (toD sign_)), some (.im (toD upper_)), some (.im (toD lower_)), none] _ (cond (decide (lower_ = (1 : Int))) ((Res.ok sign_)) ((Res.ok (0 : Int)))) := hr_
      exact blk_ret L trivial hr_
noncomputable def m_u_law_cell (script_ : (Ro Int)) (k_ : Int) : Res Int :=
  ((Res.ok (decide (k_ < ((script_).xs.length : Int))))).bind fun b => cond b   (((idx (script_).xs k_).bind fun a10 => Res.ok (a10, ())).bind fun p12 => Res.ok p12.1)   ((Res.ok (0 : Int)))
theorem ok_u_law_cell {P : Program} {w : World} {K : PySem.W.Frag} {mg : Str → Option Value} {base : Heap} (T : Facts K mg) {fd : FuncData} (F : FnP K "_law_cell" "_law_cell" s_u_law_cell (He.ga K "_law_cell") fd) :
    FnOk P w K mg base (L2.CX P w) 1 (He.ga K "_law_cell") fd ["script", "k"] (spM K (fun (p : (Ro Int) × Int × Unit) => m_u_law_cell p.1 p.2.1)) := by
  refine fn_ok F sc_u_law_cell (fun y => rfl) (fun cdv A outer s H E hr => ?_)
  refine ⟨_, (pss_cons (ps_if (pt_cmpR op_lt (pv 1) (pe_callB (cr_len rfl) (by rfl) T.n_len (by decide +kernel) (pa_cons (pv 0) pa_nil)) (nomark _)) (pss_one (ps_ret (pe_callTy call_int1 (by rfl) T.n_int (by decide +kernel) (pa_cons (pe_ix (cr_ixL rfl) (pv 0) (pv 1) (fun _ _ => rfl)) pa_nil)))) pss_nil) (pss_one (ps_ret pe_int))), ?_⟩
  rintro ⟨script_, k_, ⟨⟩⟩ F0 H0 Q KP L
  show Blk K F0 H0 KP _ [some (.im (toD script_)), some (.im (toD k_))] (m_u_law_cell script_ k_)
  unfold m_u_law_cell
  have ht_ := ((et_test (ev_op (opx_B0 (g := fun i j => decide (i < j))) mild_ok (ev_var (i := 1) (x := k_) rfl) (ev_cb cx_lenRo (fun _ _ h => nomatch h) (ea_cons (ev_var (i := 0) (x := script_) rfl) ea_nil)))) : EvT K (W0 E) [some (.im (toD script_)), some (.im (toD k_))] _ _); replace ht_ : EvT K (W0 E) [some (.im (toD script_)), some (.im (toD k_))] _ ((Res.ok (decide (k_ < ((script_).xs.length : Int))))) := ht_
  refine blk_seq (blk_if2 L trivial ht_ ?_ ?_)
  · have hr_ := ((ev_cb cx_int (fun _ _ h => nomatch h) (ea_cons (ev_op opx_ixR (fun x y => idx_mild x.xs y) (ev_var (i := 0) (x := script_) rfl) (ev_var (i := 1) (x := k_) rfl)) ea_nil)) : EvX K (W0 E) [some (.im (toD script_)), some (.im (toD k_))] _ _); replace hr_ : EvX K (W0 E) [some (.im (toD script_)), some (.im (toD k_))] _ (((idx (script_).xs k_).bind fun a10 => Res.ok (a10, ())).bind fun p12 => Res.ok p12.1) := hr_
    exact blk_ret L trivial hr_
  · refine blk_nil ?_
    try refine Blk.nx ?_
    have hr_ := ((ev_int (i := 0)) : EvX K (W0 E) [some (.im (toD script_)), some (.im (toD k_))] _ _); replace hr_ : EvX K (W0 E) [some (.im (toD script_)), some (.im (toD k_))] _ (Res.ok (0 : Int) : Res Int) := hr_
    exact blk_ret L trivial hr_
noncomputable def m_u_law_is_integer (actual_ : D) : Res Bool :=
  (Res.need ((toD actual_).plain = true) (Res.ok (isI "int" (toD actual_)))).bind fun b14 => cond b14 ((Res.need ((toD actual_).plain = true) (Res.ok (isI "bool" (toD actual_)))).bind fun (t13 : Bool) => Res.ok (!t13)) (Res.ok false)
theorem ok_u_law_is_integer {P : Program} {w : World} {K : PySem.W.Frag} {mg : Str → Option Value} {base : Heap} (T : Facts K mg) {fd : FuncData} (F : FnP K "_law_is_integer" "_law_is_integer" s_u_law_is_integer (He.ga K "_law_is_integer") fd) :
    FnOk P w K mg base (L2.CX P w) 1 (He.ga K "_law_is_integer") fd ["actual"] (spM K (fun (p : D × Unit) => m_u_law_is_integer p.1)) := by
  refine fn_ok F sc_u_law_is_integer (fun y => rfl) (fun cdv A outer s H E hr => ?_)
  refine ⟨_, (pss_one (ps_ret (pe_and (pe_callB call_isi (by rfl) T.n_isinstance (by decide +kernel) (pa_cons (pv 0) (pa_cons (pe_bltn (v := .ty "int") (by rfl) T.n_int (by decide +kernel) rfl) pa_nil))) (pe_one (pe_not (pe_callB call_isi (by rfl) T.n_isinstance (by decide +kernel) (pa_cons (pv 0) (pa_cons (pe_bltn (v := .ty "bool") (by rfl) T.n_bool (by decide +kernel) rfl) pa_nil)))))))), ?_⟩
  rintro ⟨actual_, ⟨⟩⟩ F0 H0 Q KP L
  show Blk K F0 H0 KP _ [some (.im (toD actual_))] (m_u_law_is_integer actual_)
  unfold m_u_law_is_integer
  have hr_ := ((ev_andV (ev_isi isi_int (ev_var (i := 0) (x := actual_) rfl)) (ev_notV (ev_isi isi_bool (ev_var (i := 0) (x := actual_) rfl)))) : EvX K (W0 E) [some (.im (toD actual_))] _ _); replace hr_ : EvX K (W0 E) [some (.im (toD actual_))] _ ((Res.need ((toD actual_).plain = true) (Res.ok (isI "int" (toD actual_)))).bind fun b14 => cond b14 ((Res.need ((toD actual_).plain = true) (Res.ok (isI "bool" (toD actual_)))).bind fun (t13 : Bool) => Res.ok (!t13)) (Res.ok false)) := hr_
  exact blk_ret L trivial hr_
noncomputable def m_u_law_number_l3 (k3 : Int × Int → Res Int) : List Int → Int × Int → Res Int
  | [], s => k3 s
  | x15 :: r3, (state_, number_) =>   (fun (k_ : Int) => ((Res.ok (((state_ * (48271 : Int)) + (11 : Int)) % (2147483647 : Int)))).bind fun (state_ : Int) =>   ((Res.need (CMulX number_ ((2 : Int) ^ (31 : Int).toNat)) (Res.ok (number_ * ((2 : Int) ^ (31 : Int).toNat)))).bind fun (t16 : Int) => Res.ok (t16 + state_)).bind fun (number_ : Int) =>   m_u_law_number_l3 k3 r3 (state_, number_)) x15
noncomputable def m_u_law_number_k5 (rest_ : Int) : Int × Int → Res Int := fun (state_, number_) =>   ((Res.ok (decide ((rest_ % (4 : Int)) = (2 : Int))))).bind fun b => cond b   ((Res.ok (-number_)))   ((Res.ok number_))
noncomputable def m_u_law_number (cell_ : Int) (salt_ : Int) : Res Int :=
  ((Res.ok (Int.natAbs cell_ : Int))).bind fun (rest_ : Int) =>   ((Res.ok (decide (((10 : Int) ^ (18 : Int).toNat) ≤ rest_)))).bind fun b => cond b   ((Res.ok cell_))   (((Res.ok (decide ((rest_ % (4 : Int)) = (1 : Int))))).bind fun b => cond b   ((Res.ok (((rest_ / (4 : Int)) % (100 : Int)) - (50 : Int))))   (((Res.ok (rest_ + (salt_ * (7919 : Int))))).bind fun (state_ : Int) =>   ((Res.ok (0 : Int))).bind fun (number_ : Int) =>   (Res.need (okRange ((1 : Int) + (rest_ % (9 : Int)))) (Res.ok (pyRange 0 ((1 : Int) + (rest_ % (9 : Int)))))).bind fun (xs17 : List Int) => m_u_law_number_l3 (m_u_law_number_k5 rest_) xs17 (state_, number_)))
theorem ok_u_law_number {P : Program} {w : World} {K : PySem.W.Frag} {mg : Str → Option Value} {base : Heap} (T : Facts K mg) {fd : FuncData} (F : FnP K "_law_number" "_law_number" s_u_law_number (He.ga K "_law_number") fd) :
    FnOk P w K mg base (L2.CX P w) 1 (He.ga K "_law_number") fd ["cell", "salt"] (spM K (fun (p : Int × Int × Unit) => m_u_law_number p.1 p.2.1)) := by
  refine fn_ok F sc_u_law_number (fun y => rfl) (fun cdv A outer s H E hr => ?_)
  refine ⟨_, (pss_cons (ps_set (i := 2) sc_u_law_number.nd rfl (Or.inl rfl) (pe_callB call_abs (by rfl) T.n_abs (by decide +kernel) (pa_cons (pv 0) pa_nil))) (pss_cons (ps_if (pt_cmpR op_ge (pv 2) (pe_op op_pow pe_int pe_int) (nomark _)) (pss_one (ps_ret (pv 0))) pss_nil) (pss_cons (ps_if (pt_cmpR op_eq (pe_op op_mod (pv 2) pe_int) pe_int (nomark _)) (pss_one (ps_ret (pe_op op_sub (pe_op op_mod (pe_op op_fdiv (pv 2) pe_int) pe_int) pe_int))) pss_nil) (pss_cons (ps_set (i := 3) sc_u_law_number.nd rfl (Or.inl rfl) (pe_op op_add (pv 2) (pe_op op_mul (pv 1) pe_int))) (pss_cons (ps_set (i := 4) sc_u_law_number.nd rfl (Or.inl rfl) pe_int) (pss_cons (ps_for (passes_of rfl) rfl (pi_range1 rfl T.n_range (pa_cons (pe_op op_add pe_int (pe_op op_mod (pv 2) pe_int)) pa_nil)) (pg_name (i := 5) sc_u_law_number.nd rfl (Or.inl rfl)) (pss_cons (ps_set (i := 3) sc_u_law_number.nd rfl (Or.inl rfl) (pe_op op_mod (pe_op op_add (pe_op op_mul (pv 3) pe_int) pe_int) pe_int)) (pss_one (ps_set (i := 4) sc_u_law_number.nd rfl (Or.inl rfl) (pe_op op_add (pe_op op_mulX (pv 4) (pe_op op_pow pe_int pe_int)) (pv 3)))))) (pss_cons (ps_if (pt_cmpR op_eq (pe_op op_mod (pv 2) pe_int) pe_int (nomark _)) (pss_one (ps_ret (pe_un un_neg (pv 4)))) pss_nil) (pss_one (ps_ret (pv 4)))))))))), ?_⟩
  rintro ⟨cell_, salt_, ⟨⟩⟩ F0 H0 Q KP L
  show Blk K F0 H0 KP _ [some (.im (toD cell_)), some (.im (toD salt_)), none, none, none, none] (m_u_law_number cell_ salt_)
  unfold m_u_law_number
  have hs_ := ((ev_cb cx_abs (fun _ _ h => nomatch h) (ea_cons (ev_var (i := 0) (x := cell_) rfl) ea_nil)) : EvX K (W0 E) [some (.im (toD cell_)), some (.im (toD salt_)), none, none, none, none] _ _); replace hs_ : EvX K (W0 E) [some (.im (toD cell_)), some (.im (toD salt_)), none, none, none, none] _ (Res.ok (Int.natAbs cell_ : Int) : Res Int) := hs_
  refine blk_seq (blk_set (i := 2) L trivial hs_ fun rest_ => ?_)
  show Blk _ _ _ _ _ [some (.im (toD cell_)), some (.im (toD salt_)), some (.im (toD rest_)), none, none, none] _
  try refine Blk.nx ?_
  have ht_ := ((et_test (ev_op (opx_B0 (g := fun i j => decide (j ≤ i))) mild_ok (ev_var (i := 2) (x := rest_) rfl) (ev_opI (C := CPow) (g := fun i j => i ^ j.toNat) (fun x y h1 h2 => by cases h1; cases h2; exact ⟨by decide, by decide, by decide⟩) (ev_int (i := 10)) (ev_int (i := 18))))) : EvT K (W0 E) [some (.im (toD cell_)), some (.im (toD salt_)), some (.im (toD rest_)), none, none, none] _ _); replace ht_ : EvT K (W0 E) [some (.im (toD cell_)), some (.im (toD salt_)), some (.im (toD rest_)), none, none, none] _ ((Res.ok (decide (((10 : Int) ^ (18 : Int).toNat) ≤ rest_)))) := ht_
  refine blk_seq (blk_if2 L trivial ht_ ?_ ?_)
  · have hr_ := ((ev_var (i := 0) (x := cell_) rfl) : EvX K (W0 E) [some (.im (toD cell_)), some (.im (toD salt_)), some (.im (toD rest_)), none, none, none] _ _); replace hr_ : EvX K (W0 E) [some (.im (toD cell_)), some (.im (toD salt_)), some (.im (toD rest_)), none, none, none] _ (Res.ok cell_ : Res Int) := hr_
    exact blk_ret L trivial hr_
  · refine blk_nil ?_
    try refine Blk.nx ?_
    have ht_ := ((et_test (ev_op opx_eqI mild_ok (ev_opI (C := (fun _ j => 0 < j)) (g := fun i j => i % j) (fun x y _ h => by cases h; (show (0 : Int) < _; decide)) (ev_var (i := 2) (x := rest_) rfl) (ev_int (i := 4))) (ev_int (i := 1)))) : EvT K (W0 E) [some (.im (toD cell_)), some (.im (toD salt_)), some (.im (toD rest_)), none, none, none] _ _); replace ht_ : EvT K (W0 E) [some (.im (toD cell_)), some (.im (toD salt_)), some (.im (toD rest_)), none, none, none] _ ((Res.ok (decide ((rest_ % (4 : Int)) = (1 : Int))))) := ht_
    refine blk_seq (blk_if2 L trivial ht_ ?_ ?_)
    · have hr_ := ((ev_op (opx_I0 (g := fun i j => i - j)) mild_ok (ev_opI (C := (fun _ j => 0 < j)) (g := fun i j => i % j) (fun x y _ h => by cases h; (show (0 : Int) < _; decide)) (ev_opI (C := CDiv) (g := fun i j => i / j) (fun x y _ h => by cases h; exact ⟨by decide, by decide⟩) (ev_var (i := 2) (x := rest_) rfl) (ev_int (i := 4))) (ev_int (i := 100))) (ev_int (i := 50))) : EvX K (W0 E) [some (.im (toD cell_)), some (.im (toD salt_)), some (.im (toD rest_)), none, none, none] _ _); replace hr_ : EvX K (W0 E) [some (.im (toD cell_)), some (.im (toD salt_)), some (.im (toD rest_)), none, none, none] _ (Res.ok (((rest_ / (4 : Int)) % (100 : Int)) - (50 : Int)) : Res Int) := hr_
      exact blk_ret L trivial hr_
    · refine blk_nil ?_
      try refine Blk.nx ?_
      have hs_ := ((ev_op (opx_I0 (g := fun i j => i + j)) mild_ok (ev_var (i := 2) (x := rest_) rfl) (ev_opI (C := CMul) (g := fun i j => i * j) (fun x y _ h => by cases h; exact .inr (by decide)) (ev_var (i := 1) (x := salt_) rfl) (ev_int (i := 7919)))) : EvX K (W0 E) [some (.im (toD cell_)), some (.im (toD salt_)), some (.im (toD rest_)), none, none, none] _ _); replace hs_ : EvX K (W0 E) [some (.im (toD cell_)), some (.im (toD salt_)), some (.im (toD rest_)), none, none, none] _ (Res.ok (rest_ + (salt_ * (7919 : Int))) : Res Int) := hs_
      refine blk_seq (blk_set (i := 3) L trivial hs_ fun state_ => ?_)
      show Blk _ _ _ _ _ [some (.im (toD cell_)), some (.im (toD salt_)), some (.im (toD rest_)), some (.im (toD state_)), none, none] _
      try refine Blk.nx ?_
      have hs_ := ((ev_int (i := 0)) : EvX K (W0 E) [some (.im (toD cell_)), some (.im (toD salt_)), some (.im (toD rest_)), some (.im (toD state_)), none, none] _ _); replace hs_ : EvX K (W0 E) [some (.im (toD cell_)), some (.im (toD salt_)), some (.im (toD rest_)), some (.im (toD state_)), none, none] _ (Res.ok (0 : Int) : Res Int) := hs_
      refine blk_seq (blk_set (i := 4) L trivial hs_ fun number_ => ?_)
      show Blk _ _ _ _ _ [some (.im (toD cell_)), some (.im (toD salt_)), some (.im (toD rest_)), some (.im (toD state_)), some (.im (toD number_)), none] _
      try refine Blk.nx ?_
      have hi_ := ((ei_range1 (ev_op (opx_I0 (g := fun i j => i + j)) mild_ok (ev_int (i := 1)) (ev_opI (C := (fun _ j => 0 < j)) (g := fun i j => i % j) (fun x y _ h => by cases h; (show (0 : Int) < _; decide)) (ev_var (i := 2) (x := rest_) rfl) (ev_int (i := 9))))) : EvI K (W0 E) [some (.im (toD cell_)), some (.im (toD salt_)), some (.im (toD rest_)), some (.im (toD state_)), some (.im (toD number_)), none] _ _); replace hi_ : EvI K (W0 E) [some (.im (toD cell_)), some (.im (toD salt_)), some (.im (toD rest_)), some (.im (toD state_)), some (.im (toD number_)), none] _ (Res.need (okRange ((1 : Int) + (rest_ % (9 : Int)))) (Res.ok (pyRange 0 ((1 : Int) + (rest_ % (9 : Int)))))) := hi_
      refine blk_seq (blk_for (S := Int × Int) (m_u_law_number_l3 (m_u_law_number_k5 rest_)) (m_u_law_number_k5 rest_) (fun (state_, number_) => [some (.im (toD cell_)), some (.im (toD salt_)), some (.im (toD rest_)), some (.im (toD state_)), some (.im (toD number_)), none]) (state_, number_) L trivial hi_ (fun _ => gx_name) (.same (.same (.same (.same (.same (.same .nil)))))) (fun _ => rfl) ?_ ?_)
      · intro F3 L3 hB3 x15 r3 s_ N_ hN3
        obtain ⟨state_, number_⟩ := s_
        show Blk _ _ _ _ _ [some (.im (toD cell_)), some (.im (toD salt_)), some (.im (toD rest_)), some (.im (toD state_)), some (.im (toD number_)), some (.im (toD x15))] (m_u_law_number_l3 (m_u_law_number_k5 rest_) (x15 :: r3) (state_, number_))
        rw [m_u_law_number_l3]
        show Blk _ _ _ _ _ _ ((fun (k_ : Int) => _) x15)
        generalize x15 = k_
        show Blk _ _ _ _ _ [some (.im (toD cell_)), some (.im (toD salt_)), some (.im (toD rest_)), some (.im (toD state_)), some (.im (toD number_)), some (.im (toD k_))] _
        have hs_ := ((ev_opI (C := (fun _ j => 0 < j)) (g := fun i j => i % j) (fun x y _ h => by cases h; (show (0 : Int) < _; decide)) (ev_op (opx_I0 (g := fun i j => i + j)) mild_ok (ev_opI (C := CMul) (g := fun i j => i * j) (fun x y _ h => by cases h; exact .inr (by decide)) (ev_var (i := 3) (x := state_) rfl) (ev_int (i := 48271))) (ev_int (i := 11))) (ev_int (i := 2147483647))) : EvX K (W0 E) [some (.im (toD cell_)), some (.im (toD salt_)), some (.im (toD rest_)), some (.im (toD state_)), some (.im (toD number_)), some (.im (toD k_))] _ _); replace hs_ : EvX K (W0 E) [some (.im (toD cell_)), some (.im (toD salt_)), some (.im (toD rest_)), some (.im (toD state_)), some (.im (toD number_)), some (.im (toD k_))] _ (Res.ok (((state_ * (48271 : Int)) + (11 : Int)) % (2147483647 : Int)) : Res Int) := hs_
        refine blk_seq (blk_set (i := 3) L3 trivial hs_ fun state_ => ?_)
        show Blk _ _ _ _ _ [some (.im (toD cell_)), some (.im (toD salt_)), some (.im (toD rest_)), some (.im (toD state_)), some (.im (toD number_)), some (.im (toD k_))] _
        try refine Blk.nx ?_
        have hs_ := ((ev_op (opx_I0 (g := fun i j => i + j)) mild_ok (ev_op (opx_I (C := CMulX) (g := fun i j => i * j)) mild_need (ev_var (i := 4) (x := number_) rfl) (ev_opI (C := CPow) (g := fun i j => i ^ j.toNat) (fun x y h1 h2 => by cases h1; cases h2; exact ⟨by decide, by decide, by decide⟩) (ev_int (i := 2)) (ev_int (i := 31)))) (ev_var (i := 3) (x := state_) rfl)) : EvX K (W0 E) [some (.im (toD cell_)), some (.im (toD salt_)), some (.im (toD rest_)), some (.im (toD state_)), some (.im (toD number_)), some (.im (toD k_))] _ _); replace hs_ : EvX K (W0 E) [some (.im (toD cell_)), some (.im (toD salt_)), some (.im (toD rest_)), some (.im (toD state_)), some (.im (toD number_)), some (.im (toD k_))] _ ((Res.need (CMulX number_ ((2 : Int) ^ (31 : Int).toNat)) (Res.ok (number_ * ((2 : Int) ^ (31 : Int).toNat)))).bind fun (t16 : Int) => Res.ok (t16 + state_)) := hs_
        refine blk_set (i := 4) L3 trivial hs_ fun number_ => ?_
        show Blk _ _ _ _ _ [some (.im (toD cell_)), some (.im (toD salt_)), some (.im (toD rest_)), some (.im (toD state_)), some (.im (toD number_)), some (.im (toD k_))] _
        try refine Blk.nx ?_
        exact (hN3 (state_, number_)).weak (.same (.same (.same (.same (.same (.drop .nil))))))
      · rintro ⟨state_, number_⟩
        show Blk _ _ _ _ _ [some (.im (toD cell_)), some (.im (toD salt_)), some (.im (toD rest_)), some (.im (toD state_)), some (.im (toD number_)), none] ((m_u_law_number_k5 rest_) (state_, number_))
        unfold m_u_law_number_k5
        try refine Blk.nx ?_
        have ht_ := ((et_test (ev_op opx_eqI mild_ok (ev_opI (C := (fun _ j => 0 < j)) (g := fun i j => i % j) (fun x y _ h => by cases h; (show (0 : Int) < _; decide)) (ev_var (i := 2) (x := rest_) rfl) (ev_int (i := 4))) (ev_int (i := 2)))) : EvT K (W0 E) [some (.im (toD cell_)), some (.im (toD salt_)), some (.im (toD rest_)), some (.im (toD state_)), some (.im (toD number_)), none] _ _); replace ht_ : EvT K (W0 E) [some (.im (toD cell_)), some (.im (toD salt_)), some (.im (toD rest_)), some (.im (toD state_)), some (.im (toD number_)), none] _ ((Res.ok (decide ((rest_ % (4 : Int)) = (2 : Int))))) := ht_
        refine blk_seq (blk_if2 L trivial ht_ ?_ ?_)
        · have hr_ := ((ev_un (g := fun i => -i) (ev_var (i := 4) (x := number_) rfl)) : EvX K (W0 E) [some (.im (toD cell_)), some (.im (toD salt_)), some (.im (toD rest_)), some (.im (toD state_)), some (.im (toD number_)), none] _ _); replace hr_ : EvX K (W0 E) [some (.im (toD cell_)), some (.im (toD salt_)), some (.im (toD rest_)), some (.im (toD state_)), some (.im (toD number_)), none] _ (Res.ok (-number_) : Res Int) := hr_
          exact blk_ret L trivial hr_
        · refine blk_nil ?_
          try refine Blk.nx ?_
          have hr_ := ((ev_var (i := 4) (x := number_) rfl) : EvX K (W0 E) [some (.im (toD cell_)), some (.im (toD salt_)), some (.im (toD rest_)), some (.im (toD state_)), some (.im (toD number_)), none] _ _); replace hr_ : EvX K (W0 E) [some (.im (toD cell_)), some (.im (toD salt_)), some (.im (toD rest_)), some (.im (toD state_)), some (.im (toD number_)), none] _ (Res.ok number_ : Res Int) := hr_
          exact blk_ret L trivial hr_
noncomputable def m_u_law_class_k2 (prime_ : Int) (square_ : Int) (exponent_ : Int) (g1 : Int × Int × Int → Res Int) : Int → Res Int := fun value_ =>   ((Res.need (CMulX square_ square_) (Res.ok (square_ * square_))).bind fun (t19 : Int) => Res.need (0 < prime_) (Res.ok (t19 % prime_))).bind fun (square_ : Int) =>   ((Res.ok (exponent_ / (2 : Int)))).bind fun (exponent_ : Int) =>   g1 (value_, square_, exponent_)
noncomputable def m_u_law_class_l1 (prime_ : Int) (k1 : Int × Int × Int → Res Int) : List Int → Int × Int × Int → Res Int
  | [], s => k1 s
  | x18 :: r1, (value_, square_, exponent_) =>   (fun (k_ : Int) => ((Res.ok (decide ((exponent_ % (2 : Int)) = (1 : Int))))).bind fun b => cond b   (((Res.need (CMulX value_ square_) (Res.ok (value_ * square_))).bind fun (t20 : Int) => Res.need (0 < prime_) (Res.ok (t20 % prime_))).bind fun (value_ : Int) =>   (m_u_law_class_k2 prime_ square_ exponent_ (m_u_law_class_l1 prime_ k1 r1)) value_)   ((m_u_law_class_k2 prime_ square_ exponent_ (m_u_law_class_l1 prime_ k1 r1)) value_)) x18
noncomputable def m_u_law_class_k4 (prime_ : Int) : Int × Int × Int → Res Int := fun (value_, square_, exponent_) =>   ((Res.ok (decide (value_ = (prime_ - (1 : Int)))))).bind fun b => cond b   ((Res.ok (-(1 : Int))))   ((Res.ok value_))
noncomputable def m_u_law_class (a_ : Int) (prime_ : Int) : Res Int :=
  ((Res.ok (1 : Int))).bind fun (value_ : Int) =>   (Res.need (0 < prime_) (Res.ok (a_ % prime_))).bind fun (square_ : Int) =>   ((Res.ok ((prime_ - (1 : Int)) / (2 : Int)))).bind fun (exponent_ : Int) =>   (Res.need (okRange (21 : Int)) (Res.ok (pyRange 0 (21 : Int)))).bind fun (xs21 : List Int) => m_u_law_class_l1 prime_ (m_u_law_class_k4 prime_) xs21 (value_, square_, exponent_)
theorem ok_u_law_class {P : Program} {w : World} {K : PySem.W.Frag} {mg : Str → Option Value} {base : Heap} (T : Facts K mg) {fd : FuncData} (F : FnP K "_law_class" "_law_class" s_u_law_class (He.ga K "_law_class") fd) :
    FnOk P w K mg base (L2.CX P w) 1 (He.ga K "_law_class") fd ["a", "prime"] (spM K (fun (p : Int × Int × Unit) => m_u_law_class p.1 p.2.1)) := by
  refine fn_ok F sc_u_law_class (fun y => rfl) (fun cdv A outer s H E hr => ?_)
  refine ⟨_, (pss_cons (ps_set (i := 2) sc_u_law_class.nd rfl (Or.inl rfl) pe_int) (pss_cons (ps_set (i := 3) sc_u_law_class.nd rfl (Or.inl rfl) (pe_op op_mod (pv 0) (pv 1))) (pss_cons (ps_set (i := 4) sc_u_law_class.nd rfl (Or.inl rfl) (pe_op op_fdiv (pe_op op_sub (pv 1) pe_int) pe_int)) (pss_cons (ps_for (passes_of rfl) rfl (pi_range1 rfl T.n_range (pa_cons pe_int pa_nil)) (pg_name (i := 5) sc_u_law_class.nd rfl (Or.inl rfl)) (pss_cons (ps_if (pt_cmpR op_eq (pe_op op_mod (pv 4) pe_int) pe_int (nomark _)) (pss_one (ps_set (i := 2) sc_u_law_class.nd rfl (Or.inl rfl) (pe_op op_mod (pe_op op_mulX (pv 2) (pv 3)) (pv 1)))) pss_nil) (pss_cons (ps_set (i := 3) sc_u_law_class.nd rfl (Or.inl rfl) (pe_op op_mod (pe_op op_mulX (pv 3) (pv 3)) (pv 1))) (pss_one (ps_set (i := 4) sc_u_law_class.nd rfl (Or.inl rfl) (pe_op op_fdiv (pv 4) pe_int)))))) (pss_cons (ps_if (pt_cmpR op_eq (pv 2) (pe_op op_sub (pv 1) pe_int) (nomark _)) (pss_one (ps_ret (pe_un un_neg pe_int))) pss_nil) (pss_one (ps_ret (pv 2)))))))), ?_⟩
  rintro ⟨a_, prime_, ⟨⟩⟩ F0 H0 Q KP L
  show Blk K F0 H0 KP _ [some (.im (toD a_)), some (.im (toD prime_)), none, none, none, none] (m_u_law_class a_ prime_)
  unfold m_u_law_class
  have hs_ := ((ev_int (i := 1)) : EvX K (W0 E) [some (.im (toD a_)), some (.im (toD prime_)), none, none, none, none] _ _); replace hs_ : EvX K (W0 E) [some (.im (toD a_)), some (.im (toD prime_)), none, none, none, none] _ (Res.ok (1 : Int) : Res Int) := hs_
  refine blk_seq (blk_set (i := 2) L trivial hs_ fun value_ => ?_)
  show Blk _ _ _ _ _ [some (.im (toD a_)), some (.im (toD prime_)), some (.im (toD value_)), none, none, none] _
  try refine Blk.nx ?_
  have hs_ := ((ev_op (opx_I (C := (fun _ j => 0 < j)) (g := fun i j => i % j)) mild_need (ev_var (i := 0) (x := a_) rfl) (ev_var (i := 1) (x := prime_) rfl)) : EvX K (W0 E) [some (.im (toD a_)), some (.im (toD prime_)), some (.im (toD value_)), none, none, none] _ _); replace hs_ : EvX K (W0 E) [some (.im (toD a_)), some (.im (toD prime_)), some (.im (toD value_)), none, none, none] _ (Res.need (0 < prime_) (Res.ok (a_ % prime_))) := hs_
  refine blk_seq (blk_set (i := 3) L trivial hs_ fun square_ => ?_)
  show Blk _ _ _ _ _ [some (.im (toD a_)), some (.im (toD prime_)), some (.im (toD value_)), some (.im (toD square_)), none, none] _
  try refine Blk.nx ?_
  have hs_ := ((ev_opI (C := CDiv) (g := fun i j => i / j) (fun x y _ h => by cases h; exact ⟨by decide, by decide⟩) (ev_op (opx_I0 (g := fun i j => i - j)) mild_ok (ev_var (i := 1) (x := prime_) rfl) (ev_int (i := 1))) (ev_int (i := 2))) : EvX K (W0 E) [some (.im (toD a_)), some (.im (toD prime_)), some (.im (toD value_)), some (.im (toD square_)), none, none] _ _); replace hs_ : EvX K (W0 E) [some (.im (toD a_)), some (.im (toD prime_)), some (.im (toD value_)), some (.im (toD square_)), none, none] _ (Res.ok ((prime_ - (1 : Int)) / (2 : Int)) : Res Int) := hs_
  refine blk_seq (blk_set (i := 4) L trivial hs_ fun exponent_ => ?_)
  show Blk _ _ _ _ _ [some (.im (toD a_)), some (.im (toD prime_)), some (.im (toD value_)), some (.im (toD square_)), some (.im (toD exponent_)), none] _
  try refine Blk.nx ?_
  have hi_ := ((ei_range1 (ev_int (i := 21))) : EvI K (W0 E) [some (.im (toD a_)), some (.im (toD prime_)), some (.im (toD value_)), some (.im (toD square_)), some (.im (toD exponent_)), none] _ _); replace hi_ : EvI K (W0 E) [some (.im (toD a_)), some (.im (toD prime_)), some (.im (toD value_)), some (.im (toD square_)), some (.im (toD exponent_)), none] _ (Res.need (okRange (21 : Int)) (Res.ok (pyRange 0 (21 : Int)))) := hi_
  refine blk_seq (blk_for (S := Int × Int × Int) (m_u_law_class_l1 prime_ (m_u_law_class_k4 prime_)) (m_u_law_class_k4 prime_) (fun (value_, square_, exponent_) => [some (.im (toD a_)), some (.im (toD prime_)), some (.im (toD value_)), some (.im (toD square_)), some (.im (toD exponent_)), none]) (value_, square_, exponent_) L trivial hi_ (fun _ => gx_name) (.same (.same (.same (.same (.same (.same .nil)))))) (fun _ => rfl) ?_ ?_)
  · intro F1 L1 hB1 x18 r1 s_ N_ hN1
    obtain ⟨value_, square_, exponent_⟩ := s_
    show Blk _ _ _ _ _ [some (.im (toD a_)), some (.im (toD prime_)), some (.im (toD value_)), some (.im (toD square_)), some (.im (toD exponent_)), some (.im (toD x18))] (m_u_law_class_l1 prime_ (m_u_law_class_k4 prime_) (x18 :: r1) (value_, square_, exponent_))
    rw [m_u_law_class_l1]
    show Blk _ _ _ _ _ _ ((fun (k_ : Int) => _) x18)
    generalize x18 = k_
    show Blk _ _ _ _ _ [some (.im (toD a_)), some (.im (toD prime_)), some (.im (toD value_)), some (.im (toD square_)), some (.im (toD exponent_)), some (.im (toD k_))] _
    have ht_ := ((et_test (ev_op opx_eqI mild_ok (ev_opI (C := (fun _ j => 0 < j)) (g := fun i j => i % j) (fun x y _ h => by cases h; (show (0 : Int) < _; decide)) (ev_var (i := 4) (x := exponent_) rfl) (ev_int (i := 2))) (ev_int (i := 1)))) : EvT K (W0 E) [some (.im (toD a_)), some (.im (toD prime_)), some (.im (toD value_)), some (.im (toD square_)), some (.im (toD exponent_)), some (.im (toD k_))] _ _); replace ht_ : EvT K (W0 E) [some (.im (toD a_)), some (.im (toD prime_)), some (.im (toD value_)), some (.im (toD square_)), some (.im (toD exponent_)), some (.im (toD k_))] _ ((Res.ok (decide ((exponent_ % (2 : Int)) = (1 : Int))))) := ht_
    refine blk_seq (blk_ifj (S := Int) (fun value_ => [some (.im (toD a_)), some (.im (toD prime_)), some (.im (toD value_)), some (.im (toD square_)), some (.im (toD exponent_)), some (.im (toD k_))]) (m_u_law_class_k2 prime_ square_ exponent_ (m_u_law_class_l1 prime_ (m_u_law_class_k4 prime_) r1)) L1 trivial ht_ ?_ ?_ ?_)
    · intro value_
      show Blk _ _ _ _ _ [some (.im (toD a_)), some (.im (toD prime_)), some (.im (toD value_)), some (.im (toD square_)), some (.im (toD exponent_)), some (.im (toD k_))] ((m_u_law_class_k2 prime_ square_ exponent_ (m_u_law_class_l1 prime_ (m_u_law_class_k4 prime_) r1)) value_)
      unfold m_u_law_class_k2
      try refine Blk.nx ?_
      have hs_ := ((ev_op (opx_I (C := (fun _ j => 0 < j)) (g := fun i j => i % j)) mild_need (ev_op (opx_I (C := CMulX) (g := fun i j => i * j)) mild_need (ev_var (i := 3) (x := square_) rfl) (ev_var (i := 3) (x := square_) rfl)) (ev_var (i := 1) (x := prime_) rfl)) : EvX K (W0 E) [some (.im (toD a_)), some (.im (toD prime_)), some (.im (toD value_)), some (.im (toD square_)), some (.im (toD exponent_)), some (.im (toD k_))] _ _); replace hs_ : EvX K (W0 E) [some (.im (toD a_)), some (.im (toD prime_)), some (.im (toD value_)), some (.im (toD square_)), some (.im (toD exponent_)), some (.im (toD k_))] _ ((Res.need (CMulX square_ square_) (Res.ok (square_ * square_))).bind fun (t19 : Int) => Res.need (0 < prime_) (Res.ok (t19 % prime_))) := hs_
      refine blk_seq (blk_set (i := 3) L1 trivial hs_ fun square_ => ?_)
      show Blk _ _ _ _ _ [some (.im (toD a_)), some (.im (toD prime_)), some (.im (toD value_)), some (.im (toD square_)), some (.im (toD exponent_)), some (.im (toD k_))] _
      try refine Blk.nx ?_
      have hs_ := ((ev_opI (C := CDiv) (g := fun i j => i / j) (fun x y _ h => by cases h; exact ⟨by decide, by decide⟩) (ev_var (i := 4) (x := exponent_) rfl) (ev_int (i := 2))) : EvX K (W0 E) [some (.im (toD a_)), some (.im (toD prime_)), some (.im (toD value_)), some (.im (toD square_)), some (.im (toD exponent_)), some (.im (toD k_))] _ _); replace hs_ : EvX K (W0 E) [some (.im (toD a_)), some (.im (toD prime_)), some (.im (toD value_)), some (.im (toD square_)), some (.im (toD exponent_)), some (.im (toD k_))] _ (Res.ok (exponent_ / (2 : Int)) : Res Int) := hs_
      refine blk_set (i := 4) L1 trivial hs_ fun exponent_ => ?_
      show Blk _ _ _ _ _ [some (.im (toD a_)), some (.im (toD prime_)), some (.im (toD value_)), some (.im (toD square_)), some (.im (toD exponent_)), some (.im (toD k_))] _
      try refine Blk.nx ?_
      exact (hN1 (value_, square_, exponent_)).weak (.same (.same (.same (.same (.same (.drop .nil))))))
    · intro hk2
      have hs_ := ((ev_op (opx_I (C := (fun _ j => 0 < j)) (g := fun i j => i % j)) mild_need (ev_op (opx_I (C := CMulX) (g := fun i j => i * j)) mild_need (ev_var (i := 2) (x := value_) rfl) (ev_var (i := 3) (x := square_) rfl)) (ev_var (i := 1) (x := prime_) rfl)) : EvX K (W0 E) [some (.im (toD a_)), some (.im (toD prime_)), some (.im (toD value_)), some (.im (toD square_)), some (.im (toD exponent_)), some (.im (toD k_))] _ _); replace hs_ : EvX K (W0 E) [some (.im (toD a_)), some (.im (toD prime_)), some (.im (toD value_)), some (.im (toD square_)), some (.im (toD exponent_)), some (.im (toD k_))] _ ((Res.need (CMulX value_ square_) (Res.ok (value_ * square_))).bind fun (t20 : Int) => Res.need (0 < prime_) (Res.ok (t20 % prime_))) := hs_
      refine blk_set (i := 2) L1 trivial hs_ fun value_ => ?_
      show Blk _ _ _ _ _ [some (.im (toD a_)), some (.im (toD prime_)), some (.im (toD value_)), some (.im (toD square_)), some (.im (toD exponent_)), some (.im (toD k_))] _
      try refine Blk.nx ?_
      exact (hk2 value_).weak (.same (.same (.same (.same (.same (.same .nil))))))
    · intro hk2
      refine blk_nil ?_
      try refine Blk.nx ?_
      exact (hk2 value_).weak (.same (.same (.same (.same (.same (.same .nil))))))
  · rintro ⟨value_, square_, exponent_⟩
    show Blk _ _ _ _ _ [some (.im (toD a_)), some (.im (toD prime_)), some (.im (toD value_)), some (.im (toD square_)), some (.im (toD exponent_)), none] ((m_u_law_class_k4 prime_) (value_, square_, exponent_))
    unfold m_u_law_class_k4
    try refine Blk.nx ?_
    have ht_ := ((et_test (ev_op opx_eqI mild_ok (ev_var (i := 2) (x := value_) rfl) (ev_op (opx_I0 (g := fun i j => i - j)) mild_ok (ev_var (i := 1) (x := prime_) rfl) (ev_int (i := 1))))) : EvT K (W0 E) [some (.im (toD a_)), some (.im (toD prime_)), some (.im (toD value_)), some (.im (toD square_)), some (.im (toD exponent_)), none] _ _); replace ht_ : EvT K (W0 E) [some (.im (toD a_)), some (.im (toD prime_)), some (.im (toD value_)), some (.im (toD square_)), some (.im (toD exponent_)), none] _ ((Res.ok (decide (value_ = (prime_ - (1 : Int)))))) := ht_
    refine blk_seq (blk_if2 L trivial ht_ ?_ ?_)
    · have hr_ := ((ev_un (g := fun i => -i) (ev_int (i := 1))) : EvX K (W0 E) [some (.im (toD a_)), some (.im (toD prime_)), some (.im (toD value_)), some (.im (toD square_)), some (.im (toD exponent_)), none] _ _); replace hr_ : EvX K (W0 E) [some (.im (toD a_)), some (.im (toD prime_)), some (.im (toD value_)), some (.im (toD square_)), some (.im (toD exponent_)), none] _ (Res.ok (-(1 : Int)) : Res Int) := hr_
      exact blk_ret L trivial hr_
    · refine blk_nil ?_
      try refine Blk.nx ?_
      have hr_ := ((ev_var (i := 2) (x := value_) rfl) : EvX K (W0 E) [some (.im (toD a_)), some (.im (toD prime_)), some (.im (toD value_)), some (.im (toD square_)), some (.im (toD exponent_)), none] _ _); replace hr_ : EvX K (W0 E) [some (.im (toD a_)), some (.im (toD prime_)), some (.im (toD value_)), some (.im (toD square_)), some (.im (toD exponent_)), none] _ (Res.ok value_ : Res Int) := hr_
      exact blk_ret L trivial hr_
noncomputable def m_u_law_symbol_l1 (a_ : Int) (k1 : Int × Int × Int → Res Int) : List Int → Int × Int × Int → Res Int
  | [], s => k1 s
  | x22 :: r1, (n_, symbol_, divisor_) =>   (fun (k_ : Int) => ((Res.need (CMulX divisor_ divisor_) (Res.ok (divisor_ * divisor_))).bind fun (t23 : Int) => Res.ok (decide (n_ < t23))).bind fun b => cond b   (k1 (n_, symbol_, divisor_))   (((Res.need (0 < divisor_) (Res.ok (n_ % divisor_))).bind fun (t24 : Int) => Res.ok (decide (t24 = (0 : Int)))).bind fun b => cond b   ((Res.need (CDivW n_ divisor_) (Res.ok (n_ / divisor_))).bind fun (n_ : Int) =>   ((m_u_law_class a_ divisor_).bind fun (t25 : Int) => Res.need (CMulX symbol_ t25) (Res.ok (symbol_ * t25))).bind fun (symbol_ : Int) =>   m_u_law_symbol_l1 a_ k1 r1 (n_, symbol_, divisor_))   (((Res.ok (divisor_ + (2 : Int)))).bind fun (divisor_ : Int) =>   m_u_law_symbol_l1 a_ k1 r1 (n_, symbol_, divisor_)))) x22
noncomputable def m_u_law_symbol_k3  : Int → Res Int := fun symbol_ =>   (Res.ok symbol_)
noncomputable def m_u_law_symbol_k4 (a_ : Int) : Int × Int × Int → Res Int := fun (n_, symbol_, divisor_) =>   ((Res.ok (decide ((1 : Int) < n_)))).bind fun b => cond b   (((m_u_law_class a_ n_).bind fun (t26 : Int) => Res.need (CMulX symbol_ t26) (Res.ok (symbol_ * t26))).bind fun (symbol_ : Int) =>   m_u_law_symbol_k3 symbol_)   (m_u_law_symbol_k3 symbol_)
noncomputable def m_u_law_symbol (a_ : Int) (n_ : Int) : Res Int :=
  ((Res.ok (1 : Int))).bind fun (symbol_ : Int) =>   ((Res.ok (3 : Int))).bind fun (divisor_ : Int) =>   (Res.need (okRange (1200 : Int)) (Res.ok (pyRange 0 (1200 : Int)))).bind fun (xs27 : List Int) => m_u_law_symbol_l1 a_ (m_u_law_symbol_k4 a_) xs27 (n_, symbol_, divisor_)
theorem ok_u_law_symbol {P : Program} {w : World} {K : PySem.W.Frag} {mg : Str → Option Value} {base : Heap} (T : Facts K mg) {fd : FuncData} (F : FnP K "_law_symbol" "_law_symbol" s_u_law_symbol (He.ga K "_law_symbol") fd) :
    FnOk P w K mg base (L2.CX P w) 2 (He.ga K "_law_symbol") fd ["a", "n"] (spM K (fun (p : Int × Int × Unit) => m_u_law_symbol p.1 p.2.1)) := by
  obtain ⟨fd_u_law_class, F_u_law_class⟩ := T.d_u_law_class
  have G_u_law_class := ok_u_law_class (P := P) (w := w) (base := base) T F_u_law_class
  have b_u_law_class : Binds K fd_u_law_class ["a", "prime"] [] := F_u_law_class.bindsN fun _ _ _ _ _ _ us hl => match us, hl with | [_, _], _ => rfl
  refine fn_ok F sc_u_law_symbol (fun y => rfl) (fun cdv A outer s H E hr => ?_)
  refine ⟨_, (pss_cons (ps_set (i := 2) sc_u_law_symbol.nd rfl (Or.inl rfl) pe_int) (pss_cons (ps_set (i := 3) sc_u_law_symbol.nd rfl (Or.inl rfl) pe_int) (pss_cons (ps_for (passes_of rfl) rfl (pi_range1 rfl T.n_range (pa_cons pe_int pa_nil)) (pg_name (i := 4) sc_u_law_symbol.nd rfl (Or.inl rfl)) (pss_cons (ps_if (pt_cmpR op_gt (pe_op op_mulX (pv 3) (pv 3)) (pv 1) (nomark _)) (pss_one ps_break) pss_nil) (pss_one (ps_if (pt_cmpR op_eq (pe_op op_mod (pv 1) (pv 3)) pe_int (nomark _)) (pss_cons (ps_set (i := 1) sc_u_law_symbol.nd rfl (Or.inl rfl) (pe_op op_fdivW (pv 1) (pv 3))) (pss_one (ps_set (i := 2) sc_u_law_symbol.nd rfl (Or.inl rfl) (pe_op op_mulX (pv 2) (pe_callS G_u_law_class (hr.mono (by decide)) rfl T.g_u_law_class F_u_law_class.kp b_u_law_class (fun σ => passAt (takes_of rfl rfl rfl rfl) σ) (pa_cons (pv 0) (pa_cons (pv 3) pa_nil))))))) (pss_one (ps_set (i := 3) sc_u_law_symbol.nd rfl (Or.inl rfl) (pe_op op_add (pv 3) pe_int))))))) (pss_cons (ps_if (pt_cmpR op_gt (pv 1) pe_int (nomark _)) (pss_one (ps_set (i := 2) sc_u_law_symbol.nd rfl (Or.inl rfl) (pe_op op_mulX (pv 2) (pe_callS G_u_law_class (hr.mono (by decide)) rfl T.g_u_law_class F_u_law_class.kp b_u_law_class (fun σ => passAt (takes_of rfl rfl rfl rfl) σ) (pa_cons (pv 0) (pa_cons (pv 1) pa_nil)))))) pss_nil) (pss_one (ps_ret (pv 2))))))), ?_⟩
  rintro ⟨a_, n_, ⟨⟩⟩ F0 H0 Q KP L
  show Blk K F0 H0 KP _ [some (.im (toD a_)), some (.im (toD n_)), none, none, none] (m_u_law_symbol a_ n_)
  unfold m_u_law_symbol
  have hs_ := ((ev_int (i := 1)) : EvX K (W0 E) [some (.im (toD a_)), some (.im (toD n_)), none, none, none] _ _); replace hs_ : EvX K (W0 E) [some (.im (toD a_)), some (.im (toD n_)), none, none, none] _ (Res.ok (1 : Int) : Res Int) := hs_
  refine blk_seq (blk_set (i := 2) L trivial hs_ fun symbol_ => ?_)
  show Blk _ _ _ _ _ [some (.im (toD a_)), some (.im (toD n_)), some (.im (toD symbol_)), none, none] _
  try refine Blk.nx ?_
  have hs_ := ((ev_int (i := 3)) : EvX K (W0 E) [some (.im (toD a_)), some (.im (toD n_)), some (.im (toD symbol_)), none, none] _ _); replace hs_ : EvX K (W0 E) [some (.im (toD a_)), some (.im (toD n_)), some (.im (toD symbol_)), none, none] _ (Res.ok (3 : Int) : Res Int) := hs_
  refine blk_seq (blk_set (i := 3) L trivial hs_ fun divisor_ => ?_)
  show Blk _ _ _ _ _ [some (.im (toD a_)), some (.im (toD n_)), some (.im (toD symbol_)), some (.im (toD divisor_)), none] _
  try refine Blk.nx ?_
  have hi_ := ((ei_range1 (ev_int (i := 1200))) : EvI K (W0 E) [some (.im (toD a_)), some (.im (toD n_)), some (.im (toD symbol_)), some (.im (toD divisor_)), none] _ _); replace hi_ : EvI K (W0 E) [some (.im (toD a_)), some (.im (toD n_)), some (.im (toD symbol_)), some (.im (toD divisor_)), none] _ (Res.need (okRange (1200 : Int)) (Res.ok (pyRange 0 (1200 : Int)))) := hi_
  refine blk_seq (blk_for (S := Int × Int × Int) (m_u_law_symbol_l1 a_ (m_u_law_symbol_k4 a_)) (m_u_law_symbol_k4 a_) (fun (n_, symbol_, divisor_) => [some (.im (toD a_)), some (.im (toD n_)), some (.im (toD symbol_)), some (.im (toD divisor_)), none]) (n_, symbol_, divisor_) L trivial hi_ (fun _ => gx_name) (.same (.same (.same (.same (.same .nil))))) (fun _ => rfl) ?_ ?_)
  · intro F1 L1 hB1 x22 r1 s_ N_ hN1
    obtain ⟨n_, symbol_, divisor_⟩ := s_
    show Blk _ _ _ _ _ [some (.im (toD a_)), some (.im (toD n_)), some (.im (toD symbol_)), some (.im (toD divisor_)), some (.im (toD x22))] (m_u_law_symbol_l1 a_ (m_u_law_symbol_k4 a_) (x22 :: r1) (n_, symbol_, divisor_))
    rw [m_u_law_symbol_l1]
    show Blk _ _ _ _ _ _ ((fun (k_ : Int) => _) x22)
    generalize x22 = k_
    show Blk _ _ _ _ _ [some (.im (toD a_)), some (.im (toD n_)), some (.im (toD symbol_)), some (.im (toD divisor_)), some (.im (toD k_))] _
    have ht_ := ((et_test (ev_op (opx_B0 (g := fun i j => decide (j < i))) mild_ok (ev_op (opx_I (C := CMulX) (g := fun i j => i * j)) mild_need (ev_var (i := 3) (x := divisor_) rfl) (ev_var (i := 3) (x := divisor_) rfl)) (ev_var (i := 1) (x := n_) rfl))) : EvT K (W0 E) [some (.im (toD a_)), some (.im (toD n_)), some (.im (toD symbol_)), some (.im (toD divisor_)), some (.im (toD k_))] _ _); replace ht_ : EvT K (W0 E) [some (.im (toD a_)), some (.im (toD n_)), some (.im (toD symbol_)), some (.im (toD divisor_)), some (.im (toD k_))] _ ((Res.need (CMulX divisor_ divisor_) (Res.ok (divisor_ * divisor_))).bind fun (t23 : Int) => Res.ok (decide (n_ < t23))) := ht_
    refine blk_seq (blk_if2 L1 trivial ht_ ?_ ?_)
    · exact (hB1 (n_, symbol_, divisor_)).weak (.same (.same (.same (.same (.drop .nil)))))
    · refine blk_nil ?_
      try refine Blk.nx ?_
      have ht_ := ((et_test (ev_op opx_eqI mild_ok (ev_op (opx_I (C := (fun _ j => 0 < j)) (g := fun i j => i % j)) mild_need (ev_var (i := 1) (x := n_) rfl) (ev_var (i := 3) (x := divisor_) rfl)) (ev_int (i := 0)))) : EvT K (W0 E) [some (.im (toD a_)), some (.im (toD n_)), some (.im (toD symbol_)), some (.im (toD divisor_)), some (.im (toD k_))] _ _); replace ht_ : EvT K (W0 E) [some (.im (toD a_)), some (.im (toD n_)), some (.im (toD symbol_)), some (.im (toD divisor_)), some (.im (toD k_))] _ ((Res.need (0 < divisor_) (Res.ok (n_ % divisor_))).bind fun (t24 : Int) => Res.ok (decide (t24 = (0 : Int)))) := ht_
      refine blk_if2 L1 trivial ht_ ?_ ?_
      · have hs_ := ((ev_op (opx_I (C := CDivW) (g := fun i j => i / j)) mild_need (ev_var (i := 1) (x := n_) rfl) (ev_var (i := 3) (x := divisor_) rfl)) : EvX K (W0 E) [some (.im (toD a_)), some (.im (toD n_)), some (.im (toD symbol_)), some (.im (toD divisor_)), some (.im (toD k_))] _ _); replace hs_ : EvX K (W0 E) [some (.im (toD a_)), some (.im (toD n_)), some (.im (toD symbol_)), some (.im (toD divisor_)), some (.im (toD k_))] _ (Res.need (CDivW n_ divisor_) (Res.ok (n_ / divisor_))) := hs_
        refine blk_seq (blk_set (i := 1) L1 trivial hs_ fun n_ => ?_)
        show Blk _ _ _ _ _ [some (.im (toD a_)), some (.im (toD n_)), some (.im (toD symbol_)), some (.im (toD divisor_)), some (.im (toD k_))] _
        try refine Blk.nx ?_
        have hs_ := ((ev_op (opx_I (C := CMulX) (g := fun i j => i * j)) mild_need (ev_var (i := 2) (x := symbol_) rfl) (ev_call (f := (fun (p : Int × Int × Unit) => m_u_law_class p.1 p.2.1)) (ea_cons (ev_var (i := 0) (x := a_) rfl) (ea_cons (ev_var (i := 3) (x := divisor_) rfl) ea_nil)))) : EvX K (W0 E) [some (.im (toD a_)), some (.im (toD n_)), some (.im (toD symbol_)), some (.im (toD divisor_)), some (.im (toD k_))] _ _); replace hs_ : EvX K (W0 E) [some (.im (toD a_)), some (.im (toD n_)), some (.im (toD symbol_)), some (.im (toD divisor_)), some (.im (toD k_))] _ ((m_u_law_class a_ divisor_).bind fun (t25 : Int) => Res.need (CMulX symbol_ t25) (Res.ok (symbol_ * t25))) := hs_
        refine blk_set (i := 2) L1 trivial hs_ fun symbol_ => ?_
        show Blk _ _ _ _ _ [some (.im (toD a_)), some (.im (toD n_)), some (.im (toD symbol_)), some (.im (toD divisor_)), some (.im (toD k_))] _
        try refine Blk.nx ?_
        exact (hN1 (n_, symbol_, divisor_)).weak (.same (.same (.same (.same (.drop .nil)))))
      · have hs_ := ((ev_op (opx_I0 (g := fun i j => i + j)) mild_ok (ev_var (i := 3) (x := divisor_) rfl) (ev_int (i := 2))) : EvX K (W0 E) [some (.im (toD a_)), some (.im (toD n_)), some (.im (toD symbol_)), some (.im (toD divisor_)), some (.im (toD k_))] _ _); replace hs_ : EvX K (W0 E) [some (.im (toD a_)), some (.im (toD n_)), some (.im (toD symbol_)), some (.im (toD divisor_)), some (.im (toD k_))] _ (Res.ok (divisor_ + (2 : Int)) : Res Int) := hs_
        refine blk_set (i := 3) L1 trivial hs_ fun divisor_ => ?_
        show Blk _ _ _ _ _ [some (.im (toD a_)), some (.im (toD n_)), some (.im (toD symbol_)), some (.im (toD divisor_)), some (.im (toD k_))] _
        try refine Blk.nx ?_
        exact (hN1 (n_, symbol_, divisor_)).weak (.same (.same (.same (.same (.drop .nil)))))
  · rintro ⟨n_, symbol_, divisor_⟩
    show Blk _ _ _ _ _ [some (.im (toD a_)), some (.im (toD n_)), some (.im (toD symbol_)), some (.im (toD divisor_)), none] ((m_u_law_symbol_k4 a_) (n_, symbol_, divisor_))
    unfold m_u_law_symbol_k4
    try refine Blk.nx ?_
    have ht_ := ((et_test (ev_op (opx_B0 (g := fun i j => decide (j < i))) mild_ok (ev_var (i := 1) (x := n_) rfl) (ev_int (i := 1)))) : EvT K (W0 E) [some (.im (toD a_)), some (.im (toD n_)), some (.im (toD symbol_)), some (.im (toD divisor_)), none] _ _); replace ht_ : EvT K (W0 E) [some (.im (toD a_)), some (.im (toD n_)), some (.im (toD symbol_)), some (.im (toD divisor_)), none] _ ((Res.ok (decide ((1 : Int) < n_)))) := ht_
    refine blk_seq (blk_ifj (S := Int) (fun symbol_ => [some (.im (toD a_)), some (.im (toD n_)), some (.im (toD symbol_)), some (.im (toD divisor_)), none]) m_u_law_symbol_k3 L trivial ht_ ?_ ?_ ?_)
    · intro symbol_
      show Blk _ _ _ _ _ [some (.im (toD a_)), some (.im (toD n_)), some (.im (toD symbol_)), some (.im (toD divisor_)), none] (m_u_law_symbol_k3 symbol_)
      unfold m_u_law_symbol_k3
      try refine Blk.nx ?_
      have hr_ := ((ev_var (i := 2) (x := symbol_) rfl) : EvX K (W0 E) [some (.im (toD a_)), some (.im (toD n_)), some (.im (toD symbol_)), some (.im (toD divisor_)), none] _ _); replace hr_ : EvX K (W0 E) [some (.im (toD a_)), some (.im (toD n_)), some (.im (toD symbol_)), some (.im (toD divisor_)), none] _ (Res.ok symbol_ : Res Int) := hr_
      exact blk_ret L trivial hr_
    · intro hk3
      have hs_ := ((ev_op (opx_I (C := CMulX) (g := fun i j => i * j)) mild_need (ev_var (i := 2) (x := symbol_) rfl) (ev_call (f := (fun (p : Int × Int × Unit) => m_u_law_class p.1 p.2.1)) (ea_cons (ev_var (i := 0) (x := a_) rfl) (ea_cons (ev_var (i := 1) (x := n_) rfl) ea_nil)))) : EvX K (W0 E) [some (.im (toD a_)), some (.im (toD n_)), some (.im (toD symbol_)), some (.im (toD divisor_)), none] _ _); replace hs_ : EvX K (W0 E) [some (.im (toD a_)), some (.im (toD n_)), some (.im (toD symbol_)), some (.im (toD divisor_)), none] _ ((m_u_law_class a_ n_).bind fun (t26 : Int) => Res.need (CMulX symbol_ t26) (Res.ok (symbol_ * t26))) := hs_
      refine blk_set (i := 2) L trivial hs_ fun symbol_ => ?_
      show Blk _ _ _ _ _ [some (.im (toD a_)), some (.im (toD n_)), some (.im (toD symbol_)), some (.im (toD divisor_)), none] _
      try refine Blk.nx ?_
      exact (hk3 symbol_).weak (.same (.same (.same (.same (.same .nil)))))
    · intro hk3
      refine blk_nil ?_
      try refine Blk.nx ?_
      exact (hk3 symbol_).weak (.same (.same (.same (.same (.same .nil)))))
noncomputable def m_u_law_odd_l2 (k2 : Int × Int → Res Int) : List Int → Int × Int → Res Int
  | [], s => k2 s
  | x28 :: r2, (rest_, number_) =>   (fun (k_ : Int) => ((Res.ok ((rest_ / (7 : Int)) + k_))).bind fun (rest_ : Int) =>   ((idx ([(3 : Int), (5 : Int), (7 : Int), (11 : Int), (13 : Int), (17 : Int), (19 : Int), (23 : Int), (29 : Int), (31 : Int)] : List Int) (rest_ % (10 : Int))).bind fun (t29 : Int) => Res.need (CMulX number_ t29) (Res.ok (number_ * t29))).bind fun (number_ : Int) =>   m_u_law_odd_l2 k2 r2 (rest_, number_)) x28
noncomputable def m_u_law_odd_k3 : Int × Int → Res Int := fun (rest_, number_) =>   (Res.ok number_)
noncomputable def m_u_law_odd (cell_ : Int) : Res Int :=
  ((Res.ok (Int.natAbs cell_ : Int))).bind fun (rest_ : Int) =>   ((Res.ok (decide ((rest_ % (3 : Int)) = (0 : Int))))).bind fun b => cond b   ((Res.ok ((((rest_ / (3 : Int)) % (499999 : Int)) * (2 : Int)) + (1 : Int))))   (((Res.ok (1 : Int))).bind fun (number_ : Int) =>   (Res.need (okRange ((1 : Int) + ((rest_ / (3 : Int)) % (4 : Int)))) (Res.ok (pyRange 0 ((1 : Int) + ((rest_ / (3 : Int)) % (4 : Int)))))).bind fun (xs30 : List Int) => m_u_law_odd_l2 (m_u_law_odd_k3) xs30 (rest_, number_))
theorem ok_u_law_odd {P : Program} {w : World} {K : PySem.W.Frag} {mg : Str → Option Value} {base : Heap} (T : Facts K mg) {fd : FuncData} (F : FnP K "_law_odd" "_law_odd" s_u_law_odd (He.ga K "_law_odd") fd) :
    FnOk P w K mg base (L2.CX P w) 1 (He.ga K "_law_odd") fd ["cell"] (spM K (fun (p : Int × Unit) => m_u_law_odd p.1)) := by
  refine fn_ok F sc_u_law_odd (fun y => rfl) (fun cdv A outer s H E hr => ?_)
  refine ⟨_, (pss_cons (ps_set (i := 1) sc_u_law_odd.nd rfl (Or.inl rfl) (pe_callB call_abs (by rfl) T.n_abs (by decide +kernel) (pa_cons (pv 0) pa_nil))) (pss_cons (ps_if (pt_cmpR op_eq (pe_op op_mod (pv 1) pe_int) pe_int (nomark _)) (pss_one (ps_ret (pe_op op_add (pe_op op_mul (pe_op op_mod (pe_op op_fdiv (pv 1) pe_int) pe_int) pe_int) pe_int))) pss_nil) (pss_cons (ps_set (i := 2) sc_u_law_odd.nd rfl (Or.inl rfl) pe_int) (pss_cons (ps_for (passes_of rfl) rfl (pi_range1 rfl T.n_range (pa_cons (pe_op op_add pe_int (pe_op op_mod (pe_op op_fdiv (pv 1) pe_int) pe_int)) pa_nil)) (pg_name (i := 3) sc_u_law_odd.nd rfl (Or.inl rfl)) (pss_cons (ps_set (i := 1) sc_u_law_odd.nd rfl (Or.inl rfl) (pe_op op_add (pe_op op_fdiv (pv 1) pe_int) (pv 3))) (pss_one (ps_set (i := 2) sc_u_law_odd.nd rfl (Or.inl rfl) (pe_op op_mulX (pv 2) (pe_ix (cr_ixL rfl) (pe_lst (pa_cons pe_int (pa_cons pe_int (pa_cons pe_int (pa_cons pe_int (pa_cons pe_int (pa_cons pe_int (pa_cons pe_int (pa_cons pe_int (pa_cons pe_int (pa_cons pe_int pa_nil))))))))))) (pe_op op_mod (pv 1) pe_int) (fun _ _ => rfl))))))) (pss_one (ps_ret (pv 2))))))), ?_⟩
  rintro ⟨cell_, ⟨⟩⟩ F0 H0 Q KP L
  show Blk K F0 H0 KP _ [some (.im (toD cell_)), none, none, none] (m_u_law_odd cell_)
  unfold m_u_law_odd
  have hs_ := ((ev_cb cx_abs (fun _ _ h => nomatch h) (ea_cons (ev_var (i := 0) (x := cell_) rfl) ea_nil)) : EvX K (W0 E) [some (.im (toD cell_)), none, none, none] _ _); replace hs_ : EvX K (W0 E) [some (.im (toD cell_)), none, none, none] _ (Res.ok (Int.natAbs cell_ : Int) : Res Int) := hs_
  refine blk_seq (blk_set (i := 1) L trivial hs_ fun rest_ => ?_)
  show Blk _ _ _ _ _ [some (.im (toD cell_)), some (.im (toD rest_)), none, none] _
  try refine Blk.nx ?_
  have ht_ := ((et_test (ev_op opx_eqI mild_ok (ev_opI (C := (fun _ j => 0 < j)) (g := fun i j => i % j) (fun x y _ h => by cases h; (show (0 : Int) < _; decide)) (ev_var (i := 1) (x := rest_) rfl) (ev_int (i := 3))) (ev_int (i := 0)))) : EvT K (W0 E) [some (.im (toD cell_)), some (.im (toD rest_)), none, none] _ _); replace ht_ : EvT K (W0 E) [some (.im (toD cell_)), some (.im (toD rest_)), none, none] _ ((Res.ok (decide ((rest_ % (3 : Int)) = (0 : Int))))) := ht_
  refine blk_seq (blk_if2 L trivial ht_ ?_ ?_)
  · have hr_ := ((ev_op (opx_I0 (g := fun i j => i + j)) mild_ok (ev_opI (C := CMul) (g := fun i j => i * j) (fun x y _ h => by cases h; exact .inr (by decide)) (ev_opI (C := (fun _ j => 0 < j)) (g := fun i j => i % j) (fun x y _ h => by cases h; (show (0 : Int) < _; decide)) (ev_opI (C := CDiv) (g := fun i j => i / j) (fun x y _ h => by cases h; exact ⟨by decide, by decide⟩) (ev_var (i := 1) (x := rest_) rfl) (ev_int (i := 3))) (ev_int (i := 499999))) (ev_int (i := 2))) (ev_int (i := 1))) : EvX K (W0 E) [some (.im (toD cell_)), some (.im (toD rest_)), none, none] _ _); replace hr_ : EvX K (W0 E) [some (.im (toD cell_)), some (.im (toD rest_)), none, none] _ (Res.ok ((((rest_ / (3 : Int)) % (499999 : Int)) * (2 : Int)) + (1 : Int)) : Res Int) := hr_
    exact blk_ret L trivial hr_
  · refine blk_nil ?_
    try refine Blk.nx ?_
    have hs_ := ((ev_int (i := 1)) : EvX K (W0 E) [some (.im (toD cell_)), some (.im (toD rest_)), none, none] _ _); replace hs_ : EvX K (W0 E) [some (.im (toD cell_)), some (.im (toD rest_)), none, none] _ (Res.ok (1 : Int) : Res Int) := hs_
    refine blk_seq (blk_set (i := 2) L trivial hs_ fun number_ => ?_)
    show Blk _ _ _ _ _ [some (.im (toD cell_)), some (.im (toD rest_)), some (.im (toD number_)), none] _
    try refine Blk.nx ?_
    have hi_ := ((ei_range1 (ev_op (opx_I0 (g := fun i j => i + j)) mild_ok (ev_int (i := 1)) (ev_opI (C := (fun _ j => 0 < j)) (g := fun i j => i % j) (fun x y _ h => by cases h; (show (0 : Int) < _; decide)) (ev_opI (C := CDiv) (g := fun i j => i / j) (fun x y _ h => by cases h; exact ⟨by decide, by decide⟩) (ev_var (i := 1) (x := rest_) rfl) (ev_int (i := 3))) (ev_int (i := 4))))) : EvI K (W0 E) [some (.im (toD cell_)), some (.im (toD rest_)), some (.im (toD number_)), none] _ _); replace hi_ : EvI K (W0 E) [some (.im (toD cell_)), some (.im (toD rest_)), some (.im (toD number_)), none] _ (Res.need (okRange ((1 : Int) + ((rest_ / (3 : Int)) % (4 : Int)))) (Res.ok (pyRange 0 ((1 : Int) + ((rest_ / (3 : Int)) % (4 : Int)))))) := hi_
    refine blk_seq (blk_for (S := Int × Int) (m_u_law_odd_l2 (m_u_law_odd_k3)) (m_u_law_odd_k3) (fun (rest_, number_) => [some (.im (toD cell_)), some (.im (toD rest_)), some (.im (toD number_)), none]) (rest_, number_) L trivial hi_ (fun _ => gx_name) (.same (.same (.same (.same .nil)))) (fun _ => rfl) ?_ ?_)
    · intro F2 L2 hB2 x28 r2 s_ N_ hN2
      obtain ⟨rest_, number_⟩ := s_
      show Blk _ _ _ _ _ [some (.im (toD cell_)), some (.im (toD rest_)), some (.im (toD number_)), some (.im (toD x28))] (m_u_law_odd_l2 (m_u_law_odd_k3) (x28 :: r2) (rest_, number_))
      rw [m_u_law_odd_l2]
      show Blk _ _ _ _ _ _ ((fun (k_ : Int) => _) x28)
      generalize x28 = k_
      show Blk _ _ _ _ _ [some (.im (toD cell_)), some (.im (toD rest_)), some (.im (toD number_)), some (.im (toD k_))] _
      have hs_ := ((ev_op (opx_I0 (g := fun i j => i + j)) mild_ok (ev_opI (C := CDiv) (g := fun i j => i / j) (fun x y _ h => by cases h; exact ⟨by decide, by decide⟩) (ev_var (i := 1) (x := rest_) rfl) (ev_int (i := 7))) (ev_var (i := 3) (x := k_) rfl)) : EvX K (W0 E) [some (.im (toD cell_)), some (.im (toD rest_)), some (.im (toD number_)), some (.im (toD k_))] _ _); replace hs_ : EvX K (W0 E) [some (.im (toD cell_)), some (.im (toD rest_)), some (.im (toD number_)), some (.im (toD k_))] _ (Res.ok ((rest_ / (7 : Int)) + k_) : Res Int) := hs_
      refine blk_seq (blk_set (i := 1) L2 trivial hs_ fun rest_ => ?_)
      show Blk _ _ _ _ _ [some (.im (toD cell_)), some (.im (toD rest_)), some (.im (toD number_)), some (.im (toD k_))] _
      try refine Blk.nx ?_
      have hs_ := ((ev_op (opx_I (C := CMulX) (g := fun i j => i * j)) mild_need (ev_var (i := 2) (x := number_) rfl) (ev_op opx_ixL (fun x y => idx_mild x y) (ev_ofN (en_lst (f := (fun y => ([y.1, y.2.1, y.2.2.1, y.2.2.2.1, y.2.2.2.2.1, y.2.2.2.2.2.1, y.2.2.2.2.2.2.1, y.2.2.2.2.2.2.2.1, y.2.2.2.2.2.2.2.2.1, y.2.2.2.2.2.2.2.2.2.1] : List Int))) (ea_cons (ev_int (i := 3)) (ea_cons (ev_int (i := 5)) (ea_cons (ev_int (i := 7)) (ea_cons (ev_int (i := 11)) (ea_cons (ev_int (i := 13)) (ea_cons (ev_int (i := 17)) (ea_cons (ev_int (i := 19)) (ea_cons (ev_int (i := 23)) (ea_cons (ev_int (i := 29)) (ea_cons (ev_int (i := 31)) ea_nil)))))))))) (fun _ => rfl) (fun _ => by show 10 ≤ 100000; decide))) (ev_opI (C := (fun _ j => 0 < j)) (g := fun i j => i % j) (fun x y _ h => by cases h; (show (0 : Int) < _; decide)) (ev_var (i := 1) (x := rest_) rfl) (ev_int (i := 10))))) : EvX K (W0 E) [some (.im (toD cell_)), some (.im (toD rest_)), some (.im (toD number_)), some (.im (toD k_))] _ _); replace hs_ : EvX K (W0 E) [some (.im (toD cell_)), some (.im (toD rest_)), some (.im (toD number_)), some (.im (toD k_))] _ ((idx ([(3 : Int), (5 : Int), (7 : Int), (11 : Int), (13 : Int), (17 : Int), (19 : Int), (23 : Int), (29 : Int), (31 : Int)] : List Int) (rest_ % (10 : Int))).bind fun (t29 : Int) => Res.need (CMulX number_ t29) (Res.ok (number_ * t29))) := hs_
      refine blk_set (i := 2) L2 trivial hs_ fun number_ => ?_
      show Blk _ _ _ _ _ [some (.im (toD cell_)), some (.im (toD rest_)), some (.im (toD number_)), some (.im (toD k_))] _
      try refine Blk.nx ?_
      exact (hN2 (rest_, number_)).weak (.same (.same (.same (.drop .nil))))
    · rintro ⟨rest_, number_⟩
      show Blk _ _ _ _ _ [some (.im (toD cell_)), some (.im (toD rest_)), some (.im (toD number_)), none] ((m_u_law_odd_k3) (rest_, number_))
      unfold m_u_law_odd_k3
      try refine Blk.nx ?_
      have hr_ := ((ev_var (i := 2) (x := number_) rfl) : EvX K (W0 E) [some (.im (toD cell_)), some (.im (toD rest_)), some (.im (toD number_)), none] _ _); replace hr_ : EvX K (W0 E) [some (.im (toD cell_)), some (.im (toD rest_)), some (.im (toD number_)), none] _ (Res.ok number_ : Res Int) := hr_
      exact blk_ret L trivial hr_
noncomputable def m_u_law_common_l1 (k1 : Int × Int → Res Int) : List Int → Int × Int → Res Int
  | [], s => k1 s
  | x31 :: r1, (m_, n_) =>   (fun (k_ : Int) => ((Res.ok (decide (n_ = (0 : Int))))).bind fun b => cond b   ((Res.ok m_))   (((Res.ok n_)).bind fun (p32 : Int) => (Res.need (0 < n_) (Res.ok (m_ % n_))).bind fun (p33 : Int) =>   (fun (m_ : Int) (n_ : Int) => m_u_law_common_l1 k1 r1 (m_, n_)) p32 p33)) x31
noncomputable def m_u_law_common_k3 : Int × Int → Res Int := fun (m_, n_) =>   (Res.ok m_)
noncomputable def m_u_law_common (m_ : Int) (n_ : Int) : Res Int :=
  (Res.need (okRange (60 : Int)) (Res.ok (pyRange 0 (60 : Int)))).bind fun (xs34 : List Int) => m_u_law_common_l1 (m_u_law_common_k3) xs34 (m_, n_)
theorem ok_u_law_common {P : Program} {w : World} {K : PySem.W.Frag} {mg : Str → Option Value} {base : Heap} (T : Facts K mg) {fd : FuncData} (F : FnP K "_law_common" "_law_common" s_u_law_common (He.ga K "_law_common") fd) :
    FnOk P w K mg base (L2.CX P w) 1 (He.ga K "_law_common") fd ["m", "n"] (spM K (fun (p : Int × Int × Unit) => m_u_law_common p.1 p.2.1)) := by
  refine fn_ok F sc_u_law_common (fun y => rfl) (fun cdv A outer s H E hr => ?_)
  refine ⟨_, (pss_cons (ps_for (passes_of rfl) rfl (pi_range1 rfl T.n_range (pa_cons pe_int pa_nil)) (pg_name (i := 2) sc_u_law_common.nd rfl (Or.inl rfl)) (pss_cons (ps_if (pt_cmpR op_eq (pv 1) pe_int (nomark _)) (pss_one (ps_ret (pv 0))) pss_nil) (pss_one (ps_par (i := 0) (j := 1) (by rfl) sc_u_law_common.nd rfl rfl (by decide) rfl rfl (pa_cons (pv 1) (pa_cons (pe_op op_mod (pv 0) (pv 1)) pa_nil)) (by rfl))))) (pss_one (ps_ret (pv 0)))), ?_⟩
  rintro ⟨m_, n_, ⟨⟩⟩ F0 H0 Q KP L
  show Blk K F0 H0 KP _ [some (.im (toD m_)), some (.im (toD n_)), none] (m_u_law_common m_ n_)
  unfold m_u_law_common
  have hi_ := ((ei_range1 (ev_int (i := 60))) : EvI K (W0 E) [some (.im (toD m_)), some (.im (toD n_)), none] _ _); replace hi_ : EvI K (W0 E) [some (.im (toD m_)), some (.im (toD n_)), none] _ (Res.need (okRange (60 : Int)) (Res.ok (pyRange 0 (60 : Int)))) := hi_
  refine blk_seq (blk_for (S := Int × Int) (m_u_law_common_l1 (m_u_law_common_k3)) (m_u_law_common_k3) (fun (m_, n_) => [some (.im (toD m_)), some (.im (toD n_)), none]) (m_, n_) L trivial hi_ (fun _ => gx_name) (.same (.same (.same .nil))) (fun _ => rfl) ?_ ?_)
  · intro F1 L1 hB1 x31 r1 s_ N_ hN1
    obtain ⟨m_, n_⟩ := s_
    show Blk _ _ _ _ _ [some (.im (toD m_)), some (.im (toD n_)), some (.im (toD x31))] (m_u_law_common_l1 (m_u_law_common_k3) (x31 :: r1) (m_, n_))
    rw [m_u_law_common_l1]
    show Blk _ _ _ _ _ _ ((fun (k_ : Int) => _) x31)
    generalize x31 = k_
    show Blk _ _ _ _ _ [some (.im (toD m_)), some (.im (toD n_)), some (.im (toD k_))] _
    have ht_ := ((et_test (ev_op opx_eqI mild_ok (ev_var (i := 1) (x := n_) rfl) (ev_int (i := 0)))) : EvT K (W0 E) [some (.im (toD m_)), some (.im (toD n_)), some (.im (toD k_))] _ _); replace ht_ : EvT K (W0 E) [some (.im (toD m_)), some (.im (toD n_)), some (.im (toD k_))] _ ((Res.ok (decide (n_ = (0 : Int))))) := ht_
    refine blk_seq (blk_if2 L1 trivial ht_ ?_ ?_)
    · have hr_ := ((ev_var (i := 0) (x := m_) rfl) : EvX K (W0 E) [some (.im (toD m_)), some (.im (toD n_)), some (.im (toD k_))] _ _); replace hr_ : EvX K (W0 E) [some (.im (toD m_)), some (.im (toD n_)), some (.im (toD k_))] _ (Res.ok m_ : Res Int) := hr_
      exact blk_ret L1 trivial hr_
    · refine blk_nil ?_
      try refine Blk.nx ?_
      have ha_ := ((ev_var (i := 1) (x := n_) rfl) : EvX K (W0 E) [some (.im (toD m_)), some (.im (toD n_)), some (.im (toD k_))] _ _); replace ha_ : EvX K (W0 E) [some (.im (toD m_)), some (.im (toD n_)), some (.im (toD k_))] _ (Res.ok n_ : Res Int) := ha_
      have hb_ := ((ev_op (opx_I (C := (fun _ j => 0 < j)) (g := fun i j => i % j)) mild_need (ev_var (i := 0) (x := m_) rfl) (ev_var (i := 1) (x := n_) rfl)) : EvX K (W0 E) [some (.im (toD m_)), some (.im (toD n_)), some (.im (toD k_))] _ _); replace hb_ : EvX K (W0 E) [some (.im (toD m_)), some (.im (toD n_)), some (.im (toD k_))] _ (Res.need (0 < n_) (Res.ok (m_ % n_))) := hb_
      refine blk_par (i := 0) (j := 1) L1 trivial ha_ hb_ fun m_ n_ => ?_
      show Blk _ _ _ _ _ [some (.im (toD m_)), some (.im (toD n_)), some (.im (toD k_))] _
      try refine Blk.nx ?_
      exact (hN1 (m_, n_)).weak (.same (.same (.drop .nil)))
  · rintro ⟨m_, n_⟩
    show Blk _ _ _ _ _ [some (.im (toD m_)), some (.im (toD n_)), none] ((m_u_law_common_k3) (m_, n_))
    unfold m_u_law_common_k3
    try refine Blk.nx ?_
    have hr_ := ((ev_var (i := 0) (x := m_) rfl) : EvX K (W0 E) [some (.im (toD m_)), some (.im (toD n_)), none] _ _); replace hr_ : EvX K (W0 E) [some (.im (toD m_)), some (.im (toD n_)), none] _ (Res.ok m_ : Res Int) := hr_
    exact blk_ret L trivial hr_
noncomputable def m_u_law_refused_k1 : Unit → Res Bool := fun _ =>   (Res.ok false)
noncomputable def m_u_law_refused (a_ : Int) (n_ : Int) : Res Bool :=
  tryR (fun c => decide (c ∈ errs)) (fun c => subE c "CurveError")   ((m_jacobi a_ n_).bind fun (_ : Int) =>   Res.ok (.go ()))   (m_u_law_refused_k1) (fun qc_ => cond (subE qc_ "OutOfRange") ((Res.ok (!(subE qc_ "NoInverse")))) (Res.ok false))
theorem ok_u_law_refused {P : Program} {w : World} {K : PySem.W.Frag} {mg : Str → Option Value} {base : Heap} (T : Facts K mg) {fd : FuncData} (F : FnP K "_law_refused" "_law_refused" s_u_law_refused (He.ga K "_law_refused") fd) :
    FnOk P w K mg base (L2.CX P w) 3 (He.ga K "_law_refused") fd ["a", "n"] (spM K (fun (p : Int × Int × Unit) => m_u_law_refused p.1 p.2.1)) := by
  obtain ⟨fd_jacobi, F_jacobi⟩ := T.d_jacobi
  have G_jacobi := ok_jacobi (P := P) (w := w) (base := base) T F_jacobi
  have b_jacobi : Binds K fd_jacobi ["a", "n"] [] := F_jacobi.bindsN fun _ _ _ _ _ _ us hl => match us, hl with | [_, _], _ => rfl
  refine fn_ok F sc_u_law_refused (fun y => rfl) (fun cdv A outer s H E hr => ?_)
  refine ⟨_, (pss_cons (ps_tryW (i := 2) rfl rfl sc_u_law_refused.nd rfl rfl ⟨rfl, by decide, .inl T.g_CurveError⟩ (takes_of rfl rfl rfl rfl) (fun qW_ qpn_ qxe_ qtk_ qpo_ => (pss_one (ps_expr (pe_callS G_jacobi (hr.mono (by decide)) rfl T.g_jacobi F_jacobi.kp b_jacobi (fun σ => passAt qtk_ σ) (pa_cons (pv 0) (pa_cons (pv 1) pa_nil)))))) (fun qa_ qoe_ qcls_ qd_ qpn_ qhz_ qhf_ => (pss_one (ps_ret (pe_and (pe_callB (call_isE2 qhz_ qhf_) (by rfl) T.n_isinstance (by decide +kernel) (pa_cons (pv 2) (pa_cons (pe_glob (v := .ref (He.ga K "OutOfRange")) rfl T.g_OutOfRange rfl) pa_nil))) (pe_one (pe_not (pe_callB (call_isE2 qhz_ qhf_) (by rfl) T.n_isinstance (by decide +kernel) (pa_cons (pv 2) (pa_cons (pe_glob (v := .ref (He.ga K "NoInverse")) rfl T.g_NoInverse rfl) pa_nil)))))))))) (pss_one (ps_ret pe_bl))), ?_⟩
  rintro ⟨a_, n_, ⟨⟩⟩ F0 H0 Q KP L
  show Blk K F0 H0 KP _ [some (.im (toD a_)), some (.im (toD n_)), none] (m_u_law_refused a_ n_)
  unfold m_u_law_refused
  refine blk_seq (blk_tryW (S := Unit) (envS := fun _ => [some (.im (toD a_)), some (.im (toD n_)), none]) (rest := (m_u_law_refused_k1)) L trivial T.cls (x := "CurveError") (by decide) ?_ ?_ ?_)
  · intro qW_ qKP_ Lt qhg_
    have hs_ := ((ev_call (f := (fun (p : Int × Int × Unit) => m_jacobi p.1 p.2.1)) (ea_cons (ev_var (i := 0) (x := a_) rfl) (ea_cons (ev_var (i := 1) (x := n_) rfl) ea_nil))) : EvX K qW_ [some (.im (toD a_)), some (.im (toD n_)), none] _ _); replace hs_ : EvX K qW_ [some (.im (toD a_)), some (.im (toD n_)), none] _ (m_jacobi a_ n_) := hs_
    refine blk_expr Lt (.same (.same (.same .nil))) hs_ fun _ => ?_
    try refine Blk.nx ?_
    exact (qhg_ ()).weak (.same (.same (.same .nil)))
  · intro qc_ qa_ qnx_ qbk_ qct_ qhc_ qhsub_ qhn_
    show Blk _ _ _ _ _ [some (.im (toD a_)), some (.im (toD n_)), some (.raw (.ref qa_))] _
    have hr_ := ((ev_andV (ev_isE T.cls qhc_ (x := "OutOfRange") (i := 2) (a := qa_) (by decide) rfl) (ev_notV (ev_isE T.cls qhc_ (x := "NoInverse") (i := 2) (a := qa_) (by decide) rfl))) : EvX K (W0 E) [some (.im (toD a_)), some (.im (toD n_)), some (.raw (.ref qa_))] _ _); replace hr_ : EvX K (W0 E) [some (.im (toD a_)), some (.im (toD n_)), some (.raw (.ref qa_))] _ (cond (subE qc_ "OutOfRange") ((Res.ok (!(subE qc_ "NoInverse")))) (Res.ok false)) := hr_
    exact blk_ret L trivial hr_
  · intro _
    show Blk _ _ _ _ _ [some (.im (toD a_)), some (.im (toD n_)), none] ((m_u_law_refused_k1) ())
    unfold m_u_law_refused_k1
    try refine Blk.nx ?_
    have hr_ := ((ev_bl (b := false)) : EvX K (W0 E) [some (.im (toD a_)), some (.im (toD n_)), none] _ _); replace hr_ : EvX K (W0 E) [some (.im (toD a_)), some (.im (toD n_)), none] _ (Res.ok false : Res Bool) := hr_
    exact blk_ret L trivial hr_
noncomputable def m_law_l1 (k1 : Unit → Res Bool) : List (T2 Int Int) → Unit → Res Bool
  | [], s => k1 s
  | x66 :: r1, _ =>   (fun (number_ : Int) (lower_ : Int) => (m_jacobi number_ lower_).bind fun (actual_ : Int) =>   ((m_u_law_is_integer (toD actual_)).bind fun (t67 : Bool) => Res.ok (!t67)).bind fun b => cond b   ((Res.ok false))   ((cond (decide (lower_ < (1000000 : Int))) ((m_u_law_symbol number_ lower_).bind fun (t68 : Int) => Res.ok (!decide (actual_ = t68))) (Res.ok false)).bind fun b => cond b   ((Res.ok false))   (m_law_l1 k1 r1 ()))) x66.a x66.b
noncomputable def m_law_k4 (n_ : Int) (a_ : Int) : Unit → Res Bool := fun _ =>   (((m_jacobi (2 : Int) n_).bind fun (t87 : Int) => (idx ([(0 : Int), (1 : Int), (0 : Int), (-(1 : Int)), (0 : Int), (-(1 : Int)), (0 : Int), (1 : Int)] : List Int) (n_ % (8 : Int))).bind fun (t88 : Int) => Res.ok (!decide (t87 = t88))).bind fun b91 => cond b91 (Res.ok true) ((m_jacobi (-(1 : Int)) n_).bind fun (t89 : Int) => (idx ([(0 : Int), (1 : Int), (0 : Int), (-(1 : Int))] : List Int) (n_ % (4 : Int))).bind fun (t90 : Int) => Res.ok (!decide (t89 = t90)))).bind fun b => cond b   ((Res.ok false))   ((m_u_law_refused a_ (n_ + (1 : Int))).bind fun b93 => cond b93 ((m_u_law_refused a_ (0 : Int)).bind fun b92 => cond b92 (m_u_law_refused a_ (-n_)) (Res.ok false)) (Res.ok false))
noncomputable def m_law_k6 (n_ : Int) (m_ : Int) (a_ : Int) (b_ : Int) : Unit → Res Bool := fun _ =>   (((((Res.need (CMulX a_ b_) (Res.ok (a_ * b_))).bind fun a69 => Res.ok (a69, (n_, ()))).bind fun p71 => m_jacobi p71.1 p71.2.1).bind fun (t74 : Int) => ((m_jacobi a_ n_).bind fun (t72 : Int) => (m_jacobi b_ n_).bind fun (t73 : Int) => Res.need (CMulX t72 t73) (Res.ok (t72 * t73))).bind fun (t75 : Int) => Res.ok (!decide (t74 = t75))).bind fun b85 => cond b85 (Res.ok true) (((((Res.need (CMulX m_ n_) (Res.ok (m_ * n_))).bind fun a76 => Res.ok (a76, ())).bind fun a79 => Res.ok (a_, a79)).bind fun p80 => m_jacobi p80.1 p80.2.1).bind fun (t83 : Int) => ((m_jacobi a_ m_).bind fun (t81 : Int) => (m_jacobi a_ n_).bind fun (t82 : Int) => Res.need (CMulX t81 t82) (Res.ok (t81 * t82))).bind fun (t84 : Int) => Res.ok (!decide (t83 = t84)))).bind fun b => cond b   ((Res.ok false))   (((m_u_law_common m_ n_).bind fun (t86 : Int) => Res.ok (decide (t86 = (1 : Int)))).bind fun b => cond b   ((((m_jacobi m_ n_).bind fun (t94 : Int) => (m_jacobi n_ m_).bind fun (t95 : Int) => Res.ok (decide (t94 = t95))).bind fun (t96 : Bool) => (cond (decide ((m_ % (4 : Int)) = (1 : Int))) (Res.ok true) ((Res.ok (decide ((n_ % (4 : Int)) = (1 : Int)))))).bind fun (t97 : Bool) => Res.ok (!(t96 == t97))).bind fun b => cond b   ((Res.ok false))   ((m_law_k4 n_ a_) ()))   (((m_jacobi m_ n_).bind fun (t98 : Int) => Res.ok (!decide (t98 = (0 : Int)))).bind fun b => cond b   ((Res.ok false))   ((m_law_k4 n_ a_) ())))
noncomputable def m_law (script_ : (Ro Int)) : Res Bool :=
  (((m_u_law_cell script_ (0 : Int)).bind fun a35 => Res.ok (a35, ())).bind fun p37 => m_u_law_odd p37.1).bind fun (n_ : Int) =>   (((m_u_law_cell script_ (1 : Int)).bind fun a38 => Res.ok (a38, ())).bind fun p40 => m_u_law_odd p40.1).bind fun (m_ : Int) =>   (((m_u_law_cell script_ (2 : Int)).bind fun a41 => Res.ok (a41, ((1 : Int), ()))).bind fun p43 => m_u_law_number p43.1 p43.2.1).bind fun (a_ : Int) =>   (((m_u_law_cell script_ (3 : Int)).bind fun a44 => Res.ok (a44, ((2 : Int), ()))).bind fun p46 => m_u_law_number p46.1 p46.2.1).bind fun (b_ : Int) =>   (((((((Res.need (CMulX a_ b_) (Res.ok (a_ * b_))).bind fun a47 => Res.ok (a47, (n_, ()))).bind fun p49 => Res.ok (T2.mk p49.1 p49.2.1)).bind fun a59 => ((((((Res.need (CMulX m_ n_) (Res.ok (m_ * n_))).bind fun a50 => Res.ok (a50, ())).bind fun a53 => Res.ok (a_, a53)).bind fun p54 => Res.ok (T2.mk p54.1 p54.2.1)).bind fun a55 => Res.ok (a55, ((T2.mk (2 : Int) n_), ((T2.mk (-(1 : Int)) n_), ((T2.mk m_ n_), ()))))).bind fun a58 => Res.ok ((T2.mk a_ m_), a58)).bind fun a60 => Res.ok (a59, a60)).bind fun a62 => Res.ok ((T2.mk b_ n_), a62)).bind fun a64 => Res.ok ((T2.mk a_ n_), a64)).bind fun p65 => Res.ok ([p65.1, p65.2.1, p65.2.2.1, p65.2.2.2.1, p65.2.2.2.2.1, p65.2.2.2.2.2.1, p65.2.2.2.2.2.2.1, p65.2.2.2.2.2.2.2.1] : List (T2 Int Int))).bind fun (xs99 : List (T2 Int Int)) => m_law_l1 (m_law_k6 n_ m_ a_ b_) xs99 ()
theorem ok_law {P : Program} {w : World} {K : PySem.W.Frag} {mg : Str → Option Value} {base : Heap} (T : Facts K mg) {fd : FuncData} (F : FnP K "law" "law" s_law (He.ga K "law") fd) :
    FnOk P w K mg base (L2.CX P w) 4 (He.ga K "law") fd ["script"] (spM K (fun (p : (Ro Int) × Unit) => m_law p.1)) := by
  obtain ⟨fd_u_law_cell, F_u_law_cell⟩ := T.d_u_law_cell
  have G_u_law_cell := ok_u_law_cell (P := P) (w := w) (base := base) T F_u_law_cell
  have b_u_law_cell : Binds K fd_u_law_cell ["script", "k"] [] := F_u_law_cell.bindsN fun _ _ _ _ _ _ us hl => match us, hl with | [_, _], _ => rfl
  obtain ⟨fd_u_law_common, F_u_law_common⟩ := T.d_u_law_common
  have G_u_law_common := ok_u_law_common (P := P) (w := w) (base := base) T F_u_law_common
  have b_u_law_common : Binds K fd_u_law_common ["m", "n"] [] := F_u_law_common.bindsN fun _ _ _ _ _ _ us hl => match us, hl with | [_, _], _ => rfl
  obtain ⟨fd_u_law_is_integer, F_u_law_is_integer⟩ := T.d_u_law_is_integer
  have G_u_law_is_integer := ok_u_law_is_integer (P := P) (w := w) (base := base) T F_u_law_is_integer
  have b_u_law_is_integer : Binds K fd_u_law_is_integer ["actual"] [] := F_u_law_is_integer.bindsN fun _ _ _ _ _ _ us hl => match us, hl with | [_], _ => rfl
  obtain ⟨fd_u_law_number, F_u_law_number⟩ := T.d_u_law_number
  have G_u_law_number := ok_u_law_number (P := P) (w := w) (base := base) T F_u_law_number
  have b_u_law_number : Binds K fd_u_law_number ["cell", "salt"] [] := F_u_law_number.bindsN fun _ _ _ _ _ _ us hl => match us, hl with | [_, _], _ => rfl
  obtain ⟨fd_u_law_odd, F_u_law_odd⟩ := T.d_u_law_odd
  have G_u_law_odd := ok_u_law_odd (P := P) (w := w) (base := base) T F_u_law_odd
  have b_u_law_odd : Binds K fd_u_law_odd ["cell"] [] := F_u_law_odd.bindsN fun _ _ _ _ _ _ us hl => match us, hl with | [_], _ => rfl
  obtain ⟨fd_u_law_refused, F_u_law_refused⟩ := T.d_u_law_refused
  have G_u_law_refused := ok_u_law_refused (P := P) (w := w) (base := base) T F_u_law_refused
  have b_u_law_refused : Binds K fd_u_law_refused ["a", "n"] [] := F_u_law_refused.bindsN fun _ _ _ _ _ _ us hl => match us, hl with | [_, _], _ => rfl
  obtain ⟨fd_u_law_symbol, F_u_law_symbol⟩ := T.d_u_law_symbol
  have G_u_law_symbol := ok_u_law_symbol (P := P) (w := w) (base := base) T F_u_law_symbol
  have b_u_law_symbol : Binds K fd_u_law_symbol ["a", "n"] [] := F_u_law_symbol.bindsN fun _ _ _ _ _ _ us hl => match us, hl with | [_, _], _ => rfl
  obtain ⟨fd_jacobi, F_jacobi⟩ := T.d_jacobi
  have G_jacobi := ok_jacobi (P := P) (w := w) (base := base) T F_jacobi
  have b_jacobi : Binds K fd_jacobi ["a", "n"] [] := F_jacobi.bindsN fun _ _ _ _ _ _ us hl => match us, hl with | [_, _], _ => rfl
  refine fn_ok F sc_law (fun y => rfl) (fun cdv A outer s H E hr => ?_)
  refine ⟨_, (pss_cons (ps_set (i := 1) sc_law.nd rfl (Or.inl rfl) (pe_callS G_u_law_odd (hr.mono (by decide)) rfl T.g_u_law_odd F_u_law_odd.kp b_u_law_odd (fun σ => passAt (takes_of rfl rfl rfl rfl) σ) (pa_cons (pe_callS G_u_law_cell (hr.mono (by decide)) rfl T.g_u_law_cell F_u_law_cell.kp b_u_law_cell (fun σ => passAt (takes_of rfl rfl rfl rfl) σ) (pa_cons (pv 0) (pa_cons pe_int pa_nil))) pa_nil))) (pss_cons (ps_set (i := 2) sc_law.nd rfl (Or.inl rfl) (pe_callS G_u_law_odd (hr.mono (by decide)) rfl T.g_u_law_odd F_u_law_odd.kp b_u_law_odd (fun σ => passAt (takes_of rfl rfl rfl rfl) σ) (pa_cons (pe_callS G_u_law_cell (hr.mono (by decide)) rfl T.g_u_law_cell F_u_law_cell.kp b_u_law_cell (fun σ => passAt (takes_of rfl rfl rfl rfl) σ) (pa_cons (pv 0) (pa_cons pe_int pa_nil))) pa_nil))) (pss_cons (ps_set (i := 3) sc_law.nd rfl (Or.inl rfl) (pe_callS G_u_law_number (hr.mono (by decide)) rfl T.g_u_law_number F_u_law_number.kp b_u_law_number (fun σ => passAt (takes_of rfl rfl rfl rfl) σ) (pa_cons (pe_callS G_u_law_cell (hr.mono (by decide)) rfl T.g_u_law_cell F_u_law_cell.kp b_u_law_cell (fun σ => passAt (takes_of rfl rfl rfl rfl) σ) (pa_cons (pv 0) (pa_cons pe_int pa_nil))) (pa_cons pe_int pa_nil)))) (pss_cons (ps_set (i := 4) sc_law.nd rfl (Or.inl rfl) (pe_callS G_u_law_number (hr.mono (by decide)) rfl T.g_u_law_number F_u_law_number.kp b_u_law_number (fun σ => passAt (takes_of rfl rfl rfl rfl) σ) (pa_cons (pe_callS G_u_law_cell (hr.mono (by decide)) rfl T.g_u_law_cell F_u_law_cell.kp b_u_law_cell (fun σ => passAt (takes_of rfl rfl rfl rfl) σ) (pa_cons (pv 0) (pa_cons pe_int pa_nil))) (pa_cons pe_int pa_nil)))) (pss_cons (ps_for (passes_of rfl) rfl (pi_list (pe_lst (pa_cons (pe_tup (pa_cons (pv 3) (pa_cons (pv 1) pa_nil))) (pa_cons (pe_tup (pa_cons (pv 4) (pa_cons (pv 1) pa_nil))) (pa_cons (pe_tup (pa_cons (pe_op op_mulX (pv 3) (pv 4)) (pa_cons (pv 1) pa_nil))) (pa_cons (pe_tup (pa_cons (pv 3) (pa_cons (pv 2) pa_nil))) (pa_cons (pe_tup (pa_cons (pv 3) (pa_cons (pe_op op_mulX (pv 2) (pv 1)) pa_nil))) (pa_cons (pe_tup (pa_cons pe_int (pa_cons (pv 1) pa_nil))) (pa_cons (pe_tup (pa_cons (pe_un un_neg pe_int) (pa_cons (pv 1) pa_nil))) (pa_cons (pe_tup (pa_cons (pv 2) (pa_cons (pv 1) pa_nil))) pa_nil)))))))))) (pg_tup rfl (pgs_cons (pg_name (i := 5) sc_law.nd rfl (Or.inl rfl)) (pgs_cons (pg_name (i := 6) sc_law.nd rfl (Or.inl rfl)) pgs_nil))) (pss_cons (ps_set (i := 7) sc_law.nd rfl (Or.inl rfl) (pe_callS G_jacobi (hr.mono (by decide)) rfl T.g_jacobi F_jacobi.kp b_jacobi (fun σ => passAt (takes_of rfl rfl rfl rfl) σ) (pa_cons (pv 5) (pa_cons (pv 6) pa_nil)))) (pss_cons (ps_if (pt_not (pt_val (pe_callS G_u_law_is_integer (hr.mono (by decide)) rfl T.g_u_law_is_integer F_u_law_is_integer.kp b_u_law_is_integer (fun σ => passAt (takes_of rfl rfl rfl rfl) σ) (pa_cons (pv 7) pa_nil)))) (pss_one (ps_ret pe_bl)) pss_nil) (pss_one (ps_if (PW.pt (pw_and (pt_cmpR op_lt (pv 6) pe_int (nomark _)) (pw_and1 (pt_cmpR op_ne (pv 7) (pe_callS G_u_law_symbol (hr.mono (by decide)) rfl T.g_u_law_symbol F_u_law_symbol.kp b_u_law_symbol (fun σ => passAt (takes_of rfl rfl rfl rfl) σ) (pa_cons (pv 5) (pa_cons (pv 6) pa_nil))) (nomark _))))) (pss_one (ps_ret pe_bl)) pss_nil))))) (pss_cons (ps_if (PW.pt (pw_or (pt_cmpR op_ne (pe_callS G_jacobi (hr.mono (by decide)) rfl T.g_jacobi F_jacobi.kp b_jacobi (fun σ => passAt (takes_of rfl rfl rfl rfl) σ) (pa_cons (pe_op op_mulX (pv 3) (pv 4)) (pa_cons (pv 1) pa_nil))) (pe_op op_mulX (pe_callS G_jacobi (hr.mono (by decide)) rfl T.g_jacobi F_jacobi.kp b_jacobi (fun σ => passAt (takes_of rfl rfl rfl rfl) σ) (pa_cons (pv 3) (pa_cons (pv 1) pa_nil))) (pe_callS G_jacobi (hr.mono (by decide)) rfl T.g_jacobi F_jacobi.kp b_jacobi (fun σ => passAt (takes_of rfl rfl rfl rfl) σ) (pa_cons (pv 4) (pa_cons (pv 1) pa_nil)))) (nomark _)) (pw_or1 (pt_cmpR op_ne (pe_callS G_jacobi (hr.mono (by decide)) rfl T.g_jacobi F_jacobi.kp b_jacobi (fun σ => passAt (takes_of rfl rfl rfl rfl) σ) (pa_cons (pv 3) (pa_cons (pe_op op_mulX (pv 2) (pv 1)) pa_nil))) (pe_op op_mulX (pe_callS G_jacobi (hr.mono (by decide)) rfl T.g_jacobi F_jacobi.kp b_jacobi (fun σ => passAt (takes_of rfl rfl rfl rfl) σ) (pa_cons (pv 3) (pa_cons (pv 2) pa_nil))) (pe_callS G_jacobi (hr.mono (by decide)) rfl T.g_jacobi F_jacobi.kp b_jacobi (fun σ => passAt (takes_of rfl rfl rfl rfl) σ) (pa_cons (pv 3) (pa_cons (pv 1) pa_nil)))) (nomark _))))) (pss_one (ps_ret pe_bl)) pss_nil) (pss_cons (ps_if (pt_cmpR op_eq (pe_callS G_u_law_common (hr.mono (by decide)) rfl T.g_u_law_common F_u_law_common.kp b_u_law_common (fun σ => passAt (takes_of rfl rfl rfl rfl) σ) (pa_cons (pv 2) (pa_cons (pv 1) pa_nil))) pe_int (nomark _)) (pss_one (ps_if (pt_cmpR op_ne (pe_cmpR op_eq (pe_callS G_jacobi (hr.mono (by decide)) rfl T.g_jacobi F_jacobi.kp b_jacobi (fun σ => passAt (takes_of rfl rfl rfl rfl) σ) (pa_cons (pv 2) (pa_cons (pv 1) pa_nil))) (pe_callS G_jacobi (hr.mono (by decide)) rfl T.g_jacobi F_jacobi.kp b_jacobi (fun σ => passAt (takes_of rfl rfl rfl rfl) σ) (pa_cons (pv 1) (pa_cons (pv 2) pa_nil))) (nomark _)) (pe_or (pe_cmpR op_eq (pe_op op_mod (pv 2) pe_int) pe_int (nomark _)) (pe_one (pe_cmpR op_eq (pe_op op_mod (pv 1) pe_int) pe_int (nomark _)))) (nomark _)) (pss_one (ps_ret pe_bl)) pss_nil)) (pss_one (ps_if (pt_cmpR op_ne (pe_callS G_jacobi (hr.mono (by decide)) rfl T.g_jacobi F_jacobi.kp b_jacobi (fun σ => passAt (takes_of rfl rfl rfl rfl) σ) (pa_cons (pv 2) (pa_cons (pv 1) pa_nil))) pe_int (nomark _)) (pss_one (ps_ret pe_bl)) pss_nil))) (pss_cons (ps_if (PW.pt (pw_or (pt_cmpR op_ne (pe_callS G_jacobi (hr.mono (by decide)) rfl T.g_jacobi F_jacobi.kp b_jacobi (fun σ => passAt (takes_of rfl rfl rfl rfl) σ) (pa_cons pe_int (pa_cons (pv 1) pa_nil))) (pe_ix (cr_ixL rfl) (pe_lst (pa_cons pe_int (pa_cons pe_int (pa_cons pe_int (pa_cons (pe_un un_neg pe_int) (pa_cons pe_int (pa_cons (pe_un un_neg pe_int) (pa_cons pe_int (pa_cons pe_int pa_nil))))))))) (pe_op op_mod (pv 1) pe_int) (fun _ _ => rfl)) (nomark _)) (pw_or1 (pt_cmpR op_ne (pe_callS G_jacobi (hr.mono (by decide)) rfl T.g_jacobi F_jacobi.kp b_jacobi (fun σ => passAt (takes_of rfl rfl rfl rfl) σ) (pa_cons (pe_un un_neg pe_int) (pa_cons (pv 1) pa_nil))) (pe_ix (cr_ixL rfl) (pe_lst (pa_cons pe_int (pa_cons pe_int (pa_cons pe_int (pa_cons (pe_un un_neg pe_int) pa_nil))))) (pe_op op_mod (pv 1) pe_int) (fun _ _ => rfl)) (nomark _))))) (pss_one (ps_ret pe_bl)) pss_nil) (pss_one (ps_ret (pe_and (pe_callS G_u_law_refused (hr.mono (by decide)) rfl T.g_u_law_refused F_u_law_refused.kp b_u_law_refused (fun σ => passAt (takes_of rfl rfl rfl rfl) σ) (pa_cons (pv 3) (pa_cons (pe_op op_add (pv 1) pe_int) pa_nil))) (pe_and (pe_callS G_u_law_refused (hr.mono (by decide)) rfl T.g_u_law_refused F_u_law_refused.kp b_u_law_refused (fun σ => passAt (takes_of rfl rfl rfl rfl) σ) (pa_cons (pv 3) (pa_cons pe_int pa_nil))) (pe_one (pe_callS G_u_law_refused (hr.mono (by decide)) rfl T.g_u_law_refused F_u_law_refused.kp b_u_law_refused (fun σ => passAt (takes_of rfl rfl rfl rfl) σ) (pa_cons (pv 3) (pa_cons (pe_un un_neg (pv 1)) pa_nil)))))))))))))))), ?_⟩
  rintro ⟨script_, ⟨⟩⟩ F0 H0 Q KP L
  show Blk K F0 H0 KP _ [some (.im (toD script_)), none, none, none, none, none, none, none] (m_law script_)
  unfold m_law
  have hs_ := ((ev_call (f := (fun (p : Int × Unit) => m_u_law_odd p.1)) (ea_cons (ev_call (f := (fun (p : (Ro Int) × Int × Unit) => m_u_law_cell p.1 p.2.1)) (ea_cons (ev_var (i := 0) (x := script_) rfl) (ea_cons (ev_int (i := 0)) ea_nil))) ea_nil)) : EvX K (W0 E) [some (.im (toD script_)), none, none, none, none, none, none, none] _ _); replace hs_ : EvX K (W0 E) [some (.im (toD script_)), none, none, none, none, none, none, none] _ (((m_u_law_cell script_ (0 : Int)).bind fun a35 => Res.ok (a35, ())).bind fun p37 => m_u_law_odd p37.1) := hs_
  refine blk_seq (blk_set (i := 1) L trivial hs_ fun n_ => ?_)
  show Blk _ _ _ _ _ [some (.im (toD script_)), some (.im (toD n_)), none, none, none, none, none, none] _
  try refine Blk.nx ?_
  have hs_ := ((ev_call (f := (fun (p : Int × Unit) => m_u_law_odd p.1)) (ea_cons (ev_call (f := (fun (p : (Ro Int) × Int × Unit) => m_u_law_cell p.1 p.2.1)) (ea_cons (ev_var (i := 0) (x := script_) rfl) (ea_cons (ev_int (i := 1)) ea_nil))) ea_nil)) : EvX K (W0 E) [some (.im (toD script_)), some (.im (toD n_)), none, none, none, none, none, none] _ _); replace hs_ : EvX K (W0 E) [some (.im (toD script_)), some (.im (toD n_)), none, none, none, none, none, none] _ (((m_u_law_cell script_ (1 : Int)).bind fun a38 => Res.ok (a38, ())).bind fun p40 => m_u_law_odd p40.1) := hs_
  refine blk_seq (blk_set (i := 2) L trivial hs_ fun m_ => ?_)
  show Blk _ _ _ _ _ [some (.im (toD script_)), some (.im (toD n_)), some (.im (toD m_)), none, none, none, none, none] _
  try refine Blk.nx ?_
  have hs_ := ((ev_call (f := (fun (p : Int × Int × Unit) => m_u_law_number p.1 p.2.1)) (ea_cons (ev_call (f := (fun (p : (Ro Int) × Int × Unit) => m_u_law_cell p.1 p.2.1)) (ea_cons (ev_var (i := 0) (x := script_) rfl) (ea_cons (ev_int (i := 2)) ea_nil))) (ea_cons (ev_int (i := 1)) ea_nil))) : EvX K (W0 E) [some (.im (toD script_)), some (.im (toD n_)), some (.im (toD m_)), none, none, none, none, none] _ _); replace hs_ : EvX K (W0 E) [some (.im (toD script_)), some (.im (toD n_)), some (.im (toD m_)), none, none, none, none, none] _ (((m_u_law_cell script_ (2 : Int)).bind fun a41 => Res.ok (a41, ((1 : Int), ()))).bind fun p43 => m_u_law_number p43.1 p43.2.1) := hs_
  refine blk_seq (blk_set (i := 3) L trivial hs_ fun a_ => ?_)
  show Blk _ _ _ _ _ [some (.im (toD script_)), some (.im (toD n_)), some (.im (toD m_)), some (.im (toD a_)), none, none, none, none] _
  try refine Blk.nx ?_
  have hs_ := ((ev_call (f := (fun (p : Int × Int × Unit) => m_u_law_number p.1 p.2.1)) (ea_cons (ev_call (f := (fun (p : (Ro Int) × Int × Unit) => m_u_law_cell p.1 p.2.1)) (ea_cons (ev_var (i := 0) (x := script_) rfl) (ea_cons (ev_int (i := 3)) ea_nil))) (ea_cons (ev_int (i := 2)) ea_nil))) : EvX K (W0 E) [some (.im (toD script_)), some (.im (toD n_)), some (.im (toD m_)), some (.im (toD a_)), none, none, none, none] _ _); replace hs_ : EvX K (W0 E) [some (.im (toD script_)), some (.im (toD n_)), some (.im (toD m_)), some (.im (toD a_)), none, none, none, none] _ (((m_u_law_cell script_ (3 : Int)).bind fun a44 => Res.ok (a44, ((2 : Int), ()))).bind fun p46 => m_u_law_number p46.1 p46.2.1) := hs_
  refine blk_seq (blk_set (i := 4) L trivial hs_ fun b_ => ?_)
  show Blk _ _ _ _ _ [some (.im (toD script_)), some (.im (toD n_)), some (.im (toD m_)), some (.im (toD a_)), some (.im (toD b_)), none, none, none] _
  try refine Blk.nx ?_
  have hi_ := ((ei_list (ev_ofN (en_lst (f := (fun y => ([y.1, y.2.1, y.2.2.1, y.2.2.2.1, y.2.2.2.2.1, y.2.2.2.2.2.1, y.2.2.2.2.2.2.1, y.2.2.2.2.2.2.2.1] : List (T2 Int Int)))) (ea_cons (ev_tup (f := (fun y => T2.mk y.1 y.2.1)) (ea_cons (ev_var (i := 3) (x := a_) rfl) (ea_cons (ev_var (i := 1) (x := n_) rfl) ea_nil)) (fun _ => rfl) (fun _ => by show 2 ≤ 100000; decide)) (ea_cons (ev_tup (f := (fun y => T2.mk y.1 y.2.1)) (ea_cons (ev_var (i := 4) (x := b_) rfl) (ea_cons (ev_var (i := 1) (x := n_) rfl) ea_nil)) (fun _ => rfl) (fun _ => by show 2 ≤ 100000; decide)) (ea_cons (ev_tup (f := (fun y => T2.mk y.1 y.2.1)) (ea_cons (ev_op (opx_I (C := CMulX) (g := fun i j => i * j)) mild_need (ev_var (i := 3) (x := a_) rfl) (ev_var (i := 4) (x := b_) rfl)) (ea_cons (ev_var (i := 1) (x := n_) rfl) ea_nil)) (fun _ => rfl) (fun _ => by show 2 ≤ 100000; decide)) (ea_cons (ev_tup (f := (fun y => T2.mk y.1 y.2.1)) (ea_cons (ev_var (i := 3) (x := a_) rfl) (ea_cons (ev_var (i := 2) (x := m_) rfl) ea_nil)) (fun _ => rfl) (fun _ => by show 2 ≤ 100000; decide)) (ea_cons (ev_tup (f := (fun y => T2.mk y.1 y.2.1)) (ea_cons (ev_var (i := 3) (x := a_) rfl) (ea_cons (ev_op (opx_I (C := CMulX) (g := fun i j => i * j)) mild_need (ev_var (i := 2) (x := m_) rfl) (ev_var (i := 1) (x := n_) rfl)) ea_nil)) (fun _ => rfl) (fun _ => by show 2 ≤ 100000; decide)) (ea_cons (ev_tup (f := (fun y => T2.mk y.1 y.2.1)) (ea_cons (ev_int (i := 2)) (ea_cons (ev_var (i := 1) (x := n_) rfl) ea_nil)) (fun _ => rfl) (fun _ => by show 2 ≤ 100000; decide)) (ea_cons (ev_tup (f := (fun y => T2.mk y.1 y.2.1)) (ea_cons (ev_un (g := fun i => -i) (ev_int (i := 1))) (ea_cons (ev_var (i := 1) (x := n_) rfl) ea_nil)) (fun _ => rfl) (fun _ => by show 2 ≤ 100000; decide)) (ea_cons (ev_tup (f := (fun y => T2.mk y.1 y.2.1)) (ea_cons (ev_var (i := 2) (x := m_) rfl) (ea_cons (ev_var (i := 1) (x := n_) rfl) ea_nil)) (fun _ => rfl) (fun _ => by show 2 ≤ 100000; decide)) ea_nil)))))))) (fun _ => rfl) (fun _ => by show 8 ≤ 100000; decide)))) : EvI K (W0 E) [some (.im (toD script_)), some (.im (toD n_)), some (.im (toD m_)), some (.im (toD a_)), some (.im (toD b_)), none, none, none] _ _); replace hi_ : EvI K (W0 E) [some (.im (toD script_)), some (.im (toD n_)), some (.im (toD m_)), some (.im (toD a_)), some (.im (toD b_)), none, none, none] _ (((((((Res.need (CMulX a_ b_) (Res.ok (a_ * b_))).bind fun a47 => Res.ok (a47, (n_, ()))).bind fun p49 => Res.ok (T2.mk p49.1 p49.2.1)).bind fun a59 => ((((((Res.need (CMulX m_ n_) (Res.ok (m_ * n_))).bind fun a50 => Res.ok (a50, ())).bind fun a53 => Res.ok (a_, a53)).bind fun p54 => Res.ok (T2.mk p54.1 p54.2.1)).bind fun a55 => Res.ok (a55, ((T2.mk (2 : Int) n_), ((T2.mk (-(1 : Int)) n_), ((T2.mk m_ n_), ()))))).bind fun a58 => Res.ok ((T2.mk a_ m_), a58)).bind fun a60 => Res.ok (a59, a60)).bind fun a62 => Res.ok ((T2.mk b_ n_), a62)).bind fun a64 => Res.ok ((T2.mk a_ n_), a64)).bind fun p65 => Res.ok ([p65.1, p65.2.1, p65.2.2.1, p65.2.2.2.1, p65.2.2.2.2.1, p65.2.2.2.2.2.1, p65.2.2.2.2.2.2.1, p65.2.2.2.2.2.2.2.1] : List (T2 Int Int))) := hi_
  refine blk_seq (blk_for (S := Unit) (m_law_l1 (m_law_k6 n_ m_ a_ b_)) (m_law_k6 n_ m_ a_ b_) (fun _ => [some (.im (toD script_)), some (.im (toD n_)), some (.im (toD m_)), some (.im (toD a_)), some (.im (toD b_)), none, none, none]) () L trivial hi_ (fun _ => (gx_tup (gxs_cons gx_name (gxs_cons gx_name gxs_nil)) rfl)) (.same (.same (.same (.same (.same (.same (.same (.same .nil)))))))) (fun _ => rfl) ?_ ?_)
  · intro F1 L1 hB1 x66 r1 s_ N_ hN1
    obtain ⟨⟩ := s_
    show Blk _ _ _ _ _ [some (.im (toD script_)), some (.im (toD n_)), some (.im (toD m_)), some (.im (toD a_)), some (.im (toD b_)), some (.im (toD x66.a)), some (.im (toD x66.b)), none] (m_law_l1 (m_law_k6 n_ m_ a_ b_) (x66 :: r1) ())
    rw [m_law_l1]
    show Blk _ _ _ _ _ _ ((fun (number_ : Int) (lower_ : Int) => _) x66.a x66.b)
    generalize x66.a = number_
    generalize x66.b = lower_
    show Blk _ _ _ _ _ [some (.im (toD script_)), some (.im (toD n_)), some (.im (toD m_)), some (.im (toD a_)), some (.im (toD b_)), some (.im (toD number_)), some (.im (toD lower_)), none] _
    have hs_ := ((ev_call (f := (fun (p : Int × Int × Unit) => m_jacobi p.1 p.2.1)) (ea_cons (ev_var (i := 5) (x := number_) rfl) (ea_cons (ev_var (i := 6) (x := lower_) rfl) ea_nil))) : EvX K (W0 E) [some (.im (toD script_)), some (.im (toD n_)), some (.im (toD m_)), some (.im (toD a_)), some (.im (toD b_)), some (.im (toD number_)), some (.im (toD lower_)), none] _ _); replace hs_ : EvX K (W0 E) [some (.im (toD script_)), some (.im (toD n_)), some (.im (toD m_)), some (.im (toD a_)), some (.im (toD b_)), some (.im (toD number_)), some (.im (toD lower_)), none] _ (m_jacobi number_ lower_) := hs_
    refine blk_seq (blk_set (i := 7) L1 trivial hs_ fun actual_ => ?_)
    show Blk _ _ _ _ _ [some (.im (toD script_)), some (.im (toD n_)), some (.im (toD m_)), some (.im (toD a_)), some (.im (toD b_)), some (.im (toD number_)), some (.im (toD lower_)), some (.im (toD actual_))] _
    try refine Blk.nx ?_
    have ht_ := ((et_not (et_B (ev_call (f := (fun (p : D × Unit) => m_u_law_is_integer p.1)) (ea_cons (ev_as (ev_var (i := 7) (x := actual_) rfl) toD (fun _ => rfl) rfl) ea_nil)))) : EvT K (W0 E) [some (.im (toD script_)), some (.im (toD n_)), some (.im (toD m_)), some (.im (toD a_)), some (.im (toD b_)), some (.im (toD number_)), some (.im (toD lower_)), some (.im (toD actual_))] _ _); replace ht_ : EvT K (W0 E) [some (.im (toD script_)), some (.im (toD n_)), some (.im (toD m_)), some (.im (toD a_)), some (.im (toD b_)), some (.im (toD number_)), some (.im (toD lower_)), some (.im (toD actual_))] _ ((m_u_law_is_integer (toD actual_)).bind fun (t67 : Bool) => Res.ok (!t67)) := ht_
    refine blk_seq (blk_if2 L1 trivial ht_ ?_ ?_)
    · have hr_ := ((ev_bl (b := false)) : EvX K (W0 E) [some (.im (toD script_)), some (.im (toD n_)), some (.im (toD m_)), some (.im (toD a_)), some (.im (toD b_)), some (.im (toD number_)), some (.im (toD lower_)), some (.im (toD actual_))] _ _); replace hr_ : EvX K (W0 E) [some (.im (toD script_)), some (.im (toD n_)), some (.im (toD m_)), some (.im (toD a_)), some (.im (toD b_)), some (.im (toD number_)), some (.im (toD lower_)), some (.im (toD actual_))] _ (Res.ok false : Res Bool) := hr_
      exact blk_ret L1 trivial hr_
    · refine blk_nil ?_
      try refine Blk.nx ?_
      have ht_ := ((et_and (et_test (ev_op (opx_B0 (g := fun i j => decide (i < j))) mild_ok (ev_var (i := 6) (x := lower_) rfl) (ev_int (i := 1000000)))) (et_test (ev_op opx_neI mild_ok (ev_var (i := 7) (x := actual_) rfl) (ev_call (f := (fun (p : Int × Int × Unit) => m_u_law_symbol p.1 p.2.1)) (ea_cons (ev_var (i := 5) (x := number_) rfl) (ea_cons (ev_var (i := 6) (x := lower_) rfl) ea_nil)))))) : EvT K (W0 E) [some (.im (toD script_)), some (.im (toD n_)), some (.im (toD m_)), some (.im (toD a_)), some (.im (toD b_)), some (.im (toD number_)), some (.im (toD lower_)), some (.im (toD actual_))] _ _); replace ht_ : EvT K (W0 E) [some (.im (toD script_)), some (.im (toD n_)), some (.im (toD m_)), some (.im (toD a_)), some (.im (toD b_)), some (.im (toD number_)), some (.im (toD lower_)), some (.im (toD actual_))] _ (cond (decide (lower_ < (1000000 : Int))) ((m_u_law_symbol number_ lower_).bind fun (t68 : Int) => Res.ok (!decide (actual_ = t68))) (Res.ok false)) := ht_
      refine blk_if2 L1 trivial ht_ ?_ ?_
      · have hr_ := ((ev_bl (b := false)) : EvX K (W0 E) [some (.im (toD script_)), some (.im (toD n_)), some (.im (toD m_)), some (.im (toD a_)), some (.im (toD b_)), some (.im (toD number_)), some (.im (toD lower_)), some (.im (toD actual_))] _ _); replace hr_ : EvX K (W0 E) [some (.im (toD script_)), some (.im (toD n_)), some (.im (toD m_)), some (.im (toD a_)), some (.im (toD b_)), some (.im (toD number_)), some (.im (toD lower_)), some (.im (toD actual_))] _ (Res.ok false : Res Bool) := hr_
        exact blk_ret L1 trivial hr_
      · refine blk_nil ?_
        try refine Blk.nx ?_
        exact (hN1 ()).weak (.same (.same (.same (.same (.same (.drop (.drop (.drop .nil))))))))
  · intro _
    show Blk _ _ _ _ _ [some (.im (toD script_)), some (.im (toD n_)), some (.im (toD m_)), some (.im (toD a_)), some (.im (toD b_)), none, none, none] ((m_law_k6 n_ m_ a_ b_) ())
    unfold m_law_k6
    try refine Blk.nx ?_
    have ht_ := ((et_or (et_test (ev_op opx_neI mild_ok (ev_call (f := (fun (p : Int × Int × Unit) => m_jacobi p.1 p.2.1)) (ea_cons (ev_op (opx_I (C := CMulX) (g := fun i j => i * j)) mild_need (ev_var (i := 3) (x := a_) rfl) (ev_var (i := 4) (x := b_) rfl)) (ea_cons (ev_var (i := 1) (x := n_) rfl) ea_nil))) (ev_op (opx_I (C := CMulX) (g := fun i j => i * j)) mild_need (ev_call (f := (fun (p : Int × Int × Unit) => m_jacobi p.1 p.2.1)) (ea_cons (ev_var (i := 3) (x := a_) rfl) (ea_cons (ev_var (i := 1) (x := n_) rfl) ea_nil))) (ev_call (f := (fun (p : Int × Int × Unit) => m_jacobi p.1 p.2.1)) (ea_cons (ev_var (i := 4) (x := b_) rfl) (ea_cons (ev_var (i := 1) (x := n_) rfl) ea_nil)))))) (et_test (ev_op opx_neI mild_ok (ev_call (f := (fun (p : Int × Int × Unit) => m_jacobi p.1 p.2.1)) (ea_cons (ev_var (i := 3) (x := a_) rfl) (ea_cons (ev_op (opx_I (C := CMulX) (g := fun i j => i * j)) mild_need (ev_var (i := 2) (x := m_) rfl) (ev_var (i := 1) (x := n_) rfl)) ea_nil))) (ev_op (opx_I (C := CMulX) (g := fun i j => i * j)) mild_need (ev_call (f := (fun (p : Int × Int × Unit) => m_jacobi p.1 p.2.1)) (ea_cons (ev_var (i := 3) (x := a_) rfl) (ea_cons (ev_var (i := 2) (x := m_) rfl) ea_nil))) (ev_call (f := (fun (p : Int × Int × Unit) => m_jacobi p.1 p.2.1)) (ea_cons (ev_var (i := 3) (x := a_) rfl) (ea_cons (ev_var (i := 1) (x := n_) rfl) ea_nil))))))) : EvT K (W0 E) [some (.im (toD script_)), some (.im (toD n_)), some (.im (toD m_)), some (.im (toD a_)), some (.im (toD b_)), none, none, none] _ _); replace ht_ : EvT K (W0 E) [some (.im (toD script_)), some (.im (toD n_)), some (.im (toD m_)), some (.im (toD a_)), some (.im (toD b_)), none, none, none] _ (((((Res.need (CMulX a_ b_) (Res.ok (a_ * b_))).bind fun a69 => Res.ok (a69, (n_, ()))).bind fun p71 => m_jacobi p71.1 p71.2.1).bind fun (t74 : Int) => ((m_jacobi a_ n_).bind fun (t72 : Int) => (m_jacobi b_ n_).bind fun (t73 : Int) => Res.need (CMulX t72 t73) (Res.ok (t72 * t73))).bind fun (t75 : Int) => Res.ok (!decide (t74 = t75))).bind fun b85 => cond b85 (Res.ok true) (((((Res.need (CMulX m_ n_) (Res.ok (m_ * n_))).bind fun a76 => Res.ok (a76, ())).bind fun a79 => Res.ok (a_, a79)).bind fun p80 => m_jacobi p80.1 p80.2.1).bind fun (t83 : Int) => ((m_jacobi a_ m_).bind fun (t81 : Int) => (m_jacobi a_ n_).bind fun (t82 : Int) => Res.need (CMulX t81 t82) (Res.ok (t81 * t82))).bind fun (t84 : Int) => Res.ok (!decide (t83 = t84)))) := ht_
    refine blk_seq (blk_if2 L trivial ht_ ?_ ?_)
    · have hr_ := ((ev_bl (b := false)) : EvX K (W0 E) [some (.im (toD script_)), some (.im (toD n_)), some (.im (toD m_)), some (.im (toD a_)), some (.im (toD b_)), none, none, none] _ _); replace hr_ : EvX K (W0 E) [some (.im (toD script_)), some (.im (toD n_)), some (.im (toD m_)), some (.im (toD a_)), some (.im (toD b_)), none, none, none] _ (Res.ok false : Res Bool) := hr_
      exact blk_ret L trivial hr_
    · refine blk_nil ?_
      try refine Blk.nx ?_
      have ht_ := ((et_test (ev_op opx_eqI mild_ok (ev_call (f := (fun (p : Int × Int × Unit) => m_u_law_common p.1 p.2.1)) (ea_cons (ev_var (i := 2) (x := m_) rfl) (ea_cons (ev_var (i := 1) (x := n_) rfl) ea_nil))) (ev_int (i := 1)))) : EvT K (W0 E) [some (.im (toD script_)), some (.im (toD n_)), some (.im (toD m_)), some (.im (toD a_)), some (.im (toD b_)), none, none, none] _ _); replace ht_ : EvT K (W0 E) [some (.im (toD script_)), some (.im (toD n_)), some (.im (toD m_)), some (.im (toD a_)), some (.im (toD b_)), none, none, none] _ ((m_u_law_common m_ n_).bind fun (t86 : Int) => Res.ok (decide (t86 = (1 : Int)))) := ht_
      refine blk_seq (blk_ifj (S := Unit) (fun _ => [some (.im (toD script_)), some (.im (toD n_)), some (.im (toD m_)), some (.im (toD a_)), some (.im (toD b_)), none, none, none]) (m_law_k4 n_ a_) L trivial ht_ ?_ ?_ ?_)
      · intro _
        show Blk _ _ _ _ _ [some (.im (toD script_)), some (.im (toD n_)), some (.im (toD m_)), some (.im (toD a_)), some (.im (toD b_)), none, none, none] ((m_law_k4 n_ a_) ())
        unfold m_law_k4
        try refine Blk.nx ?_
        have ht_ := ((et_or (et_test (ev_op opx_neI mild_ok (ev_call (f := (fun (p : Int × Int × Unit) => m_jacobi p.1 p.2.1)) (ea_cons (ev_int (i := 2)) (ea_cons (ev_var (i := 1) (x := n_) rfl) ea_nil))) (ev_op opx_ixL (fun x y => idx_mild x y) (ev_ofN (en_lst (f := (fun y => ([y.1, y.2.1, y.2.2.1, y.2.2.2.1, y.2.2.2.2.1, y.2.2.2.2.2.1, y.2.2.2.2.2.2.1, y.2.2.2.2.2.2.2.1] : List Int))) (ea_cons (ev_int (i := 0)) (ea_cons (ev_int (i := 1)) (ea_cons (ev_int (i := 0)) (ea_cons (ev_un (g := fun i => -i) (ev_int (i := 1))) (ea_cons (ev_int (i := 0)) (ea_cons (ev_un (g := fun i => -i) (ev_int (i := 1))) (ea_cons (ev_int (i := 0)) (ea_cons (ev_int (i := 1)) ea_nil)))))))) (fun _ => rfl) (fun _ => by show 8 ≤ 100000; decide))) (ev_opI (C := (fun _ j => 0 < j)) (g := fun i j => i % j) (fun x y _ h => by cases h; (show (0 : Int) < _; decide)) (ev_var (i := 1) (x := n_) rfl) (ev_int (i := 8)))))) (et_test (ev_op opx_neI mild_ok (ev_call (f := (fun (p : Int × Int × Unit) => m_jacobi p.1 p.2.1)) (ea_cons (ev_un (g := fun i => -i) (ev_int (i := 1))) (ea_cons (ev_var (i := 1) (x := n_) rfl) ea_nil))) (ev_op opx_ixL (fun x y => idx_mild x y) (ev_ofN (en_lst (f := (fun y => ([y.1, y.2.1, y.2.2.1, y.2.2.2.1] : List Int))) (ea_cons (ev_int (i := 0)) (ea_cons (ev_int (i := 1)) (ea_cons (ev_int (i := 0)) (ea_cons (ev_un (g := fun i => -i) (ev_int (i := 1))) ea_nil)))) (fun _ => rfl) (fun _ => by show 4 ≤ 100000; decide))) (ev_opI (C := (fun _ j => 0 < j)) (g := fun i j => i % j) (fun x y _ h => by cases h; (show (0 : Int) < _; decide)) (ev_var (i := 1) (x := n_) rfl) (ev_int (i := 4))))))) : EvT K (W0 E) [some (.im (toD script_)), some (.im (toD n_)), some (.im (toD m_)), some (.im (toD a_)), some (.im (toD b_)), none, none, none] _ _); replace ht_ : EvT K (W0 E) [some (.im (toD script_)), some (.im (toD n_)), some (.im (toD m_)), some (.im (toD a_)), some (.im (toD b_)), none, none, none] _ (((m_jacobi (2 : Int) n_).bind fun (t87 : Int) => (idx ([(0 : Int), (1 : Int), (0 : Int), (-(1 : Int)), (0 : Int), (-(1 : Int)), (0 : Int), (1 : Int)] : List Int) (n_ % (8 : Int))).bind fun (t88 : Int) => Res.ok (!decide (t87 = t88))).bind fun b91 => cond b91 (Res.ok true) ((m_jacobi (-(1 : Int)) n_).bind fun (t89 : Int) => (idx ([(0 : Int), (1 : Int), (0 : Int), (-(1 : Int))] : List Int) (n_ % (4 : Int))).bind fun (t90 : Int) => Res.ok (!decide (t89 = t90)))) := ht_
        refine blk_seq (blk_if2 L trivial ht_ ?_ ?_)
        · have hr_ := ((ev_bl (b := false)) : EvX K (W0 E) [some (.im (toD script_)), some (.im (toD n_)), some (.im (toD m_)), some (.im (toD a_)), some (.im (toD b_)), none, none, none] _ _); replace hr_ : EvX K (W0 E) [some (.im (toD script_)), some (.im (toD n_)), some (.im (toD m_)), some (.im (toD a_)), some (.im (toD b_)), none, none, none] _ (Res.ok false : Res Bool) := hr_
          exact blk_ret L trivial hr_
        · refine blk_nil ?_
          try refine Blk.nx ?_
          have hr_ := ((ev_andV (ev_call (f := (fun (p : Int × Int × Unit) => m_u_law_refused p.1 p.2.1)) (ea_cons (ev_var (i := 3) (x := a_) rfl) (ea_cons (ev_op (opx_I0 (g := fun i j => i + j)) mild_ok (ev_var (i := 1) (x := n_) rfl) (ev_int (i := 1))) ea_nil))) (ev_andV (ev_call (f := (fun (p : Int × Int × Unit) => m_u_law_refused p.1 p.2.1)) (ea_cons (ev_var (i := 3) (x := a_) rfl) (ea_cons (ev_int (i := 0)) ea_nil))) (ev_call (f := (fun (p : Int × Int × Unit) => m_u_law_refused p.1 p.2.1)) (ea_cons (ev_var (i := 3) (x := a_) rfl) (ea_cons (ev_un (g := fun i => -i) (ev_var (i := 1) (x := n_) rfl)) ea_nil))))) : EvX K (W0 E) [some (.im (toD script_)), some (.im (toD n_)), some (.im (toD m_)), some (.im (toD a_)), some (.im (toD b_)), none, none, none] _ _); replace hr_ : EvX K (W0 E) [some (.im (toD script_)), some (.im (toD n_)), some (.im (toD m_)), some (.im (toD a_)), some (.im (toD b_)), none, none, none] _ ((m_u_law_refused a_ (n_ + (1 : Int))).bind fun b93 => cond b93 ((m_u_law_refused a_ (0 : Int)).bind fun b92 => cond b92 (m_u_law_refused a_ (-n_)) (Res.ok false)) (Res.ok false)) := hr_
          exact blk_ret L trivial hr_
      · intro hk4
        have ht_ := ((et_test (ev_op opx_neB mild_ok (ev_op opx_eqI mild_ok (ev_call (f := (fun (p : Int × Int × Unit) => m_jacobi p.1 p.2.1)) (ea_cons (ev_var (i := 2) (x := m_) rfl) (ea_cons (ev_var (i := 1) (x := n_) rfl) ea_nil))) (ev_call (f := (fun (p : Int × Int × Unit) => m_jacobi p.1 p.2.1)) (ea_cons (ev_var (i := 1) (x := n_) rfl) (ea_cons (ev_var (i := 2) (x := m_) rfl) ea_nil)))) (ev_orV (ev_op opx_eqI mild_ok (ev_opI (C := (fun _ j => 0 < j)) (g := fun i j => i % j) (fun x y _ h => by cases h; (show (0 : Int) < _; decide)) (ev_var (i := 2) (x := m_) rfl) (ev_int (i := 4))) (ev_int (i := 1))) (ev_op opx_eqI mild_ok (ev_opI (C := (fun _ j => 0 < j)) (g := fun i j => i % j) (fun x y _ h => by cases h; (show (0 : Int) < _; decide)) (ev_var (i := 1) (x := n_) rfl) (ev_int (i := 4))) (ev_int (i := 1)))))) : EvT K (W0 E) [some (.im (toD script_)), some (.im (toD n_)), some (.im (toD m_)), some (.im (toD a_)), some (.im (toD b_)), none, none, none] _ _); replace ht_ : EvT K (W0 E) [some (.im (toD script_)), some (.im (toD n_)), some (.im (toD m_)), some (.im (toD a_)), some (.im (toD b_)), none, none, none] _ (((m_jacobi m_ n_).bind fun (t94 : Int) => (m_jacobi n_ m_).bind fun (t95 : Int) => Res.ok (decide (t94 = t95))).bind fun (t96 : Bool) => (cond (decide ((m_ % (4 : Int)) = (1 : Int))) (Res.ok true) ((Res.ok (decide ((n_ % (4 : Int)) = (1 : Int)))))).bind fun (t97 : Bool) => Res.ok (!(t96 == t97))) := ht_
        refine blk_if2 L trivial ht_ ?_ ?_
        · have hr_ := ((ev_bl (b := false)) : EvX K (W0 E) [some (.im (toD script_)), some (.im (toD n_)), some (.im (toD m_)), some (.im (toD a_)), some (.im (toD b_)), none, none, none] _ _); replace hr_ : EvX K (W0 E) [some (.im (toD script_)), some (.im (toD n_)), some (.im (toD m_)), some (.im (toD a_)), some (.im (toD b_)), none, none, none] _ (Res.ok false : Res Bool) := hr_
          exact blk_ret L trivial hr_
        · refine blk_nil ?_
          try refine Blk.nx ?_
          exact (hk4 ()).weak (.same (.same (.same (.same (.same (.same (.same (.same .nil))))))))
      · intro hk4
        have ht_ := ((et_test (ev_op opx_neI mild_ok (ev_call (f := (fun (p : Int × Int × Unit) => m_jacobi p.1 p.2.1)) (ea_cons (ev_var (i := 2) (x := m_) rfl) (ea_cons (ev_var (i := 1) (x := n_) rfl) ea_nil))) (ev_int (i := 0)))) : EvT K (W0 E) [some (.im (toD script_)), some (.im (toD n_)), some (.im (toD m_)), some (.im (toD a_)), some (.im (toD b_)), none, none, none] _ _); replace ht_ : EvT K (W0 E) [some (.im (toD script_)), some (.im (toD n_)), some (.im (toD m_)), some (.im (toD a_)), some (.im (toD b_)), none, none, none] _ ((m_jacobi m_ n_).bind fun (t98 : Int) => Res.ok (!decide (t98 = (0 : Int)))) := ht_
        refine blk_if2 L trivial ht_ ?_ ?_
        · have hr_ := ((ev_bl (b := false)) : EvX K (W0 E) [some (.im (toD script_)), some (.im (toD n_)), some (.im (toD m_)), some (.im (toD a_)), some (.im (toD b_)), none, none, none] _ _); replace hr_ : EvX K (W0 E) [some (.im (toD script_)), some (.im (toD n_)), some (.im (toD m_)), some (.im (toD a_)), some (.im (toD b_)), none, none, none] _ (Res.ok false : Res Bool) := hr_
          exact blk_ret L trivial hr_
        · refine blk_nil ?_
          try refine Blk.nx ?_
          exact (hk4 ()).weak (.same (.same (.same (.same (.same (.same (.same (.same .nil))))))))
/-! ### the head -/
def dfs : List He.DefD := [⟨("jacobi", none), "jacobi", "jacobi", defArgs s_jacobi, defBody s_jacobi, defScope s_jacobi, [], []⟩, ⟨("split_twos", none), "split_twos", "split_twos", defArgs s_split_twos, defBody s_split_twos, defScope s_split_twos, [], []⟩, ⟨("_law_cell", none), "_law_cell", "_law_cell", defArgs s_u_law_cell, defBody s_u_law_cell, defScope s_u_law_cell, [], []⟩, ⟨("_law_is_integer", none), "_law_is_integer", "_law_is_integer", defArgs s_u_law_is_integer, defBody s_u_law_is_integer, defScope s_u_law_is_integer, [], []⟩, ⟨("_law_number", none), "_law_number", "_law_number", defArgs s_u_law_number, defBody s_u_law_number, defScope s_u_law_number, [], []⟩, ⟨("_law_class", none), "_law_class", "_law_class", defArgs s_u_law_class, defBody s_u_law_class, defScope s_u_law_class, [], []⟩, ⟨("_law_symbol", none), "_law_symbol", "_law_symbol", defArgs s_u_law_symbol, defBody s_u_law_symbol, defScope s_u_law_symbol, [], []⟩, ⟨("_law_odd", none), "_law_odd", "_law_odd", defArgs s_u_law_odd, defBody s_u_law_odd, defScope s_u_law_odd, [], []⟩, ⟨("_law_common", none), "_law_common", "_law_common", defArgs s_u_law_common, defBody s_u_law_common, defScope s_u_law_common, [], []⟩, ⟨("_law_refused", none), "_law_refused", "_law_refused", defArgs s_u_law_refused, defBody s_u_law_refused, defScope s_u_law_refused, [], []⟩, ⟨("law", none), "law", "law", defArgs s_law, defBody s_law, defScope s_law, [], []⟩]
def fas : List He.Fa := [.glo "jacobi", .glo "split_twos", .glo "_law_cell", .glo "_law_is_integer", .glo "_law_number", .glo "_law_class", .glo "_law_symbol", .glo "_law_odd", .glo "_law_common", .glo "_law_refused", .glo "law", .glo "CurveError", .glo "OutOfRange", .glo "NoInverse", .exc "OutOfRange", .free "abs", .free "bool", .free "int", .free "isinstance", .free "len", .free "range", .exm "CurveError" "CurveError" true, .exm "CurveError" "OutOfRange" false, .exm "CurveError" "NoInverse" false, .exm "OutOfRange" "CurveError" true, .exm "OutOfRange" "OutOfRange" true, .exm "OutOfRange" "NoInverse" false, .exm "NoInverse" "CurveError" true, .exm "NoInverse" "OutOfRange" false, .exm "NoInverse" "NoInverse" true]
def cons_ : List (Str × D) := []
def exB (K : PySem.W.Frag) : Bool := clsB K errs subE && conB K cons_
abbrev Rw : PySem.W.OpenRow := PySem.W.OpenLaw.row PySem.Challenge.rw_curveseal_k04_jacobi_symbols
abbrev hk : PySem.W.Hook := He.hookX 5 fas dfs [] [] exB
def ob (s : PySem.W.SharedT) : He.AlX := He.obsX 5 fas dfs [] [] exB (HandSHeadRun.getT s)
theorem ob_eq (s : PySem.W.SharedT) : ob s = hk.obs s.abs := He.obsX_eq (HandSHeadRun.getT_eq s)
theorem run_ (w : World) : HandSHeadRun.RunEq Rw (PySem.W.view Rw.prog [16]) hk ob 20000 ((["jacobi", "split_twos", "_law_cell", "_law_is_integer", "_law_number", "_law_class", "_law_symbol", "_law_odd", "_law_common", "_law_refused", "CurveError", "OutOfRange", "NoInverse"] : List Str)) w := by
  intro os
  kernel_rfl
theorem facts_of {K : PySem.W.Frag} {h : Heap} {w : World} {mg : Str → Option Value} (X : K.In h) (G : h.Ns mainGlobals mg) (c : He.SaysX fas dfs [] [] exB w h K) : Facts K mg := by
  have cd : He.SaysD fas dfs K := c.t.d
  exact {
    d_jacobi := cd.def_ 0 (d := ⟨("jacobi", none), "jacobi", "jacobi", defArgs s_jacobi, defBody s_jacobi, defScope s_jacobi, [], []⟩) rfl
    g_jacobi := He.glo_ok X G (cd.fact 0 rfl)
    d_split_twos := cd.def_ 1 (d := ⟨("split_twos", none), "split_twos", "split_twos", defArgs s_split_twos, defBody s_split_twos, defScope s_split_twos, [], []⟩) rfl
    g_split_twos := He.glo_ok X G (cd.fact 1 rfl)
    d_u_law_cell := cd.def_ 2 (d := ⟨("_law_cell", none), "_law_cell", "_law_cell", defArgs s_u_law_cell, defBody s_u_law_cell, defScope s_u_law_cell, [], []⟩) rfl
    g_u_law_cell := He.glo_ok X G (cd.fact 2 rfl)
    d_u_law_is_integer := cd.def_ 3 (d := ⟨("_law_is_integer", none), "_law_is_integer", "_law_is_integer", defArgs s_u_law_is_integer, defBody s_u_law_is_integer, defScope s_u_law_is_integer, [], []⟩) rfl
    g_u_law_is_integer := He.glo_ok X G (cd.fact 3 rfl)
    d_u_law_number := cd.def_ 4 (d := ⟨("_law_number", none), "_law_number", "_law_number", defArgs s_u_law_number, defBody s_u_law_number, defScope s_u_law_number, [], []⟩) rfl
    g_u_law_number := He.glo_ok X G (cd.fact 4 rfl)
    d_u_law_class := cd.def_ 5 (d := ⟨("_law_class", none), "_law_class", "_law_class", defArgs s_u_law_class, defBody s_u_law_class, defScope s_u_law_class, [], []⟩) rfl
    g_u_law_class := He.glo_ok X G (cd.fact 5 rfl)
    d_u_law_symbol := cd.def_ 6 (d := ⟨("_law_symbol", none), "_law_symbol", "_law_symbol", defArgs s_u_law_symbol, defBody s_u_law_symbol, defScope s_u_law_symbol, [], []⟩) rfl
    g_u_law_symbol := He.glo_ok X G (cd.fact 6 rfl)
    d_u_law_odd := cd.def_ 7 (d := ⟨("_law_odd", none), "_law_odd", "_law_odd", defArgs s_u_law_odd, defBody s_u_law_odd, defScope s_u_law_odd, [], []⟩) rfl
    g_u_law_odd := He.glo_ok X G (cd.fact 7 rfl)
    d_u_law_common := cd.def_ 8 (d := ⟨("_law_common", none), "_law_common", "_law_common", defArgs s_u_law_common, defBody s_u_law_common, defScope s_u_law_common, [], []⟩) rfl
    g_u_law_common := He.glo_ok X G (cd.fact 8 rfl)
    d_u_law_refused := cd.def_ 9 (d := ⟨("_law_refused", none), "_law_refused", "_law_refused", defArgs s_u_law_refused, defBody s_u_law_refused, defScope s_u_law_refused, [], []⟩) rfl
    g_u_law_refused := He.glo_ok X G (cd.fact 9 rfl)
    d_law := cd.def_ 10 (d := ⟨("law", none), "law", "law", defArgs s_law, defBody s_law, defScope s_law, [], []⟩) rfl
    g_law := He.glo_ok X G (cd.fact 10 rfl)
    g_CurveError := He.glo_ok X G (cd.fact 11 rfl)
    g_OutOfRange := He.glo_ok X G (cd.fact 12 rfl)
    g_NoInverse := He.glo_ok X G (cd.fact 13 rfl)
    x_OutOfRange := (He.exc_ok (x := "OutOfRange") (cd.fact 14 rfl)).1
    k_OutOfRange := (He.exc_ok (x := "OutOfRange") (cd.fact 14 rfl)).2.1
    b_OutOfRange := (He.exc_ok (x := "OutOfRange") (cd.fact 14 rfl)).2.2.1
    t_OutOfRange := (He.exc_ok (x := "OutOfRange") (cd.fact 14 rfl)).2.2.2
    n_abs := He.free_ok X G (cd.fact 15 rfl)
    n_bool := He.free_ok X G (cd.fact 16 rfl)
    n_int := He.free_ok X G (cd.fact 17 rfl)
    n_isinstance := He.free_ok X G (cd.fact 18 rfl)
    n_len := He.free_ok X G (cd.fact 19 rfl)
    n_range := He.free_ok X G (cd.fact 20 rfl)
    cls := cls_of (He.ba c.more).1 }
end Mi
namespace Mi
open PySem PySem.Spec L2
/-! ### the law's own helpers -/
theorem cell_ok (ns : Ro Int) (k : Nat) : m_u_law_cell ns (k : Int) = .ok (ns.xs.getD k 0) := by
  unfold m_u_law_cell
  simp only [Res.bind_ok, cond_dec]
  by_cases h : (k : Int) < (ns.xs.length : Int)
  · rw [if_pos h]
    have h' : k < ns.xs.length := by omega
    rw [idx_nat (List.getElem?_eq_getElem h')]
    simp [Res.bind_ok, h']
  · rw [if_neg h]
    have h' : ¬ k < ns.xs.length := by omega
    simp [h']
theorem cell_bits {ns : Ro Int} {B : Nat} (hb : ∀ i ∈ ns.xs, Builtin.Int.intBits i ≤ B) (k : Nat) : (ns.xs.getD k 0).natAbs < 2 ^ B := by
  rw [List.getD_eq_getElem?_getD]
  by_cases h : k < ns.xs.length
  · rw [List.getElem?_eq_getElem h]
    exact ibits_le (hb _ (List.getElem_mem h))
  · rw [List.getElem?_eq_none (by omega)]
    exact Nat.two_pow_pos _
theorem isint_ok (i : Int) : m_u_law_is_integer (D.int i) = .ok true := by
  unfold m_u_law_is_integer
  simp [Res.bind_ok, toD, ToD.d, D.plain, isI, tyName, Res.need_pos]
theorem cell_ex (ns : Ro Int) {k : Int} (hk : 0 ≤ k) : ∃ c, m_u_law_cell ns k = .ok c := by
  obtain ⟨j, rfl⟩ := Int.eq_ofNat_of_zero_le hk
  exact ⟨_, cell_ok ns j⟩


theorem ipow2 (x : Int) : x ^ 2 = x * x := by rw [Int.pow_succ, Int.pow_succ, Int.pow_zero, Int.one_mul]
theorem pyDown_nil {i j : Int} (h : i ≤ j) : pyDown i j = [] := by
  unfold pyDown; rw [show (i - j).toNat = 0 by omega]; rfl
theorem pyDown_cons {i j : Int} (h : j < i) : pyDown i j = i :: pyDown (i - 1) j := by
  unfold pyDown
  rw [show (i - j).toNat = (i - 1 - j).toNat + 1 by omega, List.range_succ_eq_map, List.map_cons, List.map_map]
  congr 1
  · omega
  · refine List.map_congr_left fun a _ => ?_
    show i - ((a + 1 : Nat) : Int) = i - 1 - (a : Int)
    omega
structure Pr (p : Nat) : Prop where
  pr : IsP p
  odd : p % 2 = 1
  lt : p < 2 ^ 256
theorem Pr.ge {p : Nat} (h : Pr p) : 3 ≤ p := by have := h.pr.1; have := h.odd; omega
theorem Pr.pos {p : Nat} (h : Pr p) : (0 : Int) < (p : Int) := by have := h.ge; omega
theorem res_lt {p : Nat} (h : Pr p) {x : Int} (h0 : 0 ≤ x) (h1 : x < p) : x.natAbs < 2 ^ 256 := by have := h.lt; omega
theorem mul_res {p : Nat} (h : Pr p) {x y : Int} (h0 : 0 ≤ x) (h1 : x < p) (h2 : 0 ≤ y) (h3 : y < p) : CMulX x y := cmulx (res_lt h h0 h1) (res_lt h h2 h3) (by decide)

abbrev hf (p : Nat) : Nat := (p - 1) / 2
theorem bits_pow (t : Nat) : Builtin.Int.intBits (2 ^ t : Int) = t + 1 := by
  have hp : (0 : Int) < 2 ^ t := Int.pow_pos (by decide)
  unfold Builtin.Int.intBits
  rw [if_neg (by simp; omega)]
  have : (2 ^ t : Int).natAbs = 2 ^ t := by rw [Int.natAbs_pow]; rfl
  rw [this, Nat.log2_two_pow]
theorem split_ok {n o t : Nat} (e : n = (2 * o + 1) * 2 ^ t) : m_split_twos (n : Int) = .ok (T2.mk ((2 * o + 1 : Nat) : Int) (t : Int)) := by
  have hp := Nat.two_pow_pos t
  have hn : 0 < n := by rw [e]; exact Nat.mul_pos (by omega) hp
  have ea : Builtin.bitAnd (n : Int) (-(n : Int)) = 2 ^ t := by
    have e1 : -(n : Int) = Builtin.bitNot ((n : Int) - 1) := by unfold Builtin.bitNot; omega
    rw [e1, PyProof.Rows.bitAnd_not, PyProof.Rows.bitAnd_pp (by omega) (by omega), show ((n : Int)).toNat = n by omega, show ((n : Int) - 1).toNat = n - 1 by omega, e, low_and, ← PySem.W.kbt_cast t, Int.natCast_mul, Int.natCast_mul]
    generalize ((2 ^ t : Nat) : Int) = q
    push_cast
    grind
  have ed : (n : Int) / 2 ^ t = ((2 * o + 1 : Nat) : Int) := by
    rw [e, ← PySem.W.kbt_cast t, ← Int.natCast_ediv, Nat.mul_div_cancel _ hp]
  unfold m_split_twos
  simp only [Res.bind_ok, ea, bits_pow, need_bind]
  have et : (((t + 1 : Nat) : Int) - 1) = (t : Int) := by omega
  rw [et, Res.need_pos (by omega), show ((t : Int)).toNat = t by omega, ed]
/-! ### the root -/
theorem pow_dbl (x : Int) (k : Nat) : x ^ 2 ^ (k + 1) = (x * x) ^ 2 ^ k := by
  rw [Nat.pow_succ, Nat.mul_comm, Int.pow_mul, ipow2]
theorem no_zero {p : Nat} (h : Pr p) {r a : Int} (hr : r * r % p = a % p) (ha : a % p ≠ 0) : r ≠ 0 := fun z => by
  subst z
  rw [Int.zero_mul, Int.zero_emod] at hr
  exact ha hr.symm
/-! ### the law's own class -/
theorem cl_loop {p : Nat} (h : Pr p) (k : Int × Int × Int → Res Int) : ∀ (ks : List Int) (v s : Int) (e : Nat), 0 ≤ v → v < p → 0 ≤ s → s < p → e < 2 ^ ks.length → ∃ s', m_u_law_class_l1 (p : Int) k ks (v, s, (e : Int)) = k (v * s ^ e % p, s', 0) := by
  have hp := h.pos
  intro ks
  induction ks with
  | nil =>
    intro v s e v0 v1 s0 s1 he
    have : e = 0 := by simpa using he
    subst this
    exact ⟨s, by rw [m_u_law_class_l1, Int.pow_zero, Int.mul_one, Int.emod_eq_of_lt v0 v1]; rfl⟩
  | cons x r ih =>
    intro v s e v0 v1 s0 s1 he
    rw [List.length_cons, Nat.pow_succ] at he
    rw [m_u_law_class_l1]
    have e2 : ((e : Nat) : Int) / 2 = ((e / 2 : Nat) : Int) := by omega
    have t0 := Int.emod_nonneg (s * s) (show (p : Int) ≠ 0 by omega)
    have t1 := Int.emod_lt_of_pos (s * s) hp
    have u0 := Int.emod_nonneg (v * s) (show (p : Int) ≠ 0 by omega)
    have u1 := Int.emod_lt_of_pos (v * s) hp
    have a1 : (s * s % p) ^ (e / 2) % p = (s * s) ^ (e / 2) % p := em_pow (em_em _ _) _
    have a2 : s ^ e = s ^ (e % 2) * (s * s) ^ (e / 2) := by
      rw [← ipow2 s, ← Int.pow_mul, ← Int.pow_add, Nat.mod_add_div]
    unfold m_u_law_class_k2
    simp only [Res.bind_ok, need_bind, cond_dec, Res.need_pos (mul_res h s0 s1 s0 s1), Res.need_pos (mul_res h v0 v1 s0 s1), Res.need_pos hp, e2]
    by_cases ho : (e : Int) % 2 = 1
    · rw [if_pos ho]
      obtain ⟨s', q⟩ := ih (v * s % p) (s * s % p) (e / 2) u0 u1 t0 t1 (by omega)
      refine ⟨s', ?_⟩
      rw [q]
      congr 2
      rw [em_mul (em_em _ _) a1, a2, show e % 2 = 1 by omega, Int.pow_one, ← Int.mul_assoc]
    · rw [if_neg ho]
      obtain ⟨s', q⟩ := ih v (s * s % p) (e / 2) v0 v1 t0 t1 (by omega)
      refine ⟨s', ?_⟩
      rw [q]
      congr 2
      rw [em_mul rfl a1, a2, show e % 2 = 0 by omega, Int.pow_zero, Int.one_mul]

theorem number_loop (k : Int × Int → Res Int) (l : List Int) : ∀ (j : Nat) (s n : Int), 0 ≤ n → n.natAbs < 2 ^ (31 * j) → j + l.length ≤ 1000 → ∃ s' n', m_u_law_number_l3 k l (s, n) = k (s', n') ∧ 0 ≤ n' ∧ n'.natAbs < 2 ^ (31 * (j + l.length)) := by
  induction l with
  | nil => intro j s n h0 h1 h2; exact ⟨s, n, rfl, h0, by simpa using h1⟩
  | cons x r ih =>
    intro j s n h0 h1 h2
    rw [m_u_law_number_l3]
    simp only [Res.bind_ok, need_bind, pow31]
    rw [List.length_cons] at h2
    rw [need_mulx h1 m31_lt (by omega)]
    have q := ih (j + 1) ((s * 48271 + 11) % 2147483647) (n * 2147483648 + (s * 48271 + 11) % 2147483647) (by omega) (by
      have e2 : (2 : Nat) ^ (31 * (j + 1)) = 2 ^ (31 * j) * 2147483648 := by rw [Nat.mul_add, Nat.pow_add]
      have g2 : (n * 2147483648 + (s * 48271 + 11) % 2147483647).natAbs = n.natAbs * 2147483648 + ((s * 48271 + 11) % 2147483647).natAbs := by omega
      rw [g2, e2]
      have g3 : ((s * 48271 + 11) % 2147483647).natAbs < 2147483648 := by omega
      have g4 : n.natAbs + 1 ≤ 2 ^ (31 * j) := h1
      generalize 2 ^ (31 * j) = P at *
      omega) (by omega)
    obtain ⟨s', n', q1, q2, q3⟩ := q
    exact ⟨s', n', q1, q2, by rw [List.length_cons, show j + (r.length + 1) = j + 1 + r.length by omega]; exact q3⟩
theorem number_ok {B : Nat} (hB : 300 ≤ B) (c salt : Int) (hc : c.natAbs < 2 ^ B) : ∃ n, m_u_law_number c salt = .ok n ∧ n.natAbs < 2 ^ B := by
  unfold m_u_law_number
  simp only [Res.bind_ok, need_bind, cond_dec, pow18]
  by_cases h1 : 1000000000000000000 ≤ (c.natAbs : Int)
  · rw [if_pos h1]; exact ⟨c, rfl, hc⟩
  rw [if_neg h1]
  by_cases h2 : (c.natAbs : Int) % 4 = 1
  · rw [if_pos h2]
    refine ⟨_, rfl, ?_⟩
    have : 2 ^ 40 ≤ (2 : Nat) ^ B := Nat.pow_le_pow_right (by decide) (by omega)
    have : ((c.natAbs : Int) / 4 % 100 - 50).natAbs < 2 ^ 40 := by
      have : (2 : Nat) ^ 40 = 1099511627776 := by decide
      omega
    omega
  rw [if_neg h2]
  have hr : okRange (1 + (c.natAbs : Int) % 9) := ⟨by omega, by omega⟩
  rw [Res.need_pos hr]
  have hlen : (pyRange 0 (1 + (c.natAbs : Int) % 9)).length ≤ 9 := by rw [pyRange_len]; omega
  obtain ⟨s', n', q1, q2, q3⟩ := number_loop (m_u_law_number_k5 (c.natAbs : Int)) (pyRange 0 (1 + (c.natAbs : Int) % 9)) 0 ((c.natAbs : Int) + salt * 7919) 0 (by omega) (by simp) (by omega)
  rw [q1]
  have hb : n'.natAbs < 2 ^ B := Nat.lt_of_lt_of_le q3 (Nat.pow_le_pow_right (by decide) (by omega))
  simp only [m_u_law_number_k5, Res.bind_ok, cond_dec]
  by_cases h3 : (c.natAbs : Int) % 4 = 2
  · rw [if_pos h3]; exact ⟨-n', rfl, by rw [Int.natAbs_neg]; exact hb⟩
  · rw [if_neg h3]; exact ⟨n', rfl, hb⟩


/-! ### powers modulo any number -/
theorem red_lt {m : Nat} (hl : m < 2 ^ 256) {x : Int} (h0 : 0 ≤ x) (h1 : x < m) : x.natAbs < 2 ^ 256 := by omega
theorem mul_red {m : Nat} (hl : m < 2 ^ 256) {x y : Int} (h0 : 0 ≤ x) (h1 : x < m) (h2 : 0 ≤ y) (h3 : y < m) : CMulX x y := cmulx (red_lt hl h0 h1) (red_lt hl h2 h3) (by decide)
/-! ### the Jacobi symbol -/
theorem two_pow_js {n : Nat} (ho : n % 2 = 1) (t : Nat) : js 2 n ^ t = if t % 2 = 1 ∧ (n % 8 = 3 ∨ n % 8 = 5) then -1 else 1 := by
  rw [js_two ho]
  by_cases h : n % 8 = 3 ∨ n % 8 = 5
  · rw [if_pos h, m1_par]
    by_cases q : t % 2 = 1
    · rw [if_pos q, if_pos ⟨q, h⟩]
    · rw [if_neg q, if_neg fun z => q z.1]
  · rw [if_neg h, if_neg fun z => h z.2, Int.one_pow]
theorem jac_loop : ∀ (fuel u l : Nat) (s : Int), l % 2 = 1 → u < fuel → m_jacobi_w2 m_jacobi_k5 fuel (s, (u : Int), (l : Int)) = .ok (s * js u l) := by
  intro fuel
  induction fuel with
  | zero => intro u l s _ h; omega
  | succ f ih =>
    intro u l s hl hu
    rw [m_jacobi_w2]
    simp only [Res.bind_ok, cond_not, cond_dec]
    by_cases h0 : u = 0
    · subst h0
      rw [if_pos (by rfl)]
      show cond (decide ((l : Int) = 1)) _ _ = _
      rw [cond_dec, js_zero]
      by_cases h1 : l = 1
      · subst h1; rw [if_pos (by rfl), if_pos rfl, Int.mul_one]
      · rw [if_neg (by omega), if_neg h1, Int.mul_zero]
    · rw [if_neg (by omega)]
      obtain ⟨o, t, e⟩ := odd_part u (by omega)
      have hp := Nat.two_pow_pos t
      have hou : 2 * o + 1 ≤ u := by rw [e]; exact Nat.le_mul_of_pos_right _ hp
      rw [split_ok e]
      simp only [Res.bind_ok]
      have step : ∀ s' : Int, m_jacobi_k3 ((2 * o + 1 : Nat) : Int) (l : Int) (m_jacobi_w2 m_jacobi_k5 f) s' = .ok (s' * js (2 * o + 1) l) := fun s' => by
        unfold m_jacobi_k3
        have k4 : ∀ s'' : Int, m_jacobi_k4 ((2 * o + 1 : Nat) : Int) (l : Int) (m_jacobi_w2 m_jacobi_k5 f) s'' = .ok (s'' * js l (2 * o + 1)) := fun s'' => by
          unfold m_jacobi_k4
          rw [Res.need_pos (by omega)]
          simp only [Res.bind_ok]
          rw [← Int.natCast_emod, ih (l % (2 * o + 1)) (2 * o + 1) s'' (by omega) (by have := Nat.mod_lt l (show 0 < 2 * o + 1 by omega); omega), js_mod]
        rw [cond_dec, js_flip (show (2 * o + 1) % 2 = 1 by omega) hl]
        by_cases q1 : (2 * o + 1) % 4 = 3
        · rw [if_pos (by omega), Res.bind_ok, cond_dec]
          by_cases q2 : l % 4 = 3
          · rw [if_pos (by omega), Res.bind_ok, if_pos ⟨q1, q2⟩, k4]
            congr 1
            grind
          · rw [if_neg (by omega), if_neg fun z => q2 z.2, k4, Int.one_mul]
        · rw [if_neg (by omega), Res.bind_ok, cond_false, if_neg fun z => q1 z.1, k4, Int.one_mul]
      have ej : js u l = js (2 * o + 1) l * js 2 l ^ t := by
        conv => lhs; rw [e]
        rw [js_mul hl, js_pow hl]
      rw [ej, two_pow_js hl]
      by_cases q1 : t % 2 = 1
      · rw [if_pos (by omega), Res.bind_ok, cond_dec]
        by_cases q2 : l % 8 = 3 ∨ l % 8 = 5
        · rw [if_pos (by simp; omega), if_pos ⟨q1, q2⟩, step]
          congr 1
          grind
        · rw [if_neg (by simp; omega), if_neg fun z => q2 z.2, step, Int.mul_one]
      · rw [if_neg (by omega), Res.bind_ok, cond_false, if_neg fun z => q1 z.1, step, Int.mul_one]
theorem jacobi_ok {n : Nat} (ho : n % 2 = 1) (a : Int) : m_jacobi a (n : Int) = .ok (js (a % n).toNat n) := by
  have hp : (0 : Int) < n := by omega
  unfold m_jacobi
  rw [cond_dec, if_neg (by omega), Res.bind_ok, cond_dec, if_neg (by omega)]
  simp only [Res.bind_ok, Res.need_pos hp]
  have h0 := Int.emod_nonneg a (show (n : Int) ≠ 0 by omega)
  have e : a % n = ((a % n).toNat : Int) := by omega
  have q := jac_loop ((a % n).toNat + 1) (a % n).toNat n 1 ho (by omega)
  rw [← e, Int.one_mul] at q
  exact q
def jsI (a : Int) (n : Nat) : Int := js (a % n).toNat n
theorem jsI_nat (a n : Nat) : jsI (a : Int) n = js a n := by
  unfold jsI
  rw [← Int.natCast_emod, Int.toNat_natCast, js_mod]
theorem jsI_congr {a b : Int} {n : Nat} (h : a % n = b % n) : jsI a n = jsI b n := by unfold jsI; rw [h]
theorem toNat_mod {a : Int} {n : Nat} (hn : 0 < n) : (((a % n).toNat : Nat) : Int) % n = a % n := by
  have h0 := Int.emod_nonneg a (show (n : Int) ≠ 0 by omega)
  rw [Int.toNat_of_nonneg h0, em_em]
theorem jsI_mul {n : Nat} (ho : n % 2 = 1) (a b : Int) : jsI (a * b) n = jsI a n * jsI b n := by
  have hn : 0 < n := by omega
  have e : jsI (a * b) n = jsI (((a % n).toNat * (b % n).toNat : Nat) : Int) n := jsI_congr (by rw [Int.natCast_mul]; exact (em_mul (toNat_mod hn) (toNat_mod hn)).symm)
  rw [e, jsI_nat, js_mul ho]
  rfl
theorem jsI_cases {n : Nat} (a : Int) : jsI a n = 0 ∨ jsI a n = 1 ∨ jsI a n = -1 := by
  unfold jsI
  by_cases h : Nat.gcd (a % n).toNat n = 1
  · exact .inr (js_pm h)
  · exact .inl (js_non h)
theorem class_js {p : Nat} (hp : IsP p) (ho : p % 2 = 1) (h3 : 3 ≤ p) (a : Int) : (if a % p = 0 then 0 else if a ^ ((p - 1) / 2) % p = 1 then 1 else -1 : Int) = jsI a p := by
  have hn : 0 < p := by omega
  by_cases h : a % p = 0
  · rw [if_pos h]
    unfold jsI
    rw [h]
    show 0 = js 0 p
    rw [js_zero, if_neg (by omega)]
  · rw [if_neg h]
    have h0 := Int.emod_nonneg a (show (p : Int) ≠ 0 by omega)
    have h1 := Int.emod_lt_of_pos a (show (0 : Int) < p by omega)
    have hd : ¬ p ∣ (a % p).toNat := fun d => by
      have := Nat.le_of_dvd (by omega) d
      omega
    have g := js_gauss hp ho hd
    have e : a ^ ((p - 1) / 2) % p = js (a % p).toNat p % p := by
      rw [← g, show p / 2 = (p - 1) / 2 by omega]
      exact em_pow (toNat_mod hn).symm _
    rw [e]
    unfold jsI
    rcases js_pm (show Nat.gcd (a % p).toNat p = 1 by rw [Nat.gcd_comm]; exact hp.cop hd) with q | q <;> rw [q]
    · rw [if_pos (Int.emod_eq_of_lt (by decide) (by omega))]
    · rw [if_neg]
      have : (-1 : Int) % p = p - 1 := by
        rw [show (-1 : Int) = (p - 1) + p * (-1) by omega, Int.add_mul_emod_self_left, Int.emod_eq_of_lt (by omega) (by omega)]
      omega

theorem isint_D (i : Int) : m_u_law_is_integer (toD i) = .ok true := isint_ok i
theorem js_m1 {n : Nat} (ho : n % 2 = 1) : jsI (-1) n = if n % 4 = 3 then -1 else 1 := by
  have hn : 0 < n := by omega
  have e : jsI (-1) n = js (n - 1) n := by
    rw [← jsI_nat]
    refine jsI_congr ?_
    rw [Int.ofNat_sub hn]
    refine em_of_dvd ⟨-1, by omega⟩
  rw [e]
  have hg : Nat.gcd (n - 1) n = 1 := by
    have d1 := Nat.gcd_dvd_left (n - 1) n
    have d2 := Nat.gcd_dvd_right (n - 1) n
    have d3 := Nat.dvd_sub d2 d1
    rw [show n - (n - 1) = 1 by omega] at d3
    exact Nat.dvd_one.mp d3
  rw [js_cop hg]
  have c : pI ((hl n).map (sg n (n - 1))) = pI ((hl n).map fun _ => (-1 : Int)) := by
    refine pI_congr fun k hk => ?_
    obtain ⟨h1, h2⟩ := hl_mem.mp hk
    have e1 : (n - 1) * k % n = n - k := by
      have : (n - 1) * k = (n - k) + n * (k - 1) := by
        obtain ⟨j, rfl⟩ : ∃ j, k = j + 1 := ⟨k - 1, by omega⟩
        obtain ⟨m, rfl⟩ : ∃ m, n = m + 1 := ⟨n - 1, by omega⟩
        simp only [Nat.add_sub_cancel]
        have : m + 1 - (j + 1) + (m + 1) * j = m - j + (m * j + j) := by rw [Nat.add_mul]; omega
        rw [this, Nat.mul_add]; omega
      rw [this, Nat.add_mul_mod_self_left, Nat.mod_eq_of_lt (by omega)]
    unfold sg ng
    rw [e1, if_pos (decide_eq_true (by omega))]
  rw [c, pI_const, hl_len, m1_par]
  by_cases h : n % 4 = 3
  · rw [if_pos h, if_pos (by omega)]
  · rw [if_neg h, if_neg (by omega)]
theorem jsI_below {m n : Nat} (hm : m % 2 = 1) (hn : n % 2 = 1) (a : Int) : jsI a (m * n) = jsI a m * jsI a n := by
  have hp : 0 < m * n := Nat.mul_pos (by omega) (by omega)
  have e1 : jsI a (m * n) = js (a % ((m * n : Nat) : Int)).toNat (m * n) := rfl
  have r : (((a % ((m * n : Nat) : Int)).toNat : Nat) : Int) = a % ((m * n : Nat) : Int) := Int.toNat_of_nonneg (Int.emod_nonneg _ (by omega))
  rw [e1, js_below hm hn, ← jsI_nat _ m, ← jsI_nat _ n, r]
  congr 1
  · exact jsI_congr (Int.emod_emod_of_dvd _ ⟨(n : Int), by rw [Int.natCast_mul]⟩)
  · exact jsI_congr (Int.emod_emod_of_dvd _ ⟨(m : Int), by rw [Int.natCast_mul, Int.mul_comm]⟩)
theorem jsI_one (a : Int) : jsI a 1 = 1 := js_one _
theorem jsI_lt (a : Int) (n : Nat) : (jsI a n).natAbs < 2 ^ 1 := by rcases jsI_cases (n := n) a with q | q | q <;> rw [q] <;> decide
/-! ### the law's class and symbol -/
theorem lcl_ok {p : Nat} (h : Pr p) (hs : p < 2 ^ 20) (a : Int) : m_u_law_class a (p : Int) = .ok (jsI a p) := by
  have hp := h.pos
  have h3 := h.ge
  have ho := h.odd
  have e : ((p : Int) - 1) / 2 = (((p - 1) / 2 : Nat) : Int) := by omega
  have hr : okRange (21 : Int) := ⟨by decide, by decide⟩
  unfold m_u_law_class
  simp only [Res.bind_ok, need_bind, Res.need_pos hp, e, Res.need_pos hr]
  obtain ⟨s', q⟩ := cl_loop h (m_u_law_class_k4 (p : Int)) (pyRange 0 21) 1 (a % p) ((p - 1) / 2) (by decide) (by omega) (Int.emod_nonneg _ (by omega)) (Int.emod_lt_of_pos _ hp) (by rw [pyRange_len]; show (p - 1) / 2 < 2 ^ 21; omega)
  rw [q]
  unfold m_u_law_class_k4
  simp only [Res.bind_ok, cond_dec, Int.one_mul, em_pow (em_em a p) ((p - 1) / 2)]
  rw [← class_js h.pr h.odd h3]
  by_cases z : a % p = 0
  · have hd : (p : Int) ∣ a ^ ((p - 1) / 2) := by
      have : (p : Int) ∣ a := Int.dvd_of_emod_eq_zero z
      obtain ⟨k, hk⟩ : ∃ k, (p - 1) / 2 = k + 1 := ⟨(p - 1) / 2 - 1, by omega⟩
      rw [hk, Int.pow_succ]
      exact Int.dvd_mul_of_dvd_right this
    rw [if_pos z, Int.emod_eq_zero_of_dvd hd, if_neg (by omega)]
  · rw [if_neg z]
    rcases half_pow h.pr h.odd (fun d => z (Int.emod_eq_zero_of_dvd d)) with w | w
    · rw [w, if_neg (by omega), if_pos rfl]
    · rw [w, if_pos rfl, if_neg (by omega)]
theorem pr_small {n : Nat} (hp : IsP n) (ho : n % 2 = 1) (h : n < 2 ^ 20) : Pr n := ⟨hp, ho, Nat.lt_of_lt_of_le h (Nat.pow_le_pow_right (by decide) (by decide))⟩
theorem sym_end (a : Int) {n d : Nat} {s : Int} (hn : n % 2 = 1) (h6 : n < 2 ^ 20) (hs : s.natAbs < 2 ^ 1) (h : 1 < n → IsP n) : m_u_law_symbol_k4 a ((n : Int), s, (d : Int)) = .ok (s * jsI a n) := by
  unfold m_u_law_symbol_k4
  simp only [Res.bind_ok, cond_dec]
  by_cases h1 : 1 < n
  · rw [if_pos (by omega), lcl_ok (pr_small (h h1) hn h6) h6, Res.bind_ok, Res.need_pos (cmulx hs (jsI_lt a n) (by decide)), Res.bind_ok]
    rfl
  · rw [if_neg (by omega)]
    have : n = 1 := by omega
    subst this
    rw [jsI_one, Int.mul_one]; rfl
theorem sym_loop (a : Int) : ∀ (ks : List Int) (n d : Nat) (s : Int), n % 2 = 1 → n < 1000000 → d % 2 = 1 → 3 ≤ d → d < 2000 → s.natAbs < 2 ^ 1 → (∀ q, 2 ≤ q → q < d → ¬ q ∣ n) → Nat.log2 n + (1001 - d) / 2 ≤ ks.length →
    m_u_law_symbol_l1 a (m_u_law_symbol_k4 a) ks ((n : Int), s, (d : Int)) = .ok (s * jsI a n)
  | [], n, d, s, hn, h6, hd, h3, h20, hs, hq, hm => by
    rw [m_u_law_symbol_l1]
    refine sym_end a hn (by omega) hs fun h1 => ?_
    have : Nat.log2 n = 0 := by simp at hm; omega
    have q := Nat.lt_log2_self (n := n)
    rw [this] at q
    omega
  | x :: ks, n, d, s, hn, h6, hd, h3, h20, hs, hq, hm => by
    rw [List.length_cons] at hm
    have hn0 : n ≠ 0 := by omega
    rw [m_u_law_symbol_l1]
    have prime : n < d * d → 1 < n → IsP n := fun hlt h1 => by
      refine small_prime h1 fun e he1 he2 he3 => ?_
      rcases Nat.lt_or_ge e d with z | z
      · exact hq e he1 z he3
      · have := Nat.mul_le_mul z z
        omega
    by_cases hdd : n < d * d
    · have c : CMulX (d : Int) (d : Int) := cmulx (a := 40) (b := 40) (by omega) (by omega) (by decide)
      rw [Res.need_pos c, Res.bind_ok, Res.bind_ok, cond_dec, if_pos (by rw [← Int.natCast_mul]; omega)]
      exact sym_end a hn (by omega) hs (prime hdd)
    · have hd1 : d < 1001 := by
        rcases Nat.lt_or_ge d 1001 with z | z
        · exact z
        · have := Nat.mul_le_mul z z
          omega
      have c : CMulX (d : Int) (d : Int) := cmulx (a := 40) (b := 40) (by omega) (by omega) (by decide)
      rw [Res.need_pos c, Res.bind_ok, Res.bind_ok, cond_dec, if_neg (by rw [← Int.natCast_mul]; omega), Res.need_pos (by omega), Res.bind_ok, Res.bind_ok, cond_dec]
      by_cases hz : n % d = 0
      · have hdv := Nat.dvd_of_mod_eq_zero hz
        have hpd : IsP d := ⟨by omega, fun e he => by
          rcases Nat.lt_or_ge e 2 with z | z
          · rcases (by omega : e = 0 ∨ e = 1) with rfl | rfl
            · have := Nat.eq_zero_of_zero_dvd he; omega
            · exact .inl rfl
          · rcases Nat.lt_or_ge e d with w | w
            · exact absurd (Nat.dvd_trans he hdv) (hq e z w)
            · have := Nat.le_of_dvd (by omega) he
              exact .inr (by omega)⟩
        have hdec : n = d * (n / d) := (Nat.mul_div_cancel' hdv).symm
        have hodd : n / d % 2 = 1 := by
          rcases Nat.mod_two_eq_zero_or_one (n / d) with z | z
          · have := Nat.mul_mod d (n / d) 2
            rw [← hdec, z, Nat.mul_zero] at this
            omega
          · exact z
        have hle : n / d ≤ n / 2 := Nat.div_le_div_left (by omega) (by decide)
        have hlog : Nat.log2 (n / d) + 1 ≤ Nat.log2 n := by
          have hnd : n / d ≠ 0 := by omega
          have h1 : 2 ^ Nat.log2 (n / d) ≤ n / d := Nat.log2_self_le hnd
          have h2 : 2 ^ (Nat.log2 (n / d) + 1) ≤ n := by rw [Nat.pow_succ]; omega
          exact (Nat.le_log2 hn0).mpr h2
        have cd : CDivW (n : Int) (d : Int) := wide_div (b := 40) (by omega) (by omega) (by decide) (by decide)
        have cm : CMulX s (jsI a d) := cmulx hs (jsI_lt a d) (by decide)
        rw [if_pos (by omega), Res.need_pos cd, Res.bind_ok, lcl_ok (pr_small hpd hd (by omega)) (by omega), Res.bind_ok, Res.need_pos cm, Res.bind_ok, ← Int.natCast_ediv]
        have hs2 : (s * jsI a d).natAbs < 2 ^ 1 := by
          have : s = 0 ∨ s = 1 ∨ s = -1 := by omega
          rcases this with rfl | rfl | rfl <;> rcases jsI_cases (n := d) a with q | q | q <;> rw [q] <;> decide
        have ih := sym_loop a ks (n / d) d (s * jsI a d) hodd (by omega) hd h3 h20 hs2 (fun q q1 q2 q3 => hq q q1 q2 (by rw [hdec]; exact Nat.dvd_mul_left_of_dvd q3 d)) (by omega)
        rw [ih, Int.mul_assoc, ← jsI_below hd hodd, ← hdec]
      · rw [if_neg (by omega)]
        rw [show (d : Int) + 2 = ((d + 2 : Nat) : Int) by omega]
        refine sym_loop a ks n (d + 2) s hn h6 (by omega) (by omega) (by omega) hs (fun q q1 q2 q3 => ?_) (by omega)
        rcases (by omega : q < d ∨ q = d ∨ q = d + 1) with z | z | z
        · exact hq q q1 z q3
        · subst z; exact hz (Nat.mod_eq_zero_of_dvd q3)
        · have : 2 ∣ n := Nat.dvd_trans (Nat.dvd_of_mod_eq_zero (by omega)) q3
          omega
theorem lsym_ok (a : Int) {n : Nat} (hn : n % 2 = 1) (h6 : n < 1000000) : m_u_law_symbol a (n : Int) = .ok (jsI a n) := by
  have hr : okRange (1200 : Int) := ⟨by decide, by decide⟩
  have hl : (pyRange 0 1200).length = 1200 := by rw [pyRange_len]; rfl
  unfold m_u_law_symbol
  simp only [Res.bind_ok, Res.need_pos hr]
  generalize pyRange 0 1200 = ks at *
  have hlog : Nat.log2 n < 20 := (Nat.log2_lt (by omega)).mpr (by omega)
  have q := sym_loop a ks n 3 1 hn h6 (by decide) (by decide) (by decide) (by decide) (fun q q1 q2 q3 => by
    have : q = 2 := by omega
    subst this
    omega) (by rw [hl]; omega)
  rw [Int.one_mul] at q
  exact q
/-! ### odd numbers -/
theorem odd_get {z : Int} (h0 : 0 ≤ z) (h1 : z < 10) : ∃ v : Nat, idx ([3, 5, 7, 11, 13, 17, 19, 23, 29, 31] : List Int) z = .ok (v : Int) ∧ v % 2 = 1 ∧ 3 ≤ v ∧ v ≤ 31 := by
  rcases (by omega : z = 0 ∨ z = 1 ∨ z = 2 ∨ z = 3 ∨ z = 4 ∨ z = 5 ∨ z = 6 ∨ z = 7 ∨ z = 8 ∨ z = 9) with rfl | rfl | rfl | rfl | rfl | rfl | rfl | rfl | rfl | rfl
  · exact ⟨3, rfl, by decide⟩
  · exact ⟨5, rfl, by decide⟩
  · exact ⟨7, rfl, by decide⟩
  · exact ⟨11, rfl, by decide⟩
  · exact ⟨13, rfl, by decide⟩
  · exact ⟨17, rfl, by decide⟩
  · exact ⟨19, rfl, by decide⟩
  · exact ⟨23, rfl, by decide⟩
  · exact ⟨29, rfl, by decide⟩
  · exact ⟨31, rfl, by decide⟩
theorem odd_loop : ∀ (ks : List Int) (r : Int) (j n : Nat), n % 2 = 1 → n ≤ 31 ^ j → j + ks.length ≤ 4 → ∃ v : Nat, m_u_law_odd_l2 m_u_law_odd_k3 ks (r, (n : Int)) = .ok (v : Int) ∧ v % 2 = 1 ∧ v < 1000000
  | [], r, j, n, ho, hn, hj => ⟨n, by rw [m_u_law_odd_l2]; rfl, ho, by
      have : 31 ^ j ≤ 31 ^ 4 := Nat.pow_le_pow_right (by decide) (by simp at hj; omega)
      omega⟩
  | x :: ks, r, j, n, ho, hn, hj => by
    rw [List.length_cons] at hj
    rw [m_u_law_odd_l2]
    obtain ⟨v, v1, v2, v3, v4⟩ := odd_get (Int.emod_nonneg (r / 7 + x) (by decide)) (Int.emod_lt_of_pos (r / 7 + x) (by decide))
    have p4 : 31 ^ j ≤ 31 ^ 4 := Nat.pow_le_pow_right (by decide) (by omega)
    have c : CMulX (n : Int) (v : Int) := cmulx (a := 40) (b := 40) (by omega) (by omega) (by decide)
    simp only [Res.bind_ok, v1, Res.need_pos c]
    rw [← Int.natCast_mul]
    exact odd_loop ks _ (j + 1) (n * v) (odd_mul ho v2) (by rw [Nat.pow_succ]; exact Nat.mul_le_mul hn v4) (by omega)
theorem odd_ok (c : Int) : ∃ n : Nat, m_u_law_odd c = .ok (n : Int) ∧ n % 2 = 1 ∧ n < 1000000 := by
  unfold m_u_law_odd
  simp only [Res.bind_ok, cond_dec]
  by_cases h : (c.natAbs : Int) % 3 = 0
  · rw [if_pos h]
    have r0 := Int.emod_nonneg ((c.natAbs : Int) / 3) (show (499999 : Int) ≠ 0 by decide)
    have r1 := Int.emod_lt_of_pos ((c.natAbs : Int) / 3) (show (0 : Int) < 499999 by decide)
    refine ⟨((c.natAbs : Int) / 3 % 499999 * 2 + 1).toNat, by rw [Int.toNat_of_nonneg (by omega)], by omega, by omega⟩
  · rw [if_neg h]
    have r0 := Int.emod_nonneg ((c.natAbs : Int) / 3) (show (4 : Int) ≠ 0 by decide)
    have r1 := Int.emod_lt_of_pos ((c.natAbs : Int) / 3) (show (0 : Int) < 4 by decide)
    have hr : okRange (1 + (c.natAbs : Int) / 3 % 4) := ⟨by omega, by omega⟩
    rw [Res.need_pos hr, Res.bind_ok]
    exact odd_loop _ _ 0 1 (by decide) (by decide) (by rw [pyRange_len]; omega)
/-! ### common divisors -/
theorem com_loop : ∀ (k : Nat) (ks : List Int) (m n : Nat), n < 2 ^ k → 2 * k + 1 ≤ ks.length → m_u_law_common_l1 m_u_law_common_k3 ks ((m : Int), (n : Int)) = .ok ((Nat.gcd m n : Nat) : Int)
  | 0, ks, m, n, hn, hk => by
    have : n = 0 := by simpa using hn
    subst this
    match ks, hk with
    | x :: ks, _ =>
      rw [m_u_law_common_l1, Nat.gcd_zero_right]
      rfl
  | k + 1, ks, m, n, hn, hk => by
    match ks, hk with
    | x :: y :: ks, hk =>
      rw [m_u_law_common_l1]
      simp only [Res.bind_ok, cond_dec]
      by_cases h0 : n = 0
      · subst h0
        rw [if_pos (by rfl), Nat.gcd_zero_right]
      · rw [if_neg (by omega), Res.need_pos (by omega), Res.bind_ok, m_u_law_common_l1]
        simp only [Res.bind_ok, cond_dec]
        rw [← Int.natCast_emod]
        have hlt := Nat.mod_lt m (show 0 < n by omega)
        by_cases h1 : m % n = 0
        · rw [if_pos (by omega), Nat.gcd_comm, Nat.gcd_rec, h1, Nat.gcd_zero_left]
        · rw [if_neg (by omega), Res.need_pos (by omega), Res.bind_ok, ← Int.natCast_emod]
          have hlt2 := Nat.mod_lt n (show 0 < m % n by omega)
          have hd := Nat.div_add_mod n (m % n)
          have hq : 1 ≤ n / (m % n) := (Nat.one_le_div_iff (by omega)).mpr (by omega)
          have hmul : m % n * 1 ≤ m % n * (n / (m % n)) := Nat.mul_le_mul_left _ hq
          rw [com_loop k ks (m % n) (n % (m % n)) (by rw [Nat.pow_succ] at hn; omega) (by simp at hk; omega)]
          rw [show Nat.gcd m n = Nat.gcd (m % n) (n % (m % n)) by
            rw [Nat.gcd_comm m n, Nat.gcd_rec n m, Nat.gcd_rec (m % n) n, Nat.gcd_comm (n % (m % n))]]
theorem com_ok {m n : Nat} (hn : n < 1000000) : m_u_law_common (m : Int) (n : Int) = .ok ((Nat.gcd m n : Nat) : Int) := by
  have hr : okRange (60 : Int) := ⟨by decide, by decide⟩
  unfold m_u_law_common
  rw [Res.need_pos hr, Res.bind_ok]
  exact com_loop 20 _ m n (by omega) (by rw [pyRange_len]; decide)
theorem refused_ok (a n : Int) (h : n < 1 ∨ n % 2 = 0) : m_u_law_refused a n = .ok true := by
  have e : m_jacobi a n = .exc "OutOfRange" := by
    unfold m_jacobi
    rw [cond_dec]
    by_cases h1 : n < 1
    · rw [if_pos h1]; rfl
    · rw [if_neg h1, Res.bind_ok, cond_dec, if_pos (h.resolve_left h1)]
  unfold m_u_law_refused
  rw [e, Res.bind_exc]
  rfl
theorem law_true (ns : Ro Int) (hl : ns.xs.length ≤ 63) (hb : ∀ i ∈ ns.xs, Builtin.Int.intBits i ≤ 1048576) : m_law ns = .ok true := by
  obtain ⟨B, hB, hb, hB3⟩ : ∃ B, B ≤ 2000000 ∧ (∀ i ∈ ns.xs, Builtin.Int.intBits i ≤ B) ∧ 300 ≤ B := ⟨1048576, by decide, hb, by decide⟩
  have c0 : m_u_law_cell ns 0 = _ := cell_ok ns 0
  have c1 : m_u_law_cell ns 1 = _ := cell_ok ns 1
  have c2 : m_u_law_cell ns 2 = _ := cell_ok ns 2
  have c3 : m_u_law_cell ns 3 = _ := cell_ok ns 3
  obtain ⟨n, hn, n1, n2⟩ := odd_ok (ns.xs.getD 0 0)
  obtain ⟨m, hm, m1, m2⟩ := odd_ok (ns.xs.getD 1 0)
  obtain ⟨a, ha, hab⟩ := number_ok hB3 (ns.xs.getD 2 0) 1 (cell_bits hb 2)
  obtain ⟨b, hbn, hbb⟩ := number_ok hB3 (ns.xs.getD 3 0) 2 (cell_bits hb 3)
  have q1 : CMulX a b := cmulx hab hbb (by omega)
  have q2 : CMulX (m : Int) (n : Int) := cmulx (a := 40) (b := 40) (by omega) (by omega) (by decide)
  have mn := odd_mul m1 n1
  have row : ∀ (k : Unit → Res Bool) (xs : List (T2 Int Int)), (∀ x ∈ xs, ∃ l : Nat, x.b = (l : Int) ∧ l % 2 = 1) → m_law_l1 k xs () = k () := by
    intro k xs
    induction xs with
    | nil => intro _; rw [m_law_l1]
    | cons x xs ih =>
      intro h
      obtain ⟨l, e, ho⟩ := h x List.mem_cons_self
      rw [m_law_l1]
      have j : m_jacobi x.a x.b = .ok (jsI x.a l) := by rw [e]; exact jacobi_ok ho x.a
      simp only [j, Res.bind_ok, isint_D, Bool.not_true, cond_false, cond_dec]
      by_cases hl : x.b < 1000000
      · rw [if_pos hl]
        have s : m_u_law_symbol x.a x.b = .ok (jsI x.a l) := by rw [e]; exact lsym_ok x.a ho (by omega)
        simp only [s, Res.bind_ok, decide_true, Bool.not_true, cond_false]
        exact ih fun y hy => h y (List.mem_cons_of_mem _ hy)
      · rw [if_neg hl, Res.bind_ok, cond_false]
        exact ih fun y hy => h y (List.mem_cons_of_mem _ hy)
  unfold m_law
  simp only [Res.bind_ok, c0, c1, c2, c3, hn, hm, ha, hbn, Res.need_pos q1, Res.need_pos q2]
  rw [row _ _ (by
    intro x hx
    simp only [List.mem_cons, List.not_mem_nil, or_false] at hx
    rcases hx with rfl | rfl | rfl | rfl | rfl | rfl | rfl | rfl
    · exact ⟨n, rfl, n1⟩
    · exact ⟨n, rfl, n1⟩
    · exact ⟨n, rfl, n1⟩
    · exact ⟨m, rfl, m1⟩
    · exact ⟨m * n, (Int.natCast_mul m n).symm, mn⟩
    · exact ⟨n, rfl, n1⟩
    · exact ⟨n, rfl, n1⟩
    · exact ⟨n, rfl, n1⟩)]
  have J : ∀ (x : Int) (l : Nat), l % 2 = 1 → m_jacobi x (l : Int) = .ok (jsI x l) := fun x l h => jacobi_ok h x
  have k4 : m_law_k4 (n : Int) a () = .ok true := by
    unfold m_law_k4
    have t1 : idx ([0, 1, 0, -1, 0, -1, 0, 1] : List Int) ((n : Int) % 8) = .ok (jsI 2 n) := by
      have : jsI 2 n = js 2 n := jsI_nat 2 n
      rw [this, js_two n1]
      rcases (by omega : n % 8 = 1 ∨ n % 8 = 3 ∨ n % 8 = 5 ∨ n % 8 = 7) with z | z | z | z
      · rw [show (n : Int) % 8 = 1 by omega, z]; rfl
      · rw [show (n : Int) % 8 = 3 by omega, z]; rfl
      · rw [show (n : Int) % 8 = 5 by omega, z]; rfl
      · rw [show (n : Int) % 8 = 7 by omega, z]; rfl
    have t2 : idx ([0, 1, 0, -1] : List Int) ((n : Int) % 4) = .ok (jsI (-1) n) := by
      rw [js_m1 n1]
      rcases (by omega : n % 4 = 1 ∨ n % 4 = 3) with z | z
      · rw [show (n : Int) % 4 = 1 by omega, z]; rfl
      · rw [show (n : Int) % 4 = 3 by omega, z]; rfl
    have f1 := refused_ok a ((n : Int) + 1) (.inr (by omega))
    have f2 := refused_ok a 0 (.inl (by decide))
    have f3 := refused_ok a (-(n : Int)) (.inl (by omega))
    simp only [J _ _ n1, Res.bind_ok, t1, t2, decide_true, Bool.not_true, cond_false, f1, f2, f3, cond_true]
  unfold m_law_k6
  have cj : ∀ (x y : Int) (k l : Nat), CMulX (jsI x k) (jsI y l) := fun x y k l => cmulx (jsI_lt x k) (jsI_lt y l) (by decide)
  have Jmn := J a (m * n) mn
  rw [Int.natCast_mul] at Jmn
  simp only [Res.bind_ok, Res.need_pos q1, Res.need_pos q2, J _ _ n1, J _ _ m1, Jmn, Res.need_pos (cj _ _ _ _), jsI_mul n1, jsI_below m1 n1, decide_true, Bool.not_true, cond_false, com_ok n2, cond_dec, k4, jsI_nat]
  by_cases hg : Nat.gcd m n = 1
  · rw [if_pos (by omega)]
    have r := js_rec m1 n1 hg
    have e : (decide (js m n = js n m)) = (decide ((m : Int) % 4 = 1) || decide ((n : Int) % 4 = 1)) := by
      have u := js_pm hg
      have v := js_pm (show Nat.gcd n m = 1 by rw [Nat.gcd_comm]; exact hg)
      by_cases z : m % 4 = 3 ∧ n % 4 = 3
      · rw [if_pos z] at r
        rw [decide_eq_false (show ¬ (m : Int) % 4 = 1 by omega), decide_eq_false (show ¬ (n : Int) % 4 = 1 by omega)]
        rcases u with u | u <;> rcases v with v | v <;> rw [u, v] at r ⊢ <;> first | rfl | cases r
      · rw [if_neg z] at r
        have : (decide ((m : Int) % 4 = 1) || decide ((n : Int) % 4 = 1)) = true := by
          rw [Bool.or_eq_true, decide_eq_true_iff, decide_eq_true_iff]; omega
        rw [this]
        rcases u with u | u <;> rcases v with v | v <;> rw [u, v] at r ⊢ <;> first | rfl | cases r
    by_cases w : (m : Int) % 4 = 1
    · rw [decide_eq_true w, Bool.true_or] at e
      rw [if_pos w, Res.bind_ok, e]; rfl
    · rw [decide_eq_false w, Bool.false_or] at e
      rw [if_neg w, Res.bind_ok, e, beq_self_eq_true]; rfl
  · rw [if_neg (by omega), js_non hg]
    rfl
end Mi
open PySem PySem.W PySem.Calls PyProof.Rows
theorem PySem.Challenge.cw_curveseal_k04_jacobi_symbols_holds : PySem.Challenge.rw_curveseal_k04_jacobi_symbols.Holds := by
  w_on; o_law
  refine HandSHeadRun.head_any (r := OpenLaw.row PySem.Challenge.rw_curveseal_k04_jacobi_symbols) (q := view (OpenLaw.row PySem.Challenge.rw_curveseal_k04_jacobi_symbols).prog [16]) (H := Mi.hk) (ob := Mi.ob) (M := 20000) (loose := (["jacobi", "split_twos", "_law_cell", "_law_is_integer", "_law_number", "_law_class", "_law_symbol", "_law_odd", "_law_common", "_law_refused", "CurveError", "OutOfRange", "NoInverse"] : List Str)) (d := HandSHeadRun.topDef (OpenLaw.row PySem.Challenge.rw_curveseal_k04_jacobi_symbols).prog 16) (kwd := []) Mi.ob_eq
    (by kernel_rfl) (fun s => by kernel_rfl) Mi.run_ (by kernel_rfl) (by kernel_rfl) (by kernel_rfl) (by rfl) (by first | assumption | decide +kernel) (by decide +kernel) ⟨rfl, rfl, rfl, rfl, rfl, by decide +kernel⟩ ?hw ?hc
  case hw => w_witness2
  case hc =>
    refine Mi.walk_end (l := PySem.Challenge.rw_curveseal_k04_jacobi_symbols) (n := 63) (k := 4) (x := "script") (m := Mi.m_law) rfl (by decide) (by kernel_rfl) ⟨rfl, by decide, by decide⟩ ?F (fun ns h1 h2 => Mi.law_true ⟨ns⟩ h1 h2)
    intro w mg fa h Y G hmg0
    obtain ⟨K, KX, c⟩ := Y
    have hmg : mg ("law" : PySem.Str) = some (.ref fa) := by
      have e : (HandSHeadRun.topDef (OpenLaw.row PySem.Challenge.rw_curveseal_k04_jacobi_symbols).prog 16).name = ("law" : PySem.Str) := by kernel_rfl
      rw [← e]
      exact hmg0
    have T := Mi.facts_of KX G c
    have ea := hmg.symm.trans T.g_law
    cases ea
    obtain ⟨fd, FL⟩ := T.d_law
    have b := L2.FunD.bindsA (ps := ["script"]) FL fun _ _ _ _ _ _ us hl => match us, hl with | [_], _ => rfl
    exact ⟨K, fd, KX, fun s u => b s [u] rfl, fun base _ _ => Mi.ok_law T FL⟩
