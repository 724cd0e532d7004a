import PyProof.Rows.All
import Wide.All
import OpenK.AllK
import Wide.FinOn
import HandS.ForMost
import HandS.ForExc
import HandS.Walk
import HandS.Wide
import HandS.Evl
import HandS.IsInst
import PySem.Challenge.RW_swapmart_k01_shared
set_option Elab.async false
set_option linter.all false
set_option maxRecDepth 100000
set_option maxHeartbeats 4000000
/-! trees: what values are, without the heap; what a def's body does with them -/
namespace Tr
open PySem PySem.Spec PyProof.Rows L2
open Evl (Ex)

inductive T where
  | non | bl (b : Bool) | int (i : Int) | str (x : Str) | lst (xs : List T) | tup (xs : List T) | scr (ns : List Int)

mutual
inductive Rep (K : PySem.W.Frag) (F : Hp) : V → T → Prop where
  | non : Rep K F .non .non
  | bl {b : Bool} : Rep K F (.bl b) (.bl b)
  | int {i : Int} : Rep K F (.int i) (.int i)
  | str {x : Str} : Rep K F (.str x) (.str x)
  | lst {p : Addr} {vs : List V} {ts : List T} : F p = some (.lst vs) → Reps K F vs ts → Rep K F (.ref p) (.lst ts)
  | tup {p : Addr} {vs : List V} {ts : List T} : F p = some (.tup vs) → Reps K F vs ts → Rep K F (.ref p) (.tup ts)
  | scr {p : Addr} {ns : List Int} : SqL K F p (ns.map V.int) → Rep K F (.ref p) (.scr ns)
inductive Reps (K : PySem.W.Frag) (F : Hp) : List V → List T → Prop where
  | nil : Reps K F [] []
  | cons {v : V} {t : T} {vs : List V} {ts : List T} : Rep K F v t → Reps K F vs ts → Reps K F (v :: vs) (t :: ts)
end

section
variable {K : PySem.W.Frag} {F F' : Hp}
mutual
theorem Rep.mono (x : Ex F F') : ∀ {v : V} {t : T}, Rep K F v t → Rep K F' v t
  | _, _, .non => .non
  | _, _, .bl => .bl
  | _, _, .int => .int
  | _, _, .str => .str
  | _, _, .lst h r => .lst (x _ _ h) (Reps.mono x r)
  | _, _, .tup h r => .tup (x _ _ h) (Reps.mono x r)
  | _, _, .scr h => .scr (Evl.ex_l x h)
theorem Reps.mono (x : Ex F F') : ∀ {vs : List V} {ts : List T}, Reps K F vs ts → Reps K F' vs ts
  | _, _, .nil => .nil
  | _, _, .cons a r => .cons (Rep.mono x a) (Reps.mono x r)
end
theorem Reps.length : ∀ {vs : List V} {ts : List T}, Reps K F vs ts → vs.length = ts.length
  | _, _, .nil => rfl
  | _, _, .cons _ r => congrArg (· + 1) r.length
theorem Reps.get : ∀ {vs : List V} {ts : List T} {i : Nat} {t : T}, Reps K F vs ts → ts[i]? = some t → ∃ v, vs[i]? = some v ∧ Rep K F v t
  | _, _, _, _, .nil, h => by simp at h
  | _, _, 0, _, .cons a _, h => by
    cases Option.some.inj h
    exact ⟨_, rfl, a⟩
  | _, _, i + 1, _, .cons _ r, h => Reps.get (i := i) r h
theorem Reps.get' : ∀ {vs : List V} {ts : List T} {i : Nat} {v : V}, Reps K F vs ts → vs[i]? = some v → ∃ t, ts[i]? = some t ∧ Rep K F v t
  | _, _, _, _, .nil, h => by simp at h
  | _, _, 0, _, .cons a _, h => by
    cases Option.some.inj h
    exact ⟨_, rfl, a⟩
  | _, _, i + 1, _, .cons _ r, h => Reps.get' (i := i) r h
theorem Reps.append : ∀ {vs ws : List V} {ts us : List T}, Reps K F vs ts → Reps K F ws us → Reps K F (vs ++ ws) (ts ++ us)
  | _, _, _, _, .nil, h => h
  | _, _, _, _, .cons a r, h => .cons a (r.append h)
theorem Reps.set : ∀ {vs : List V} {ts : List T} (i : Nat) {v : V} {t : T}, Reps K F vs ts → Rep K F v t → Reps K F (vs.set i v) (ts.set i t)
  | _, _, _, _, _, .nil, _ => .nil
  | _, _, 0, _, _, .cons _ r, h => .cons h r
  | _, _, i + 1, _, _, .cons a r, h => .cons a (r.set i h)
theorem Reps.take : ∀ {vs : List V} {ts : List T} (n : Nat), Reps K F vs ts → Reps K F (vs.take n) (ts.take n)
  | _, _, 0, _ => .nil
  | _, _, _ + 1, .nil => .nil
  | _, _, n + 1, .cons a r => .cons a (r.take n)
theorem Reps.drop : ∀ {vs : List V} {ts : List T} (n : Nat), Reps K F vs ts → Reps K F (vs.drop n) (ts.drop n)
  | _, _, 0, r => r
  | _, _, _ + 1, .nil => .nil
  | _, _, n + 1, .cons _ r => r.drop n
theorem Reps.ints : ∀ {vs : List V} {ns : List Int}, Reps K F vs (ns.map T.int) → vs = ns.map V.int
  | [], [], _ => rfl
  | _ :: _, [], h => by cases h
  | [], _ :: _, h => by cases h
  | v :: vs, n :: ns, h => by
    cases h with
    | cons a r =>
      cases a
      rw [r.ints]
      rfl
theorem Reps.of_ints : ∀ (ns : List Int), Reps K F (ns.map V.int) (ns.map T.int)
  | [] => .nil
  | _ :: ns => .cons .int (Reps.of_ints ns)
end

/-! ### slots, what a run comes to -/
abbrev En := List (Option (Bool × T))
inductive R (α : Type) where
  | ok (a : α) (e : En)
  | ex (c : Nat) (e : En)
  | bad
abbrev M (α : Type) := En → R α
@[simp] def M.bind {α β : Type} (m : M α) (f : α → M β) : M β := fun e => match m e with
  | .ok a e' => f a e'
  | .ex c e' => .ex c e'
  | .bad => .bad
@[simp] def M.pure {α : Type} (a : α) : M α := fun e => .ok a e
@[simp] def M.bad {α : Type} : M α := fun _ => .bad
@[simp] def M.opt {α : Type} : Option α → M α
  | some a => M.pure a
  | none => M.bad
abbrev EM := M (Bool × T)
/-- a value that is kept no more as one's own -/
@[simp] def fz (d : EM) : M T := fun e => (M.bind d fun r => M.pure r.2) e

/-- F: what stands still (F0 at the entry), H: the heap (H0 at the entry); a slot is shared, or it is the only one that knows its list -/
structure Rl (K : PySem.W.Frag) (F0 H0 F H : Hp) (e : En) (σ : L2.St) : Prop where
  xF : Ex F0 F
  xH : Ex H0 H
  sub : Ex F H
  old : ∀ a, H0 a ≠ none → F a = F0 a
  len : e.length = σ.length
  shr : ∀ (i : Nat) (t : T), e[i]? = some (some (false, t)) → ∃ v, σ[i]? = some (some v) ∧ Rep K F v t
  own : ∀ (i : Nat) (t : T), e[i]? = some (some (true, t)) → ∃ p vs ts, σ[i]? = some (some (.ref p)) ∧ t = .lst ts ∧ H0 p = none ∧ F p = none ∧ H p = some (.lst vs) ∧ Reps K F vs ts
  dis : ∀ (i j : Nat) (t t' : T) (p : Addr), e[i]? = some (some (true, t)) → e[j]? = some (some (true, t')) → σ[i]? = some (some (.ref p)) → σ[j]? = some (some (.ref p)) → i = j

/-- a value got: shared, or new and known to nobody else -/
def Res (K : PySem.W.Frag) (H0 F H : Hp) (e : En) (σ : L2.St) (v : V) (r : Bool × T) : Prop :=
  (r.1 = false ∧ Rep K F v r.2) ∨ (r.1 = true ∧ ∃ p vs ts, v = .ref p ∧ r.2 = .lst ts ∧ H0 p = none ∧ F p = none ∧ H p = some (.lst vs) ∧ Reps K F vs ts ∧ ∀ (i : Nat) (t : T), e[i]? = some (some (true, t)) → σ[i]? ≠ some (some (.ref p)))

section
variable {K : PySem.W.Frag} {F0 H0 F H F' H' : Hp} {e e' : En} {σ : L2.St}
/-- p, new or one's own, stands still from now on -/
theorem Rl.still (r : Rl K F0 H0 F H e σ) {p : Addr} {o : HO} (h0 : H0 p = none) (hF : F p = none) (hH : H p = some o) (hn : ∀ (i : Nat) (t : T), e[i]? = some (some (true, t)) → σ[i]? ≠ some (some (.ref p))) : Rl K F0 H0 (upd F p o) H e σ where
  xF := r.xF.trans (Ex.new hF)
  xH := r.xH
  sub := fun a u h => by
    by_cases q : a = p
    · subst q
      rw [upd_same] at h
      cases h
      exact hH
    · rw [upd_ne q] at h
      exact r.sub a u h
  old := fun a h => by
    have q : a ≠ p := fun z => h (z ▸ h0)
    rw [upd_ne q]
    exact r.old a h
  len := r.len
  shr := fun i t h => by
    obtain ⟨v, h1, h2⟩ := r.shr i t h
    exact ⟨v, h1, h2.mono (Ex.new hF)⟩
  own := fun i t h => by
    obtain ⟨q, vs, ts, h1, h2, h3, h4, h5, h6⟩ := r.own i t h
    have z : q ≠ p := fun z => hn i t h (z ▸ h1)
    exact ⟨q, vs, ts, h1, h2, h3, by rw [upd_ne z]; exact h4, h5, h6.mono (Ex.new hF)⟩
  dis := r.dis

theorem Res.fz (r : Rl K F0 H0 F H e σ) {v : V} {x : Bool × T} (h : Res K H0 F H e σ v x) : ∃ F', Rl K F0 H0 F' H e σ ∧ Ex F F' ∧ Rep K F' v x.2 := by
  rcases h with ⟨_, h⟩ | ⟨_, p, vs, ts, rfl, h2, h3, h4, h5, h6, h7⟩
  · exact ⟨F, r, Ex.refl F, h⟩
  · refine ⟨upd F p (.lst vs), r.still h3 h4 h5 h7, Ex.new h4, ?_⟩
    rw [h2]
    exact .lst upd_same (h6.mono (Ex.new h4))
/-- slot i read: from now on shared -/
theorem Rl.share (r : Rl K F0 H0 F H e σ) {i : Nat} {b : Bool} {t : T} (h : e[i]? = some (some (b, t))) : ∃ v F', σ[i]? = some (some v) ∧ Rl K F0 H0 F' H (e.set i (some (false, t))) σ ∧ Ex F F' ∧ Rep K F' v t := by
  have hi : i < e.length := by
    rcases Nat.lt_or_ge i e.length with q | q
    · exact q
    · rw [List.getElem?_eq_none q] at h
      cases h
  have same : ∀ j t', j ≠ i → (e.set i (some (false, t)))[j]? = some t' → e[j]? = some t' := fun j t' q h' => by
    rw [List.getElem?_set_ne (Ne.symm q)] at h'
    exact h'
  have at_i : (e.set i (some (false, t)))[i]? = some (some (false, t)) := by
    rw [List.getElem?_set_self hi]
  -- with F' and what is known of slot i
  have go : ∀ v F', σ[i]? = some (some v) → Ex F F' → Rep K F' v t → Ex F0 F' → Ex F' H → (∀ a, H0 a ≠ none → F' a = F0 a) → (∀ j t', j ≠ i → e[j]? = some (some (true, t')) → ∃ p, σ[j]? = some (some (.ref p)) ∧ F' p = none) → Rl K F0 H0 F' H (e.set i (some (false, t))) σ := by
    intro v F' hv x rp x0 xs ol ow
    refine ⟨x0, r.xH, xs, ol, ?_, fun j t' hj => ?_, fun j t' hj => ?_, fun j k t1 t2 p hj hk h1 h2 => ?_⟩
    · rw [List.length_set]
      exact r.len
    · by_cases q : j = i
      · subst q
        rw [at_i] at hj
        cases hj
        exact ⟨v, hv, rp⟩
      · obtain ⟨w, h1, h2⟩ := r.shr j t' (same j _ q hj)
        exact ⟨w, h1, h2.mono x⟩
    · by_cases q : j = i
      · subst q
        rw [at_i] at hj
        cases hj
      · have hj' := same j _ q hj
        obtain ⟨p, vs, ts, h1, h2, h3, h4, h5, h6⟩ := r.own j t' hj'
        obtain ⟨p', g1, g2⟩ := ow j t' q hj'
        rw [h1] at g1
        cases g1
        exact ⟨p, vs, ts, h1, h2, h3, g2, h5, h6.mono x⟩
    · have qj : j ≠ i := fun z => by
        subst z
        rw [at_i] at hj
        cases hj
      have qk : k ≠ i := fun z => by
        subst z
        rw [at_i] at hk
        cases hk
      exact r.dis j k t1 t2 p (same j _ qj hj) (same k _ qk hk) h1 h2
  cases b with
  | false =>
    obtain ⟨v, h1, h2⟩ := r.shr i t h
    refine ⟨v, F, h1, go v F h1 (Ex.refl F) h2 r.xF r.sub r.old fun j t' q hj => ?_, Ex.refl F, h2⟩
    obtain ⟨p, vs, ts, g1, g2, g3, g4, g5, g6⟩ := r.own j t' hj
    exact ⟨p, g1, g4⟩
  | true =>
    obtain ⟨p, vs, ts, h1, h2, h3, h4, h5, h6⟩ := r.own i t h
    have x : Ex F (upd F p (.lst vs)) := Ex.new h4
    have rp : Rep K (upd F p (.lst vs)) (.ref p) t := by
      rw [h2]
      exact .lst upd_same (h6.mono x)
    refine ⟨.ref p, upd F p (.lst vs), h1, go _ _ h1 x rp (r.xF.trans x) (fun a u ha => ?_) (fun a ha => ?_) (fun j t' q hj => ?_), x, rp⟩
    · by_cases q : a = p
      · subst q
        rw [upd_same] at ha
        cases ha
        exact h5
      · rw [upd_ne q] at ha
        exact r.sub a u ha
    · have q : a ≠ p := fun z => ha (z ▸ h3)
      rw [upd_ne q]
      exact r.old a ha
    · obtain ⟨p', vs', ts', g1, g2, g3, g4, g5, g6⟩ := r.own j t' hj
      have z : p' ≠ p := fun z => q (r.dis j i t' t p' hj h g1 (by rw [z]; exact h1))
      exact ⟨p', g1, by rw [upd_ne z]; exact g4⟩
end
end Tr

namespace Tr
open PySem PySem.Spec PyProof.Rows L2
open Evl (Ex)

section
variable {K : PySem.W.Frag} {F0 H0 F H F' H' : Hp} {e e' : En} {σ : L2.St}
theorem Rl.newF (r : Rl K F0 H0 F H e σ) {p : Addr} (hp : H p = none) : F p = none ∧ H0 p = none := by
  constructor
  · cases q : F p with
    | none => rfl
    | some o =>
      rw [r.sub p o q] at hp
      cases hp
  · cases q : H0 p with
    | none => rfl
    | some o =>
      rw [r.xH p o q] at hp
      cases hp
/-- the heap has one thing more -/
theorem Rl.grow (r : Rl K F0 H0 F H e σ) {p : Addr} {o : HO} (hp : H p = none) : Rl K F0 H0 F (upd H p o) e σ where
  xF := r.xF
  xH := r.xH.trans (Ex.new hp)
  sub := r.sub.trans (Ex.new hp)
  old := r.old
  len := r.len
  shr := r.shr
  own := fun i t h => by
    obtain ⟨q, vs, ts, h1, h2, h3, h4, h5, h6⟩ := r.own i t h
    exact ⟨q, vs, ts, h1, h2, h3, h4, by rw [upd_ne (ne_of_none h5 hp)]; exact h5, h6⟩
  dis := r.dis
theorem Rl.ownNe (r : Rl K F0 H0 F H e σ) {p : Addr} (hp : H p = none) : ∀ (i : Nat) (t : T), e[i]? = some (some (true, t)) → σ[i]? ≠ some (some (.ref p)) := fun i t h z => by
  obtain ⟨q, vs, ts, h1, h2, h3, h4, h5, h6⟩ := r.own i t h
  rw [h1] at z
  cases z
  rw [hp] at h5
  cases h5
end

/-! ### what is wanted behind -/
/-- K, the classes of errors by number, what is wanted of an error -/
structure Ct where
  K : PySem.W.Frag
  cls : Nat → Value
  W : WX

def PoE (C : Ct) (F0 H0 F : Hp) (σ : L2.St) (Q : VK) : R (Bool × T) → Prop
  | .ok r e' => ∀ v F' H', Rl C.K F0 H0 F' H' e' σ → Ex F F' → Res C.K H0 F' H' e' σ v r → Q v H'
  | .ex c e' => ∀ F' H', Rl C.K F0 H0 F' H' e' σ → Ex F F' → C.W (C.cls c) none σ H'
  | .bad => False
def PoF (C : Ct) (F0 H0 F : Hp) (σ : L2.St) (Q : VK) : R T → Prop
  | .ok t e' => ∀ v F' H', Rl C.K F0 H0 F' H' e' σ → Ex F F' → Rep C.K F' v t → Q v H'
  | .ex c e' => ∀ F' H', Rl C.K F0 H0 F' H' e' σ → Ex F F' → C.W (C.cls c) none σ H'
  | .bad => False
def PoA (C : Ct) (F0 H0 F : Hp) (σ : L2.St) (Q : List V → Hp → Prop) : R (List T) → Prop
  | .ok ts e' => ∀ vs F' H', Rl C.K F0 H0 F' H' e' σ → Ex F F' → Reps C.K F' vs ts → Q vs H'
  | .ex c e' => ∀ F' H', Rl C.K F0 H0 F' H' e' σ → Ex F F' → C.W (C.cls c) none σ H'
  | .bad => False
def PoT (C : Ct) (F0 H0 F : Hp) (σ : L2.St) (Q : Bool → Hp → Prop) : R Bool → Prop
  | .ok b e' => ∀ F' H', Rl C.K F0 H0 F' H' e' σ → Ex F F' → Q b H'
  | .ex c e' => ∀ F' H', Rl C.K F0 H0 F' H' e' σ → Ex F F' → C.W (C.cls c) none σ H'
  | .bad => False
def PoO (C : Ct) (F0 H0 F : Hp) (σ : L2.St) (Q : Option Int → Hp → Prop) : R (Option Int) → Prop
  | .ok b e' => ∀ F' H', Rl C.K F0 H0 F' H' e' σ → Ex F F' → Q b H'
  | .ex c e' => ∀ F' H', Rl C.K F0 H0 F' H' e' σ → Ex F F' → C.W (C.cls c) none σ H'
  | .bad => False
def SE (C : Ct) (t : TE) (d : EM) : Prop := ∀ F0 H0 F H e σ, Rl C.K F0 H0 F H e σ → ∀ Q, PoE C F0 H0 F σ Q (d e) → t σ H Q
def SF (C : Ct) (t : TE) (d : M T) : Prop := ∀ F0 H0 F H e σ, Rl C.K F0 H0 F H e σ → ∀ Q, PoF C F0 H0 F σ Q (d e) → t σ H Q
def SA (C : Ct) (t : TA) (d : M (List T)) : Prop := ∀ F0 H0 F H e σ, Rl C.K F0 H0 F H e σ → ∀ Q, PoA C F0 H0 F σ Q (d e) → t σ H Q
def ST (C : Ct) (t : TT) (d : M Bool) : Prop := ∀ F0 H0 F H e σ, Rl C.K F0 H0 F H e σ → ∀ Q, PoT C F0 H0 F σ Q (d e) → t σ H Q
def SO (C : Ct) (t : TO) (d : M (Option Int)) : Prop := ∀ F0 H0 F H e σ, Rl C.K F0 H0 F H e σ → ∀ Q, PoO C F0 H0 F σ Q (d e) → t σ H Q

/-- what an operation on values gives: a value that stands, a new list, a new tuple -/
inductive O where
  | v (t : T) | l (ts : List T) | u (ts : List T)
@[simp] def O.res : O → Bool × T
  | .v t => (false, t)
  | .l ts => (true, .lst ts)
  | .u ts => (false, .tup ts)
def PoV (K : PySem.W.Frag) (F H : Hp) (Q : VK) : O → Prop
  | .v t => ∀ v, Rep K F v t → Q v H
  | .l ts => ∀ p vs, H p = none → Reps K F vs ts → Q (.ref p) (upd H p (.lst vs))
  | .u ts => ∀ p vs, H p = none → Reps K F vs ts → Q (.ref p) (upd H p (.tup vs))
theorem PoV.of {C : Ct} {F0 H0 F H : Hp} {e : En} {σ : L2.St} {Q : VK} (r : Rl C.K F0 H0 F H e σ) : ∀ {o : O}, PoE C F0 H0 F σ Q (.ok o.res e) → PoV C.K F H Q o
  | .v t, h => fun v hv => h v F H r (Ex.refl F) (.inl ⟨rfl, hv⟩)
  | .l ts, h => fun p vs hp hr => h (.ref p) F (upd H p (.lst vs)) (r.grow hp) (Ex.refl F) (.inr ⟨rfl, p, vs, ts, rfl, rfl, (r.newF hp).2, (r.newF hp).1, upd_same, hr, r.ownNe hp⟩)
  | .u ts, h => fun p vs hp hr => by
    have hF := (r.newF hp).1
    have h0 := (r.newF hp).2
    have r' : Rl C.K F0 H0 (upd F p (.tup vs)) (upd H p (.tup vs)) e σ := (r.grow hp).still h0 hF upd_same (r.ownNe hp)
    exact h (.ref p) _ _ r' (Ex.new hF) (.inl ⟨rfl, .tup upd_same (hr.mono (Ex.new hF))⟩)

section
variable {C : Ct}
theorem se_fz {t : TE} {d : EM} (h : SE C t d) : SF C t (fz d) := by
  intro F0 H0 F H e σ r Q q
  refine h F0 H0 F H e σ r Q ?_
  have eq : fz d e = M.bind d (fun r => M.pure r.2) e := rfl
  rw [eq] at q
  unfold M.bind at q
  cases hd : d e with
  | ok x e' =>
    rw [hd] at q
    intro v F' H' r' x' rs
    obtain ⟨F2, r2, x2, rp⟩ := Res.fz r' rs
    exact q v F2 H' r2 (x'.trans x2) rp
  | ex c e' =>
    rw [hd] at q
    exact q
  | bad =>
    rw [hd] at q
    exact q
theorem PoE.mono {F0 H0 F F1 : Hp} {σ : L2.St} {Q : VK} (x : Ex F F1) : ∀ {r : R (Bool × T)}, PoE C F0 H0 F σ Q r → PoE C F0 H0 F1 σ Q r
  | .ok _ _, h => fun v F' H' r x' rs => h v F' H' r (x.trans x') rs
  | .ex _ _, h => fun F' H' r x' => h F' H' r (x.trans x')
  | .bad, h => h
theorem PoF.mono {F0 H0 F F1 : Hp} {σ : L2.St} {Q : VK} (x : Ex F F1) : ∀ {r : R T}, PoF C F0 H0 F σ Q r → PoF C F0 H0 F1 σ Q r
  | .ok _ _, h => fun v F' H' r x' rs => h v F' H' r (x.trans x') rs
  | .ex _ _, h => fun F' H' r x' => h F' H' r (x.trans x')
  | .bad, h => h
theorem PoA.mono {F0 H0 F F1 : Hp} {σ : L2.St} {Q : List V → Hp → Prop} (x : Ex F F1) : ∀ {r : R (List T)}, PoA C F0 H0 F σ Q r → PoA C F0 H0 F1 σ Q r
  | .ok _ _, h => fun v F' H' r x' rs => h v F' H' r (x.trans x') rs
  | .ex _ _, h => fun F' H' r x' => h F' H' r (x.trans x')
  | .bad, h => h
theorem PoT.mono {F0 H0 F F1 : Hp} {σ : L2.St} {Q : Bool → Hp → Prop} (x : Ex F F1) : ∀ {r : R Bool}, PoT C F0 H0 F σ Q r → PoT C F0 H0 F1 σ Q r
  | .ok _ _, h => fun F' H' r x' => h F' H' r (x.trans x')
  | .ex _ _, h => fun F' H' r x' => h F' H' r (x.trans x')
  | .bad, h => h
/-- evaluate, then go on with the value -/
theorem SF.go {t : TE} {d : M T} (h : SF C t d) {F0 H0 F H : Hp} {e : En} {σ : L2.St} (r : Rl C.K F0 H0 F H e σ) {β : Type} {g : T → M β} {Po : Hp → R β → Prop}
    (mono : ∀ F F1 x, Ex F F1 → Po F x → Po F1 x) (hx : ∀ F c e', Po F (.ex c e') → ∀ F' H', Rl C.K F0 H0 F' H' e' σ → Ex F F' → C.W (C.cls c) none σ H') (hb : ∀ F, ¬ Po F .bad) {Q : VK}
    (q : Po F (M.bind d g e)) (k : ∀ v x F' H' e', Rl C.K F0 H0 F' H' e' σ → Ex F F' → Rep C.K F' v x → Po F' (g x e') → Q v H') : t σ H Q := by
  refine h F0 H0 F H e σ r Q ?_
  unfold M.bind at q
  cases hd : d e with
  | ok x e' =>
    rw [hd] at q
    intro v F' H' r' x' rp
    exact k v x F' H' e' r' x' rp (mono F F' _ x' q)
  | ex c e' =>
    rw [hd] at q
    exact hx F c e' q
  | bad =>
    rw [hd] at q
    exact absurd q (hb F)
theorem SA.go {t : TA} {d : M (List T)} (h : SA C t d) {F0 H0 F H : Hp} {e : En} {σ : L2.St} (r : Rl C.K F0 H0 F H e σ) {β : Type} {g : List T → M β} {Po : Hp → R β → Prop}
    (mono : ∀ F F1 x, Ex F F1 → Po F x → Po F1 x) (hx : ∀ F c e', Po F (.ex c e') → ∀ F' H', Rl C.K F0 H0 F' H' e' σ → Ex F F' → C.W (C.cls c) none σ H') (hb : ∀ F, ¬ Po F .bad) {Q : List V → Hp → Prop}
    (q : Po F (M.bind d g e)) (k : ∀ vs xs F' H' e', Rl C.K F0 H0 F' H' e' σ → Ex F F' → Reps C.K F' vs xs → Po F' (g xs e') → Q vs H') : t σ H Q := by
  refine h F0 H0 F H e σ r Q ?_
  unfold M.bind at q
  cases hd : d e with
  | ok x e' =>
    rw [hd] at q
    intro v F' H' r' x' rp
    exact k v x F' H' e' r' x' rp (mono F F' _ x' q)
  | ex c e' =>
    rw [hd] at q
    exact hx F c e' q
  | bad =>
    rw [hd] at q
    exact absurd q (hb F)
theorem ST.go {t : TT} {d : M Bool} (h : ST C t d) {F0 H0 F H : Hp} {e : En} {σ : L2.St} (r : Rl C.K F0 H0 F H e σ) {β : Type} {g : Bool → M β} {Po : Hp → R β → Prop}
    (mono : ∀ F F1 x, Ex F F1 → Po F x → Po F1 x) (hx : ∀ F c e', Po F (.ex c e') → ∀ F' H', Rl C.K F0 H0 F' H' e' σ → Ex F F' → C.W (C.cls c) none σ H') (hb : ∀ F, ¬ Po F .bad) {Q : Bool → Hp → Prop}
    (q : Po F (M.bind d g e)) (k : ∀ x F' H' e', Rl C.K F0 H0 F' H' e' σ → Ex F F' → Po F' (g x e') → Q x H') : t σ H Q := by
  refine h F0 H0 F H e σ r Q ?_
  unfold M.bind at q
  cases hd : d e with
  | ok x e' =>
    rw [hd] at q
    intro F' H' r' x'
    exact k x F' H' e' r' x' (mono F F' _ x' q)
  | ex c e' =>
    rw [hd] at q
    exact hx F c e' q
  | bad =>
    rw [hd] at q
    exact absurd q (hb F)
theorem SO.go {t : TO} {d : M (Option Int)} (h : SO C t d) {F0 H0 F H : Hp} {e : En} {σ : L2.St} (r : Rl C.K F0 H0 F H e σ) {β : Type} {g : Option Int → M β} {Po : Hp → R β → Prop}
    (mono : ∀ F F1 x, Ex F F1 → Po F x → Po F1 x) (hx : ∀ F c e', Po F (.ex c e') → ∀ F' H', Rl C.K F0 H0 F' H' e' σ → Ex F F' → C.W (C.cls c) none σ H') (hb : ∀ F, ¬ Po F .bad) {Q : Option Int → Hp → Prop}
    (q : Po F (M.bind d g e)) (k : ∀ x F' H' e', Rl C.K F0 H0 F' H' e' σ → Ex F F' → Po F' (g x e') → Q x H') : t σ H Q := by
  refine h F0 H0 F H e σ r Q ?_
  unfold M.bind at q
  cases hd : d e with
  | ok x e' =>
    rw [hd] at q
    intro F' H' r' x'
    exact k x F' H' e' r' x' (mono F F' _ x' q)
  | ex c e' =>
    rw [hd] at q
    exact hx F c e' q
  | bad =>
    rw [hd] at q
    exact absurd q (hb F)
end

/-! ### the forms of expressions -/
@[simp] def dC (t : T) : EM := fun e => .ok (false, t) e
@[simp] def dVar (i : Nat) : EM := fun e => match e[i]? with
  | some (some (_, t)) => .ok (false, t) (e.set i (some (false, t)))
  | _ => .bad
@[simp] def lift (o : Option O) : EM := fun e => match o with
  | some o => .ok o.res e
  | none => .bad
@[simp] def dOp (f : T → T → Option O) (a b : EM) : EM := fun e => (M.bind (fz a) fun x => M.bind (fz b) fun y => lift (f x y)) e
@[simp] def dUn (f : T → Option O) (a : EM) : EM := fun e => (M.bind (fz a) fun x => lift (f x)) e
@[simp] def dArgs : List EM → En → R (List T)
  | [], e => M.pure [] e
  | a :: r, e => (M.bind (fz a) fun x => M.bind (dArgs r) fun xs => M.pure (x :: xs)) e
@[simp] def dB (f : List T → Option O) (as : List EM) : EM := fun e => (M.bind (dArgs as) fun xs => lift (f xs)) e
@[simp] def dTup (as : List EM) : EM := fun e => (M.bind (dArgs as) fun xs => lift (some (.u xs))) e
@[simp] def dLst (as : List EM) : EM := fun e => (M.bind (dArgs as) fun xs => lift (some (.l xs))) e
@[simp] def dTest (a : EM) : M Bool := fun e => (M.bind (fz a) fun x => match x with
  | .bl b => M.pure b
  | _ => M.bad) e
@[simp] def truth : T → Option Bool
  | .non => some false
  | .bl b => some b
  | .int i => some (i != 0)
  | .lst ts => some (!ts.isEmpty)
  | .tup ts => some (!ts.isEmpty)
  | .scr ns => some (!ns.isEmpty)
  | _ => none
@[simp] def dTruth (a : EM) : M Bool := fun e => (M.bind (fz a) fun x => M.opt (truth x)) e
@[simp] def dNotT (a : M Bool) : M Bool := fun e => (M.bind a fun b => M.pure !b) e
@[simp] def dAndT (a b : M Bool) : M Bool := fun e => (M.bind a fun x => if x = true then b else M.pure false) e
@[simp] def dOrT (a b : M Bool) : M Bool := fun e => (M.bind a fun x => if x = true then M.pure true else b) e
@[simp] def dIfE (t : M Bool) (a b : EM) : EM := fun e => (M.bind t fun c => if c = true then a else b) e
@[simp] def dAndV (a b : EM) : EM := fun e => (M.bind (dTest a) fun c => if c = true then b else M.pure (false, T.bl false)) e
@[simp] def dOrV (a b : EM) : EM := fun e => (M.bind (dTest a) fun c => if c = true then M.pure (false, T.bl true) else b) e
@[simp] def dNotV (a : EM) : EM := fun e => (M.bind (dTest a) fun c => M.pure (false, T.bl !c)) e

section
variable {C : Ct}
local macro_rules | `(tactic| walk_at "po") => `(tactic| first | exact fun _ _ _ x h => PoE.mono x h | exact fun _ _ _ x h => PoF.mono x h | exact fun _ _ _ x h => PoA.mono x h | exact fun _ _ _ x h => PoT.mono x h | exact fun _ _ _ h => h | exact fun _ h => h)
theorem lift_of {F0 H0 F H : Hp} {e : En} {σ : L2.St} {Q : VK} (r : Rl C.K F0 H0 F H e σ) {o : Option O} (h : PoE C F0 H0 F σ Q (lift o e)) : ∃ z, o = some z ∧ PoV C.K F H Q z := by
  cases o with
  | none => exact h.elim
  | some z => exact ⟨z, rfl, PoV.of r h⟩
theorem se_c {v : V} {t : T} (h : ∀ F, Rep C.K F v t) : SE C (tC v) (dC t) := fun F0 H0 F H e σ r Q q => q v F H r (Ex.refl F) (.inl ⟨rfl, h F⟩)
theorem se_var {i : Nat} : SE C (tVar i) (dVar i) := fun F0 H0 F H e σ r Q q => by
  unfold dVar at q
  split at q
  · rename_i b t h
    obtain ⟨v, F', h1, r', x, rp⟩ := r.share h
    exact ⟨v, h1, q v F' H r' x (.inl ⟨rfl, rp⟩)⟩
  · exact q.elim
/-- an operation by values -/
def OpS (C : Ct) (r : R2) (f : T → T → Option O) : Prop := ∀ F H vx x vy y z Q, Ex F H → Rep C.K F vx x → Rep C.K F vy y → f x y = some z → PoV C.K F H Q z → r vx vy H Q
theorem se_op {r : R2} {f : T → T → Option O} {ta tb : TE} {a b : EM} (hr : OpS C r f) (ha : SE C ta a) (hb : SE C tb b) : SE C (tOp r ta tb) (dOp f a b) := fun F0 H0 F H e σ rl Q q => by
  refine (se_fz ha).go (g := fun x => M.bind (fz b) fun y => lift (f x y)) (Po := fun F r => PoE C F0 H0 F σ Q r) rl ?_ ?_ ?_ q fun v x F1 H1 e1 r1 x1 rp q1 => ?_
  any_goals walk_at "po"
  refine (se_fz hb).go (g := fun y => lift (f x y)) (Po := fun F r => PoE C F0 H0 F σ Q r) r1 ?_ ?_ ?_ q1 fun w y F2 H2 e2 r2 x2 rp2 q2 => ?_
  any_goals walk_at "po"
  obtain ⟨z, hz, p⟩ := lift_of r2 q2
  exact hr F2 H2 v x w y z Q r2.sub (rp.mono x2) rp2 hz p
def UnS (C : Ct) (r : V → Hp → VK → Prop) (f : T → Option O) : Prop := ∀ F H vx x z Q, Ex F H → Rep C.K F vx x → f x = some z → PoV C.K F H Q z → r vx H Q
theorem se_un {r : V → Hp → VK → Prop} {f : T → Option O} {ta : TE} {a : EM} (hr : UnS C r f) (ha : SE C ta a) : SE C (tUn r ta) (dUn f a) := fun F0 H0 F H e σ rl Q q => by
  refine (se_fz ha).go (g := fun x => lift (f x)) (Po := fun F r => PoE C F0 H0 F σ Q r) rl ?_ ?_ ?_ q fun v x F1 H1 e1 r1 x1 rp q1 => ?_
  any_goals walk_at "po"
  obtain ⟨z, hz, p⟩ := lift_of r1 q1
  exact hr F1 H1 v x z Q r1.sub rp hz p
theorem sa_nil : SA C tNil (dArgs []) := fun F0 H0 F H e σ r Q q => q [] F H r (Ex.refl F) .nil
theorem sa_cons {ta : TE} {tr : TA} {a : EM} {as : List EM} (ha : SE C ta a) (hr : SA C tr (dArgs as)) : SA C (tCons ta tr) (dArgs (a :: as)) := fun F0 H0 F H e σ rl Q q => by
  refine (se_fz ha).go (g := fun x => M.bind (dArgs as) fun xs => M.pure (x :: xs)) (Po := fun F r => PoA C F0 H0 F σ Q r) rl ?_ ?_ ?_ q fun v x F1 H1 e1 r1 x1 rp q1 => ?_
  any_goals walk_at "po"
  refine hr.go (g := fun xs => M.pure (x :: xs)) (Po := fun F r => PoA C F0 H0 F σ Q r) r1 ?_ ?_ ?_ q1 fun vs xs F2 H2 e2 r2 x2 rps q2 => ?_
  any_goals walk_at "po"
  exact q2 (v :: vs) F2 H2 r2 (Ex.refl F2) (.cons (rp.mono x2) rps)
/-- a call of a built-in by values -/
def BS (C : Ct) (r : List V → Hp → VK → Prop) (f : List T → Option O) : Prop := ∀ F H vs xs z Q, Ex F H → Reps C.K F vs xs → f xs = some z → PoV C.K F H Q z → r vs H Q
theorem se_b {r : List V → Hp → VK → Prop} {f : List T → Option O} {ta : TA} {as : List EM} (hr : BS C r f) (ha : SA C ta (dArgs as)) : SE C (tCB r ta) (dB f as) := fun F0 H0 F H e σ rl Q q => by
  refine ha.go (g := fun xs => lift (f xs)) (Po := fun F r => PoE C F0 H0 F σ Q r) rl ?_ ?_ ?_ q fun vs xs F1 H1 e1 r1 x1 rps q1 => ?_
  any_goals walk_at "po"
  obtain ⟨z, hz, p⟩ := lift_of r1 q1
  exact hr F1 H1 vs xs z Q r1.sub rps hz p
theorem se_tup {ta : TA} {as : List EM} (ha : SA C ta (dArgs as)) (hl : as.length ≤ 1000) : SE C (tTup ta) (dTup as) := fun F0 H0 F H e σ rl Q q => by
  have len : ∀ (as : List EM) e xs e', dArgs as e = .ok xs e' → xs.length = as.length := by
    intro as
    induction as with
    | nil =>
      intro e xs e' h
      cases h
      rfl
    | cons a as ih =>
      intro e xs e' h
      unfold dArgs M.bind at h
      split at h
      · rename_i x e1 h1
        dsimp only at h
        split at h
        · rename_i ys e2 h2
          cases h
          rw [List.length_cons, List.length_cons, ih _ _ _ h2]
        · cases h
        · cases h
      · cases h
      · cases h
  cases hd : dArgs as e with
  | bad =>
    unfold dTup M.bind at q
    rw [hd] at q
    exact q.elim
  | ex c e' =>
    unfold dTup M.bind at q
    rw [hd] at q
    refine ha F0 H0 F H e σ rl _ ?_
    rw [hd]
    exact q
  | ok xs e' =>
    unfold dTup M.bind at q
    rw [hd] at q
    refine ha F0 H0 F H e σ rl _ ?_
    rw [hd]
    intro vs F' H' r' x' rps
    have hz : vs.length ≤ sizeLine := by
      rw [rps.length, len _ _ _ _ hd]
      exact Nat.le_trans hl (by decide)
    refine ⟨hz, fun p hp => ?_⟩
    obtain ⟨z, hz, pv⟩ := lift_of r' (PoE.mono x' q)
    cases hz
    exact pv p vs hp rps
theorem se_lst {ta : TA} {as : List EM} (ha : SA C ta (dArgs as)) (hl : as.length ≤ 1000) : SE C (tLst ta) (dLst as) := fun F0 H0 F H e σ rl Q q => by
  have len : ∀ (as : List EM) e xs e', dArgs as e = .ok xs e' → xs.length = as.length := by
    intro as
    induction as with
    | nil =>
      intro e xs e' h
      cases h
      rfl
    | cons a as ih =>
      intro e xs e' h
      unfold dArgs M.bind at h
      split at h
      · rename_i x e1 h1
        dsimp only at h
        split at h
        · rename_i ys e2 h2
          cases h
          rw [List.length_cons, List.length_cons, ih _ _ _ h2]
        · cases h
        · cases h
      · cases h
      · cases h
  cases hd : dArgs as e with
  | bad =>
    unfold dLst M.bind at q
    rw [hd] at q
    exact q.elim
  | ex c e' =>
    unfold dLst M.bind at q
    rw [hd] at q
    refine ha F0 H0 F H e σ rl _ ?_
    rw [hd]
    exact q
  | ok xs e' =>
    unfold dLst M.bind at q
    rw [hd] at q
    refine ha F0 H0 F H e σ rl _ ?_
    rw [hd]
    intro vs F' H' r' x' rps
    have hz : vs.length ≤ sizeLine := by
      rw [rps.length, len _ _ _ _ hd]
      exact Nat.le_trans hl (by decide)
    refine ⟨hz, fun p hp => ?_⟩
    obtain ⟨z, hz, pv⟩ := lift_of r' (PoE.mono x' q)
    cases hz
    exact pv p vs hp rps
/-! tests -/
theorem st_test {t : TE} {d : EM} (h : SE C t d) : ST C (tTest t) (dTest d) := fun F0 H0 F H e σ rl Q q => by
  refine (se_fz h).go (g := fun x => match x with | .bl b => M.pure b | _ => M.bad) (Po := fun F r => PoT C F0 H0 F σ Q r) rl ?_ ?_ ?_ q fun v x F1 H1 e1 r1 x1 rp q1 => ?_
  any_goals walk_at "po"
  cases x <;> first | exact q1.elim | skip
  cases rp
  exact ⟨_, rfl, q1 F1 H1 r1 (Ex.refl F1)⟩
theorem st_B {t : TE} {d : EM} (h : SE C t d) : ST C (tB t) (dTest d) := st_test h
theorem tru_of {F H : Hp} {v : V} {x : T} {b : Bool} (x1 : Ex F H) (rp : Rep C.K F v x) (h : truth x = some b) : TruV C.K v H b := by
  cases rp with
  | non => exact (Option.some.inj h).symm
  | bl => exact (Option.some.inj h).symm
  | int => exact (Option.some.inj h).symm
  | str => cases h
  | lst h1 rs =>
    refine .inl ⟨_, .inl (.inl (x1 _ _ h1)), ?_⟩
    rw [← Option.some.inj h]
    cases rs <;> rfl
  | tup h1 rs =>
    refine .inr (.inl ⟨_, .inl (.inl (x1 _ _ h1)), ?_⟩)
    rw [← Option.some.inj h]
    cases rs <;> rfl
  | @scr p ns h1 =>
    refine .inl ⟨_, Evl.ex_l x1 h1, ?_⟩
    rw [← Option.some.inj h]
    cases ns <;> rfl
theorem st_truth {t : TE} {d : EM} (h : SE C t d) : ST C (fun σ H Q => t σ H fun x H' => ∃ k, TruV C.K x H' k ∧ Q k H') (dTruth d) := fun F0 H0 F H e σ rl Q q => by
  refine (se_fz h).go (g := fun x => M.opt (truth x)) (Po := fun F r => PoT C F0 H0 F σ Q r) rl ?_ ?_ ?_ q fun v x F1 H1 e1 r1 x1 rp q1 => ?_
  any_goals walk_at "po"
  cases ht : truth x with
  | none =>
    simp only [ht, M.opt] at q1
    exact q1.elim
  | some b =>
    simp only [ht, M.opt] at q1
    exact ⟨b, tru_of r1.sub rp ht, q1 F1 H1 r1 (Ex.refl F1)⟩
theorem st_not {t : TT} {d : M Bool} (h : ST C t d) : ST C (tNot t) (dNotT d) := fun F0 H0 F H e σ rl Q q => by
  refine h.go (g := fun b => M.pure !b) (Po := fun F r => PoT C F0 H0 F σ Q r) rl ?_ ?_ ?_ q fun x F1 H1 e1 r1 x1 q1 => ?_
  any_goals walk_at "po"
  exact q1 F1 H1 r1 (Ex.refl F1)
theorem st_and {t u : TT} {a b : M Bool} (h : ST C t a) (k : ST C u b) : ST C (tAnd t u) (dAndT a b) := fun F0 H0 F H e σ rl Q q => by
  refine h.go (g := fun x => if x = true then b else M.pure false) (Po := fun F r => PoT C F0 H0 F σ Q r) rl ?_ ?_ ?_ q fun x F1 H1 e1 r1 x1 q1 => ?_
  any_goals walk_at "po"
  cases x with
  | true => exact k F0 H0 F1 H1 e1 σ r1 Q q1
  | false => exact q1 F1 H1 r1 (Ex.refl F1)
theorem st_or {t u : TT} {a b : M Bool} (h : ST C t a) (k : ST C u b) : ST C (tOr t u) (dOrT a b) := fun F0 H0 F H e σ rl Q q => by
  refine h.go (g := fun x => if x = true then M.pure true else b) (Po := fun F r => PoT C F0 H0 F σ Q r) rl ?_ ?_ ?_ q fun x F1 H1 e1 r1 x1 q1 => ?_
  any_goals walk_at "po"
  cases x with
  | true => exact q1 F1 H1 r1 (Ex.refl F1)
  | false => exact k F0 H0 F1 H1 e1 σ r1 Q q1
theorem se_ifE {t : TT} {ta tb : TE} {d : M Bool} {a b : EM} (h : ST C t d) (ha : SE C ta a) (hb : SE C tb b) : SE C (tIf t ta tb) (dIfE d a b) := fun F0 H0 F H e σ rl Q q => by
  refine h.go (g := fun c => if c = true then a else b) (Po := fun F r => PoE C F0 H0 F σ Q r) rl ?_ ?_ ?_ q fun x F1 H1 e1 r1 x1 q1 => ?_
  any_goals walk_at "po"
  cases x with
  | true => exact ha F0 H0 F1 H1 e1 σ r1 Q q1
  | false => exact hb F0 H0 F1 H1 e1 σ r1 Q q1
theorem se_andV {ta tb : TE} {a b : EM} (ha : SE C ta a) (hb : SE C tb b) : SE C (tAndV ta tb) (dAndV a b) := fun F0 H0 F H e σ rl Q q => by
  refine (st_test ha).go (g := fun c => if c = true then b else M.pure (false, T.bl false)) (Po := fun F r => PoE C F0 H0 F σ Q r) (Q := fun c H1 => if c = true then tb σ H1 Q else Q (.bl false) H1) rl ?_ ?_ ?_ q fun x F1 H1 e1 r1 x1 q1 => ?_
  any_goals walk_at "po"
  cases x with
  | true => exact hb F0 H0 F1 H1 e1 σ r1 Q q1
  | false => exact q1 (.bl false) F1 H1 r1 (Ex.refl F1) (.inl ⟨rfl, .bl⟩)
theorem se_orV {ta tb : TE} {a b : EM} (ha : SE C ta a) (hb : SE C tb b) : SE C (tOrV ta tb) (dOrV a b) := fun F0 H0 F H e σ rl Q q => by
  refine (st_test ha).go (g := fun c => if c = true then M.pure (false, T.bl true) else b) (Po := fun F r => PoE C F0 H0 F σ Q r) (Q := fun c H1 => if c = true then Q (.bl true) H1 else tb σ H1 Q) rl ?_ ?_ ?_ q fun x F1 H1 e1 r1 x1 q1 => ?_
  any_goals walk_at "po"
  cases x with
  | true => exact q1 (.bl true) F1 H1 r1 (Ex.refl F1) (.inl ⟨rfl, .bl⟩)
  | false => exact hb F0 H0 F1 H1 e1 σ r1 Q q1
theorem se_notV {ta : TE} {a : EM} (ha : SE C ta a) : SE C (tNotV ta) (dNotV a) := fun F0 H0 F H e σ rl Q q => by
  refine (st_test ha).go (g := fun c => M.pure (false, T.bl !c)) (Po := fun F r => PoE C F0 H0 F σ Q r) (Q := fun c H1 => Q (.bl !c) H1) rl ?_ ?_ ?_ q fun x F1 H1 e1 r1 x1 q1 => ?_
  any_goals walk_at "po"
  exact q1 (.bl !x) F1 H1 r1 (Ex.refl F1) (.inl ⟨rfl, .bl⟩)
end
end Tr

namespace Tr
open PySem PySem.Spec PyProof.Rows L2
open Evl (Ex)

/-! ### operations on trees -/
mutual
def toD : T → PyData
  | .non => .none
  | .bl b => .bool b
  | .int i => .int i
  | .str x => .str x
  | .lst xs => .list (toDs xs)
  | .tup xs => .tuple (toDs xs)
  | .scr ns => .list (ns.map PyData.int)
def toDs : List T → List PyData
  | [] => []
  | x :: xs => toD x :: toDs xs
end
def okD (x : T) : Bool := SeqAt.shaped (toD x)
def tEq (x y : T) : Option O := if okD x = true ∧ okD y = true then some (.v (.bl (PyData.eqv (toD x) (toD y)))) else none
def tNe (x y : T) : Option O := if okD x = true ∧ okD y = true then some (.v (.bl (!PyData.eqv (toD x) (toD y)))) else none
noncomputable def mulOk (i j : Int) : Bool := @decide _ (Classical.propDecidable (i.natAbs.log2 + j.natAbs.log2 < 1000000))
noncomputable def divOk (j : Int) : Bool := @decide _ (Classical.propDecidable (j ≠ 0 ∧ j.natAbs.log2 < 9000))
noncomputable def lenOk (n : Nat) : Bool := @decide _ (Classical.propDecidable (n ≤ 16777216))
noncomputable def rngOk (a b : Int) : Bool := @decide _ (Classical.propDecidable ((-4611686018427387904 ≤ a ∧ a < 4611686018427387904) ∧ (-4611686018427387904 ≤ b ∧ b < 4611686018427387904)))
theorem rngOk_of {a b : Int} (h : rngOk a b = true) : (-4611686018427387904 ≤ a ∧ a < 4611686018427387904) ∧ (-4611686018427387904 ≤ b ∧ b < 4611686018427387904) := @of_decide_eq_true _ (Classical.propDecidable _) h
theorem rngOk_mk {a b : Int} (h1 : -1000000000000 ≤ a) (h2 : a ≤ 1000000000000) (h3 : -1000000000000 ≤ b) (h4 : b ≤ 1000000000000) : rngOk a b = true := @decide_eq_true _ (Classical.propDecidable _) ⟨⟨by omega, by omega⟩, ⟨by omega, by omega⟩⟩
theorem lenOk_mk {n : Nat} (h : n ≤ 16777216) : lenOk n = true := @decide_eq_true _ (Classical.propDecidable _) h
theorem mulOk_mk {i j : Int} (h : i.natAbs.log2 + j.natAbs.log2 < 1000000) : mulOk i j = true := @decide_eq_true _ (Classical.propDecidable _) h
theorem divOk_mk {j : Int} (h : j ≠ 0 ∧ j.natAbs.log2 < 9000) : divOk j = true := @decide_eq_true _ (Classical.propDecidable _) h
theorem divOk_of {j : Int} (h : divOk j = true) : j ≠ 0 ∧ j.natAbs.log2 < 9000 := @of_decide_eq_true _ (Classical.propDecidable _) h
def bI (f : Int → Int → Option T) : T → T → Option O
  | .int i, .int j => (f i j).map .v
  | _, _ => none
noncomputable def tAdd : T → T → Option O
  | .int i, .int j => some (.v (.int (i + j)))
  | .lst a, .lst b => if lenOk (a.length + b.length) = true then some (.l (a ++ b)) else none
  | .str a, .str b => if lenOk (a.length + b.length) = true then some (.v (.str (a ++ b))) else none
  | _, _ => none
def tSub : T → T → Option O := bI fun i j => some (.int (i - j))
noncomputable def tMul : T → T → Option O
  | .int i, .int j => if mulOk i j = true then some (.v (.int (i * j))) else none
  | .lst a, .int k => if rngOk k 0 = true ∧ lenOk (a.length * k.toNat) = true then some (.l (List.replicate k.toNat a).flatten) else none
  | _, _ => none
noncomputable def tFdiv : T → T → Option O := bI fun i j => if divOk j = true then some (.int (i.fdiv j)) else none
def tMod : T → T → Option O := bI fun i j => if j ≠ 0 then some (.int (i.fmod j)) else none
def tPow : T → T → Option O := bI fun i j => if 0 ≤ j ∧ j ≤ 1000000 ∧ i.natAbs < 2 ^ 64 then some (.int (i ^ j.toNat)) else none
def tLt : T → T → Option O := bI fun i j => some (.bl (decide (i < j)))
def tLe : T → T → Option O := bI fun i j => some (.bl (decide (i ≤ j)))
def tGt : T → T → Option O := bI fun i j => some (.bl (decide (j < i)))
def tGe : T → T → Option O := bI fun i j => some (.bl (decide (j ≤ i)))
def tNegI : T → Option O
  | .int i => some (.v (.int (-i)))
  | _ => none
@[simp] def tIx : T → T → Option O
  | .lst xs, .int i => (atI xs i).map .v
  | .tup xs, .int i => (atI xs i).map .v
  | .scr ns, .int i => (atI ns i).map fun n => .v (.int n)
  | _, _ => none
def cut {α : Type} (xs : List α) (lo hi : Option Int) : List α := (xs.drop (HT.sIx xs.length 0 lo)).take (HT.sIx xs.length xs.length hi - HT.sIx xs.length 0 lo)
@[simp] def tSlc : T → Option Int → Option Int → Option O
  | .lst xs, lo, hi => some (.l (cut xs lo hi))
  | .scr ns, lo, hi => some (.l ((cut ns lo hi).map .int))
  | _, _, _ => none

@[simp] def tLen : List T → Option O
  | [.lst xs] => some (.v (.int xs.length))
  | [.tup xs] => some (.v (.int xs.length))
  | [.scr ns] => some (.v (.int ns.length))
  | _ => none
@[simp] def tAbs : List T → Option O
  | [.int i] => some (.v (.int (if i < 0 then -i else i)))
  | _ => none
@[simp] def tMax2 : List T → Option O
  | [.int i, .int j] => some (.v (.int (if j > i then j else i)))
  | _ => none
@[simp] def tMin2 : List T → Option O
  | [.int i, .int j] => some (.v (.int (if j < i then j else i)))
  | _ => none
def allInts : List T → Option (List Int)
  | [] => some []
  | .int i :: r => (allInts r).map (i :: ·)
  | _ => none
def allBools : List T → Option (List Bool)
  | [] => some []
  | .bl i :: r => (allBools r).map (i :: ·)
  | _ => none
def tSum : List T → Option O
  | [.lst xs] => (allInts xs).map fun ns => .v (.int ns.sum)
  | _ => none
def tAll : List T → Option O
  | [.lst xs] => (allBools xs).map fun ns => .v (.bl (ns.all id))
  | _ => none
def tAny : List T → Option O
  | [.lst xs] => (allBools xs).map fun ns => .v (.bl (ns.any id))
  | _ => none
@[simp] def tList : List T → Option O
  | [.lst xs] => some (.l xs)
  | [.tup xs] => some (.l xs)
  | [.scr ns] => some (.l (ns.map .int))
  | _ => none
def tyN : T → String
  | .non => "NoneType"
  | .bl _ => "bool"
  | .int _ => "int"
  | .str _ => "str"
  | .lst _ => "list"
  | .tup _ => "tuple"
  | .scr _ => "list"
def isB (tn : String) (x : T) : Option O := match x with
  | .scr _ => none
  | x => (kitB (tyN x) tn).map fun b => .v (.bl b)

section
variable {C : Ct} {X : Cx}
theorem OpR.or {f : Value → Value → Sem Value} {r r' : R2} (h : OpR X f r) (h' : OpR X f r') : OpR X f (fun x y H Q => r x y H Q ∨ r' x y H Q) := by
  intro pins s σ H x y v u Q I rx ry q
  rcases q with q | q
  · exact h pins s σ H x y v u Q I rx ry q
  · exact h' pins s σ H x y v u Q I rx ry q
def rOr (r r' : R2) : R2 := fun x y H Q => r x y H Q ∨ r' x y H Q
def rStrAdd : R2 := fun x y H Q => ∃ i j, x = .str i ∧ y = .str j ∧ i.length + j.length ≤ sizeLine ∧ Q (.str (i ++ j)) H
def rAdd3 : R2 := rOr (rI0 fun i j => .int (i + j)) (rOr rCat rStrAdd)
theorem op_add3 : OpR X (binaryOp .Add) rAdd3 := op_add.or (op_cat.or op_add_str)
theorem lenOk_le {n : Nat} (h : lenOk n = true) : n ≤ sizeLine := by
  have h1 : n ≤ 16777216 := @of_decide_eq_true _ (Classical.propDecidable _) h
  rw [sizeLine_eq]
  exact h1
theorem os_add : OpS C rAdd3 tAdd := by
  intro F H vx x vy y z Q ex rx ry h q
  unfold tAdd at h
  split at h
  · cases h
    cases rx
    cases ry
    exact .inl ⟨_, _, rfl, rfl, q _ .int⟩
  · split at h
    · rename_i hl
      cases h
      cases rx with
      | lst h1 r1 =>
        cases ry with
        | lst h2 r2 =>
          refine .inr (.inl ⟨_, _, _, _, rfl, rfl, ex _ _ h1, ex _ _ h2, ?_, fun p hp => q p _ hp (r1.append r2)⟩)
          rw [r1.length, r2.length]
          exact lenOk_le hl
    · cases h
  · split at h
    · rename_i hl
      cases h
      cases rx
      cases ry
      exact .inr (.inr ⟨_, _, rfl, rfl, lenOk_le hl, q _ .str⟩)
    · cases h
  · cases h
theorem os_bI {Cd : Int → Int → Prop} {g : Int → Int → V} {f : Int → Int → Option T} (h : ∀ i j t, f i j = some t → Cd i j ∧ ∀ F, Rep C.K F (g i j) t) : OpS C (rI Cd g) (bI f) := by
  intro F H vx x vy y z Q ex rx ry hz q
  unfold bI at hz
  split at hz
  · rename_i i j
    cases hf : f i j with
    | none =>
      rw [hf] at hz
      cases hz
    | some t =>
      rw [hf] at hz
      cases hz
      cases rx
      cases ry
      obtain ⟨h1, h2⟩ := h i j t hf
      exact ⟨i, j, rfl, rfl, h1, q _ (h2 F)⟩
  · cases hz
theorem os_bI0 {g : Int → Int → V} {f : Int → Int → Option T} (h : ∀ i j t, f i j = some t → ∀ F, Rep C.K F (g i j) t) : OpS C (rI0 g) (bI f) := by
  intro F H vx x vy y z Q ex rx ry hz q
  unfold bI at hz
  split at hz
  · rename_i i j
    cases hf : f i j with
    | none =>
      rw [hf] at hz
      cases hz
    | some t =>
      rw [hf] at hz
      cases hz
      cases rx
      cases ry
      exact ⟨i, j, rfl, rfl, q _ (h i j t hf F)⟩
  · cases hz
theorem os_sub : OpS C (rI0 fun i j => .int (i - j)) tSub := os_bI0 fun i j t h F => by
  cases h
  exact .int
theorem os_lt : OpS C (rI0 fun i j => .bl (decide (i < j))) tLt := os_bI0 fun i j t h F => by
  cases h
  exact .bl
theorem os_le : OpS C (rI0 fun i j => .bl (decide (i ≤ j))) tLe := os_bI0 fun i j t h F => by
  cases h
  exact .bl
theorem os_gt : OpS C (rI0 fun i j => .bl (decide (j < i))) tGt := os_bI0 fun i j t h F => by
  cases h
  exact .bl
theorem os_ge : OpS C (rI0 fun i j => .bl (decide (j ≤ i))) tGe := os_bI0 fun i j t h F => by
  cases h
  exact .bl
theorem os_mod : OpS C (rI (fun _ j => j ≠ 0) fun i j => .int (i.fmod j)) tMod := os_bI fun i j t h => by
  split at h
  · rename_i hj
    cases h
    exact ⟨hj, fun F => .int⟩
  · cases h
def CDivX (_ j : Int) : Prop := j ≠ 0 ∧ j.natAbs.log2 < 9000
theorem op_fdivX : OpR X (binaryOp .FloorDiv) (rI CDivX fun i j => .int (i.fdiv j)) := opI fun i j _ _ _ _ _ hc q => floordiv_int hc.1 q (.inl (PyProof.noPylong_of_log2 hc.2))
theorem os_fdiv : OpS C (rI CDivX fun i j => .int (i.fdiv j)) tFdiv := os_bI fun i j t h => by
  split at h
  · rename_i hj
    cases h
    exact ⟨divOk_of hj, fun F => .int⟩
  · cases h
theorem os_pow : OpS C (rI CPow fun i j => .int (i ^ j.toNat)) tPow := os_bI fun i j t h => by
  split at h
  · rename_i hj
    cases h
    exact ⟨hj, fun F => .int⟩
  · cases h
def rMul2 : R2 := rOr (rI CMulW fun i j => .int (i * j)) rRep
theorem op_mul2 : OpR X (binaryOp .Mult) rMul2 := op_mulW.or op_rep
theorem Reps.flat {K : PySem.W.Frag} {F : Hp} {vs : List V} {ts : List T} (h : Reps K F vs ts) : ∀ n : Nat, Reps K F (List.replicate n vs).flatten (List.replicate n ts).flatten
  | 0 => .nil
  | n + 1 => by
    rw [List.replicate_succ, List.replicate_succ, List.flatten_cons, List.flatten_cons]
    exact h.append (h.flat n)
theorem mulOk_of {i j : Int} (h : mulOk i j = true) : CMulW i j := (@of_decide_eq_true _ (Classical.propDecidable _) h : i.natAbs.log2 + j.natAbs.log2 < 1000000)
theorem os_mul : OpS C rMul2 tMul := by
  intro F H vx x vy y z Q ex rx ry h q
  unfold tMul at h
  split at h
  · split at h
    · rename_i hm
      cases h
      cases rx
      cases ry
      exact .inl ⟨_, _, rfl, rfl, mulOk_of hm, q _ .int⟩
    · cases h
  · split at h
    · rename_i k hk
      cases h
      cases ry
      cases rx with
      | lst h1 r1 =>
        have hk1 := rngOk_of hk.1
        refine .inr ⟨_, _, _, rfl, rfl, ex _ _ h1, by omega, by omega, ?_, fun p hp => q p _ hp (r1.flat _)⟩
        rw [r1.length]
        exact lenOk_le hk.2
    · cases h
  · cases h
theorem us_neg : UnS C (rU fun i => .int (-i)) tNegI := by
  intro F H vx x z Q ex rx h q
  unfold tNegI at h
  split at h
  · cases h
    cases rx
    exact ⟨_, rfl, q _ .int⟩
  · cases h
mutual
theorem Rep.dp {K : PySem.W.Frag} {F H : Hp} (x : Ex F H) : ∀ {v : V} {t : T}, Rep K F v t → Dp K H v (toD t)
  | _, _, .non => .non
  | _, _, .bl => .bl _
  | _, _, .int => .int _
  | _, _, .str => .str _
  | _, _, .lst h r => .lst (.inl (.inl (x _ _ h))) (Reps.dp x r)
  | _, _, .tup h r => .tup (.inl (.inl (x _ _ h))) (Reps.dp x r)
  | _, _, .scr (ns := ns) h => .lst (Evl.ex_l x h) (dp_ints ns)
theorem Reps.dp {K : PySem.W.Frag} {F H : Hp} (x : Ex F H) : ∀ {vs : List V} {ts : List T}, Reps K F vs ts → DpAll K H vs (toDs ts)
  | _, _, .nil => .nil
  | _, _, .cons a r => .cons (Rep.dp x a) (Reps.dp x r)
theorem dp_ints {K : PySem.W.Frag} {H : Hp} : ∀ (ns : List Int), DpAll K H (ns.map V.int) (ns.map PyData.int)
  | [] => .nil
  | n :: ns => .cons (.int n) (dp_ints ns)
end
theorem os_eq : OpS C (rEqD C.K) tEq := by
  intro F H vx x vy y z Q ex rx ry h q
  unfold tEq at h
  split at h
  · rename_i hs
    cases h
    exact ⟨_, _, rx.dp ex, ry.dp ex, hs.1, hs.2, q _ .bl⟩
  · cases h
theorem os_ne : OpS C (rNeD C.K) tNe := by
  intro F H vx x vy y z Q ex rx ry h q
  unfold tNe at h
  split at h
  · rename_i hs
    cases h
    exact ⟨_, _, rx.dp ex, ry.dp ex, hs.1, hs.2, q _ .bl⟩
  · cases h
theorem atI_at {α : Type} {xs : List α} {i : Int} {v : α} (h : atI xs i = some v) : ∃ j : Nat, ixN xs.length i = some j ∧ xs[j]? = some v := by
  unfold atI at h
  cases e : ixN xs.length i with
  | none =>
    rw [e] at h
    cases h
  | some j =>
    rw [e] at h
    exact ⟨j, rfl, h⟩
theorem Reps.atI {K : PySem.W.Frag} {F : Hp} {vs : List V} {ts : List T} {i : Int} {t : T} (r : Reps K F vs ts) (h : L2.atI ts i = some t) : ∃ v, L2.atI vs i = some v ∧ Rep K F v t := by
  obtain ⟨j, h1, h2⟩ := atI_at h
  obtain ⟨v, h3, h4⟩ := r.get h2
  refine ⟨v, ?_, h4⟩
  unfold L2.atI
  rw [r.length, h1]
  exact h3
/-- what is shared, or one's own list, read at its top -/
def Rep1 (K : PySem.W.Frag) (F H : Hp) (v : V) (x : T) : Prop := Rep K F v x ∨ ∃ p vs ts, v = .ref p ∧ x = .lst ts ∧ H p = some (.lst vs) ∧ Reps K F vs ts
theorem os_ix1 {F H : Hp} {vx : V} {x : T} {vy : V} {y : T} {z : O} {Q : VK} (ex : Ex F H) (rx : Rep1 C.K F H vx x) (ry : Rep C.K F vy y) (h : tIx x y = some z) (q : PoV C.K F H Q z) : rIx C.K vx vy H Q := by
  unfold tIx at h
  split at h
  · rename_i xs i
    cases ry
    cases ha : L2.atI xs i with
    | none =>
      rw [ha] at h
      cases h
    | some t =>
      rw [ha] at h
      cases h
      have go : ∀ p vs, H p = some (.lst vs) → Reps C.K F vs xs → rIx C.K (.ref p) (.int i) H Q := fun p vs hp r => by
        obtain ⟨v, h1, h2⟩ := r.atI ha
        exact .inl ⟨p, vs, i, v, rfl, rfl, .inl (.inl hp), h1, q v h2⟩
      rcases rx with rx | ⟨p, vs, ts, rfl, e, hp, r⟩
      · cases rx with
        | lst h1 r1 => exact go _ _ (ex _ _ h1) r1
      · cases e
        exact go p vs hp r
  · rename_i xs i
    cases ry
    cases ha : L2.atI xs i with
    | none =>
      rw [ha] at h
      cases h
    | some t =>
      rw [ha] at h
      cases h
      rcases rx with rx | ⟨p, vs, ts, rfl, e, hp, r⟩
      · cases rx with
        | tup h1 r1 =>
          obtain ⟨v, h2, h3⟩ := r1.atI ha
          exact .inr (.inl ⟨_, _, i, v, rfl, rfl, .inl (.inl (ex _ _ h1)), h2, q v h3⟩)
      · cases e
  · rename_i ns i
    cases ry
    cases ha : L2.atI ns i with
    | none =>
      rw [ha] at h
      cases h
    | some n =>
      rw [ha] at h
      cases h
      rcases rx with rx | ⟨p, vs, ts, rfl, e, hp, r⟩
      · cases rx with
        | scr h1 =>
          refine .inl ⟨_, _, i, .int n, rfl, rfl, Evl.ex_l ex h1, ?_, q _ .int⟩
          obtain ⟨j, h2, h3⟩ := atI_at ha
          unfold L2.atI
          rw [List.length_map, h2]
          show (ns.map V.int)[j]? = _
          rw [List.getElem?_map, h3]
          rfl
      · cases e
  · cases h
theorem os_ix : OpS C (rIx C.K) tIx := fun F H vx x vy y z Q ex rx ry h q => os_ix1 ex (.inl rx) ry h q
theorem Reps.cut {K : PySem.W.Frag} {F : Hp} {vs : List V} {ts : List T} (r : Reps K F vs ts) (lo hi : Option Int) : Reps K F (cutV vs lo hi) (Tr.cut ts lo hi) := by
  unfold cutV Tr.cut
  rw [r.length]
  exact (r.drop _).take _
theorem cut_map {α β : Type} (f : α → β) (xs : List α) (lo hi : Option Int) : Tr.cut (xs.map f) lo hi = (Tr.cut xs lo hi).map f := by
  unfold Tr.cut
  rw [List.length_map, ← List.map_drop, ← List.map_take]
theorem os_slc {F H : Hp} {vx : V} {x : T} {lo hi : Option Int} {z : O} {Q : VK} (ex : Ex F H) (rx : Rep C.K F vx x) (h : tSlc x lo hi = some z) (q : PoV C.K F H Q z) : rSlL C.K vx lo hi H Q := by
  cases rx with
  | lst h1 r1 =>
    cases h
    exact ⟨_, _, rfl, .inl (.inl (ex _ _ h1)), fun p hp => q p _ hp (r1.cut lo hi)⟩
  | @scr p ns h1 =>
    cases h
    refine ⟨_, _, rfl, Evl.ex_l ex h1, fun p hp => ?_⟩
    refine q p _ hp ?_
    show Reps C.K F (Tr.cut (ns.map V.int) lo hi) _
    rw [cut_map]
    exact Reps.of_ints _
  | _ => cases h
/-! ### built-ins -/
theorem len1 {F H : Hp} {v : V} {x : T} {z : O} {Q : VK} (ex : Ex F H) (rx : Rep1 C.K F H v x) (h : tLen [x] = some z) (q : PoV C.K F H Q z) : ∃ p ys, v = .ref p ∧ (SqL C.K H p ys ∨ SqT C.K H p ys) ∧ Q (.int ys.length) H := by
  unfold tLen at h
  split at h
  · rename_i xs e
    cases e
    cases h
    rcases rx with rx | ⟨p, vs, ts, rfl, e, hp, r⟩
    · cases rx with
      | lst h1 r1 => exact ⟨_, _, rfl, .inl (.inl (.inl (ex _ _ h1))), q _ (by rw [r1.length]; exact .int)⟩
    · cases e
      exact ⟨_, _, rfl, .inl (.inl (.inl hp)), q _ (by rw [r.length]; exact .int)⟩
  · rename_i xs e
    cases e
    cases h
    rcases rx with rx | ⟨p, vs, ts, rfl, e, hp, r⟩
    · cases rx with
      | tup h1 r1 => exact ⟨_, _, rfl, .inr (.inl (.inl (ex _ _ h1))), q _ (by rw [r1.length]; exact .int)⟩
    · cases e
  · rename_i xs e
    cases e
    cases h
    rcases rx with rx | ⟨p, vs, ts, rfl, e, hp, r⟩
    · cases rx with
      | scr h1 => exact ⟨_, _, rfl, .inl (Evl.ex_l ex h1), q _ (by rw [List.length_map]; exact .int)⟩
    · cases e
  · cases h
theorem bs_len : BS C (fun xs H Q => ∃ p ys, xs = [.ref p] ∧ (SqL C.K H p ys ∨ SqT C.K H p ys) ∧ Q (.int ys.length) H) tLen := by
  intro F H vs xs z Q ex rs h q
  cases rs with
  | nil => cases h
  | cons a r =>
    cases r with
    | nil =>
      obtain ⟨p, ys, rfl, h1, h2⟩ := len1 ex (.inl a) h q
      exact ⟨p, ys, rfl, h1, h2⟩
    | cons b r =>
      unfold tLen at h
      split at h <;> first | (rename_i e; cases e) | cases h
theorem bs_abs : BS C (fun xs H Q => ∃ i, xs = [.int i] ∧ Q (.int (if i < 0 then -i else i)) H) tAbs := by
  intro F H vs xs z Q ex rs h q
  unfold tAbs at h
  split at h
  · cases h
    cases rs with
    | cons a r =>
      cases r
      cases a
      exact ⟨_, rfl, q _ .int⟩
  · cases h
theorem bs_max2 : BS C (fun xs H Q => ∃ i j, xs = [.int i, .int j] ∧ Q (.int (if j > i then j else i)) H) tMax2 := by
  intro F H vs xs z Q ex rs h q
  unfold tMax2 at h
  split at h
  · cases h
    cases rs with
    | cons a r =>
      cases r with
      | cons b r =>
        cases r
        cases a
        cases b
        exact ⟨_, _, rfl, q _ .int⟩
  · cases h
theorem bs_min2 : BS C (fun xs H Q => ∃ i j, xs = [.int i, .int j] ∧ Q (.int (if j < i then j else i)) H) tMin2 := by
  intro F H vs xs z Q ex rs h q
  unfold tMin2 at h
  split at h
  · cases h
    cases rs with
    | cons a r =>
      cases r with
      | cons b r =>
        cases r
        cases a
        cases b
        exact ⟨_, _, rfl, q _ .int⟩
  · cases h
theorem allInts_eq : ∀ {ts : List T} {ns : List Int}, allInts ts = some ns → ts = ns.map T.int
  | [], ns, h => by cases h; rfl
  | t :: ts, ns, h => by
    unfold allInts at h
    split at h
    · cases h
      rename_i e
      cases e
    · rename_i i r e
      cases e
      cases hr : allInts ts with
      | none =>
        rw [hr] at h
        cases h
      | some ms =>
        rw [hr] at h
        cases h
        rw [allInts_eq hr]
        rfl
    · cases h
theorem allBools_eq : ∀ {ts : List T} {ns : List Bool}, allBools ts = some ns → ts = ns.map T.bl
  | [], ns, h => by cases h; rfl
  | t :: ts, ns, h => by
    unfold allBools at h
    split at h
    · cases h
      rename_i e
      cases e
    · rename_i i r e
      cases e
      cases hr : allBools ts with
      | none =>
        rw [hr] at h
        cases h
      | some ms =>
        rw [hr] at h
        cases h
        rw [allBools_eq hr]
        rfl
    · cases h
theorem allInts_map (ns : List Int) : allInts (ns.map T.int) = some ns := by
  induction ns with
  | nil => rfl
  | cons n ns ih =>
    show (allInts (ns.map T.int)).map (n :: ·) = _
    rw [ih]
    rfl
theorem allBools_map (ns : List Bool) : allBools (ns.map T.bl) = some ns := by
  induction ns with
  | nil => rfl
  | cons n ns ih =>
    show (allBools (ns.map T.bl)).map (n :: ·) = _
    rw [ih]
    rfl
theorem Reps.bools {K : PySem.W.Frag} {F : Hp} : ∀ {vs : List V} {ns : List Bool}, Reps K F vs (ns.map T.bl) → vs = ns.map V.bl
  | [], [], _ => rfl
  | _ :: _, [], h => by cases h
  | [], _ :: _, h => by cases h
  | v :: vs, n :: ns, h => by
    cases h with
    | cons a r =>
      cases a
      rw [r.bools]
      rfl
theorem bs_sum : BS C (rSum C.K) tSum := by
  intro F H vs xs z Q ex rs h q
  unfold tSum at h
  split at h
  · rename_i ts
    cases ha : allInts ts with
    | none =>
      rw [ha] at h
      cases h
    | some ns =>
      rw [ha] at h
      cases h
      rw [allInts_eq ha] at rs
      cases rs with
      | cons a r =>
        cases r
        cases a with
        | lst h1 r1 =>
          refine ⟨_, ns, rfl, .inl (.inl ?_), q _ .int⟩
          rw [← r1.ints]
          exact ex _ _ h1
  · cases h
theorem bs_all : BS C (rAll C.K) tAll := by
  intro F H vs xs z Q ex rs h q
  unfold tAll at h
  split at h
  · rename_i ts
    cases ha : allBools ts with
    | none =>
      rw [ha] at h
      cases h
    | some ns =>
      rw [ha] at h
      cases h
      rw [allBools_eq ha] at rs
      cases rs with
      | cons a r =>
        cases r
        cases a with
        | lst h1 r1 =>
          refine ⟨_, ns, rfl, .inl (.inl ?_), q _ .bl⟩
          rw [← r1.bools]
          exact ex _ _ h1
  · cases h
theorem bs_any : BS C (rAny C.K) tAny := by
  intro F H vs xs z Q ex rs h q
  unfold tAny at h
  split at h
  · rename_i ts
    cases ha : allBools ts with
    | none =>
      rw [ha] at h
      cases h
    | some ns =>
      rw [ha] at h
      cases h
      rw [allBools_eq ha] at rs
      cases rs with
      | cons a r =>
        cases r
        cases a with
        | lst h1 r1 =>
          refine ⟨_, ns, rfl, .inl (.inl ?_), q _ .bl⟩
          rw [← r1.bools]
          exact ex _ _ h1
  · cases h
def rListOf (K : PySem.W.Frag) : List V → Hp → VK → Prop := fun xs H Q => ∃ p ys, xs = [.ref p] ∧ (SqL K H p ys ∨ SqT K H p ys) ∧ ∀ l, H l = none → Q (.ref l) (upd H l (.lst ys))
theorem bs_list : BS C (rListOf C.K) tList := by
  intro F H vs xs z Q ex rs h q
  unfold tList at h
  split at h
  · cases h
    cases rs with
    | cons a r =>
      cases r
      cases a with
      | lst h1 r1 => exact ⟨_, _, rfl, .inl (.inl (.inl (ex _ _ h1))), fun l hl => q l _ hl r1⟩
  · cases h
    cases rs with
    | cons a r =>
      cases r
      cases a with
      | tup h1 r1 => exact ⟨_, _, rfl, .inr (.inl (.inl (ex _ _ h1))), fun l hl => q l _ hl r1⟩
  · rename_i ns
    cases h
    cases rs with
    | cons a r =>
      cases r
      cases a with
      | scr h1 => exact ⟨_, _, rfl, .inl (Evl.ex_l ex h1), fun l hl => q l _ hl (Reps.of_ints ns)⟩
  · cases h
theorem Rep.ty {F H : Hp} {v : V} {x : T} (ex : Ex F H) (r : Rep C.K F v x) (hx : ∀ ns, x ≠ .scr ns) : TyX C.K H v (.type (tyN x)) := by
  cases r with
  | non => exact .base .non
  | bl => exact .base (.bl _)
  | int => exact .base (.int _)
  | str => exact .base (.str _)
  | lst h1 r1 => exact .base (.lst (ex _ _ h1))
  | tup h1 r1 => exact .base (.tup (ex _ _ h1))
  | scr h1 => exact absurd rfl (hx _)
/-- isinstance(x, T), T a built-in type -/
def tIs (tn : String) (ta : TE) : TE := tCB (rIsi C.K) (tCons ta (tCons (tC (.ty tn)) tNil))
theorem se_is {tn : String} {ta : TE} {a : EM} (ha : SE C ta a) : SE C (tCB (rIsi C.K) (tCons ta (tCons (tC (.ty tn)) tNil))) (dUn (isB tn) a) := fun F0 H0 F H e σ rl Q q => by
  refine (se_fz ha).go (g := fun x => lift (isB tn x)) (Po := fun F r => PoE C F0 H0 F σ Q r) rl (fun _ _ _ x h => PoE.mono x h) (fun _ _ _ h => h) (fun _ h => h) q fun v x F1 H1 e1 r1 x1 rp q1 => ?_
  obtain ⟨z, hz, p⟩ := lift_of r1 q1
  unfold isB at hz
  split at hz
  · cases hz
  · rename_i hx
    cases hk : kitB (tyN x) tn with
    | none =>
      rw [hk] at hz
      cases hz
    | some b =>
      rw [hk] at hz
      cases hz
      exact ⟨v, .ty tn, _, _, b, rfl, .ty tn, rp.ty r1.sub hx, kit_ty hk, p _ .bl⟩
end
end Tr

namespace Tr
open PySem PySem.Spec PyProof.Rows L2
open Evl (Ex)

/-! ### slots stored -/
def getS (l : En) (i j : Nat) (x : Option (Bool × T)) : (l.set i x)[j]? = if j = i ∧ i < l.length then some x else l[j]? := by
  by_cases h : j = i
  · subst h
    by_cases k : j < l.length
    · rw [if_pos ⟨rfl, k⟩, List.getElem?_set_self k]
    · rw [if_neg fun z => k z.2, List.getElem?_eq_none (by rw [List.length_set]; omega), List.getElem?_eq_none (by omega)]
  · rw [if_neg fun z => h z.1, List.getElem?_set_ne (Ne.symm h)]
theorem getSv (l : L2.St) (i j : Nat) (x : Option V) : (l.set i x)[j]? = if j = i ∧ i < l.length then some x else l[j]? := by
  by_cases h : j = i
  · subst h
    by_cases k : j < l.length
    · rw [if_pos ⟨rfl, k⟩, List.getElem?_set_self k]
    · rw [if_neg fun z => k z.2, List.getElem?_eq_none (by rw [List.length_set]; omega), List.getElem?_eq_none (by omega)]
  · rw [if_neg fun z => h z.1, List.getElem?_set_ne (Ne.symm h)]
section
variable {K : PySem.W.Frag} {F0 H0 F H F' H' : Hp} {e e' : En} {σ : L2.St}
theorem Rl.set (r : Rl K F0 H0 F H e σ) {i : Nat} {v : V} {x : Bool × T} (h : Res K H0 F H e σ v x) : Rl K F0 H0 F H (e.set i (some x)) (σ.set i (some v)) := by
  have hl := r.len
  refine ⟨r.xF, r.xH, r.sub, r.old, by rw [List.length_set, List.length_set]; exact hl, fun j t hj => ?_, fun j t hj => ?_, fun j k t1 t2 p hj hk h1 h2 => ?_⟩
  · rw [getS] at hj
    rw [getSv]
    split at hj
    · rename_i c
      rw [if_pos ⟨c.1, by rw [← hl]; exact c.2⟩]
      cases hj
      rcases h with ⟨_, h⟩ | ⟨e1, _⟩
      · exact ⟨v, rfl, h⟩
      · cases e1
    · rename_i c
      rw [if_neg (by rw [← hl]; exact c)]
      exact r.shr j t hj
  · rw [getS] at hj
    rw [getSv]
    split at hj
    · rename_i c
      rw [if_pos ⟨c.1, by rw [← hl]; exact c.2⟩]
      cases hj
      rcases h with ⟨e1, _⟩ | ⟨_, p, vs, ts, h1, h2, h3, h4, h5, h6, _⟩
      · cases e1
      · exact ⟨p, vs, ts, by rw [h1], h2, h3, h4, h5, h6⟩
    · rename_i c
      rw [if_neg (by rw [← hl]; exact c)]
      exact r.own j t hj
  · rw [getS] at hj hk
    rw [getSv] at h1 h2
    have new : ∀ {m : Nat} {t : T}, x.1 = true → e[m]? = some (some (true, t)) → v = .ref p → σ[m]? ≠ some (some (.ref p)) := by
      intro m t hx hm hv
      rcases h with ⟨e1, _⟩ | ⟨_, q, vs, ts, g1, g2, g3, g4, g5, g6, g7⟩
      · rw [hx] at e1
        cases e1
      · rw [hv] at g1
        cases g1
        exact g7 m t hm
    by_cases cj : j = i ∧ i < e.length
    · by_cases ck : k = i ∧ i < e.length
      · rw [cj.1, ck.1]
      · rw [if_pos cj] at hj
        rw [if_neg ck] at hk
        rw [if_pos ⟨cj.1, by rw [← hl]; exact cj.2⟩] at h1
        rw [if_neg (by rw [← hl]; exact ck)] at h2
        cases hj
        exact absurd h2 (new rfl hk (Option.some.inj (Option.some.inj h1)))
    · by_cases ck : k = i ∧ i < e.length
      · rw [if_neg cj] at hj
        rw [if_pos ck] at hk
        rw [if_pos ⟨ck.1, by rw [← hl]; exact ck.2⟩] at h2
        rw [if_neg (by rw [← hl]; exact cj)] at h1
        cases hk
        exact absurd h1 (new rfl hj (Option.some.inj (Option.some.inj h2)))
      · rw [if_neg cj] at hj
        rw [if_neg ck] at hk
        rw [if_neg (by rw [← hl]; exact cj)] at h1
        rw [if_neg (by rw [← hl]; exact ck)] at h2
        exact r.dis j k t1 t2 p hj hk h1 h2
/-- one's own list changed -/
theorem Rl.mut (r : Rl K F0 H0 F H e σ) {i : Nat} {t : T} {p : Addr} {ws : List V} {us : List T} (h : e[i]? = some (some (true, t))) (hp : σ[i]? = some (some (.ref p))) (hr : Reps K F ws us) :
    Rl K F0 H0 F (upd H p (.lst ws)) (e.set i (some (true, .lst us))) σ := by
  obtain ⟨p', vs, ts, h1, h2, h3, h4, h5, h6⟩ := r.own i t h
  rw [hp] at h1
  cases h1
  have hi : i < e.length := by
    rcases Nat.lt_or_ge i e.length with q | q
    · exact q
    · rw [List.getElem?_eq_none q] at h
      cases h
  refine ⟨r.xF, fun a o ha => ?_, fun a o ha => ?_, r.old, by rw [List.length_set]; exact r.len, fun j t' hj => ?_, fun j t' hj => ?_, fun j k t1 t2 q hj hk g1 g2 => ?_⟩
  · rw [upd_ne (ne_of_none ha h3)]
    exact r.xH a o ha
  · rw [upd_ne (ne_of_none ha h4)]
    exact r.sub a o ha
  · rw [getS] at hj
    split at hj
    · cases hj
    · exact r.shr j t' hj
  · rw [getS] at hj
    split at hj
    · rename_i c
      cases hj
      rw [c.1]
      exact ⟨p, ws, us, hp, rfl, h3, h4, upd_same, hr⟩
    · rename_i c
      have ne : j ≠ i := fun z => c ⟨z, hi⟩
      obtain ⟨q, vs', ts', g1, g2, g3, g4, g5, g6⟩ := r.own j t' hj
      have nq : q ≠ p := fun z => ne (r.dis j i t' t p hj h (by rw [← z]; exact g1) hp)
      exact ⟨q, vs', ts', g1, g2, g3, g4, by rw [upd_ne nq]; exact g5, g6⟩
  · have un : ∀ (m : Nat) (tm : T), (e.set i (some (true, T.lst us)))[m]? = some (some (true, tm)) → ∃ tm', e[m]? = some (some (true, tm')) := fun m tm hm => by
      rw [getS] at hm
      split at hm
      · rename_i c
        rw [c.1]
        exact ⟨t, h⟩
      · exact ⟨tm, hm⟩
    obtain ⟨_, a1⟩ := un j t1 hj
    obtain ⟨_, a2⟩ := un k t2 hk
    exact r.dis j k _ _ q a1 a2 g1 g2
end

/-! ### statements -/
inductive Fl where
  | nx | rt (r : Bool × T) | bk | ct
abbrev SM := M Fl
structure Fin (K : PySem.W.Frag) (F0 H0 F H : Hp) : Prop where
  xF : Ex F0 F
  xH : Ex H0 H
  sub : Ex F H
  old : ∀ a, H0 a ≠ none → F a = F0 a
def Out (K : PySem.W.Frag) (H0 F H : Hp) (v : V) (r : Bool × T) : Prop :=
  (r.1 = false ∧ Rep K F v r.2) ∨ (r.1 = true ∧ ∃ p vs ts, v = .ref p ∧ r.2 = .lst ts ∧ H0 p = none ∧ F p = none ∧ H p = some (.lst vs) ∧ Reps K F vs ts)
theorem Rl.fin {K : PySem.W.Frag} {F0 H0 F H : Hp} {e : En} {σ : L2.St} (r : Rl K F0 H0 F H e σ) : Fin K F0 H0 F H := ⟨r.xF, r.xH, r.sub, r.old⟩
theorem Res.out {K : PySem.W.Frag} {H0 F H : Hp} {e : En} {σ : L2.St} {v : V} {r : Bool × T} (h : Res K H0 F H e σ v r) : Out K H0 F H v r := by
  rcases h with h | ⟨h1, p, vs, ts, g1, g2, g3, g4, g5, g6, _⟩
  · exact .inl h
  · exact .inr ⟨h1, p, vs, ts, g1, g2, g3, g4, g5, g6⟩
def PoS (C : Ct) (F0 H0 F : Hp) (D : Ends) : R Fl → Prop
  | .ok .nx e' => ∀ F' H' σ', Rl C.K F0 H0 F' H' e' σ' → Ex F F' → D.nx σ' H'
  | .ok .bk e' => ∀ F' H' σ', Rl C.K F0 H0 F' H' e' σ' → Ex F F' → D.bk σ' H'
  | .ok .ct e' => ∀ F' H' σ', Rl C.K F0 H0 F' H' e' σ' → Ex F F' → D.ct σ' H'
  | .ok (.rt r) _ => ∀ v F' H', Fin C.K F0 H0 F' H' → Ex F F' → Out C.K H0 F' H' v r → D.rt v H'
  | .ex c e' => ∀ F' H' σ', Rl C.K F0 H0 F' H' e' σ' → Ex F F' → C.W (C.cls c) none σ' H'
  | .bad => False
theorem PoS.mono {C : Ct} {F0 H0 F F1 : Hp} {D : Ends} (x : Ex F F1) : ∀ {r : R Fl}, PoS C F0 H0 F D r → PoS C F0 H0 F1 D r
  | .ok .nx _, h => fun F' H' σ' r x' => h F' H' σ' r (x.trans x')
  | .ok .bk _, h => fun F' H' σ' r x' => h F' H' σ' r (x.trans x')
  | .ok .ct _, h => fun F' H' σ' r x' => h F' H' σ' r (x.trans x')
  | .ok (.rt _) _, h => fun v F' H' r x' => h v F' H' r (x.trans x')
  | .ex _ _, h => fun F' H' σ' r x' => h F' H' σ' r (x.trans x')
  | .bad, h => h
def SS (C : Ct) (t : TS) (d : SM) : Prop := ∀ F0 H0 F H e σ, Rl C.K F0 H0 F H e σ → ∀ D, PoS C F0 H0 F D (d e) → t D σ H

/-- a target -/
abbrev GM := T → M Unit
def PoG (C : Ct) (F0 H0 F : Hp) (Q : L2.St → Hp → Prop) : R Unit → Prop
  | .ok _ e' => ∀ F' H' σ', Rl C.K F0 H0 F' H' e' σ' → Ex F F' → Q σ' H'
  | .ex c e' => ∀ F' H' σ', Rl C.K F0 H0 F' H' e' σ' → Ex F F' → C.W (C.cls c) none σ' H'
  | .bad => False
def SG (C : Ct) (g : TG) (d : GM) : Prop := ∀ F0 H0 F H e σ v t, Rl C.K F0 H0 F H e σ → Rep C.K F v t → ∀ Q, PoG C F0 H0 F Q (d t e) → g v σ H Q
def SGs (C : Ct) (g : TGs) (d : List T → M Unit) : Prop := ∀ F0 H0 F H e σ vs ts, Rl C.K F0 H0 F H e σ → Reps C.K F vs ts → ∀ Q, PoG C F0 H0 F Q (d ts e) → g vs σ H Q

@[simp] def stS (i : Nat) (x : Bool × T) : M Unit := fun e => .ok () (e.set i (some x))
@[simp] def gN (i : Nat) : GM := fun t => stS i (false, t)
@[simp] def gNils : List T → M Unit
  | [] => M.pure ()
  | _ => M.bad
@[simp] def gCon (a : GM) (r : List T → M Unit) : List T → M Unit
  | [] => M.bad
  | t :: ts => M.bind (a t) fun _ => r ts
@[simp] def gT (n : Nat) (r : List T → M Unit) : GM := fun t => match t with
  | .tup ts => if ts.length = n then r ts else M.bad
  | _ => M.bad
section
variable {C : Ct}
theorem sg_name {i : Nat} : SG C (gName i) (gN i) := fun F0 H0 F H e σ v t rl rp Q q => q F H _ (rl.set (.inl ⟨rfl, rp⟩)) (Ex.refl F)
theorem sgs_nil : SGs C gNil gNils := fun F0 H0 F H e σ vs ts rl rp Q q => by
  cases rp with
  | nil => exact ⟨rfl, q F H σ rl (Ex.refl F)⟩
  | cons a r => exact q.elim
theorem PoG.mono {F0 H0 F F1 : Hp} {Q : L2.St → Hp → Prop} (x : Ex F F1) : ∀ {r : R Unit}, PoG C F0 H0 F Q r → PoG C F0 H0 F1 Q r
  | .ok _ _, h => fun F' H' σ' r x' => h F' H' σ' r (x.trans x')
  | .ex _ _, h => fun F' H' σ' r x' => h F' H' σ' r (x.trans x')
  | .bad, h => h
theorem sgs_cons {a : TG} {r : TGs} {da : GM} {dr : List T → M Unit} (ha : SG C a da) (hr : SGs C r dr)
    (noex : ∀ t e c e', da t e ≠ .ex c e') : SGs C (gCons a r) (gCon da dr) := fun F0 H0 F H e σ vs ts rl rp Q q => by
  cases rp with
  | nil => exact q.elim
  | cons rv rr =>
    rename_i v t vs ts
    refine ⟨v, vs, rfl, ha F0 H0 F H e σ v t rl rv _ ?_⟩
    have q : PoG C F0 H0 F Q (M.bind (da t) (fun _ => dr ts) e) := q
    unfold M.bind at q
    cases hd : da t e with
    | ok u e' =>
      rw [hd] at q
      intro F' H' σ' rl' x'
      exact hr F0 H0 F' H' e' σ' vs ts rl' (rr.mono x') Q (PoG.mono x' q)
    | ex c e' => exact absurd hd (noex t e c e')
    | bad =>
      rw [hd] at q
      exact q.elim
theorem sg_tup {n : Nat} {g : TGs} {d : List T → M Unit} (h : SGs C g d) : SG C (gTup C.K n g) (gT n d) := fun F0 H0 F H e σ v t rl rp Q q => by
  unfold gT at q
  cases rp with
  | tup h1 r1 =>
    dsimp only at q
    split at q
    · rename_i hn
      exact ⟨_, _, rfl, .inl (.inl (rl.sub _ _ h1)), by rw [r1.length]; exact hn, h F0 H0 F H e σ _ _ rl r1 Q q⟩
    · exact q.elim
  | _ => exact q.elim
end

@[simp] def dSeq (a b : SM) : SM := fun e => (M.bind a fun f => match f with
  | .nx => b
  | f => M.pure f) e
@[simp] def dSkip : SM := fun e => (M.pure .nx) e
@[simp] def dAsg (i : Nat) (d : EM) : SM := fun e => (M.bind d fun r => M.bind (stS i r) fun _ => M.pure .nx) e
@[simp] def dAsgG (g : GM) (d : EM) : SM := fun e => (M.bind (fz d) fun t => M.bind (g t) fun _ => M.pure .nx) e
@[simp] def dPar (i j : Nat) (a b : EM) : SM := fun e => (M.bind (dArgs [a, b]) fun xs => match xs with
  | [x, y] => M.bind (stS i (false, x)) fun _ => M.bind (stS j (false, y)) fun _ => M.pure .nx
  | _ => M.bad) e
@[simp] def dIf (t : M Bool) (a b : SM) : SM := fun e => (M.bind t fun c => if c = true then a else b) e
@[simp] def loopF (k : SM) : Fl → SM := fun f => match f with
  | .nx => k
  | .ct => k
  | .bk => M.pure .nx
  | .rt r => M.pure (.rt r)
def whileF (t : M Bool) (body : SM) : Nat → En → R Fl
  | 0, _ => .bad
  | n + 1, e => (M.bind t fun c => if c = true then M.bind body (loopF (whileF t body n)) else M.pure .nx) e
@[simp] def forL (g : GM) (body : SM) : List T → En → R Fl
  | [], e => .ok .nx e
  | t :: r, e => (M.bind (g t) fun _ => M.bind body (loopF (forL g body r))) e
@[simp] def dFor (it : M (List T)) (g : GM) (body : SM) : SM := fun e => (M.bind it fun ts => forL g body ts) e
@[simp] def dRet (d : EM) : SM := fun e => (M.bind d fun r => M.pure (.rt r)) e
@[simp] def dRetV (i : Nat) : SM := fun e => match e[i]? with
  | some (some r) => .ok (.rt r) e
  | _ => .bad
@[simp] def dRetN : SM := fun e => (M.pure (.rt (false, .non))) e
@[simp] def dExpr (d : EM) : SM := fun e => (M.bind d fun _ => M.pure .nx) e
@[simp] def dBreak : SM := fun e => (M.pure .bk) e
@[simp] def dCont : SM := fun e => (M.pure .ct) e
@[simp] def isOwn (i : Nat) : M (List T) := fun e => match e[i]? with
  | some (some (true, .lst ts)) => .ok ts e
  | _ => .bad
@[simp] noncomputable def dApp (i : Nat) (d : EM) : SM := fun e => (M.bind (isOwn i) fun _ => M.bind (fz d) fun t => M.bind (isOwn i) fun ts => if lenOk (ts.length + 1) = true then M.bind (stS i (true, .lst (ts ++ [t]))) fun _ => M.pure .nx else M.bad) e
@[simp] def dSet (i : Nat) (ix d : EM) : SM := fun e => (M.bind (fz d) fun t => M.bind (isOwn i) fun _ => M.bind (fz ix) fun y => M.bind (isOwn i) fun ts => match y with
  | .int k => match ixN ts.length k with
    | some j => M.bind (stS i (true, .lst (ts.set j t))) fun _ => M.pure .nx
    | none => M.bad
  | _ => M.bad) e
@[simp] def slotI (i : Nat) : M Int := fun e => match e[i]? with
  | some (some (_, .int a)) => .ok a e
  | _ => .bad
@[simp] def dAug (f : Int → Int → Int) (i : Nat) (d : EM) : SM := fun e => (M.bind (slotI i) fun a => M.bind (fz d) fun y => match y with
  | .int b => M.bind (stS i (false, .int (f a b))) fun _ => M.pure .nx
  | _ => M.bad) e

section
variable {C : Ct}
/-- run, then go on -/
theorem SE.goS {t : TE} {d : EM} (h : SE C t d) {F0 H0 F H : Hp} {e : En} {σ : L2.St} (r : Rl C.K F0 H0 F H e σ) {g : Bool × T → SM} {D : Ends} {Q : VK} (q : PoS C F0 H0 F D (M.bind d g e))
    (k : ∀ v x F' H' e', Rl C.K F0 H0 F' H' e' σ → Ex F F' → Res C.K H0 F' H' e' σ v x → PoS C F0 H0 F' D (g x e') → Q v H') : t σ H Q := by
  refine h F0 H0 F H e σ r Q ?_
  unfold M.bind at q
  cases hd : d e with
  | ok x e' =>
    rw [hd] at q
    intro v F' H' r' x' rp
    exact k v x F' H' e' r' x' rp (PoS.mono x' q)
  | ex c e' =>
    rw [hd] at q
    exact fun F' H' r' x' => q F' H' σ r' x'
  | bad =>
    rw [hd] at q
    exact q.elim
theorem SF.goS {t : TE} {d : M T} (h : SF C t d) {F0 H0 F H : Hp} {e : En} {σ : L2.St} (r : Rl C.K F0 H0 F H e σ) {g : T → SM} {D : Ends} {Q : VK} (q : PoS C F0 H0 F D (M.bind d g e))
    (k : ∀ v x F' H' e', Rl C.K F0 H0 F' H' e' σ → Ex F F' → Rep C.K F' v x → PoS C F0 H0 F' D (g x e') → Q v H') : t σ H Q := by
  refine h F0 H0 F H e σ r Q ?_
  unfold M.bind at q
  cases hd : d e with
  | ok x e' =>
    rw [hd] at q
    intro v F' H' r' x' rp
    exact k v x F' H' e' r' x' rp (PoS.mono x' q)
  | ex c e' =>
    rw [hd] at q
    exact fun F' H' r' x' => q F' H' σ r' x'
  | bad =>
    rw [hd] at q
    exact q.elim
theorem SA.goS {t : TA} {d : M (List T)} (h : SA C t d) {F0 H0 F H : Hp} {e : En} {σ : L2.St} (r : Rl C.K F0 H0 F H e σ) {g : List T → SM} {D : Ends} {Q : List V → Hp → Prop} (q : PoS C F0 H0 F D (M.bind d g e))
    (k : ∀ v x F' H' e', Rl C.K F0 H0 F' H' e' σ → Ex F F' → Reps C.K F' v x → PoS C F0 H0 F' D (g x e') → Q v H') : t σ H Q := by
  refine h F0 H0 F H e σ r Q ?_
  unfold M.bind at q
  cases hd : d e with
  | ok x e' =>
    rw [hd] at q
    intro v F' H' r' x' rp
    exact k v x F' H' e' r' x' rp (PoS.mono x' q)
  | ex c e' =>
    rw [hd] at q
    exact fun F' H' r' x' => q F' H' σ r' x'
  | bad =>
    rw [hd] at q
    exact q.elim
theorem ST.goS {t : TT} {d : M Bool} (h : ST C t d) {F0 H0 F H : Hp} {e : En} {σ : L2.St} (r : Rl C.K F0 H0 F H e σ) {g : Bool → SM} {D : Ends} {Q : Bool → Hp → Prop} (q : PoS C F0 H0 F D (M.bind d g e))
    (k : ∀ x F' H' e', Rl C.K F0 H0 F' H' e' σ → Ex F F' → PoS C F0 H0 F' D (g x e') → Q x H') : t σ H Q := by
  refine h F0 H0 F H e σ r Q ?_
  unfold M.bind at q
  cases hd : d e with
  | ok x e' =>
    rw [hd] at q
    intro F' H' r' x'
    exact k x F' H' e' r' x' (PoS.mono x' q)
  | ex c e' =>
    rw [hd] at q
    exact fun F' H' r' x' => q F' H' σ r' x'
  | bad =>
    rw [hd] at q
    exact q.elim
theorem PoS.toS {F0 H0 F : Hp} {D : Ends} {g : Fl → SM} {d : SM} {e : En} (D1 : Ends) (q : PoS C F0 H0 F D (M.bind d g e))
    (hn : ∀ e' F' H' σ', Rl C.K F0 H0 F' H' e' σ' → Ex F F' → PoS C F0 H0 F' D (g .nx e') → D1.nx σ' H') (hb : ∀ e' F' H' σ', Rl C.K F0 H0 F' H' e' σ' → Ex F F' → PoS C F0 H0 F' D (g .bk e') → D1.bk σ' H')
    (hc : ∀ e' F' H' σ', Rl C.K F0 H0 F' H' e' σ' → Ex F F' → PoS C F0 H0 F' D (g .ct e') → D1.ct σ' H') (hr : ∀ r e' v F' H', Fin C.K F0 H0 F' H' → Ex F F' → Out C.K H0 F' H' v r → PoS C F0 H0 F' D (g (.rt r) e') → D1.rt v H') : PoS C F0 H0 F D1 (d e) := by
  unfold M.bind at q
  cases hd : d e with
  | ok x e' =>
    rw [hd] at q
    cases x with
    | nx => exact fun F' H' σ' r x => hn e' F' H' σ' r x (PoS.mono x q)
    | bk => exact fun F' H' σ' r x => hb e' F' H' σ' r x (PoS.mono x q)
    | ct => exact fun F' H' σ' r x => hc e' F' H' σ' r x (PoS.mono x q)
    | rt r => exact fun v F' H' f x o => hr r e' v F' H' f x o (PoS.mono x q)
  | ex c e' =>
    rw [hd] at q
    exact q
  | bad =>
    rw [hd] at q
    exact q.elim
theorem ss_seq {t u : TS} {a b : SM} (ha : SS C t a) (hb : SS C u b) : SS C (tSeq t u) (dSeq a b) := fun F0 H0 F H e σ rl D q => by
  refine ha F0 H0 F H e σ rl { D with nx := u D } (PoS.toS _ q (fun e' F' H' σ' r x q' => hb F0 H0 F' H' e' σ' r D q') (fun e' F' H' σ' r x q' => q' F' H' σ' r (Ex.refl _)) (fun e' F' H' σ' r x q' => q' F' H' σ' r (Ex.refl _))
    fun r e' v F' H' f x o q' => q' v F' H' f (Ex.refl _) o)
theorem ss_next : SS C tNext dSkip := fun F0 H0 F H e σ rl D q => q F H σ rl (Ex.refl F)
theorem ss_break : SS C tBreak dBreak := fun F0 H0 F H e σ rl D q => q F H σ rl (Ex.refl F)
theorem ss_cont : SS C tCont dCont := fun F0 H0 F H e σ rl D q => q F H σ rl (Ex.refl F)
theorem ss_asg {i : Nat} {t : TE} {d : EM} (h : SE C t d) : SS C (tAsg t (gName i)) (dAsg i d) := fun F0 H0 F H e σ rl D q =>
  h.goS (g := fun r => M.bind (stS i r) fun _ => M.pure .nx) (Q := fun x H1 => gName i x σ H1 D.nx) rl q fun v x F' H' e' r' x' rs q' => q' F' H' _ (r'.set rs) (Ex.refl _)
theorem ss_asgG {g : TG} {dg : GM} {t : TE} {d : EM} (h : SE C t d) (hg : SG C g dg) : SS C (tAsg t g) (dAsgG dg d) := fun F0 H0 F H e σ rl D q =>
  (se_fz h).goS (g := fun t => M.bind (dg t) fun _ => M.pure .nx) (Q := fun x H1 => g x σ H1 D.nx) rl q fun v x F' H' e' r' x' rp q' => by
    refine hg F0 H0 F' H' e' σ v x r' rp D.nx ?_
    unfold M.bind at q'
    cases hd : dg x e' with
    | ok u e2 =>
      rw [hd] at q'
      exact q'
    | ex c e2 =>
      rw [hd] at q'
      exact q'
    | bad =>
      rw [hd] at q'
      exact q'.elim
theorem ss_par {i j : Nat} {t : TA} {a b : EM} (h : SA C t (dArgs [a, b])) : SS C (tPar i j t) (dPar i j a b) := fun F0 H0 F H e σ rl D q => by
  refine h.goS (g := fun xs => match xs with
    | [x, y] => M.bind (stS i (false, x)) fun _ => M.bind (stS j (false, y)) fun _ => M.pure .nx
    | _ => M.bad) (Q := fun vs H1 => ∃ v w, vs = [v, w] ∧ D.nx ((σ.set i (some v)).set j (some w)) H1) rl q fun vs xs F' H' e' r' x' rs q' => ?_
  cases rs with
  | nil => exact q'.elim
  | cons r1 rs =>
    cases rs with
    | nil => exact q'.elim
    | cons r2 rs =>
      cases rs with
      | nil => exact ⟨_, _, rfl, q' F' H' _ ((r'.set (.inl ⟨rfl, r1⟩)).set (.inl ⟨rfl, r2⟩)) (Ex.refl _)⟩
      | cons _ _ => exact q'.elim
theorem ss_if {t : TT} {u w : TS} {d : M Bool} {a b : SM} (h : ST C t d) (ha : SS C u a) (hb : SS C w b) : SS C (tIfS t u w) (dIf d a b) := fun F0 H0 F H e σ rl D q =>
  h.goS (g := fun c => if c = true then a else b) (Q := fun c H1 => if c = true then u D σ H1 else w D σ H1) rl q fun x F' H' e' r' x' q' => by
    cases x with
    | true => exact ha F0 H0 F' H' e' σ r' D q'
    | false => exact hb F0 H0 F' H' e' σ r' D q'
theorem ss_ret {t : TE} {d : EM} (h : SE C t d) : SS C (tRet t) (dRet d) := fun F0 H0 F H e σ rl D q =>
  h.goS (g := fun r => M.pure (.rt r)) (Q := D.rt) rl q fun v x F' H' e' r' x' rs q' => q' v F' H' r'.fin (Ex.refl _) rs.out
theorem ss_retV {i : Nat} : SS C (tRet (tVar i)) (dRetV i) := fun F0 H0 F H e σ rl D q => by
  unfold dRetV at q
  split at q
  · rename_i r h
    obtain ⟨b, t⟩ := r
    cases b with
    | false =>
      obtain ⟨v, h1, h2⟩ := rl.shr i t h
      exact ⟨v, h1, q v F H rl.fin (Ex.refl F) (.inl ⟨rfl, h2⟩)⟩
    | true =>
      obtain ⟨p, vs, ts, h1, h2, h3, h4, h5, h6⟩ := rl.own i t h
      exact ⟨.ref p, h1, q _ F H rl.fin (Ex.refl F) (.inr ⟨rfl, p, vs, ts, rfl, h2, h3, h4, h5, h6⟩)⟩
  · exact q.elim
theorem ss_retN : SS C tRetN dRetN := fun F0 H0 F H e σ rl D q => q .non F H rl.fin (Ex.refl F) (.inl ⟨rfl, .non⟩)
theorem ss_expr {t : TE} {d : EM} (h : SE C t d) : SS C (tDrop t) (dExpr d) := fun F0 H0 F H e σ rl D q =>
  h.goS (g := fun _ => M.pure .nx) (Q := fun _ H1 => D.nx σ H1) rl q fun v x F' H' e' r' x' rs q' => q' F' H' σ r' (Ex.refl _)
theorem isOwn_go {F0 H0 F H : Hp} {e : En} {σ : L2.St} (rl : Rl C.K F0 H0 F H e σ) {i : Nat} {g : List T → SM} {D : Ends} (q : PoS C F0 H0 F D (M.bind (isOwn i) g e)) :
    ∃ p vs ts, e[i]? = some (some (true, .lst ts)) ∧ σ[i]? = some (some (.ref p)) ∧ H p = some (.lst vs) ∧ Reps C.K F vs ts ∧ PoS C F0 H0 F D (g ts e) := by
  unfold M.bind isOwn at q
  cases h : e[i]? with
  | none =>
    rw [h] at q
    exact q.elim
  | some o =>
    cases o with
    | none =>
      rw [h] at q
      exact q.elim
    | some x =>
      obtain ⟨b, t⟩ := x
      cases b with
      | false =>
        rw [h] at q
        exact q.elim
      | true =>
        obtain ⟨p, vs, ts, h1, h2, h3, h4, h5, h6⟩ := rl.own i t h
        subst h2
        rw [h] at q
        exact ⟨p, vs, ts, rfl, h1, h5, h6, q⟩
theorem ss_app {i : Nat} {t : TE} {d : EM} (h : SE C t d) : SS C (tDrop (tBM C.K "list" rAppend (tVar i) (tCons t tNil))) (dApp i d) := fun F0 H0 F H e σ rl D q => by
  obtain ⟨p, vs, ts, _, h2, h3, h4, q⟩ := isOwn_go rl q
  refine ⟨.ref p, h2, .inl ⟨rfl, vs, .inl (.inl h3)⟩, ?_⟩
  refine (se_fz h).goS (g := fun t => M.bind (isOwn i) fun ts => if lenOk (ts.length + 1) = true then M.bind (stS i (true, .lst (ts ++ [t]))) fun _ => M.pure .nx else M.bad) (Q := fun x H1 => tNil σ H1 fun xs H2 => rAppend (.ref p) (x :: xs) H2 fun _ H3 => D.nx σ H3) rl q fun v x F' H' e' r' x' rp q' => ?_
  obtain ⟨p', vs', ts', g1, g2, g3, g4, q'⟩ := isOwn_go r' q'
  rw [h2] at g2
  cases g2
  split at q'
  · rename_i hl
    have hz : vs'.length < sizeLine := by
      rw [g4.length]
      have := lenOk_le hl
      omega
    exact ⟨p, vs', v, rfl, rfl, g3, hz, q' F' _ σ (r'.mut g1 h2 (g4.append (.cons rp .nil))) (Ex.refl _)⟩
  · exact q'.elim
theorem ss_set {i : Nat} {t ti : TE} {d di : EM} (h : SE C t d) (hi : SE C ti di) : SS C (tAsg t (gSub (tVar i) ti rSetL)) (dSet i di d) := fun F0 H0 F H e σ rl D q => by
  refine (se_fz h).goS (Q := fun x H1 => gSub (tVar i) ti rSetL x σ H1 D.nx) rl q fun v x F' H' e' r' x' rp q' => ?_
  obtain ⟨p0, vs0, ts0, _, ho, _, _, q'⟩ := isOwn_go r' q'
  refine ⟨.ref p0, ho, ?_⟩
  refine (se_fz hi).goS (Q := fun iv H2 => rSetL (.ref p0) iv v H2 fun H3 => D.nx σ H3) r' q' fun w y F2 H2 e2 r2 x2 rp2 q2 => ?_
  obtain ⟨p, vs, ts, g1, g2, g3, g4, q2⟩ := isOwn_go r2 q2
  rw [ho] at g2
  cases g2
  cases rp2 with
  | @int k =>
    have q2 : PoS C F0 H0 F2 D ((match ixN ts.length k with
      | some j => M.bind (stS i (true, .lst (ts.set j x))) fun _ => M.pure .nx
      | none => M.bad : SM) e2) := q2
    cases hk : ixN ts.length k with
    | none =>
      rw [hk] at q2
      exact q2.elim
    | some j =>
      rw [hk] at q2
      exact ⟨p0, vs, k, j, rfl, rfl, g3, by rw [g4.length]; exact hk, q2 F2 _ σ (r2.mut g1 ho (g4.set j (rp.mono x2))) (Ex.refl _)⟩
  | _ => exact q2.elim
end
end Tr

namespace Tr
open PySem PySem.Spec PyProof.Rows L2
open Evl (Ex)

/-! ### x += e, while -/
section
variable {C : Ct}
theorem slotI_go {F0 H0 F H : Hp} {e : En} {σ : L2.St} (rl : Rl C.K F0 H0 F H e σ) {i : Nat} {g : Int → SM} {D : Ends} (q : PoS C F0 H0 F D (M.bind (slotI i) g e)) : ∃ a, σ[i]? = some (some (.int a)) ∧ PoS C F0 H0 F D (g a e) := by
  unfold M.bind slotI at q
  cases h : e[i]? with
  | none =>
    rw [h] at q
    exact q.elim
  | some o =>
    cases o with
    | none =>
      rw [h] at q
      exact q.elim
    | some x =>
      obtain ⟨b, t⟩ := x
      cases t with
      | int a =>
        rw [h] at q
        cases b with
        | false =>
          obtain ⟨v, h1, h2⟩ := rl.shr i _ h
          cases h2
          exact ⟨a, h1, q⟩
        | true =>
          obtain ⟨p, vs, ts, h1, h2, _⟩ := rl.own i _ h
          cases h2
      | _ =>
        rw [h] at q
        exact q.elim
theorem ss_aug {i : Nat} {f : Int → Int → Int} {t : TE} {d : EM} (h : SE C t d) : SS C (tAug i t (ipI f)) (dAug f i d) := fun F0 H0 F H e σ rl D q => by
  obtain ⟨a, h1, q⟩ := slotI_go rl q
  refine ⟨.int a, h1, ?_⟩
  refine (se_fz h).goS (Q := fun y H1 => ipI f (.int a) y H1 fun z H2 => D.nx (σ.set i (some z)) H2) rl q fun v x F' H' e' r' x' rp q' => ?_
  cases rp with
  | @int b => exact ⟨a, b, rfl, rfl, q' F' H' _ (r'.set (.inl ⟨rfl, .int⟩)) (Ex.refl _)⟩
  | _ => exact q'.elim
theorem ss_while {N : Nat} {t : TT} {u : TS} {d : M Bool} {b : SM} (h : ST C t d) (hb : SS C u b) : SS C (tWhile t u) (whileF d b N) := fun F0 H0 F H e σ rl D q => by
  refine ⟨fun m σ' H' => ∃ F' e', Rl C.K F0 H0 F' H' e' σ' ∧ PoS C F0 H0 F' D (whileF d b m e'), ⟨N, F, e, rl, q⟩, ?_⟩
  rintro m σ1 H1 ⟨F1, e1, r1, q1⟩
  cases m with
  | zero => exact q1.elim
  | succ m =>
    refine h.goS (g := fun c => if c = true then M.bind b (loopF (whileF d b m)) else M.pure .nx) r1 q1 fun x F2 H2 e2 r2 x2 q2 => ?_
    cases x with
    | false => exact q2 F2 H2 σ1 r2 (Ex.refl _)
    | true =>
      refine ⟨fun σ' H' => ∃ F' e', Rl C.K F0 H0 F' H' e' σ' ∧ PoS C F0 H0 F' D (whileF d b m e'), fun σ' H' hw => ⟨m, Nat.lt_succ_self m, hw⟩, ?_⟩
      refine hb F0 H0 F2 H2 e2 σ1 r2 _ (PoS.toS (D := D) (g := loopF (whileF d b m)) _ q2 (fun e' F' H' σ' r x q' => ⟨F', e', r, q'⟩) (fun e' F' H' σ' r x q' => q' F' H' σ' r (Ex.refl _)) (fun e' F' H' σ' r x q' => ⟨F', e', r, q'⟩)
        fun r e' v F' H' f x o q' => q' v F' H' f (Ex.refl _) o)
end

/-! ### what is walked -/
structure Wk (K : PySem.W.Frag) (J : It) (F : Hp) (ts : List T) : Prop where
  goes : ∀ i F2 H2, i < ts.length → Ex F F2 → Ex F2 H2 → J.go i H2
  stops : ∀ F2 H2, Ex F F2 → Ex F2 H2 → J.stop ts.length H2
  yields : ∀ i F2 H2 x H3, i < ts.length → Ex F F2 → Ex F2 H2 → J.yld i H2 x H3 → ∃ t, ts[i]? = some t ∧ ((H3 = H2 ∧ Rep K F2 x t) ∨ ∃ p xs us, x = .ref p ∧ H2 p = none ∧ H3 = upd H2 p (.tup xs) ∧ t = .tup us ∧ Reps K F2 xs us)
theorem Wk.got {K : PySem.W.Frag} {J : It} {F : Hp} {ts : List T} (w : Wk K J F ts) {F0 H0 F2 H2 H3 : Hp} {e : En} {σ : L2.St} {i : Nat} {x : V} (r : Rl K F0 H0 F2 H2 e σ) (hi : i < ts.length) (xF : Ex F F2) (y : J.yld i H2 x H3) :
    ∃ t F3, ts[i]? = some t ∧ Rl K F0 H0 F3 H3 e σ ∧ Ex F2 F3 ∧ Rep K F3 x t := by
  obtain ⟨t, ht, h⟩ := w.yields i F2 H2 x H3 hi xF r.sub y
  rcases h with ⟨rfl, rp⟩ | ⟨p, xs, us, rfl, hp, rfl, rfl, rs⟩
  · exact ⟨t, F2, ht, r, Ex.refl _, rp⟩
  · have nF := r.newF hp
    exact ⟨_, upd F2 p (.tup xs), ht, (r.grow hp).still nF.2 nF.1 upd_same (r.ownNe hp), Ex.new nF.1, .tup upd_same (rs.mono (Ex.new nF.1))⟩
def PoI (C : Ct) (F0 H0 F : Hp) (σ : L2.St) (Q : It → Hp → Prop) : R (List T) → Prop
  | .ok ts e' => ∀ J F' H', Rl C.K F0 H0 F' H' e' σ → Ex F F' → Wk C.K J F' ts → Q J H'
  | .ex c e' => ∀ F' H', Rl C.K F0 H0 F' H' e' σ → Ex F F' → C.W (C.cls c) none σ H'
  | .bad => False
theorem PoI.mono {C : Ct} {F0 H0 F F1 : Hp} {σ : L2.St} {Q : It → Hp → Prop} (x : Ex F F1) : ∀ {r : R (List T)}, PoI C F0 H0 F σ Q r → PoI C F0 H0 F1 σ Q r
  | .ok _ _, h => fun J F' H' r x' w => h J F' H' r (x.trans x') w
  | .ex _ _, h => fun F' H' r x' => h F' H' r (x.trans x')
  | .bad, h => h
def SI (C : Ct) (wi : TI) (d : M (List T)) : Prop := ∀ F0 H0 F H e σ, Rl C.K F0 H0 F H e σ → ∀ Q, PoI C F0 H0 F σ Q (d e) → wi σ H Q
/-- what a value is walked as -/
@[simp] def itms : T → Option (List T)
  | .lst ts => some ts
  | .tup ts => some ts
  | .scr ns => some (ns.map .int)
  | _ => none
@[simp] def dIt (d : EM) : M (List T) := fun e => (M.bind (fz d) fun x => M.opt (itms x)) e
def rngL (lo : Int) (n : Nat) : List T := (List.range n).map fun i => .int (lo + (i : Nat))
@[simp] noncomputable def rng1 : List T → Option (List T)
  | [.int n] => if rngOk n 0 = true then some (rngL 0 n.toNat) else none
  | _ => none
@[simp] noncomputable def rng2 : List T → Option (List T)
  | [.int lo, .int n] => if rngOk lo n = true then some (rngL lo (n - lo).toNat) else none
  | _ => none
@[simp] def lItems : T → Option (List T)
  | .lst ts => some ts
  | .scr ns => some (ns.map .int)
  | _ => none
def zipT : List T → List T → List T
  | x :: xs, y :: ys => .tup [x, y] :: zipT xs ys
  | _, _ => []
@[simp] def zip2 : List T → Option (List T)
  | [a, b] => match lItems a, lItems b with
    | some xs, some ys => some (zipT xs ys)
    | _, _ => none
  | _ => none
def enumT (n : Nat) : List T → List T
  | x :: xs => .tup [.int (n : Nat), x] :: enumT (n + 1) xs
  | [] => []
@[simp] def enum1 : List T → Option (List T)
  | [a] => (lItems a).map (enumT 0)
  | _ => none
@[simp] def dItA (f : List T → Option (List T)) (as : List EM) : M (List T) := fun e => (M.bind (dArgs as) fun xs => M.opt (f xs)) e

section
variable {C : Ct} {K : PySem.W.Frag}
theorem wk_list {F : Hp} {a : Addr} {vs : List V} {ts : List T} (h : SqL K F a vs) (r : Reps K F vs ts) : Wk K (Itl K a) F ts where
  goes := fun i F2 H2 hi x1 x2 => by
    have q := Evl.ex_l (x1.trans x2) h
    exact ⟨vs, vs[i]'(by rw [r.length]; exact hi), q, by simp⟩
  stops := fun F2 H2 x1 x2 => ⟨vs, Evl.ex_l (x1.trans x2) h, by rw [r.length]; exact Nat.le_refl _⟩
  yields := fun i F2 H2 x H3 hi x1 x2 y => by
    obtain ⟨y1, y2⟩ := y
    have hx := y2 vs (Evl.ex_l (x1.trans x2) h)
    obtain ⟨t, ht, rp⟩ := r.get' hx
    exact ⟨t, ht, .inl ⟨y1, rp.mono x1⟩⟩
theorem wk_tup {F : Hp} {a : Addr} {vs : List V} {ts : List T} (h : SqT K F a vs) (r : Reps K F vs ts) : Wk K (Itt K a) F ts where
  goes := fun i F2 H2 hi x1 x2 => by
    have q := Evl.ex_t (x1.trans x2) h
    exact ⟨vs, vs[i]'(by rw [r.length]; exact hi), q, by simp⟩
  stops := fun F2 H2 x1 x2 => ⟨vs, Evl.ex_t (x1.trans x2) h, by rw [r.length]; exact Nat.le_refl _⟩
  yields := fun i F2 H2 x H3 hi x1 x2 y => by
    obtain ⟨y1, y2⟩ := y
    have hx := y2 vs (Evl.ex_t (x1.trans x2) h)
    obtain ⟨t, ht, rp⟩ := r.get' hx
    exact ⟨t, ht, .inl ⟨y1, rp.mono x1⟩⟩
theorem wk_rng {F : Hp} {lo : Int} {n : Nat} : Wk K (Itr lo n) F (rngL lo n) where
  goes := fun i F2 H2 hi x1 x2 => by
    unfold rngL at hi
    rw [List.length_map, List.length_range] at hi
    exact hi
  stops := fun F2 H2 x1 x2 => by
    show n ≤ (rngL lo n).length
    unfold rngL
    rw [List.length_map, List.length_range]
    exact Nat.le_refl _
  yields := fun i F2 H2 x H3 hi x1 x2 y => by
    unfold rngL at hi
    rw [List.length_map, List.length_range] at hi
    obtain ⟨y1, rfl⟩ := y
    refine ⟨.int (lo + (i : Nat)), ?_, .inl ⟨y1, .int⟩⟩
    unfold rngL
    rw [List.getElem?_map, List.getElem?_range hi]
    rfl
theorem zipT_len : ∀ (xs ys : List T), (zipT xs ys).length = min xs.length ys.length
  | [], _ => by simp [zipT]
  | _ :: _, [] => by simp [zipT]
  | x :: xs, y :: ys => by
    show (zipT xs ys).length + 1 = _
    rw [zipT_len xs ys]
    simp only [List.length_cons]
    omega
theorem zipT_get : ∀ {xs ys : List T} {i : Nat} {x y : T}, xs[i]? = some x → ys[i]? = some y → (zipT xs ys)[i]? = some (.tup [x, y])
  | [], _, _, _, _, h, _ => by simp at h
  | _ :: _, [], _, _, _, _, h => by simp at h
  | x :: xs, y :: ys, 0, _, _, h, h' => by
    cases Option.some.inj h
    cases Option.some.inj h'
    rfl
  | x :: xs, y :: ys, i + 1, _, _, h, h' => zipT_get (xs := xs) (ys := ys) (i := i) h h'
theorem wk_zip {F : Hp} {a b : Addr} {vs ws : List V} {ts us : List T} (h : SqL K F a vs) (r : Reps K F vs ts) (h' : SqL K F b ws) (r' : Reps K F ws us) : Wk K (Itz K a b) F (zipT ts us) where
  goes := fun i F2 H2 hi x1 x2 => by
    rw [zipT_len] at hi
    have l1 := r.length
    have l2 := r'.length
    exact ⟨vs, ws, vs[i]'(by omega), ws[i]'(by omega), Evl.ex_l (x1.trans x2) h, Evl.ex_l (x1.trans x2) h', by simp, by simp⟩
  stops := fun F2 H2 x1 x2 => by
    have l1 := r.length
    have l2 := r'.length
    refine ⟨vs, ws, Evl.ex_l (x1.trans x2) h, Evl.ex_l (x1.trans x2) h', ?_⟩
    rw [zipT_len]
    omega
  yields := fun i F2 H2 x H3 hi x1 x2 y => by
    obtain ⟨p, x, z, rfl, hp, rfl, y1, y2⟩ := y
    obtain ⟨t, ht, rp⟩ := r.get' (y1 vs (Evl.ex_l (x1.trans x2) h))
    obtain ⟨u, hu, rp2⟩ := r'.get' (y2 ws (Evl.ex_l (x1.trans x2) h'))
    exact ⟨_, zipT_get ht hu, .inr ⟨p, _, _, rfl, hp, rfl, rfl, .cons (rp.mono x1) (.cons (rp2.mono x1) .nil)⟩⟩
theorem enumT_len : ∀ (n : Nat) (xs : List T), (enumT n xs).length = xs.length
  | _, [] => rfl
  | n, x :: xs => by
    show (enumT (n + 1) xs).length + 1 = _
    rw [enumT_len (n + 1) xs]
    rfl
theorem enumT_get : ∀ {n : Nat} {xs : List T} {i : Nat} {x : T}, xs[i]? = some x → (enumT n xs)[i]? = some (.tup [.int ((n + i : Nat) : Int), x])
  | _, [], _, _, h => by simp at h
  | n, x :: xs, 0, _, h => by
    cases Option.some.inj h
    rfl
  | n, x :: xs, i + 1, _, h => by
    have q := enumT_get (n := n + 1) (xs := xs) (i := i) h
    have e : n + 1 + i = n + (i + 1) := by omega
    rw [e] at q
    exact q
theorem wk_enum {F : Hp} {a : Addr} {vs : List V} {ts : List T} (h : SqL K F a vs) (r : Reps K F vs ts) : Wk K (Ite K a) F (enumT 0 ts) where
  goes := fun i F2 H2 hi x1 x2 => by
    rw [enumT_len] at hi
    exact ⟨vs, vs[i]'(by rw [r.length]; exact hi), Evl.ex_l (x1.trans x2) h, by simp⟩
  stops := fun F2 H2 x1 x2 => ⟨vs, Evl.ex_l (x1.trans x2) h, by rw [enumT_len, r.length]; exact Nat.le_refl _⟩
  yields := fun i F2 H2 x H3 hi x1 x2 y => by
    obtain ⟨p, x, rfl, hp, rfl, y1⟩ := y
    obtain ⟨t, ht, rp⟩ := r.get' (y1 vs (Evl.ex_l (x1.trans x2) h))
    have q := enumT_get (n := 0) ht
    rw [Nat.zero_add] at q
    exact ⟨_, q, .inr ⟨p, _, _, rfl, hp, rfl, rfl, .cons .int (.cons (rp.mono x1) .nil)⟩⟩
theorem lItems_of {F : Hp} {v : V} {x : T} {ts : List T} (rp : Rep K F v x) (h : lItems x = some ts) : ∃ a vs, v = .ref a ∧ SqL K F a vs ∧ Reps K F vs ts := by
  cases rp with
  | lst h1 r1 =>
    cases h
    exact ⟨_, _, rfl, .inl (.inl h1), r1⟩
  | @scr p ns h1 =>
    cases h
    exact ⟨_, _, rfl, h1, Reps.of_ints ns⟩
  | _ => cases h
/-- a list or a tuple -/
def iSeq (K : PySem.W.Frag) (tl : TE) : TI := fun σ H R => tl σ H fun x H1 => ∃ a, x = .ref a ∧ (((∃ xs, SqL K H1 a xs) ∧ R (Itl K a) H1) ∨ ((∃ xs, SqT K H1 a xs) ∧ R (Itt K a) H1))
theorem si_it {tl : TE} {d : EM} (h : SE C tl d) : SI C (iSeq C.K tl) (dIt d) := fun F0 H0 F H e σ rl Q q => by
  refine (se_fz h).go (g := fun x => M.opt (itms x)) (Po := fun F r => PoI C F0 H0 F σ Q r) rl (fun _ _ _ x h => PoI.mono x h) (fun _ _ _ h => h) (fun _ h => h) q fun v x F1 H1 e1 r1 x1 rp q1 => ?_
  have ex := r1.sub
  cases rp with
  | lst h1 rs => exact ⟨_, rfl, .inl ⟨⟨_, .inl (.inl (ex _ _ h1))⟩, q1 _ F1 H1 r1 (Ex.refl _) (wk_list (.inl (.inl h1)) rs)⟩⟩
  | tup h1 rs => exact ⟨_, rfl, .inr ⟨⟨_, .inl (.inl (ex _ _ h1))⟩, q1 _ F1 H1 r1 (Ex.refl _) (wk_tup (.inl (.inl h1)) rs)⟩⟩
  | scr h1 => exact ⟨_, rfl, .inl ⟨⟨_, Evl.ex_l ex h1⟩, q1 _ F1 H1 r1 (Ex.refl _) (wk_list h1 (Reps.of_ints _))⟩⟩
  | _ => exact q1.elim
theorem si_args {ta : TA} {f : List T → Option (List T)} {as : List EM} {wi : TI} {R : List V → Hp → (It → Hp → Prop) → Prop} (e : wi = fun σ H Q => ta σ H fun vs H1 => R vs H1 Q) (ha : SA C ta (dArgs as))
    (hr : ∀ F H vs xs ts Q, Ex F H → Reps C.K F vs xs → f xs = some ts → (∀ J, Wk C.K J F ts → Q J H) → R vs H Q) : SI C wi (dItA f as) := fun F0 H0 F H e' σ rl Q q => by
  subst e
  refine ha.go (g := fun xs => M.opt (f xs)) (Po := fun F r => PoI C F0 H0 F σ Q r) rl (fun _ _ _ x h => PoI.mono x h) (fun _ _ _ h => h) (fun _ h => h) q fun vs xs F1 H1 e1 r1 x1 rs q1 => ?_
  cases hf : f xs with
  | none =>
    rw [hf] at q1
    exact q1.elim
  | some ts =>
    rw [hf] at q1
    exact hr F1 H1 vs xs ts Q r1.sub rs hf fun J w => q1 J F1 H1 r1 (Ex.refl _) w
theorem si_rng1 {ta : TA} {as : List EM} (ha : SA C ta (dArgs as)) : SI C (iRng1 ta) (dItA rng1 as) := si_args rfl ha fun F H vs xs ts Q ex rs hf k => by
  unfold rng1 at hf
  split at hf
  · split at hf
    · rename_i hn
      have hn := rngOk_of hn
      cases hf
      cases rs with
      | cons a r =>
        cases r
        cases a
        exact ⟨_, rfl, by omega, by omega, k _ wk_rng⟩
    · cases hf
  · cases hf
theorem si_rng2 {ta : TA} {as : List EM} (ha : SA C ta (dArgs as)) : SI C (iRng2 ta) (dItA rng2 as) := si_args rfl ha fun F H vs xs ts Q ex rs hf k => by
  unfold rng2 at hf
  split at hf
  · split at hf
    · rename_i hn
      have hn := rngOk_of hn
      cases hf
      cases rs with
      | cons a r =>
        cases r with
        | cons b r =>
          cases r
          cases a
          cases b
          exact ⟨_, _, rfl, ⟨by omega, by omega, by omega, by omega⟩, k _ wk_rng⟩
    · cases hf
  · cases hf
theorem si_zip {ta : TA} {as : List EM} (ha : SA C ta (dArgs as)) : SI C (iZip C.K ta) (dItA zip2 as) := si_args rfl ha fun F H vs xs ts Q ex rs hf k => by
  unfold zip2 at hf
  split at hf
  · rename_i a b
    cases h1 : lItems a with
    | none =>
      rw [h1] at hf
      cases hf
    | some xs =>
      cases h2 : lItems b with
      | none =>
        rw [h1, h2] at hf
        cases hf
      | some ys =>
        rw [h1, h2] at hf
        cases hf
        cases rs with
        | cons ra r =>
          cases r with
          | cons rb r =>
            cases r
            obtain ⟨p, vs1, rfl, s1, r1⟩ := lItems_of ra h1
            obtain ⟨p2, vs2, rfl, s2, r2⟩ := lItems_of rb h2
            exact ⟨p, p2, vs1, vs2, rfl, Evl.ex_l ex s1, Evl.ex_l ex s2, k _ (wk_zip s1 r1 s2 r2)⟩
  · cases hf
theorem si_enum {ta : TA} {as : List EM} (ha : SA C ta (dArgs as)) : SI C (iEnum C.K ta) (dItA enum1 as) := si_args rfl ha fun F H vs xs ts Q ex rs hf k => by
  unfold enum1 at hf
  split at hf
  · rename_i a
    cases h1 : lItems a with
    | none =>
      rw [h1] at hf
      cases hf
    | some xs =>
      rw [h1] at hf
      cases hf
      cases rs with
      | cons ra r =>
        cases r
        obtain ⟨p, vs1, rfl, s1, r1⟩ := lItems_of ra h1
        exact ⟨p, vs1, rfl, Evl.ex_l ex s1, k _ (wk_enum s1 r1)⟩
  · cases hf
/-- for -/
theorem ss_for {wi : TI} {g : TG} {u : TS} {d : M (List T)} {dg : GM} {b : SM} (hi : SI C wi d) (hg : SG C g dg) (hb : SS C u b) : SS C (tFor wi g u) (dFor d dg b) := fun F0 H0 F H e σ rl D q => by
  refine hi F0 H0 F H e σ rl _ ?_
  unfold dFor M.bind at q
  cases hd : d e with
  | bad =>
    rw [hd] at q
    exact q.elim
  | ex c e' =>
    rw [hd] at q
    exact fun F' H' r' x' => q F' H' σ r' x'
  | ok ts e' =>
    rw [hd] at q
    intro J F1 H1 r1 x1 w
    refine ⟨fun i m σ' H' => m = ts.length - i ∧ i ≤ ts.length ∧ ∃ F' e', Rl C.K F0 H0 F' H' e' σ' ∧ Ex F1 F' ∧ PoS C F0 H0 F' D (forL dg b (ts.drop i) e'), ⟨ts.length, by simp, Nat.zero_le _, F1, e', r1, Ex.refl _, PoS.mono x1 q⟩, ?_⟩
    rintro i m σ2 H2 ⟨rfl, hi, F2, e2, r2, x2, q2⟩
    by_cases hlt : i < ts.length
    · refine .inr ⟨w.goes i F2 H2 hlt x2 r2.sub, fun σ' H' => ∃ F' e', Rl C.K F0 H0 F' H' e' σ' ∧ Ex F1 F' ∧ PoS C F0 H0 F' D (forL dg b (ts.drop (i + 1)) e'), fun σ' H' hw => ⟨ts.length - (i + 1), by omega, rfl, hlt, hw⟩, fun x H3 y => ?_⟩
      obtain ⟨t, F3, ht, r3, x3, rp⟩ := w.got r2 hlt x2 y
      have hdr : ts.drop i = t :: ts.drop (i + 1) := by
        have h1 : ts[i] = t := by
          rw [List.getElem?_eq_getElem hlt] at ht
          exact Option.some.inj ht
        rw [← h1]
        exact (List.drop_eq_getElem_cons hlt)
      rw [hdr] at q2
      refine hg F0 H0 F3 H3 e2 σ2 x t r3 rp _ ?_
      have q2 : PoS C F0 H0 F2 D (M.bind (dg t) (fun _ => M.bind b (loopF (forL dg b (ts.drop (i + 1))))) e2) := q2
      unfold M.bind at q2
      cases hg2 : dg t e2 with
      | bad =>
        rw [hg2] at q2
        exact q2.elim
      | ex c e4 =>
        rw [hg2] at q2
        exact fun F' H' σ' r' x' => q2 F' H' σ' r' (x3.trans x')
      | ok uu e4 =>
        rw [hg2] at q2
        intro F4 H4 σ4 r4 x4
        refine hb F0 H0 F4 H4 e4 σ4 r4 _ (PoS.toS (D := D) (g := loopF (forL dg b (ts.drop (i + 1)))) _ (PoS.mono (x3.trans x4) q2) (fun e' F' H' σ' r x q' => ⟨F', e', r, ((x2.trans x3).trans x4).trans x, q'⟩)
          (fun e' F' H' σ' r x q' => q' F' H' σ' r (Ex.refl _)) (fun e' F' H' σ' r x q' => ⟨F', e', r, ((x2.trans x3).trans x4).trans x, q'⟩) fun r e' v F' H' f x o q' => q' v F' H' f (Ex.refl _) o)
    · have ei : i = ts.length := by omega
      subst ei
      rw [List.drop_length] at q2
      exact .inl ⟨w.stops F2 H2 x2 r2.sub, q2 F2 H2 σ2 r2 (Ex.refl _)⟩
end
end Tr

namespace Tr
open PySem PySem.Spec PyProof.Rows L2
open Evl (Ex)

/-! ### one's own list read at its top, without giving it away -/
@[simp] def dIxV (i : Nat) (ix : EM) : EM := fun e0 => match e0[i]? with
  | some (some _) => M.bind (fz ix) (fun y => fun e => match e[i]? with
    | some (some (_, x)) => lift (tIx x y) e
    | _ => .bad) e0
  | _ => .bad
@[simp] def dLenV (i : Nat) : EM := fun e => match e[i]? with
  | some (some (_, x)) => lift (tLen [x]) e
  | _ => .bad
section
variable {C : Ct}
theorem Rl.look {K : PySem.W.Frag} {F0 H0 F H : Hp} {e : En} {σ : L2.St} (r : Rl K F0 H0 F H e σ) {i : Nat} {b : Bool} {t : T} (h : e[i]? = some (some (b, t))) : ∃ v, σ[i]? = some (some v) ∧ Rep1 K F H v t := by
  cases b with
  | false =>
    obtain ⟨v, h1, h2⟩ := r.shr i t h
    exact ⟨v, h1, .inl h2⟩
  | true =>
    obtain ⟨p, vs, ts, h1, h2, h3, h4, h5, h6⟩ := r.own i t h
    exact ⟨_, h1, .inr ⟨p, vs, ts, rfl, h2, h5, h6⟩⟩
theorem se_ixV {i : Nat} {ti : TE} {d : EM} (h : SE C ti d) : SE C (tOp (rIx C.K) (tVar i) ti) (dIxV i d) := fun F0 H0 F H e σ rl Q q => by
  unfold dIxV at q
  split at q
  · rename_i r he
    obtain ⟨v, hv, _⟩ := rl.look (b := r.1) (t := r.2) he
    refine ⟨v, hv, ?_⟩
    refine (se_fz h).go (g := fun y => fun e => match e[i]? with
      | some (some (_, x)) => lift (tIx x y) e
      | _ => .bad) (Po := fun F r => PoE C F0 H0 F σ Q r) rl (fun _ _ _ x h => PoE.mono x h) (fun _ _ _ h => h) (fun _ h => h) q fun w y F1 H1 e1 r1 x1 rp q1 => ?_
    split at q1
    · rename_i b x he1
      obtain ⟨v', hv', rx⟩ := r1.look he1
      rw [hv] at hv'
      cases hv'
      obtain ⟨z, hz, p⟩ := lift_of r1 q1
      exact os_ix1 r1.sub rx rp hz p
    · exact q1.elim
  · exact q.elim
theorem se_lenV {i : Nat} : SE C (tCB (fun xs H Q => ∃ p ys, xs = [.ref p] ∧ (SqL C.K H p ys ∨ SqT C.K H p ys) ∧ Q (.int ys.length) H) (tCons (tVar i) tNil)) (dLenV i) := fun F0 H0 F H e σ rl Q q => by
  unfold dLenV at q
  split at q
  · rename_i b x he
    obtain ⟨v, hv, rx⟩ := rl.look he
    obtain ⟨z, hz, p⟩ := lift_of rl q
    obtain ⟨a, ys, rfl, h1, h2⟩ := len1 rl.sub rx hz p
    exact ⟨_, hv, a, ys, rfl, h1, h2⟩
  · exact q.elim
end

/-! ### comprehensions -/
@[simp] def wipeE (e : En) : List Nat → En
  | [] => e
  | v :: vs => (wipeE e vs).set v none
@[simp] noncomputable def lcL (own : List Nat) (g : GM) (t : M Bool) (el : EM) : List T → List T → En → R (List T)
  | [], acc, e => M.pure acc e
  | x :: r, acc, e => (M.bind (g x) fun _ => M.bind t fun b => if b = true then M.bind (fz el) fun y => fun e => if lenOk (acc.length + 1) = true then lcL own g t el r (acc ++ [y]) (wipeE e own) else .bad else fun e => lcL own g t el r acc (wipeE e own)) e
@[simp] noncomputable def dLc (it : M (List T)) (own : List Nat) (g : GM) (t : M Bool) (el : EM) : EM := fun e => (M.bind it fun ts => fun e => match lcL own g t el ts [] (wipeE e own) with
  | .ok acc e' => .ok (true, .lst acc) e'
  | _ => .bad) e
@[simp] def dYes : M Bool := fun e => .ok true e
section
variable {K : PySem.W.Frag} {F0 H0 F H : Hp} {e : En} {σ : L2.St}
theorem Rl.wipe1 (r : Rl K F0 H0 F H e σ) (i : Nat) : Rl K F0 H0 F H (e.set i none) (σ.set i none) := by
  have hl := r.len
  have un : ∀ (j : Nat) (x : Bool × T), (e.set i none)[j]? = some (some x) → e[j]? = some (some x) ∧ (σ.set i none)[j]? = σ[j]? := fun j x hj => by
    rw [getS] at hj
    split at hj
    · cases hj
    · rename_i c
      rw [getSv, if_neg (by rw [← hl]; exact c)]
      exact ⟨hj, rfl⟩
  refine ⟨r.xF, r.xH, r.sub, r.old, by rw [List.length_set, List.length_set]; exact hl, fun j t hj => ?_, fun j t hj => ?_, fun j k t1 t2 p hj hk h1 h2 => ?_⟩
  · obtain ⟨a, b⟩ := un j _ hj
    rw [b]
    exact r.shr j t a
  · obtain ⟨a, b⟩ := un j _ hj
    rw [b]
    exact r.own j t a
  · obtain ⟨a, b⟩ := un j _ hj
    obtain ⟨a', b'⟩ := un k _ hk
    rw [b] at h1
    rw [b'] at h2
    exact r.dis j k t1 t2 p a a' h1 h2
theorem Rl.wipe (r : Rl K F0 H0 F H e σ) : ∀ vs : List Nat, Rl K F0 H0 F H (wipeE e vs) (L2.wipe σ vs)
  | [] => r
  | v :: vs => (r.wipe vs).wipe1 v
theorem Rl.ofWipe {vs : List Nat} (r : Rl K F0 H0 F H e (L2.wipe σ vs)) : Rl K F0 H0 F H e σ := by
  refine ⟨r.xF, r.xH, r.sub, r.old, by rw [r.len, wipe_length], fun j t hj => ?_, fun j t hj => ?_, fun j k t1 t2 p hj hk h1 h2 => ?_⟩
  · obtain ⟨v, h1, h2⟩ := r.shr j t hj
    exact ⟨v, (wipe_some h1).1, h2⟩
  · obtain ⟨p, ws, ts, h1, h2⟩ := r.own j t hj
    exact ⟨p, ws, ts, (wipe_some h1).1, h2⟩
  · obtain ⟨p1, _, _, g1, _⟩ := r.own j t1 hj
    obtain ⟨p2, _, _, g2, _⟩ := r.own k t2 hk
    have e1 := (wipe_some g1).1
    have e2 := (wipe_some g2).1
    rw [h1] at e1
    rw [h2] at e2
    cases e1
    cases e2
    exact r.dis j k t1 t2 p hj hk g1 g2
theorem Rl.hold (r : Rl K F0 H0 F H e σ) {p : Addr} {o : HO} (h0 : H0 p = none) (hF : F p = none) (hH : H p = some o) (hn : ∀ (i : Nat) (t : T), e[i]? = some (some (true, t)) → σ[i]? ≠ some (some (.ref p))) : Rl K F0 (upd H0 p o) F H e σ where
  xF := r.xF
  xH := fun a u ha => by
    by_cases q : a = p
    · subst q
      rw [upd_same] at ha
      cases ha
      exact hH
    · rw [upd_ne q] at ha
      exact r.xH a u ha
  sub := r.sub
  old := fun a ha => by
    by_cases q : a = p
    · subst q
      rw [hF]
      cases z : F0 a with
      | none => rfl
      | some u =>
        rw [r.xF a u z] at hF
        cases hF
    · rw [upd_ne q] at ha
      exact r.old a ha
  len := r.len
  shr := r.shr
  own := fun i t h => by
    obtain ⟨q, vs, ts, h1, h2, h3, h4⟩ := r.own i t h
    have z : q ≠ p := fun z => hn i t h (z ▸ h1)
    exact ⟨q, vs, ts, h1, h2, by rw [upd_ne z]; exact h3, h4⟩
  dis := r.dis
theorem Rl.unhold {p : Addr} {o : HO} (r : Rl K F0 (upd H0 p o) F H e σ) (h0 : H0 p = none) : Rl K F0 H0 F H e σ ∧ H p = some o ∧ F p = F0 p ∧ ∀ (i : Nat) (t : T), e[i]? = some (some (true, t)) → σ[i]? ≠ some (some (.ref p)) := by
  refine ⟨⟨r.xF, fun a u ha => ?_, r.sub, fun a ha => ?_, r.len, r.shr, fun i t h => ?_, r.dis⟩, r.xH p o upd_same, r.old p (by rw [upd_same]; exact fun z => nomatch z), fun i t h z => ?_⟩
  · have q : a ≠ p := fun z => by
      rw [z, h0] at ha
      cases ha
    exact r.xH a u (by rw [upd_ne q]; exact ha)
  · have q : a ≠ p := fun z => ha (z ▸ h0)
    exact r.old a (by rw [upd_ne q]; exact ha)
  · obtain ⟨q, vs, ts, h1, h2, h3, h4⟩ := r.own i t h
    have z : q ≠ p := fun z => by
      rw [z, upd_same] at h3
      cases h3
    rw [upd_ne z] at h3
    exact ⟨q, vs, ts, h1, h2, h3, h4⟩
  · obtain ⟨q, vs, ts, h1, h2, h3, h4⟩ := r.own i t h
    rw [h1] at z
    cases z
    rw [upd_same] at h3
    cases h3
theorem Rl.mutD (r : Rl K F0 H0 F H e σ) {p : Addr} {o : HO} (h0 : H0 p = none) (hF : F p = none) (hn : ∀ (i : Nat) (t : T), e[i]? = some (some (true, t)) → σ[i]? ≠ some (some (.ref p))) : Rl K F0 H0 F (upd H p o) e σ where
  xF := r.xF
  xH := fun a u ha => by
    rw [upd_ne (ne_of_none ha h0)]
    exact r.xH a u ha
  sub := fun a u ha => by
    rw [upd_ne (ne_of_none ha hF)]
    exact r.sub a u ha
  old := r.old
  len := r.len
  shr := r.shr
  own := fun i t h => by
    obtain ⟨q, vs, ts, h1, h2, h3, h4, h5, h6⟩ := r.own i t h
    have z : q ≠ p := fun z => hn i t h (z ▸ h1)
    exact ⟨q, vs, ts, h1, h2, h3, h4, by rw [upd_ne z]; exact h5, h6⟩
  dis := r.dis
theorem wipeE_some {x : Bool × T} {i : Nat} : ∀ {vs : List Nat}, (wipeE e vs)[i]? = some (some x) → e[i]? = some (some x) ∧ i ∉ vs
  | [], h => ⟨h, by simp⟩
  | v :: vs, h => by
    unfold wipeE at h
    rw [getS] at h
    split at h
    · cases h
    · rename_i c
      obtain ⟨h1, h2⟩ := wipeE_some h
      refine ⟨h1, fun hm => ?_⟩
      rcases List.mem_cons.mp hm with z | z
      · have hl : (wipeE e vs).length ≤ v := by
          refine Nat.le_of_not_lt fun q => c ⟨z, q⟩
        have : (wipeE e vs)[i]? = none := List.getElem?_eq_none (by omega)
        rw [this] at h
        cases h
      · exact h2 z
theorem wipe_wipe (σ : L2.St) : ∀ vs : List Nat, ∀ ws : List Nat, (∀ v ∈ ws, v ∈ vs) → L2.wipe (L2.wipe σ vs) ws = L2.wipe σ vs
  | vs, [], _ => rfl
  | vs, w :: ws, h => by
    show (L2.wipe (L2.wipe σ vs) ws).set w none = _
    rw [wipe_wipe σ vs ws fun v hv => h v (List.mem_cons_of_mem _ hv)]
    apply List.ext_getElem?
    intro j
    rw [getSv]
    split
    · rename_i c
      have hm : j ∈ vs := by
        rw [c.1]
        exact h w (List.mem_cons_self ..)
      have hj : j < (L2.wipe σ vs).length := by
        rw [c.1]
        exact c.2
      cases hc : (L2.wipe σ vs)[j]? with
      | none =>
        rw [List.getElem?_eq_none_iff] at hc
        omega
      | some o =>
        cases o with
        | none => rfl
        | some x => exact absurd hm (wipe_some hc).2
    · rfl
theorem wipe_set {σ : L2.St} {i : Nat} {x : Option V} {vs : List Nat} (h : i ∈ vs) : L2.wipe (σ.set i x) vs = L2.wipe σ vs := by
  have step : ∀ (σ : L2.St) (v : Nat), v ≠ i → (σ.set i x).set v none = (σ.set v none).set i x := fun σ v hv => List.set_comm _ _ (Ne.symm hv)
  have comm : ∀ (σ : L2.St) (vs : List Nat), i ∉ vs → L2.wipe (σ.set i x) vs = (L2.wipe σ vs).set i x := by
    intro σ vs
    induction vs with
    | nil => intro _; rfl
    | cons v vs ih =>
      intro hm
      show (L2.wipe (σ.set i x) vs).set v none = ((L2.wipe σ vs).set v none).set i x
      rw [ih fun z => hm (List.mem_cons_of_mem _ z), step _ _ fun z => hm (by rw [z]; exact List.mem_cons_self ..)]
  induction vs with
  | nil => cases h
  | cons v vs ih =>
    show (L2.wipe (σ.set i x) vs).set v none = (L2.wipe σ vs).set v none
    by_cases hm : i ∈ vs
    · rw [ih hm]
    · have hv : i = v := by
        rcases List.mem_cons.mp h with z | z
        · exact z
        · exact absurd z hm
      rw [comm σ vs hm, hv, List.set_set]
end
/-- a target that stores own names alone -/
def OwnG (vs : List Nat) (g : TG) : Prop := ∀ (v : V) (σ : L2.St) (H : Hp) (Q : L2.St → Hp → Prop), g v σ H (fun σ2 H2 => L2.wipe σ2 vs = L2.wipe σ vs → Q σ2 H2) → g v σ H fun σ2 H2 => L2.wipe σ2 vs = L2.wipe σ vs ∧ Q σ2 H2
def OwnGs (vs : List Nat) (g : TGs) : Prop := ∀ (ws : List V) (σ : L2.St) (H : Hp) (Q : L2.St → Hp → Prop), g ws σ H (fun σ2 H2 => L2.wipe σ2 vs = L2.wipe σ vs → Q σ2 H2) → g ws σ H fun σ2 H2 => L2.wipe σ2 vs = L2.wipe σ vs ∧ Q σ2 H2
theorem own_name {vs : List Nat} {i : Nat} (h : i ∈ vs) : OwnG vs (gName i) := fun v σ H Q q => ⟨wipe_set h, q (wipe_set h)⟩
theorem own_nil {vs : List Nat} : OwnGs vs gNil := fun ws σ H Q q => ⟨q.1, rfl, q.2 rfl⟩
theorem own_cons {vs : List Nat} {i : Nat} {gs : TGs} (h : i ∈ vs) (hs : OwnGs vs gs) : OwnGs vs (gCons (gName i) gs) := fun ws σ H Q q => by
  obtain ⟨v, r, e, q⟩ := q
  refine ⟨v, r, e, ?_⟩
  have q : gs r (σ.set i (some v)) H (fun σ2 H2 => L2.wipe σ2 vs = L2.wipe σ vs → Q σ2 H2) := q
  have e2 : L2.wipe (σ.set i (some v)) vs = L2.wipe σ vs := wipe_set h
  have k := hs r (σ.set i (some v)) H Q (by rw [e2]; exact q)
  show gs r (σ.set i (some v)) H _
  rw [e2] at k
  exact k
theorem own_tup {vs : List Nat} {K : PySem.W.Frag} {n : Nat} {gs : TGs} (hs : OwnGs vs gs) : OwnG vs (gTup K n gs) := fun v σ H Q q => by
  obtain ⟨a, xs, e, h1, h2, q⟩ := q
  exact ⟨a, xs, e, h1, h2, hs xs σ H Q q⟩

abbrev Ct.nx (C : Ct) : Ct := { C with W := fun _ _ _ _ => False }
section
variable {C : Ct}
def LcW (C : Ct) (F0 H0 F1 : Hp) (own : List Nat) (dg : GM) (dt : M Bool) (de : EM) (D : Addr) (ts fin : List T) (ef : En) (σ : L2.St) (i : Nat) (H' : Hp) : Prop :=
  ∃ F' e' avs acc, Rl C.K F0 H0 F' H' e' (L2.wipe σ own) ∧ Ex F1 F' ∧ H' D = some (.lst avs) ∧ F' D = none ∧ (∀ (i : Nat) (t : T), e'[i]? = some (some (true, t)) → (L2.wipe σ own)[i]? ≠ some (some (.ref D))) ∧ Reps C.K F' avs acc ∧
    lcL own dg dt de (ts.drop i) acc e' = .ok fin ef
theorem se_lc {wi : TI} {g : TG} {tt : TT} {te : TE} {own : List Nat} {d : M (List T)} {dg : GM} {dt : M Bool} {de : EM} (hi : SI C wi d) (ow : OwnG own g) (hg : SG C.nx g dg) (ht : ST C.nx tt dt) (he : SE C.nx te de) :
    SE C (tLc wi g tt te own) (dLc d own dg dt de) := fun F0 H0 F H e σ rl Q q => by
  refine hi F0 H0 F H e σ rl _ ?_
  unfold dLc M.bind at q
  cases hd : d e with
  | bad =>
    rw [hd] at q
    exact q.elim
  | ex c e' =>
    rw [hd] at q
    exact q
  | ok ts e' =>
    rw [hd] at q
    intro J F1 H1 r1 x1 w D hD
    dsimp only at q
    cases hfin : lcL own dg dt de ts [] (wipeE e' own) with
    | bad =>
      rw [hfin] at q
      exact q.elim
    | ex c e2 =>
      rw [hfin] at q
      exact q.elim
    | ok fin ef =>
      rw [hfin] at q
      have hD1 := r1.newF hD
      have F0D : F0 D = none := by
        cases z : F0 D with
        | none => rfl
        | some u =>
          have := r1.xF D u z
          rw [hD1.1] at this
          cases this
      refine ⟨fun i m H' => m = ts.length - i ∧ i ≤ ts.length ∧ LcW C F0 H0 F1 own dg dt de D ts fin ef σ i H', ⟨ts.length, by simp, Nat.zero_le _, F1, wipeE e' own, [], [], (r1.grow hD).wipe own, Ex.refl _, upd_same, hD1.1, ?_, .nil, hfin⟩, ?_⟩
      · intro i t hit hs
        exact r1.ownNe hD i t (wipeE_some hit).1 (wipe_some hs).1
      rintro i m H2 ⟨rfl, hle, F2, e2, avs, acc, r2, x2, hDv, hFD, hno, hacc, hrun⟩
      by_cases hlt : i < ts.length
      · refine .inr ⟨w.goes i F2 H2 hlt x2 r2.sub, LcW C F0 H0 F1 own dg dt de D ts fin ef σ (i + 1), fun H' hw => ⟨ts.length - (i + 1), by omega, rfl, hlt, hw⟩, fun x H3 y => ?_⟩
        have rh := r2.hold hD1.2 hFD hDv hno
        obtain ⟨t, F3, htt, r3, x3, rp⟩ := w.got rh hlt x2 y
        have hdr : ts.drop i = t :: ts.drop (i + 1) := by
          have h1 : ts[i] = t := by
            rw [List.getElem?_eq_getElem hlt] at htt
            exact Option.some.inj htt
          rw [← h1]
          exact (List.drop_eq_getElem_cons hlt)
        rw [hdr] at hrun
        have hrun : M.bind (dg t) (fun _ => M.bind dt fun b => if b = true then M.bind (fz de) fun y => fun e => if lenOk (acc.length + 1) = true then lcL own dg dt de (ts.drop (i + 1)) (acc ++ [y]) (wipeE e own) else .bad else fun e => lcL own dg dt de (ts.drop (i + 1)) acc (wipeE e own)) e2 = .ok fin ef := hrun
        have idem : L2.wipe (L2.wipe σ own) own = L2.wipe σ own := wipe_wipe σ own own fun _ h => h
        have fn := ow x (L2.wipe σ own) H3 (fun σ2 H2' => tt σ2 H2' fun b H3' => if b = true then te σ2 H3' fun y H4 => ∃ acc', H4 D = some (.lst acc') ∧ acc'.length < sizeLine ∧ LcW C F0 H0 F1 own dg dt de D ts fin ef σ (i + 1) (upd H4 D (.lst (acc' ++ [y]))) else LcW C F0 H0 F1 own dg dt de D ts fin ef σ (i + 1) H3')
        rw [idem] at fn
        refine fn (hg F0 (upd H0 D (.lst avs)) F3 H3 e2 (L2.wipe σ own) x t r3 rp _ ?_)
        unfold M.bind at hrun
        cases hgt : dg t e2 with
        | bad =>
          rw [hgt] at hrun
          cases hrun
        | ex c e4 =>
          rw [hgt] at hrun
          cases hrun
        | ok uu e4 =>
          rw [hgt] at hrun
          intro F4 H4 σ4 r4 x4 hw4
          refine ht F0 (upd H0 D (.lst avs)) F4 H4 e4 σ4 r4 _ ?_
          dsimp only at hrun
          cases htb : dt e4 with
          | bad =>
            rw [htb] at hrun
            cases hrun
          | ex c e5 =>
            rw [htb] at hrun
            cases hrun
          | ok b e5 =>
            rw [htb] at hrun
            intro F5 H5 r5 x5
            cases b with
            | false =>
              have hrun : lcL own dg dt de (ts.drop (i + 1)) acc (wipeE e5 own) = .ok fin ef := hrun
              obtain ⟨r6, hD6, hF6, hn6⟩ := r5.unhold hD1.2
              have r7 := r6.wipe own
              rw [hw4] at r7
              show LcW C F0 H0 F1 own dg dt de D ts fin ef σ (i + 1) H5
              refine ⟨F5, wipeE e5 own, avs, acc, r7, ((x2.trans x3).trans x4).trans x5, hD6, ?_, fun j u hj hs => ?_, hacc.mono ((x3.trans x4).trans x5), hrun⟩
              · rw [hF6]
                exact F0D
              · rw [← hw4] at hs
                exact hn6 j u (wipeE_some hj).1 (wipe_some hs).1
            | true =>
              have hrun : M.bind (fz de) (fun y => fun e => if lenOk (acc.length + 1) = true then lcL own dg dt de (ts.drop (i + 1)) (acc ++ [y]) (wipeE e own) else .bad) e5 = .ok fin ef := hrun
              show te σ4 H5 _
              refine se_fz he F0 (upd H0 D (.lst avs)) F5 H5 e5 σ4 r5 _ ?_
              unfold M.bind at hrun
              cases hev : fz de e5 with
              | bad =>
                rw [hev] at hrun
                cases hrun
              | ex c e6 =>
                rw [hev] at hrun
                cases hrun
              | ok yv e6 =>
                rw [hev] at hrun
                dsimp only at hrun
                intro v F6 H6 r6 x6 rpv
                split at hrun
                · rename_i hlen
                  obtain ⟨r7, hD7, hF7, hn7⟩ := r6.unhold hD1.2
                  have hF7 : F6 D = none := by
                    rw [hF7]
                    exact F0D
                  refine ⟨avs, hD7, ?_, ?_⟩
                  · rw [hacc.length]
                    have := lenOk_le hlen
                    omega
                  · have r8 := (r7.mutD (o := .lst (avs ++ [v])) hD1.2 hF7 hn7).wipe own
                    rw [hw4] at r8
                    have xx := (((x3.trans x4).trans x5).trans x6)
                    refine ⟨F6, wipeE e6 own, avs ++ [v], acc ++ [yv], r8, x2.trans xx, upd_same, hF7, fun j u hj hs => ?_, (hacc.mono xx).append (.cons rpv .nil), hrun⟩
                    rw [← hw4] at hs
                    exact hn7 j u (wipeE_some hj).1 (wipe_some hs).1
                · cases hrun
      · have ei : i = ts.length := by omega
        subst ei
        rw [List.drop_length] at hrun
        cases hrun
        exact .inl ⟨w.stops F2 H2 x2 r2.sub, q (.ref D) F2 H2 r2.ofWipe (x1.trans x2) (.inr ⟨rfl, D, avs, _, rfl, rfl, hD1.2, hFD, hDv, hacc, fun i t hit hs => by
          obtain ⟨p, _, _, g1, _⟩ := r2.own i t hit
          have g2 := (wipe_some g1).1
          rw [hs] at g2
          cases g2
          exact hno i t hit g1⟩)⟩
end
end Tr

namespace Tr
open PySem PySem.Spec PyProof.Rows L2
open Evl (Ex)

/-! ### defs -/
inductive Rf where
  | ok (r : Bool × T) | ex (c : Nat) | bad
@[simp] def dCall (g : List T → Rf) (as : List EM) : EM := fun e => (M.bind (dArgs as) fun xs e => match g xs with
  | .ok r => .ok r e
  | .ex c => .ex c e
  | .bad => .bad) e
/-- the promise: of n trees what g tells -/
def spT (K : PySem.W.Frag) (cls : Nat → Value) (n : Nat) (g : List T → Rf) : Sp := fun vs H Q E => ∃ F ts, Ex F H ∧ Reps K F vs ts ∧ ts.length = n ∧ (match g ts with
  | .ok r => ∀ v F' H', Fin K F H F' H' → Out K H F' H' v r → Q v H'
  | .ex c => ∀ F' H', Fin K F H F' H' → E (cls c) none H'
  | .bad => False)
theorem spT_len {K : PySem.W.Frag} {cls : Nat → Value} {n : Nat} {g : List T → Rf} {vs : List V} {H : Hp} {Q : VK} {E : XK} (h : spT K cls n g vs H Q E) : vs.length = n := by
  obtain ⟨F, ts, _, r, e, _⟩ := h
  rw [r.length, e]
theorem spT_imp {K : PySem.W.Frag} {cls : Nat → Value} {n : Nat} {f g : List T → Rf} (h : ∀ ts, ts.length = n → g ts ≠ .bad → f ts = g ts) {vs : List V} {H : Hp} {Q : VK} {E : XK} (q : spT K cls n g vs H Q E) : spT K cls n f vs H Q E := by
  obtain ⟨F, ts, x, r, e, q⟩ := q
  refine ⟨F, ts, x, r, e, ?_⟩
  rw [h ts e fun z => by rw [z] at q; exact q]
  exact q
section
variable {K : PySem.W.Frag} {F0 H0 F H F' H' : Hp} {e : En} {σ : L2.St}
theorem Rl.behind (r : Rl K F0 H0 F H e σ) (f : Fin K F H F' H') : Rl K F0 H0 F' H' e σ where
  xF := r.xF.trans f.xF
  xH := r.xH.trans f.xH
  sub := f.sub
  old := fun a h => by
    rw [f.old a fun z => ?_]
    · exact r.old a h
    · cases q : H0 a with
      | none => exact h q
      | some u =>
        rw [r.xH a u q] at z
        cases z
  len := r.len
  shr := fun i t h => by
    obtain ⟨v, h1, h2⟩ := r.shr i t h
    exact ⟨v, h1, h2.mono f.xF⟩
  own := fun i t h => by
    obtain ⟨p, vs, ts, h1, h2, h3, h4, h5, h6⟩ := r.own i t h
    exact ⟨p, vs, ts, h1, h2, h3, by rw [f.old p (by rw [h5]; exact fun z => nomatch z)]; exact h4, f.xH p _ h5, h6.mono f.xF⟩
  dis := r.dis
theorem Out.res {v : V} {x : Bool × T} (r : Rl K F0 H0 F H e σ) (o : Out K H F' H' v x) : Res K H0 F' H' e σ v x := by
  rcases o with o | ⟨h1, p, vs, ts, g1, g2, g3, g4, g5, g6⟩
  · exact .inl o
  · exact .inr ⟨h1, p, vs, ts, g1, g2, (r.newF g3).2, g4, g5, g6, r.ownNe g3⟩
end
section
variable {C : Ct}
theorem se_call {n : Nat} {g : List T → Rf} {as : List EM} {ta : TA} {E : XK} (hE : ∀ c σ H, C.W (C.cls c) none σ H → E (C.cls c) none H) (ha : SA C ta (dArgs as)) (hl : as.length = n) : SE C (tCall (spT C.K C.cls n g) [] E ta) (dCall g as) := fun F0 H0 F H e σ rl Q q => by
  have len : ∀ (as : List EM) e xs e', dArgs as e = .ok xs e' → xs.length = as.length := by
    intro as
    induction as with
    | nil =>
      intro e xs e' h
      cases h
      rfl
    | cons a as ih =>
      intro e xs e' h
      unfold dArgs M.bind at h
      split at h
      · rename_i x e1 h1
        dsimp only at h
        split at h
        · rename_i ys e2 h2
          cases h
          rw [List.length_cons, List.length_cons, ih _ _ _ h2]
        · cases h
        · cases h
      · cases h
      · cases h
  unfold dCall M.bind at q
  cases hd : dArgs as e with
  | bad =>
    rw [hd] at q
    exact q.elim
  | ex c e' =>
    rw [hd] at q
    refine ha F0 H0 F H e σ rl _ ?_
    rw [hd]
    exact q
  | ok xs e' =>
    rw [hd] at q
    refine ha F0 H0 F H e σ rl _ ?_
    rw [hd]
    intro vs F1 H1 r1 x1 rs
    rw [List.append_nil]
    refine ⟨F1, xs, r1.sub, rs, by rw [len _ _ _ _ hd]; exact hl, ?_⟩
    dsimp only at q
    cases hg : g xs with
    | bad =>
      rw [hg] at q
      exact q.elim
    | ex c =>
      rw [hg] at q
      exact fun F' H' f => hE c σ H' (q F' H' (r1.behind f) (x1.trans f.xF))
    | ok r =>
      rw [hg] at q
      exact fun v F' H' f o => q v F' H' (r1.behind f) (x1.trans f.xF) (Out.res r1 o)
end

@[simp] def ini (n : Nat) (ts : List T) : En := ts.map (fun t => some (false, t)) ++ List.replicate (n - ts.length) none
/-- a def that lets nothing out; its slots n, its body d -/
def dFn (n : Nat) (d : SM) (ts : List T) : Rf := match d (ini n ts) with
  | .ok (.rt r) _ => .ok r
  | .ok .nx _ => .ok (false, .non)
  | _ => .bad
theorem ini_get {n : Nat} {ts : List T} {i : Nat} {x : Bool × T} (h : (ini n ts)[i]? = some (some x)) : x.1 = false ∧ ts[i]? = some x.2 := by
  unfold ini at h
  rw [List.getElem?_append] at h
  split at h
  · rw [List.getElem?_map] at h
    cases ht : ts[i]? with
    | none =>
      rw [ht] at h
      cases h
    | some t =>
      rw [ht] at h
      cases h
      exact ⟨rfl, rfl⟩
  · rw [List.getElem?_replicate] at h
    split at h <;> cases h
theorem rl_start {K : PySem.W.Frag} {F H : Hp} {N : List Str} {vs : List V} {ts : List T} (x : Ex F H) (r : Reps K F vs ts) : Rl K F H F H (ini N.length ts) (L2.start N vs) where
  xF := Ex.refl F
  xH := Ex.refl H
  sub := x
  old := fun _ _ => rfl
  len := by
    unfold ini L2.start
    simp only [List.length_append, List.length_map, List.length_replicate, r.length]
  shr := fun i t h => by
    obtain ⟨_, h2⟩ := ini_get h
    obtain ⟨v, h3, h4⟩ := r.get h2
    refine ⟨v, ?_, h4⟩
    unfold L2.start
    have hi : i < vs.length := by
      rcases Nat.lt_or_ge i vs.length with q | q
      · exact q
      · rw [List.getElem?_eq_none q] at h3
        cases h3
    rw [List.getElem?_append_left (by rw [List.length_map]; exact hi), List.getElem?_map, h3]
    rfl
  own := fun i t h => by
    have := (ini_get h).1
    cases this
  dis := fun i j t t' p h => by
    have := (ini_get h).1
    cases this

abbrev W0 : WX := fun _ _ _ _ => False
/-! ### syntax with its reading and what it does -/
structure XE (X : Cx) (cls : Nat → Value) (W : WX) (ex : Expr) (t : TE) (d : EM) : Prop where
  p : PE X ex t
  s : SE ⟨X.K, cls, W⟩ t d
structure XT (X : Cx) (cls : Nat → Value) (W : WX) (ex : Expr) (t : TT) (d : M Bool) : Prop where
  p : PT X ex t
  s : ST ⟨X.K, cls, W⟩ t d
structure XW (X : Cx) (cls : Nat → Value) (W : WX) (ex : Expr) (t : TT) (d : M Bool) : Prop where
  p : PW X ex t
  s : ST ⟨X.K, cls, W⟩ t d
structure XA (X : Cx) (cls : Nat → Value) (W : WX) (es : List Expr) (t : TA) (as : List EM) : Prop where
  p : PA X es t
  s : SA ⟨X.K, cls, W⟩ t (dArgs as)
structure XO (X : Cx) (cls : Nat → Value) (W : WX) (ex : Option Expr) (t : TO) (d : M (Option Int)) : Prop where
  p : PO X ex t
  s : SO ⟨X.K, cls, W⟩ t d
structure XI (X : Cx) (cls : Nat → Value) (W : WX) (tg ex : Expr) (t : TI) (d : M (List T)) : Prop where
  p : PI X tg ex t
  s : SI ⟨X.K, cls, W⟩ t d
structure XG (X : Cx) (cls : Nat → Value) (W : WX) (ex : Expr) (t : TG) (d : GM) : Prop where
  p : PG X ex t
  s : SG ⟨X.K, cls, W⟩ t d
structure XGs (X : Cx) (cls : Nat → Value) (W : WX) (es : List Expr) (t : TGs) (d : List T → M Unit) : Prop where
  p : PGs X es t
  s : SGs ⟨X.K, cls, W⟩ t d
structure XTs (X : Cx) (cls : Nat → Value) (W : WX) (es : List Expr) (t : TT) (d : M Bool) : Prop where
  p : PTs X es t
  s : ST ⟨X.K, cls, W⟩ t d
structure XS (X : Cx) (cls : Nat → Value) (W : WX) (st : Stmt) (t : TS) (d : SM) : Prop where
  p : PS X st t
  s : SS ⟨X.K, cls, W⟩ t d
structure XSs (X : Cx) (cls : Nat → Value) (W : WX) (st : List Stmt) (t : TS) (d : SM) : Prop where
  p : PSs X st t
  s : SS ⟨X.K, cls, W⟩ t d

section
variable {X : Cx} {cls : Nat → Value} {W : WX} {a b c e : Expr} {es : List Expr} {ta tb tc te : TE} {da db dc d : EM} {pos p p2 : Pos}
theorem xv (i : Nat) {x : Str} (hN : X.N[i]? = some x := by rfl) (hv : Vis X.env.scope x := by first | exact Or.inl rfl | exact Or.inr (Or.inl rfl) | exact Or.inr (Or.inr rfl)) (hd : (x == ("__debug__" : Str)) = false := by decide)
    (hcd : (x == ("__classdict__" : Str)) = false := by decide) : XE X cls W (.Name x pos) (tVar i) (dVar i) := ⟨pe_var hN hv hd hcd, se_var⟩
theorem xint {i : Int} {j} : XE X cls W (.Constant (.int i) j pos) (tC (.int i)) (dC (.int i)) := ⟨pe_int, se_c fun _ => .int⟩
theorem xbl {i : Bool} {j} : XE X cls W (.Constant (.bool i) j pos) (tC (.bl i)) (dC (.bl i)) := ⟨pe_bl, se_c fun _ => .bl⟩
theorem xnon {j} : XE X cls W (.Constant .none j pos) (tC .non) (dC .non) := ⟨pe_non, se_c fun _ => .non⟩
theorem xstr {x : Str} {j} : XE X cls W (.Constant (.str x) j pos) (tC (.str x)) (dC (.str x)) := ⟨pe_str, se_c fun _ => .str⟩
theorem xadd (ha : XE X cls W a ta da) (hb : XE X cls W b tb db) : XE X cls W (.BinOp a .Add b pos) (tOp rAdd3 ta tb) (dOp tAdd da db) := ⟨pe_op op_add3 ha.p hb.p, se_op os_add ha.s hb.s⟩
theorem xsub (ha : XE X cls W a ta da) (hb : XE X cls W b tb db) : XE X cls W (.BinOp a .Sub b pos) (tOp (rI0 fun i j => .int (i - j)) ta tb) (dOp tSub da db) := ⟨pe_op op_sub ha.p hb.p, se_op os_sub ha.s hb.s⟩
theorem xmul (ha : XE X cls W a ta da) (hb : XE X cls W b tb db) : XE X cls W (.BinOp a .Mult b pos) (tOp rMul2 ta tb) (dOp tMul da db) := ⟨pe_op op_mul2 ha.p hb.p, se_op os_mul ha.s hb.s⟩
theorem xfdiv (ha : XE X cls W a ta da) (hb : XE X cls W b tb db) : XE X cls W (.BinOp a .FloorDiv b pos) (tOp (rI CDivX fun i j => .int (i.fdiv j)) ta tb) (dOp tFdiv da db) := ⟨pe_op op_fdivX ha.p hb.p, se_op os_fdiv ha.s hb.s⟩
theorem xmod (ha : XE X cls W a ta da) (hb : XE X cls W b tb db) : XE X cls W (.BinOp a .Mod b pos) (tOp (rI (fun _ j => j ≠ 0) fun i j => .int (i.fmod j)) ta tb) (dOp tMod da db) := ⟨pe_op op_modN ha.p hb.p, se_op os_mod ha.s hb.s⟩
theorem xpow (ha : XE X cls W a ta da) (hb : XE X cls W b tb db) : XE X cls W (.BinOp a .Pow b pos) (tOp (rI CPow fun i j => .int (i ^ j.toNat)) ta tb) (dOp tPow da db) := ⟨pe_op op_pow ha.p hb.p, se_op os_pow ha.s hb.s⟩
theorem xneg (ha : XE X cls W a ta da) : XE X cls W (.UnaryOp .USub a pos) (tUn (rU fun i => .int (-i)) ta) (dUn tNegI da) := ⟨pe_un un_neg ha.p, se_un us_neg ha.s⟩
theorem xlt (ha : XE X cls W a ta da) (hb : XE X cls W b tb db) : XE X cls W (.Compare a [.Lt] [b] pos) (tOp (rI0 fun i j => .bl (decide (i < j))) ta tb) (dOp tLt da db) := ⟨pe_cmpR op_lt ha.p hb.p (nomark _), se_op os_lt ha.s hb.s⟩
theorem xle (ha : XE X cls W a ta da) (hb : XE X cls W b tb db) : XE X cls W (.Compare a [.LtE] [b] pos) (tOp (rI0 fun i j => .bl (decide (i ≤ j))) ta tb) (dOp tLe da db) := ⟨pe_cmpR op_le ha.p hb.p (nomark _), se_op os_le ha.s hb.s⟩
theorem xgt (ha : XE X cls W a ta da) (hb : XE X cls W b tb db) : XE X cls W (.Compare a [.Gt] [b] pos) (tOp (rI0 fun i j => .bl (decide (j < i))) ta tb) (dOp tGt da db) := ⟨pe_cmpR op_gt ha.p hb.p (nomark _), se_op os_gt ha.s hb.s⟩
theorem xge (ha : XE X cls W a ta da) (hb : XE X cls W b tb db) : XE X cls W (.Compare a [.GtE] [b] pos) (tOp (rI0 fun i j => .bl (decide (j ≤ i))) ta tb) (dOp tGe da db) := ⟨pe_cmpR op_ge ha.p hb.p (nomark _), se_op os_ge ha.s hb.s⟩
theorem xeq (hu : X.A.units + 64 < cLine) (ha : XE X cls W a ta da) (hb : XE X cls W b tb db) : XE X cls W (.Compare a [.Eq] [b] pos) (tOp (rEqD X.K) ta tb) (dOp tEq da db) := ⟨pe_cmpR (op_eqD hu) ha.p hb.p (nomark _), se_op os_eq ha.s hb.s⟩
theorem xne (hu : X.A.units + 64 < cLine) (ha : XE X cls W a ta da) (hb : XE X cls W b tb db) : XE X cls W (.Compare a [.NotEq] [b] pos) (tOp (rNeD X.K) ta tb) (dOp tNe da db) := ⟨pe_cmpR (op_neD hu) ha.p hb.p (nomark _), se_op os_ne ha.s hb.s⟩
theorem ylt (ha : XE X cls W a ta da) (hb : XE X cls W b tb db) : XT X cls W (.Compare a [.Lt] [b] pos) (tTest (tOp (rI0 fun i j => .bl (decide (i < j))) ta tb)) (dTest (dOp tLt da db)) := ⟨pt_cmpR op_lt ha.p hb.p (nomark _), st_test (se_op os_lt ha.s hb.s)⟩
theorem yle (ha : XE X cls W a ta da) (hb : XE X cls W b tb db) : XT X cls W (.Compare a [.LtE] [b] pos) (tTest (tOp (rI0 fun i j => .bl (decide (i ≤ j))) ta tb)) (dTest (dOp tLe da db)) := ⟨pt_cmpR op_le ha.p hb.p (nomark _), st_test (se_op os_le ha.s hb.s)⟩
theorem ygt (ha : XE X cls W a ta da) (hb : XE X cls W b tb db) : XT X cls W (.Compare a [.Gt] [b] pos) (tTest (tOp (rI0 fun i j => .bl (decide (j < i))) ta tb)) (dTest (dOp tGt da db)) := ⟨pt_cmpR op_gt ha.p hb.p (nomark _), st_test (se_op os_gt ha.s hb.s)⟩
theorem yge (ha : XE X cls W a ta da) (hb : XE X cls W b tb db) : XT X cls W (.Compare a [.GtE] [b] pos) (tTest (tOp (rI0 fun i j => .bl (decide (j ≤ i))) ta tb)) (dTest (dOp tGe da db)) := ⟨pt_cmpR op_ge ha.p hb.p (nomark _), st_test (se_op os_ge ha.s hb.s)⟩
theorem yeq (hu : X.A.units + 64 < cLine) (ha : XE X cls W a ta da) (hb : XE X cls W b tb db) : XT X cls W (.Compare a [.Eq] [b] pos) (tTest (tOp (rEqD X.K) ta tb)) (dTest (dOp tEq da db)) := ⟨pt_cmpR (op_eqD hu) ha.p hb.p (nomark _), st_test (se_op os_eq ha.s hb.s)⟩
theorem yne (hu : X.A.units + 64 < cLine) (ha : XE X cls W a ta da) (hb : XE X cls W b tb db) : XT X cls W (.Compare a [.NotEq] [b] pos) (tTest (tOp (rNeD X.K) ta tb)) (dTest (dOp tNe da db)) := ⟨pt_cmpR (op_neD hu) ha.p hb.p (nomark _), st_test (se_op os_ne ha.s hb.s)⟩
/-- any other expression as a test, by its truth -/
theorem ytru (ha : XE X cls W a ta da) (he : ∀ whole, isTrue a X.env whole = (do let v ← whole; standAt a.pos; holding [v] (truthy v)) := by intro _; rfl) : XT X cls W a (fun σ H Q => ta σ H fun x H' => ∃ k, TruV X.K x H' k ∧ Q k H') (dTruth da) := ⟨pt_truth ha.p he, st_truth ha.s⟩
theorem ynot {t : TT} {dt : M Bool} (h : XT X cls W a t dt) : XT X cls W (.UnaryOp .Not a pos) (tNot t) (dNotT dt) := ⟨pt_not h.p, st_not h.s⟩
theorem yw {t : TT} {dt : M Bool} (h : XW X cls W a t dt) : XT X cls W a t dt := ⟨h.p.pt, h.s⟩
theorem wand1 {t : TT} {dt : M Bool} (h : XT X cls W a t dt) : XW X cls W (.BoolOp .And [a] pos) t dt := ⟨pw_and1 h.p, h.s⟩
theorem wor1 {t : TT} {dt : M Bool} (h : XT X cls W a t dt) : XW X cls W (.BoolOp .Or [a] pos) t dt := ⟨pw_or1 h.p, h.s⟩
theorem wand {t u : TT} {dt du : M Bool} (h : XT X cls W a t dt) (k : XW X cls W (.BoolOp .And (b :: es) pos) u du) : XW X cls W (.BoolOp .And (a :: b :: es) pos) (tAnd t u) (dAndT dt du) := ⟨pw_and h.p k.p, st_and h.s k.s⟩
theorem wor {t u : TT} {dt du : M Bool} (h : XT X cls W a t dt) (k : XW X cls W (.BoolOp .Or (b :: es) pos) u du) : XW X cls W (.BoolOp .Or (a :: b :: es) pos) (tOr t u) (dOrT dt du) := ⟨pw_or h.p k.p, st_or h.s k.s⟩
theorem xone {op : BoolOp} (ha : XE X cls W a ta da) : XE X cls W (.BoolOp op [a] pos) ta da := ⟨pe_one ha.p, ha.s⟩
theorem xand (ha : XE X cls W a ta da) (hb : XE X cls W (.BoolOp .And (b :: es) pos) tb db) : XE X cls W (.BoolOp .And (a :: b :: es) pos) (tAndV ta tb) (dAndV da db) := ⟨pe_and ha.p hb.p, se_andV ha.s hb.s⟩
theorem xor (ha : XE X cls W a ta da) (hb : XE X cls W (.BoolOp .Or (b :: es) pos) tb db) : XE X cls W (.BoolOp .Or (a :: b :: es) pos) (tOrV ta tb) (dOrV da db) := ⟨pe_or ha.p hb.p, se_orV ha.s hb.s⟩
theorem xnot (ha : XE X cls W a ta da) : XE X cls W (.UnaryOp .Not a pos) (tNotV ta) (dNotV da) := ⟨pe_not ha.p, se_notV ha.s⟩
theorem xif {t : TT} {dt : M Bool} (h : XT X cls W c t dt) (ha : XE X cls W a ta da) (hb : XE X cls W b tb db) : XE X cls W (.IfExp c a b pos) (tIf t ta tb) (dIfE dt da db) := ⟨pe_ifExp h.p ha.p hb.p, se_ifE h.s ha.s hb.s⟩
theorem xix (ha : XE X cls W a ta da) (hb : XE X cls W b tb db) (hs : PlainIx b := by exact fun _ _ => rfl) : XE X cls W (.Subscript a b pos) (tOp (rIx X.K) ta tb) (dOp tIx da db) := ⟨pe_ix ix_seq ha.p hb.p hs, se_op os_ix ha.s hb.s⟩
/-- of a name -/
theorem xixV (i : Nat) {x : Str} (hb : XE X cls W b tb db) (hs : PlainIx b := by exact fun _ _ => rfl) (hN : X.N[i]? = some x := by rfl) (hv : Vis X.env.scope x := by first | exact Or.inl rfl | exact Or.inr (Or.inl rfl) | exact Or.inr (Or.inr rfl)) (hd : (x == ("__debug__" : Str)) = false := by decide)
    (hcd : (x == ("__classdict__" : Str)) = false := by decide) : XE X cls W (.Subscript (.Name x p) b pos) (tOp (rIx X.K) (tVar i) tb) (dIxV i db) := ⟨pe_ix ix_seq (pe_var hN hv hd hcd) hb.p hs, se_ixV hb.s⟩
theorem anil : XA X cls W [] tNil [] := ⟨pa_nil, sa_nil⟩
theorem acons {t : TA} {as : List EM} (ha : XE X cls W e te d) (hr : XA X cls W es t as) (hs : starEach (e :: es) X.env = (false, eval e X.env) :: starEach es X.env := by rfl) : XA X cls W (e :: es) (tCons te t) (d :: as) := ⟨pa_cons ha.p hr.p hs, sa_cons ha.s hr.s⟩
theorem xtup {t : TA} {as : List EM} {k} (h : XA X cls W es t as) (hl : as.length ≤ 1000 := by decide) : XE X cls W (.Tuple es k pos) (tTup t) (dTup as) := ⟨pe_tup h.p, se_tup h.s hl⟩
theorem xlst {t : TA} {as : List EM} (h : XA X cls W es t as) (hl : as.length ≤ 1000 := by decide) : XE X cls W (.List es pos) (tLst t) (dLst as) := ⟨pe_lst h.p, se_lst h.s hl⟩
/-! slices -/
theorem ono : XO X cls W none tNoPart (fun e => .ok none e) := ⟨po_none, fun F0 H0 F H e σ r Q q => q F H r (Ex.refl F)⟩
@[simp] def dPart (d : EM) : M (Option Int) := fun e => (M.bind (fz d) fun x => match x with
  | .int i => M.pure (some i)
  | _ => M.bad) e
theorem PoO.mono {C : Ct} {F0 H0 F F1 : Hp} {σ : L2.St} {Q : Option Int → Hp → Prop} (x : Ex F F1) : ∀ {r : R (Option Int)}, PoO C F0 H0 F σ Q r → PoO C F0 H0 F1 σ Q r
  | .ok _ _, h => fun F' H' r x' => h F' H' r (x.trans x')
  | .ex _ _, h => fun F' H' r x' => h F' H' r (x.trans x')
  | .bad, h => h
theorem osm (ha : XE X cls W a ta da) : XO X cls W (some a) (tPart ta) (dPart da) := ⟨po_some ha.p, fun F0 H0 F H e σ rl Q q => by
  refine (se_fz ha.s).go (g := fun x => match x with | .int i => M.pure (some i) | _ => M.bad) (Po := fun F r => PoO ⟨X.K, cls, W⟩ F0 H0 F σ Q r) rl (fun _ _ _ x h => PoO.mono x h) (fun _ _ _ h => h) (fun _ h => h) q fun v x F1 H1 e1 r1 x1 rp q1 => ?_
  cases rp with
  | int => exact ⟨_, rfl, q1 F1 H1 r1 (Ex.refl F1)⟩
  | _ => exact q1.elim⟩
@[simp] def dSlc (a : EM) (lo hi : M (Option Int)) : EM := fun e => (M.bind (fz a) fun x => M.bind lo fun l => M.bind hi fun u => lift (tSlc x l u)) e
theorem xslc {tl th : TO} {dl dh : M (Option Int)} {lo hi : Option Expr} (ha : XE X cls W a ta da) (hl : XO X cls W lo tl dl) (hh : XO X cls W hi th dh) : XE X cls W (.Subscript a (.Slice lo hi none p2) pos) (tSl (rSlL X.K) ta tl th) (dSlc da dl dh) :=
  ⟨pe_slice sl_list ha.p hl.p hh.p, fun F0 H0 F H e σ rl Q q => by
    refine (se_fz ha.s).go (g := fun x => M.bind dl fun l => M.bind dh fun u => lift (tSlc x l u)) (Po := fun F r => PoE ⟨X.K, cls, W⟩ F0 H0 F σ Q r) rl (fun _ _ _ x h => PoE.mono x h) (fun _ _ _ h => h) (fun _ h => h) q fun v x F1 H1 e1 r1 x1 rp q1 => ?_
    refine hl.s.go (g := fun l => M.bind dh fun u => lift (tSlc x l u)) (Po := fun F r => PoE ⟨X.K, cls, W⟩ F0 H0 F σ Q r) r1 (fun _ _ _ x h => PoE.mono x h) (fun _ _ _ h => h) (fun _ h => h) q1 fun l F2 H2 e2 r2 x2 q2 => ?_
    refine hh.s.go (g := fun u => lift (tSlc x l u)) (Po := fun F r => PoE ⟨X.K, cls, W⟩ F0 H0 F σ Q r) r2 (fun _ _ _ x h => PoE.mono x h) (fun _ _ _ h => h) (fun _ h => h) q2 fun u F3 H3 e3 r3 x3 q3 => ?_
    obtain ⟨z, hz, pv⟩ := lift_of r3 q3
    exact os_slc r3.sub ((rp.mono x2).mono x3) hz pv⟩
/-! built-ins -/
theorem xb {x : Str} {id : String} {r : List V → Hp → VK → Prop} {f : List T → Option O} {t : TA} {as : List EM} (hc : CallR X (.builtin id) r) (hf : BS ⟨X.K, cls, W⟩ r f) (hm : X.mg x = none) (ha : XA X cls W (e :: es) t as) (hg : Gl X x := by rfl) (hv : bootBuiltins x = some (.builtin id) := by decide +kernel) (hn : x ≠ "__name__" := by decide) (hdb : (x == ("__debug__" : Str)) = false := by decide)
    (he : starEach (e :: es) X.env = (false, eval e X.env) :: starEach es X.env := by rfl) (hpl : (backTo pos (starEach es X.env)).any (·.1) = false := by rfl) : XE X cls W (.Call (.Name x p) (e :: es) [] pos) (tCB r t) (dB f as) := ⟨pe_callB hc hg hm hv ha.p hn hdb he hpl, se_b hf ha.s⟩
theorem xbT {x : Str} {id : String} {r : List V → Hp → VK → Prop} {f : List T → Option O} {t : TA} {as : List EM} (hc : CallR X (.type id) r) (hf : BS ⟨X.K, cls, W⟩ r f) (hm : X.mg x = none) (ha : XA X cls W (e :: es) t as) (hg : Gl X x := by rfl) (hv : bootBuiltins x = some (.type id) := by decide +kernel) (hn : x ≠ "__name__" := by decide) (hdb : (x == ("__debug__" : Str)) = false := by decide)
    (he : starEach (e :: es) X.env = (false, eval e X.env) :: starEach es X.env := by rfl) (hpl : (backTo pos (starEach es X.env)).any (·.1) = false := by rfl) : XE X cls W (.Call (.Name x p) (e :: es) [] pos) (tCB r t) (dB f as) := ⟨pe_callTy hc hg hm hv ha.p hn hdb he hpl, se_b hf ha.s⟩
theorem xlenV (i : Nat) {x : Str} (hm : X.mg "len" = none) (hg : Gl X "len" := by rfl) (hN : X.N[i]? = some x := by rfl) (hv : Vis X.env.scope x := by first | exact Or.inl rfl | exact Or.inr (Or.inl rfl) | exact Or.inr (Or.inr rfl)) (hd : (x == ("__debug__" : Str)) = false := by decide)
    (hcd : (x == ("__classdict__" : Str)) = false := by decide) {q : Pos} (hs : starEach [.Name x q] X.env = (false, eval (.Name x q) X.env) :: starEach [] X.env := by rfl) : XE X cls W (.Call (.Name "len" p) [.Name x q] [] pos) (tCB (fun xs H Q => ∃ p ys, xs = [.ref p] ∧ (SqL X.K H p ys ∨ SqT X.K H p ys) ∧ Q (.int ys.length) H) (tCons (tVar i) tNil)) (dLenV i) :=
  ⟨pe_callB call_len_seq hg hm PySem.boot_len (pa_cons (pe_var hN hv hd hcd) pa_nil hs) (by decide) (by decide) hs (by rfl), se_lenV⟩
/-- isinstance(x, T), T a built-in type by its name -/
theorem xis {tn : Str} {s : String} (hm : X.mg "isinstance" = none) (hmt : X.mg tn = none) (ha : XE X cls W a ta da) (hg : Gl X "isinstance" := by rfl) (hgt : Gl X tn := by rfl) (hv : bootBuiltins tn = some (.type s) := by decide +kernel) (hn : tn ≠ "__name__" := by decide) (hd : (tn == ("__debug__" : Str)) = false := by decide)
    (he : starEach [a, .Name tn p2] X.env = (false, eval a X.env) :: starEach [.Name tn p2] X.env := by rfl) (hs2 : starEach [.Name tn p2] X.env = (false, eval (.Name tn p2) X.env) :: starEach [] X.env := by rfl) (hpl : (backTo pos (starEach [.Name tn p2] X.env)).any (·.1) = false := by rfl) (hb : bootBuiltins "isinstance" = some (.builtin "isinstance") := by decide +kernel) :
    XE X cls W (.Call (.Name "isinstance" p) [a, .Name tn p2] [] pos) (tCB (rIsi X.K) (tCons ta (tCons (tC (.ty s)) tNil))) (dUn (isB s) da) :=
  ⟨pe_callB call_isi hg hm hb (pa_cons ha.p (pa_cons (pe_bltn hgt hmt hv rfl hn hd) pa_nil hs2) he) (by decide) (by decide) he hpl, se_is ha.s⟩
/-! walks -/
theorem iit {tg : Expr} (ha : XE X cls W a ta da) : XI X cls W tg a (iSeq X.K ta) (dIt da) := by
  refine ⟨⟨fun pins s σ H R I h => thn (ha.p.run pins s σ H _ I h) fun v s1 hv => ?_⟩, si_it ha.s⟩
  obtain ⟨x, H1, J, rv, ad, rfl, h1⟩ := hv
  cases rv
  have new : ∀ bb ∈ [s1.heap.objs.size], FpOk X pins H1 bb := fun bb hb => by
    rw [List.mem_singleton.mp hb]
    exact J.fpOk (Nat.le_refl _) (J.hok.fresh (Nat.le_refl _))
  rcases h1 with ⟨⟨zs, hz⟩, h1⟩ | ⟨⟨zs, hz⟩, h1⟩
  · obtain ⟨its, _, pl, _⟩ := J.list hz
    exact wpAny_pyIter_list pl.isList ⟨_, [s1.heap.objs.size], _, Itl X.K ad, H1, rfl, J.kept (t' := s1.toks) fun _ _ q => Heap.get?_push_of_some _ q, turn_list ad _, ⟨_, Heap.get?_push_size _ rfl, rfl, rfl⟩, new, h1⟩
  · obtain ⟨its, _, pl, _⟩ := J.tuple hz
    exact wpAny_pyIter_tuple pl ⟨_, [s1.heap.objs.size], _, Itt X.K ad, H1, rfl, J.kept (t' := s1.toks) fun _ _ q => Heap.get?_push_of_some _ q, turn_tuple ad _, ⟨_, Heap.get?_push_size _ rfl, rfl, rfl⟩, new, h1⟩
theorem irng1 {tg : Expr} {t : TA} {as : List EM} (hm : X.mg "range" = none) (ha : XA X cls W [a] t as) (hg : Gl X "range" := by rfl) (hs : starEach [a] X.env = [(false, eval a X.env)] := by rfl) : XI X cls W tg (.Call (.Name "range" p) [a] [] pos) (iRng1 t) (dItA rng1 as) := ⟨pi_range1 hg hm ha.p hs, si_rng1 ha.s⟩
theorem irng2 {tg : Expr} {t : TA} {as : List EM} (hm : X.mg "range" = none) (ha : XA X cls W [a, b] t as) (hg : Gl X "range" := by rfl) (hs : starEach [a, b] X.env = [(false, eval a X.env), (false, eval b X.env)] := by rfl) (hs2 : starEach [b] X.env = [(false, eval b X.env)] := by rfl) :
    XI X cls W tg (.Call (.Name "range" p) [a, b] [] pos) (iRng2 t) (dItA rng2 as) := ⟨pi_range2 hg hm ha.p hs hs2, si_rng2 ha.s⟩
theorem izip {t : TA} {as : List EM} {elts : List Expr} {kk : Nat} {tpos : Pos} (hm : X.mg "zip" = none) (ha : XA X cls W [a, b] t as) (hg : Gl X "zip" := by rfl) (hs : starEach [a, b] X.env = (false, eval a X.env) :: starEach [b] X.env := by rfl) (hpl : (backTo pos (starEach [b] X.env)).any (·.1) = false := by rfl) :
    XI X cls W (.Tuple elts kk tpos) (.Call (.Name "zip" p) [a, b] [] pos) (iZip X.K t) (dItA zip2 as) := ⟨pi_zip hg hm ha.p hs hpl, si_zip ha.s⟩
theorem ienum {t : TA} {as : List EM} {elts : List Expr} {kk : Nat} {tpos : Pos} (hm : X.mg "enumerate" = none) (ha : XA X cls W [a] t as) (hg : Gl X "enumerate" := by rfl) (hs : starEach [a] X.env = [(false, eval a X.env)] := by rfl) :
    XI X cls W (.Tuple elts kk tpos) (.Call (.Name "enumerate" p) [a] [] pos) (iEnum X.K t) (dItA enum1 as) := ⟨pi_enum hg hm ha.p hs, si_enum ha.s⟩
end
end Tr

namespace Tr
open PySem PySem.Spec PyProof.Rows L2
open Evl (Ex)

section
variable {X : Cx} {cls : Nat → Value} {W : WX} {a b c e : Expr} {es : List Expr} {ta tb tc te : TE} {da db dc d : EM} {pos p p2 : Pos}
/-- a def as it stands: its level k, its parameters ps, what it does g -/
structure Fk (P : Program) (w : World) (K : PySem.W.Frag) (mg : Str → Option Value) (base : Heap) (cls : Nat → Value) (x : Str) (k n : Nat) (g : List T → Rf) : Prop where
  ex : ∃ (f : Addr) (fd : FuncData) (ps : List Str), ps.length = n ∧ mg x = some (.ref f) ∧ PySem.W.keepIn K (.ref f) = true ∧ Binds K fd ps [] ∧ FnOk P w K mg base CX0 k f fd ps (spT K cls n g)
theorem Fk.imp {P : Program} {w : World} {K : PySem.W.Frag} {mg : Str → Option Value} {base : Heap} {x : Str} {k n : Nat} {f g : List T → Rf} (F : Fk P w K mg base cls x k n f) (h : ∀ ts, ts.length = n → g ts ≠ .bad → f ts = g ts) : Fk P w K mg base cls x k n g := by
  obtain ⟨fa, fd, ps, h1, h2, h3, h4, h5⟩ := F.ex
  exact ⟨fa, fd, ps, h1, h2, h3, h4, h5.imp fun vs H Q E q => spT_imp h q⟩
theorem Fk.up {P : Program} {w : World} {K : PySem.W.Frag} {mg : Str → Option Value} {base : Heap} {x : Str} {j k n : Nat} {g : List T → Rf} (F : Fk P w K mg base cls x j n g) (h : j ≤ k) : Fk P w K mg base cls x k n g := by
  obtain ⟨fa, fd, ps, h1, h2, h3, h4, h5⟩ := F.ex
  exact ⟨fa, fd, ps, h1, h2, h3, h4, h5.mono h⟩
theorem xcall {x : Str} {k n : Nat} {g : List T → Rf} {t : TA} {as : List EM} (F : Fk X.prog X.w X.K X.mg X.base cls x k n g) (hr : Room k X.A) (ha : XA X cls W0 (e :: es) t as) (hl : as.length = n := by rfl) (hg : Gl X x := by rfl) (hdb : (x == ("__debug__" : Str)) = false := by decide)
    (he : starEach (e :: es) X.env = (false, eval e X.env) :: starEach es X.env := by rfl) (hpl : (backTo pos (starEach es X.env)).any (·.1) = false := by rfl) : XE X cls W0 (.Call (.Name x p) (e :: es) [] pos) (tCall (spT X.K cls n g) [] E0 t) (dCall g as) := by
  obtain ⟨f, fd, ps, h1, h2, h3, h4, h5⟩ := F.ex
  exact ⟨pe_call h5 hr hg h2 h3 h4 .nil pass0 ha.p hdb he hpl, se_call (fun _ _ _ h => h.elim) ha.s hl⟩
theorem xcall0 {x : Str} {k : Nat} {g : List T → Rf} (F : Fk X.prog X.w X.K X.mg X.base cls x k 0 g) (hr : Room k X.A) (hg : Gl X x := by rfl) (hdb : (x == ("__debug__" : Str)) = false := by decide) : XE X cls W0 (.Call (.Name x p) [] [] pos) (tCall (spT X.K cls 0 g) [] E0 tNil) (dCall g []) := by
  obtain ⟨f, fd, ps, h1, h2, h3, h4, h5⟩ := F.ex
  exact ⟨pe_call0 h5 hr hg h2 h3 h4 .nil pass0 hdb, se_call (fun _ _ _ h => h.elim) sa_nil rfl⟩
/-! targets -/
theorem gname (i : Nat) {x : Str} (hN : X.N.Nodup) (hi : X.N[i]? = some x := by rfl) (hx : Loc X.env.scope x := by first | exact Or.inl rfl | exact Or.inr rfl) (hf : X.fn x = true ∨ X.env.scope.names.lookup x = some .local := by first | exact .inl rfl | exact .inr rfl | assumption) : XG X cls W (.Name x pos) (gName i) (gN i) := ⟨pg_name hN hi hx hf, sg_name⟩
theorem gsnil : XGs X cls W [] gNil gNils := ⟨pgs_nil, sgs_nil⟩
theorem gscons {i : Nat} {r : TGs} {dr : List T → M Unit} (ha : XG X cls W a (gName i) (gN i)) (hr : XGs X cls W es r dr)
    (hs : (assignEach (a :: es) X.env).map (fun z => z.2) = assign a X.env :: (assignEach es X.env).map (fun z => z.2) := by rfl) : XGs X cls W (a :: es) (gCons (gName i) r) (gCon (gN i) dr) := ⟨pgs_cons ha.p hr.p hs, sgs_cons ha.s hr.s fun t e c e' h => by cases h⟩
theorem gtup {k : Nat} {t : TGs} {n : Nat} {dr : List T → M Unit} (hc : X.calm = true) (h : XGs X cls W es t dr) (hn : (assignEach es X.env).length = n := by rfl) (hst : (assignEach es X.env).findIdx? (·.1) = none := by rfl) : XG X cls W (.Tuple es k pos) (gTup X.K n t) (gT n dr) :=
  ⟨pg_tup hc h.p hn hst, sg_tup h.s⟩
/-! comprehensions -/
theorem tsnil : XTs X cls W [] tYes dYes := ⟨pts_nil, fun F0 H0 F H e σ r Q q => q F H r (Ex.refl F)⟩
theorem tsone {t : TT} {dt : M Bool} (h : XT X cls W a t dt) : XTs X cls W [a] t dt := ⟨pts_one h.p, h.s⟩
theorem xlc {elt tg iter : Expr} {ifs : List Expr} {scope : Scope} (own : List (Str × Nat)) {wi : TI} {g : TG} {tt : TT} {te : TE} {di : M (List T)} {dg : GM} {dt : M Bool} {de : EM} (hc : X.calm = true) (hN : X.N.Nodup) (hi : XI X cls W tg iter wi di) (ok : BlkOk X.N X.env.scope scope own)
    (ow : OwnG (own.map (·.2)) g)
    (hg : ∀ (s : Shared) (H : Hp) (C : Addr) (cl : List (Str × Addr)) (fp : List Addr), XG (X.blk s H scope (compEnvC scope cl C X.env) fp) cls W0 tg g dg)
    (ht : ∀ (s : Shared) (H : Hp) (C : Addr) (cl : List (Str × Addr)) (fp : List Addr), XTs (X.blk s H scope (compEnvC scope cl C X.env) fp) cls W0 ifs tt dt)
    (he : ∀ (s : Shared) (H : Hp) (C : Addr) (cl : List (Str × Addr)) (fp : List Addr), XE (X.blk s H scope (compEnvC scope cl C X.env) fp) cls W0 elt te de) (hs : ∀ x, foldedSetIterable iter X.env x = pure x := by intro _; rfl) :
    XE X cls W (.ListComp elt [⟨tg, iter, ifs, 0⟩] scope pos) (tLc wi g tt te (own.map (·.2))) (dLc di (own.map (·.2)) dg dt de) :=
  ⟨pe_lc hc hN hi.p ok (fun s H C cl fp => (hg s H C cl fp).p) (fun s H C cl fp => (ht s H C cl fp).p) (fun s H C cl fp => (he s H C cl fp).p) hs,
   se_lc hi.s ow (hg {} (fun _ => none) 0 [] []).s (ht {} (fun _ => none) 0 [] []).s (he {} (fun _ => none) 0 [] []).s⟩
/-! statements -/
theorem snil : XSs X cls W [] tNext dSkip := ⟨pss_nil, ss_next⟩
theorem scons {st : Stmt} {rest : List Stmt} {t u : TS} {ds dr : SM} (h : XS X cls W st t ds) (k : XSs X cls W rest u dr) : XSs X cls W (st :: rest) (tSeq t u) (dSeq ds dr) := ⟨pss_cons h.p k.p, ss_seq h.s k.s⟩
theorem sone {st : Stmt} {t : TS} {ds : SM} (h : XS X cls W st t ds) : XSs X cls W [st] t ds := ⟨pss_one h.p, h.s⟩
theorem snever {st : Stmt} : XS X cls W st tNever (fun _ => .bad) := ⟨ps_never, fun F0 H0 F H e σ rl D q => q.elim⟩
theorem spass : XS X cls W (.Pass pos) tNext dSkip := ⟨ps_pass, ss_next⟩
theorem sbreak : XS X cls W (.Break pos) tBreak dBreak := ⟨ps_break, ss_break⟩
theorem scont : XS X cls W (.Continue pos) tCont dCont := ⟨ps_continue, ss_cont⟩
theorem sset (i : Nat) {x : Str} {pos' : Pos} (hN : X.N.Nodup) (he : XE X cls W e te d) (hi : X.N[i]? = some x := by rfl) (hx : Loc X.env.scope x := by first | exact Or.inl rfl | exact Or.inr rfl) (hs : swapsWith e (some (.Name x pos')) pos.line X.env = pure false := by rfl)
    (hf : X.fn x = true ∨ X.env.scope.names.lookup x = some .local := by first | exact .inl rfl | exact .inr rfl | assumption) : XS X cls W (.Assign [.Name x pos'] e pos) (tAsg te (gName i)) (dAsg i d) := ⟨ps_set hN hi hx he.p hs hf, ss_asg he.s⟩
/-- x = [..], x a local -/
theorem ssetLc (i : Nat) {y : Str} {py : Pos} {elt tg iter : Expr} {ifs : List Expr} {scope : Scope} {spos : Pos} (own : List (Str × Nat)) {wi : TI} {g : TG} {tt : TT} {te : TE} {di : M (List T)} {dg : GM} {dt : M Bool} {de : EM} (hc : X.calm = true) (hN : X.N.Nodup) (hi : XI X cls W tg iter wi di) (ok : BlkOk X.N X.env.scope scope own)
    (ow : OwnG (own.map (·.2)) g)
    (hg : ∀ (s : Shared) (H : Hp) (C : Addr) (cl : List (Str × Addr)) (fp : List Addr), XG (X.blk s H scope (compEnvC scope cl C X.env) fp) cls W0 tg g dg)
    (ht : ∀ (s : Shared) (H : Hp) (C : Addr) (cl : List (Str × Addr)) (fp : List Addr), XTs (X.blk s H scope (compEnvC scope cl C X.env) fp) cls W0 ifs tt dt)
    (he : ∀ (s : Shared) (H : Hp) (C : Addr) (cl : List (Str × Addr)) (fp : List Addr), XE (X.blk s H scope (compEnvC scope cl C X.env) fp) cls W0 elt te de)
    (hk : X.env.scope.kind = .function := by rfl) (hl : (py.line == pos.line) = true := by rfl) (hany : (scope.names.any fun (n, k) => n == y && (k == .local || k == .cell)) = false := by decide +kernel)
    (hs : ∀ x, foldedSetIterable iter X.env x = pure x := by intro _; rfl) (hy : X.N[i]? = some y := by rfl) (hyl : X.env.scope.names.lookup y = some .local := by rfl) :
    XS X cls W (.Assign [.Name y py] (.ListComp elt [⟨tg, iter, ifs, 0⟩] scope pos) spos) (tAsg (tLc wi g tt te (own.map (·.2))) (gName i)) (dAsg i (dLc di (own.map (·.2)) dg dt de)) :=
  ⟨ps_setLc hc hN hy hyl (sw_true hk hyl hl hany) hi.p ok (fun s H C cl fp => (hg s H C cl fp).p) (fun s H C cl fp => (ht s H C cl fp).p) (fun s H C cl fp => (he s H C cl fp).p) hs,
   ss_asg (se_lc hi.s ow (hg {} (fun _ => none) 0 [] []).s (ht {} (fun _ => none) 0 [] []).s (he {} (fun _ => none) 0 [] []).s)⟩
/-- a target of any form -/
theorem sasg {tg : Expr} {g : TG} {dg : GM} (he : XE X cls W e te d) (hg : XG X cls W tg g dg) (hs : swapsWithSole [tg] e pos.line X.env = pure false := by rfl) (hw : swappedStores [tg] e X.env = pure none := by rfl) (h1 : (assignEach [tg] X.env).map (fun z => z.2) = [assign tg X.env] := by rfl) : XS X cls W (.Assign [tg] e pos) (tAsg te g) (dAsgG dg d) := ⟨ps_asg he.p hg.p hs hw h1, ss_asgG he.s hg.s⟩
theorem sif {u w : TS} {t : TT} {dt : M Bool} {du dw : SM} {us ws : List Stmt} (h : XT X cls W c t dt) (ha : XSs X cls W us u du) (hb : XSs X cls W ws w dw) : XS X cls W (.If c us ws pos) (tIfS t u w) (dIf dt du dw) := ⟨ps_if h.p ha.p hb.p, ss_if h.s ha.s hb.s⟩
theorem sret (h : XE X cls W e te d) : XS X cls W (.Return (some e) pos) (tRet te) (dRet d) := ⟨ps_ret h.p, ss_ret h.s⟩
/-- return x -/
theorem sretV (i : Nat) {x : Str} (hN : X.N[i]? = some x := by rfl) (hv : Vis X.env.scope x := by first | exact Or.inl rfl | exact Or.inr (Or.inl rfl) | exact Or.inr (Or.inr rfl)) (hd : (x == ("__debug__" : Str)) = false := by decide)
    (hcd : (x == ("__classdict__" : Str)) = false := by decide) : XS X cls W (.Return (some (.Name x p)) pos) (tRet (tVar i)) (dRetV i) := ⟨ps_ret (pe_var hN hv hd hcd), ss_retV⟩
theorem sretN : XS X cls W (.Return none pos) tRetN dRetN := ⟨ps_retN, ss_retN⟩
theorem sexpr (h : XE X cls W e te d) (hs : swapsWith e none pos.line X.env = pure false := by rfl) : XS X cls W (.Expr e pos) (tDrop te) (dExpr d) := ⟨ps_expr h.p hs, ss_expr h.s⟩
theorem swhile (n : Nat) {t : TT} {u : TS} {dt : M Bool} {du : SM} {us : List Stmt} (hp : PassesOwn (model X.prog X.w) X.A X.env X.xe) (h : XT X cls W c t dt) (hb : XSs X cls W us u du) : XS X cls W (.While c us [] pos) (tWhile t u) (whileF dt du n) := ⟨ps_while hp h.p hb.p, ss_while h.s hb.s⟩
theorem sfor {tg iter : Expr} {wi : TI} {g : TG} {u : TS} {di : M (List T)} {dg : GM} {du : SM} {us : List Stmt} (hp : PassesOwn (model X.prog X.w) X.A X.env X.xe) (hc : X.calm = true) (hi : XI X cls W tg iter wi di) (hg : XG X cls W tg g dg) (hb : XSs X cls W us u du)
    (hs : ∀ x, foldedSetIterable iter X.env x = pure x := by intro _; rfl) : XS X cls W (.For tg iter us [] pos) (tFor wi g u) (dFor di dg du) := ⟨ps_for hp hc hi.p hg.p hb.p hs, ss_for hi.s hg.s hb.s⟩
theorem saug_add (i : Nat) {x : Str} {pos' : Pos} (hN : X.N.Nodup) (he : XE X cls W e te d) (hi : X.N[i]? = some x := by rfl) (hx : Loc X.env.scope x := by first | exact Or.inl rfl | exact Or.inr rfl) (hf : X.fn x = true ∨ X.env.scope.names.lookup x = some .local := by first | exact .inl rfl | exact .inr rfl | assumption) :
    XS X cls W (.AugAssign (.Name x pos') .Add e pos) (tAug i te (ipI fun i j => i + j)) (dAug (fun i j => i + j) i d) := ⟨ps_aug hN hi hx he.p ip_add hf, ss_aug he.s⟩
theorem saug_sub (i : Nat) {x : Str} {pos' : Pos} (hN : X.N.Nodup) (he : XE X cls W e te d) (hi : X.N[i]? = some x := by rfl) (hx : Loc X.env.scope x := by first | exact Or.inl rfl | exact Or.inr rfl) (hf : X.fn x = true ∨ X.env.scope.names.lookup x = some .local := by first | exact .inl rfl | exact .inr rfl | assumption) :
    XS X cls W (.AugAssign (.Name x pos') .Sub e pos) (tAug i te (ipI fun i j => i - j)) (dAug (fun i j => i - j) i d) := ⟨ps_aug hN hi hx he.p ip_sub hf, ss_aug he.s⟩
/-- x.append(e) -/
theorem sapp (i : Nat) {x : Str} {q apos : Pos} (he : XE X cls W e te d) (hN : X.N[i]? = some x := by rfl) (hv : Vis X.env.scope x := by first | exact Or.inl rfl | exact Or.inr (Or.inl rfl) | exact Or.inr (Or.inr rfl)) (hd : (x == ("__debug__" : Str)) = false := by decide)
    (hcd : (x == ("__classdict__" : Str)) = false := by decide)
    (hbase : attributeBase (.Name x q) "append" X.env (eval (.Name x q) X.env) = eval (.Name x q) X.env := by rfl)
    (hfew : ((backTo p2 (starEach [e] X.env)).all (fun x => !x.1) && (backToKw p2 (keywordEach [] X.env)).all (fun x => x.1.isSome)
      && decide ([e].length + ([] : List Keyword).length + (if ([] : List Keyword).isEmpty then 0 else 1) < 30)) = true := by rfl)
    (hline : (apos.endLine == p2.line) = true := by rfl) (hs : starEach [e] X.env = (false, eval e X.env) :: starEach [] X.env := by rfl) (hplain : (backTo p2 (starEach [] X.env)).any (·.1) = false := by rfl)
    (hsw : swapsWith (.Call (.Attribute (.Name x q) "append" apos) [e] [] p2) none pos.line X.env = pure false := by rfl) :
    XS X cls W (.Expr (.Call (.Attribute (.Name x q) "append" apos) [e] [] p2) pos) (tDrop (tBM X.K "list" rAppend (tVar i) (tCons te tNil))) (dApp i d) :=
  ⟨ps_expr (pe_bm PySem.F.plainAttrs_list PySem.F.slot_list_append PySem.F.type_list_append mt_append (pe_var hN hv hd hcd) (pa_cons he.p pa_nil hs) hbase hfew hline hs hplain) hsw, ss_app he.s⟩
/-- x[b] = e -/
theorem ssetI (i : Nat) {x : Str} {q tpos : Pos} (he : XE X cls W e te d) (hb : XE X cls W b tb db) (hN : X.N[i]? = some x := by rfl) (hv : Vis X.env.scope x := by first | exact Or.inl rfl | exact Or.inr (Or.inl rfl) | exact Or.inr (Or.inr rfl)) (hd : (x == ("__debug__" : Str)) = false := by decide)
    (hcd : (x == ("__classdict__" : Str)) = false := by decide)
    (ha : ∀ v, assign (.Subscript (.Name x q) b tpos) X.env v = (do
      let ov ← holding [v] (eval (.Name x q) X.env)
      let iv ← holding [v, ov] (eval b X.env)
      standAt tpos
      holding [v, ov, iv] (setItem ov iv v)
      release [v, ov, iv] []) := by intro _; rfl)
    (hs : swapsWithSole [.Subscript (.Name x q) b tpos] e pos.line X.env = pure false := by rfl) (hw : swappedStores [.Subscript (.Name x q) b tpos] e X.env = pure none := by rfl) :
    XS X cls W (.Assign [.Subscript (.Name x q) b tpos] e pos) (tAsg te (gSub (tVar i) tb rSetL)) (dSet i db d) := ⟨ps_asg he.p (pg_sub (pe_var hN hv hd hcd) hb.p set_list ha) hs hw, ss_set he.s hb.s⟩
/-- x, y = a, b -/
theorem spar (i j : Nat) {x y : Str} {px py pt : Pos} {kt k2 : Nat} {pt2 : Pos} {t : TA} (hc : X.calm = true) (hN : X.N.Nodup) (h : XA X cls W [a, b] t [da, db]) (hi : X.N[i]? = some x := by rfl) (hj : X.N[j]? = some y := by rfl) (hij : i ≠ j := by decide)
    (hx : X.env.scope.names.lookup x = some .local := by rfl) (hy : X.env.scope.names.lookup y = some .local := by rfl)
    (hw : swappedStores [.Tuple [.Name x px, .Name y py] kt pt] (.Tuple [a, b] k2 pt2) X.env = pure (some [x, y]) := by rfl)
    (hs : swapsWithSole [.Tuple [.Name x px, .Name y py] kt pt] (.Tuple [a, b] k2 pt2) pos.line X.env = pure false := by rfl) :
    XS X cls W (.Assign [.Tuple [.Name x px, .Name y py] kt pt] (.Tuple [a, b] k2 pt2) pos) (tPar i j t) (dPar i j da db) := ⟨ps_par hc hN hi hj hij hx hy h.p hw hs, ss_par h.s⟩
end

/-- THE RULE for a def that lets nothing out -/
theorem fn_okF {P : Program} {w : World} {K : PySem.W.Frag} {mg : Str → Option Value} {base : Heap} {cls : Nat → Value} {x qual : Str} {st : Stmt} {f : Addr} {fd : FuncData} {N ps : List Str} {k : Nat} {d : SM} (F : Fun K x qual st f fd) (S : FnScope N ps (defScope st))
    (hbody : ∀ (cdv : Value) (A : Around) (outer : List Env) (s : Shared) (H : Hp) (E : XK), Room k (A.deeper (envOfC qual (defScope st) s.heap.objs.size f cdv)) →
      ∃ t, XSs (cxOf CX0 P w K mg base N qual (defScope st) f cdv A outer s H E).nox cls W0 (defBody st) t d) : FnOk P w K mg base CX0 (k + 1) f fd ps (spT K cls ps.length (dFn N.length d)) := by
  refine F.ok S (fun vs H Q E h => by rw [spT_len h]) fun cdv A outer s H vs Q E hr h => ?_
  obtain ⟨t, hx⟩ := hbody cdv A outer s H E hr
  refine ⟨t, hx.p, ?_⟩
  obtain ⟨F1, ts, xx, r, e, q⟩ := h
  refine hx.s F1 H F1 H (ini N.length ts) (L2.start N vs) (rl_start xx r) _ ?_
  unfold dFn at q
  cases hd : d (ini N.length ts) with
  | bad =>
    rw [hd] at q
    exact q.elim
  | ex c e' =>
    rw [hd] at q
    exact q.elim
  | ok fl e' =>
    rw [hd] at q
    cases fl with
    | nx => exact fun F' H' σ' r' x' => q .non F' H' r'.fin (.inl ⟨rfl, .non⟩)
    | rt r => exact fun v F' H' fi x' o => q v F' H' fi o
    | bk => exact q.elim
    | ct => exact q.elim
theorem Fk.mk' {P : Program} {w : World} {K : PySem.W.Frag} {mg : Str → Option Value} {base : Heap} {cls : Nat → Value} {x : Str} {f : Addr} {fd : FuncData} {ps : List Str} {k n : Nat} {g : List T → Rf} (hm : mg x = some (.ref f)) (kp : PySem.W.keepIn K (.ref f) = true) (hb : Binds K fd ps []) (hn : ps.length = n)
    (h : FnOk P w K mg base CX0 k f fd ps (spT K cls ps.length g)) : Fk P w K mg base cls x k n g := by
  subst hn
  exact ⟨f, fd, ps, rfl, hm, kp, hb, h⟩
theorem FnOk.impT {P : Program} {w : World} {K : PySem.W.Frag} {mg : Str → Option Value} {base : Heap} {cls : Nat → Value} {f : Addr} {fd : FuncData} {ps : List Str} {k n : Nat} {g g' : List T → Rf} (h : FnOk P w K mg base CX0 k f fd ps (spT K cls n g)) (q : ∀ ts, ts.length = n → g' ts ≠ .bad → g ts = g' ts) : FnOk P w K mg base CX0 k f fd ps (spT K cls n g') := h.imp fun _ _ _ _ z => spT_imp q z
/-- the law's end -/
theorem law_sp {K : PySem.W.Frag} {cls : Nat → Value} {g : List T → Rf} {H : Hp} {a : Addr} {ns : List Int} (h : SqL K H a (ns.map V.int)) (q : g [.scr ns] = .ok (false, .bl true)) : spT K cls 1 g [.ref a] H (fun v _ => v = .bl true) fun _ _ _ => False := by
  refine ⟨H, [.scr ns], Ex.refl H, .cons (.scr h) .nil, rfl, ?_⟩
  rw [q]
  intro v F' H' fi o
  rcases o with ⟨_, o⟩ | ⟨e, _⟩
  · cases o
    rfl
  · cases e
end Tr

namespace Tr
open PySem PySem.Spec PyProof.Rows L2
/-! ### what runs come to -/
theorem bind_ok {α β : Type} {m : M α} {f : α → M β} {e e' : En} {a : α} (h : m e = .ok a e') : M.bind m f e = f a e' := by
  unfold M.bind
  rw [h]
theorem seq_nx {a b : SM} {e e' : En} (h : a e = .ok .nx e') : dSeq a b e = b e' := by
  unfold dSeq M.bind
  rw [h]
theorem seq_rt {a b : SM} {e e' : En} {r : Bool × T} (h : a e = .ok (.rt r) e') : dSeq a b e = .ok (.rt r) e' := by
  unfold dSeq M.bind
  rw [h]
  rfl
theorem dFn_rt {n : Nat} {d : SM} {ts : List T} {r : Bool × T} (h : ∃ e : En, d (ini n ts) = .ok (.rt r) e) : dFn n d ts = .ok r := by
  obtain ⟨e, h⟩ := h
  unfold dFn
  rw [h]
@[simp] theorem tEq_int (i j : Int) : tEq (.int i) (.int j) = some (.v (.bl (decide (i = j)))) := by
  show some (O.v (T.bl (PyData.eqv (.int i) (.int j)))) = _
  unfold PyData.eqv
  rw [Bool.beq_eq_decide_eq]
@[simp] theorem tNe_int (i j : Int) : tNe (.int i) (.int j) = some (.v (.bl (!decide (i = j)))) := by
  show some (O.v (T.bl (!PyData.eqv (.int i) (.int j)))) = _
  unfold PyData.eqv
  rw [Bool.beq_eq_decide_eq]
@[simp] theorem tAdd_int (i j : Int) : tAdd (.int i) (.int j) = some (.v (.int (i + j))) := rfl
@[simp] theorem tSub_int (i j : Int) : tSub (.int i) (.int j) = some (.v (.int (i - j))) := rfl
@[simp] theorem tLt_int (i j : Int) : tLt (.int i) (.int j) = some (.v (.bl (decide (i < j)))) := rfl
@[simp] theorem tLe_int (i j : Int) : tLe (.int i) (.int j) = some (.v (.bl (decide (i ≤ j)))) := rfl
@[simp] theorem tGt_int (i j : Int) : tGt (.int i) (.int j) = some (.v (.bl (decide (j < i)))) := rfl
@[simp] theorem tGe_int (i j : Int) : tGe (.int i) (.int j) = some (.v (.bl (decide (j ≤ i)))) := rfl
@[simp] theorem tNeg_int (i : Int) : tNegI (.int i) = some (.v (.int (-i))) := rfl
@[simp] theorem tMod_int {i j : Int} (h : 0 < j) : tMod (.int i) (.int j) = some (.v (.int (i % j))) := by
  show (if j ≠ 0 then some (T.int (i.fmod j)) else none).map O.v = _
  rw [if_pos (by omega), Int.fmod_eq_emod_of_nonneg i (by omega)]
  rfl
theorem tFdiv_int {i j : Int} (h : 0 < j) (hj : j.natAbs.log2 < 9000) : tFdiv (.int i) (.int j) = some (.v (.int (i / j))) := by
  show (if divOk j = true then some (T.int (i.fdiv j)) else none).map O.v = _
  rw [if_pos (divOk_mk ⟨by omega, hj⟩), Int.fdiv_eq_ediv_of_nonneg i (by omega)]
  rfl
theorem log2_small {j : Int} (h : j.natAbs < 2 ^ 64) : j.natAbs.log2 < 64 := by
  rcases Nat.eq_zero_or_pos j.natAbs with h0 | h0
  · rw [h0]
    decide
  · exact (Nat.log2_lt (by omega)).mpr h
@[simp] theorem tFdiv_lit {i j : Int} (h : 0 < j) (h2 : j < 18446744073709551616) : tFdiv (.int i) (.int j) = some (.v (.int (i / j))) := tFdiv_int h (by have := log2_small (j := j) (by omega); omega)
@[simp] theorem tMul_int {i j : Int} (h : mulOk i j = true) : tMul (.int i) (.int j) = some (.v (.int (i * j))) := by
  show (if mulOk i j = true then _ else _) = _
  rw [if_pos h]
@[simp] theorem isInt_int (i : Int) : isB "int" (.int i) = some (.v (.bl true)) := by
  simp only [isB, tyN, show kitB "int" "int" = some true by decide +kernel, Option.map_some]
@[simp] theorem isBool_int (i : Int) : isB "bool" (.int i) = some (.v (.bl false)) := by
  simp only [isB, tyN, show kitB "int" "bool" = some false by decide +kernel, Option.map_some]
@[simp] theorem isList_lst (xs : List T) : isB "list" (.lst xs) = some (.v (.bl true)) := by
  simp only [isB, tyN, show kitB "list" "list" = some true by decide +kernel, Option.map_some]
@[simp] theorem isTuple_tup (xs : List T) : isB "tuple" (.tup xs) = some (.v (.bl true)) := by
  simp only [isB, tyN, show kitB "tuple" "tuple" = some true by decide +kernel, Option.map_some]
theorem log2_lt {j : Int} {n : Nat} (h0 : 0 < n) (h : j.natAbs < 2 ^ n) : j.natAbs.log2 < n := by
  rcases Nat.eq_zero_or_pos j.natAbs with h1 | h1
  · rw [h1]
    simpa using h0
  · exact (Nat.log2_lt (by omega)).mpr h
theorem mulOk_pow {i j : Int} {a b : Nat} (ha : i.natAbs < 2 ^ a) (hb : j.natAbs < 2 ^ b) (h0 : 0 < a) (h1 : 0 < b) (h : a + b ≤ 1000000) : mulOk i j = true := by
  have x := log2_lt h0 ha
  have y := log2_lt h1 hb
  exact mulOk_mk (by omega)
theorem divOk_pow {j : Int} {n : Nat} (h : j ≠ 0) (h1 : j.natAbs < 2 ^ n) (h0 : 0 < n) (h2 : n ≤ 9000) : divOk j = true := by
  have x := log2_lt h0 h1
  exact divOk_mk ⟨h, by omega⟩
/-- ten to the sixtieth, never opened -/
def E60 : Int := 10 ^ 60
theorem E60_pos : 0 < E60 := by decide +kernel
theorem E60_eq : (1000000000000000000000000000000000000000000000000000000000000 : Int) = E60 := by decide +kernel
@[simp] theorem pow60 : tPow (.int 10) (.int 60) = some (.v (.int E60)) := by
  have h : tPow (.int 10) (.int 60) = some (.v (.int (10 ^ 60))) := rfl
  rw [h]
  rfl
@[simp] theorem mul60 : tMul (.int 2) (.int E60) = some (.v (.int (2 * E60))) := tMul_int (mulOk_mk (by decide +kernel))
@[simp] theorem mod60 (c : Int) : tMod (.int c) (.int (2 * E60 + 1)) = some (.v (.int (c % (2 * E60 + 1)))) := tMod_int (by have := E60_pos; omega)
@[simp] theorem mod60' (c : Int) : tMod (.int c) (.int E60) = some (.v (.int (c % E60))) := tMod_int E60_pos
theorem atI_natE {α : Type} (xs : List α) (k : Nat) : L2.atI xs ((k : Nat) : Int) = xs[k]? := by
  unfold L2.atI ixN
  by_cases h : k < xs.length
  · rw [if_pos (by omega), if_pos (by omega)]
    simp
  · rw [if_pos (by omega), if_neg (by omega), List.getElem?_eq_none (by omega)]
    rfl
theorem cut_take {α : Type} (xs : List α) (n : Nat) : cut xs none (some (n : Int)) = xs.take n := by
  unfold cut
  rw [HT.sIx_nat, HT.sIx_none, List.drop_zero, Nat.sub_zero]
  rcases Nat.le_total n xs.length with h | h
  · rw [Nat.min_eq_left h]
  · rw [Nat.min_eq_right h, List.take_of_length_le h, List.take_of_length_le (Nat.le_refl _)]
theorem cut_drop {α : Type} (xs : List α) (n : Nat) : cut xs (some (n : Int)) none = xs.drop n := by
  unfold cut
  rw [HT.sIx_nat, HT.sIx_none]
  rcases Nat.le_total n xs.length with h | h
  · rw [Nat.min_eq_left h, List.take_of_length_le (by rw [List.length_drop]; omega)]
  · rw [Nat.min_eq_right h, List.drop_of_length_le h, List.drop_of_length_le (Nat.le_refl _)]
    simp
theorem cut_both {α : Type} (xs : List α) (n m : Nat) (h : n ≤ m) : cut xs (some (n : Int)) (some (m : Int)) = (xs.drop n).take (m - n) := by
  unfold cut
  rw [HT.sIx_nat, HT.sIx_nat]
  apply List.ext_getElem?
  intro i
  simp only [List.getElem?_take, List.getElem?_drop]
  by_cases hn : n ≤ xs.length
  · rw [Nat.min_eq_left hn]
    by_cases hm : m ≤ xs.length
    · rw [Nat.min_eq_left hm]
    · rw [Nat.min_eq_right (by omega)]
      by_cases hi : i < xs.length - n
      · rw [if_pos hi, if_pos (by omega)]
      · rw [if_neg hi]
        by_cases hj : i < m - n
        · rw [if_pos hj, List.getElem?_eq_none (by omega)]
        · rw [if_neg hj]
  · rw [Nat.min_eq_right (by omega : xs.length ≤ n), Nat.min_eq_right (by omega : xs.length ≤ m)]
    rw [if_neg (by omega)]
    by_cases hj : i < m - n
    · rw [if_pos hj, List.getElem?_eq_none (by omega)]
    · rw [if_neg hj]
def natsT (n : Nat) : List T := (List.range n).map fun (k : Nat) => T.int (k : Int)
theorem rngL_nat (n : Nat) : rngL 0 n = natsT n := by
  unfold rngL natsT
  simp only [Int.zero_add]
theorem rng1_nat {n : Nat} (h : n ≤ 1000000) : rng1 [.int (n : Int)] = some (natsT n) := by
  simp only [rng1]
  rw [if_pos (rngOk_mk (by omega) (by omega) (by omega) (by omega)), Int.toNat_natCast, rngL_nat]
end Tr

namespace Lw
open PySem PySem.Spec PyProof.Rows L2 Tr
/-! ### what the defs do -/
noncomputable def D__with_sign_of : SM := (dRet (dIfE (dTest (dOp tLt (dVar 0) (dC (.int 0)))) (dUn tNegI (dVar 1)) (dVar 1)))
noncomputable abbrev G__with_sign_of : List T → Rf := dFn 2 (D__with_sign_of)
noncomputable def B_shared_1 (fuel : Nat) : SM := (dSeq (dAsg 8 (dOp tFdiv (dVar 2) (dVar 3)))
  (dSeq (dPar 2 3 (dVar 3) (dOp tSub (dVar 2) (dOp tMul (dVar 8) (dVar 3))))
  (dSeq (dPar 4 5 (dVar 5) (dOp tSub (dVar 4) (dOp tMul (dVar 8) (dVar 5))))
  (dPar 6 7 (dVar 7) (dOp tSub (dVar 6) (dOp tMul (dVar 8) (dVar 7)))))))
noncomputable def C_shared_2 (fuel : Nat) : M Bool := (dTest (dOp tNe (dVar 3) (dC (.int 0))))
noncomputable def D_shared (fuel : Nat) : SM := (dSeq (dPar 2 3 (dB tAbs [(dVar 0)]) (dB tAbs [(dVar 1)]))
  (dSeq (dAsgG (gT 2 (gCon (gN 4) (gCon (gN 5) gNils))) (dTup [(dC (.int 1)), (dC (.int 0))]))
  (dSeq (dAsgG (gT 2 (gCon (gN 6) (gCon (gN 7) gNils))) (dTup [(dC (.int 0)), (dC (.int 1))]))
  (dSeq (whileF (C_shared_2 fuel) (B_shared_1 fuel) fuel)
  (dRet (dTup [(dVar 2), (dCall G__with_sign_of [(dVar 0), (dVar 4)]), (dCall G__with_sign_of [(dVar 1), (dVar 6)])]))))))
noncomputable abbrev G_shared (fuel : Nat) : List T → Rf := dFn 9 (D_shared fuel)
noncomputable def D__law_cell_at : SM := (dSeq (dIf (dTest (dOp tLt (dVar 1) (dLenV 0))) (dRet (dIxV 0 (dVar 1))) dSkip)
  (dRet (dC (.int 0))))
noncomputable abbrev G__law_cell_at : List T → Rf := dFn 2 (D__law_cell_at)
noncomputable def D__law_whole : SM := (dRet (dAndV (dUn (isB "int") (dVar 0)) (dNotV (dUn (isB "bool") (dVar 0)))))
noncomputable abbrev G__law_whole : List T → Rf := dFn 1 (D__law_whole)
noncomputable def B__law_pair_1 : SM := (dPar 1 2 (dOp tAdd (dOp tMul (dVar 1) (dOp tSub (dOp tMod (dVar 3) (dC (.int 100))) (dC (.int 50)))) (dVar 2)) (dVar 1))
noncomputable def D__law_pair : SM := (dSeq (dAsg 1 (dC (.int 1)))
  (dSeq (dAsg 2 (dC (.int 0)))
  (dSeq (dFor (dIt (dVar 0)) (gN 3)
  (B__law_pair_1))
  (dRet (dTup [(dVar 1), (dVar 2)])))))
noncomputable abbrev G__law_pair : List T → Rf := dFn 4 (D__law_pair)
noncomputable def B__law_good_1 (fuel : Nat) : SM := (dIf (dNotT (dTruth (dCall G__law_whole [(dVar 4)]))) (dRet (dC (.bl false))) dSkip)
noncomputable def D__law_good (fuel : Nat) : SM := (dSeq (dAsg 3 (dCall (G_shared fuel) [(dVar 0), (dVar 1)]))
  (dSeq (dIf (dOrT (dNotT (dTruth (dUn (isB "tuple") (dVar 3)))) (dTest (dOp tNe (dLenV 3) (dC (.int 3))))) (dRet (dC (.bl false))) dSkip)
  (dSeq (dFor (dIt (dVar 3)) (gN 4)
  (B__law_good_1 fuel))
  (dRet (dAndV (dOp tEq (dIxV 3 (dC (.int 0))) (dVar 2)) (dOp tEq (dOp tAdd (dOp tMul (dIxV 3 (dC (.int 1))) (dVar 0)) (dOp tMul (dIxV 3 (dC (.int 2))) (dVar 1))) (dVar 2)))))))
noncomputable abbrev G__law_good (fuel : Nat) : List T → Rf := dFn 5 (D__law_good fuel)
noncomputable def B_law_1 (fuel : Nat) : SM := (dSeq (dIf (dNotT (dTruth (dCall (G__law_good fuel) [(dVar 6), (dVar 6), (dB tAbs [(dVar 6)])]))) (dRet (dC (.bl false))) dSkip)
  (dIf (dOrT (dNotT (dTruth (dCall (G__law_good fuel) [(dVar 6), (dC (.int 0)), (dB tAbs [(dVar 6)])]))) (dNotT (dTruth (dCall (G__law_good fuel) [(dC (.int 0)), (dVar 6), (dB tAbs [(dVar 6)])])))) (dRet (dC (.bl false))) dSkip))
noncomputable def D_law (fuel : Nat) : SM := (dSeq (dAsg 1 (dCall G__law_cell_at [(dVar 0), (dC (.int 0))]))
  (dSeq (dAsg 2 (dOp tSub (dOp tMod (dOp tFdiv (dVar 1) (dC (.int 5))) (dOp tAdd (dOp tMul (dC (.int 2)) (dOp tPow (dC (.int 10)) (dC (.int 60)))) (dC (.int 1)))) (dOp tPow (dC (.int 10)) (dC (.int 60)))))
  (dSeq (dIf (dTest (dOp tEq (dOp tMod (dVar 1) (dC (.int 5))) (dC (.int 0)))) (dAsg 2 (dOp tSub (dOp tMod (dOp tFdiv (dVar 1) (dC (.int 5))) (dC (.int 13))) (dC (.int 6)))) dSkip)
  (dSeq (dAsgG (gT 2 (gCon (gN 3) (gCon (gN 4) gNils))) (dCall G__law_pair [(dSlc (dVar 0) (dPart (dC (.int 1))) (dPart (dC (.int 61))))]))
  (dSeq (dAsg 3 (dOp tMul (dVar 3) (dVar 2)))
  (dSeq (dAsg 4 (dOp tMul (dVar 4) (dVar 2)))
  (dSeq (dAsg 5 (dB tAbs [(dVar 2)]))
  (dSeq (dIf (dOrT (dNotT (dTruth (dCall (G__law_good fuel) [(dVar 3), (dVar 4), (dVar 5)]))) (dNotT (dTruth (dCall (G__law_good fuel) [(dVar 4), (dVar 3), (dVar 5)])))) (dRet (dC (.bl false))) dSkip)
  (dSeq (dIf (dOrT (dNotT (dTruth (dCall (G__law_good fuel) [(dUn tNegI (dVar 3)), (dVar 4), (dVar 5)]))) (dNotT (dTruth (dCall (G__law_good fuel) [(dVar 4), (dUn tNegI (dVar 3)), (dVar 5)])))) (dRet (dC (.bl false))) dSkip)
  (dSeq (dFor (dIt (dLst [(dVar 3), (dVar 4)])) (gN 6)
  (B_law_1 fuel))
  (dRet (dC (.bl true)))))))))))))
noncomputable abbrev G_law (fuel : Nat) : List T → Rf := dFn 7 (D_law fuel)
theorem sign_int (n m : Int) : G__with_sign_of [.int n, .int m] = .ok (false, .int (if n < 0 then -m else m)) := by
  by_cases h : n < 0 <;> simp [dFn, D__with_sign_of, h]
theorem shared_turn (fuel : Nat) (e0 e1 e8 : Option (Bool × T)) (d nd a na b nb : Int) (h : 0 < nd) (h1 : nd.natAbs < 2 ^ 2000) (m1 : mulOk (d / nd) nd = true) (m2 : mulOk (d / nd) na = true) (m3 : mulOk (d / nd) nb = true) :
    B_shared_1 fuel [e0, e1, some (false, .int d), some (false, .int nd), some (false, .int a), some (false, .int na), some (false, .int b), some (false, .int nb), e8] =
      .ok .nx [e0, e1, some (false, .int nd), some (false, .int (d - d / nd * nd)), some (false, .int na), some (false, .int (a - d / nd * na)), some (false, .int nb), some (false, .int (b - d / nd * nb)), some (false, .int (d / nd))] := by
  have f1 : tFdiv (.int d) (.int nd) = some (.v (.int (d / nd))) := tFdiv_int h (by have := log2_lt (by omega) h1; omega)
  have f2 := tMul_int m1
  have f3 := tMul_int m2
  have f4 := tMul_int m3
  generalize d / nd = q at f1 f2 f3 f4
  simp [B_shared_1, f1, f2, f3, f4]
theorem lt_pow_of_le {x y n : Nat} (h : x ≤ y) (h1 : y < 2 ^ n) : x < 2 ^ n := Nat.lt_of_le_of_lt h h1
theorem shared_loop (fuel : Nat) (e0 e1 : Option (Bool × T)) (o t g : Nat) (ho : o < 2 ^ 1999) (ht : t < 2 ^ 1999) : ∀ (n D N A NA B NB : Nat) (s : Int) (e8 : Option (Bool × T)), N < n → (s = 1 ∨ s = -1) → D * NA + N * A = t → D * NB + N * B = o →
    Nat.gcd D N = g → (D : Int) = s * (A * o - B * t) → (N : Int) = s * (NB * t - NA * o) → A ≤ t + 1 → NA ≤ t + 1 → B ≤ o + 1 → NB ≤ o + 1 → D ≤ o + t → N ≤ o + t →
    ∃ (s' : Int) (A' B' : Nat) (e3 e5 e7 e8' : Option (Bool × T)), whileF (C_shared_2 fuel) (B_shared_1 fuel) n [e0, e1, some (false, .int D), some (false, .int N), some (false, .int (s * A)), some (false, .int (-(s * NA))), some (false, .int (-(s * B))), some (false, .int (s * NB)), e8] =
      .ok .nx [e0, e1, some (false, .int g), e3, some (false, .int (s' * A')), e5, some (false, .int (-(s' * B'))), e7, e8'] ∧ (s' = 1 ∨ s' = -1) ∧ (g : Int) = s' * (A' * o - B' * t) ∧ A' ≤ t + 1 ∧ B' ≤ o + 1 := by
  intro n
  induction n with
  | zero => intro D N A NA B NB s e8 hN; omega
  | succ n ih =>
    intro D N A NA B NB s e8 hN hs hA hB hg hD hNN b1 b2 b3 b4 b5 b6
    by_cases h0 : N = 0
    · subst h0
      rw [Nat.gcd_zero_right] at hg
      subst hg
      exact ⟨s, A, B, _, _, _, _, by simp [whileF, C_shared_2]; exact ⟨rfl, rfl, rfl, rfl⟩, hs, hD, b1, b3⟩
    · have p2 : (2 : Nat) ^ 2000 = 2 * 2 ^ 1999 := by rw [Nat.pow_succ]; omega
      have hq : (D : Int) / (N : Int) = ((D / N : Nat) : Int) := rfl
      have hqle : D / N ≤ D := Nat.div_le_self _ _
      have bq : ((D : Int) / (N : Int)).natAbs < 2 ^ 2000 := by
        rw [hq, Int.natAbs_natCast]
        omega
      have sabs : ∀ x : Nat, (s * (x : Int)).natAbs = x := fun x => by
        rcases hs with rfl | rfl
        · rw [Int.one_mul, Int.natAbs_natCast]
        · rw [Int.neg_one_mul, Int.natAbs_neg, Int.natAbs_natCast]
      have p1 : (1 : Nat) < 2 ^ 1999 := Nat.one_lt_two_pow (by omega)
      have turn := shared_turn fuel e0 e1 e8 D N (s * A) (-(s * NA)) (-(s * B)) (s * NB) (by omega) (by rw [Int.natAbs_natCast]; omega)
        (mulOk_pow (a := 2000) (b := 2000) bq (by rw [Int.natAbs_natCast]; omega) (by omega) (by omega) (by omega))
        (mulOk_pow (a := 2000) (b := 2000) bq (by rw [Int.natAbs_neg, sabs]; omega) (by omega) (by omega) (by omega))
        (mulOk_pow (a := 2000) (b := 2000) bq (by rw [sabs]; omega) (by omega) (by omega) (by omega))
      have hdm : D / N * N + D % N = D := by
        have := Nat.div_add_mod D N
        rw [Nat.mul_comm] at this
        exact this
      have hr : D % N < N := Nat.mod_lt _ (by omega)
      rw [hq] at turn
      generalize D / N = q at *
      generalize hR : D % N = r at *
      have e1' : (D : Int) - (q : Int) * (N : Int) = (r : Int) := by
        rw [← Int.natCast_mul]
        omega
      have e2' : s * (A : Int) - (q : Int) * (-(s * (NA : Int))) = -(-s * ((A + q * NA : Nat) : Int)) := by
        rw [Int.natCast_add, Int.natCast_mul, Int.mul_neg, Int.neg_mul, Int.neg_neg, Int.mul_add, Int.sub_neg, Int.mul_left_comm]
      have e3' : -(s * (B : Int)) - (q : Int) * (s * (NB : Int)) = -s * ((B + q * NB : Nat) : Int) := by
        rw [Int.natCast_add, Int.natCast_mul, Int.neg_mul, Int.mul_add, Int.mul_left_comm, Int.neg_add, Int.sub_eq_add_neg]
      have e4' : -(s * (NA : Int)) = -s * (NA : Int) := by rw [Int.neg_mul]
      have e5' : s * (NB : Int) = -(-s * (NB : Int)) := by rw [Int.neg_mul, Int.neg_neg]
      rw [e1', e2', e3'] at turn
      have hA' : N * (A + q * NA) + r * NA = t := by
        rw [← hA, Nat.mul_add, ← hdm, Nat.add_mul, ← Nat.mul_assoc, Nat.mul_comm N q]
        omega
      have hB' : N * (B + q * NB) + r * NB = o := by
        rw [← hB, Nat.mul_add, ← hdm, Nat.add_mul, ← Nat.mul_assoc, Nat.mul_comm N q]
        omega
      have le1 : A + q * NA ≤ t := by
        have : 1 * (A + q * NA) ≤ N * (A + q * NA) := Nat.mul_le_mul_right _ (by omega)
        omega
      have le2 : B + q * NB ≤ o := by
        have : 1 * (B + q * NB) ≤ N * (B + q * NB) := Nat.mul_le_mul_right _ (by omega)
        omega
      have hg' : Nat.gcd N r = g := by
        rw [← hg, Nat.gcd_comm D N, Nat.gcd_rec N D, hR, Nat.gcd_comm]
      have hRr : (r : Int) = -s * ((B + q * NB : Nat) * (t : Int) - (A + q * NA : Nat) * (o : Int)) := by
        rw [← e1', hNN, hD]
        simp only [Int.natCast_add, Int.natCast_mul, Int.neg_mul, Int.mul_sub, Int.sub_mul, Int.add_mul, Int.mul_add, Int.mul_assoc, Int.mul_left_comm (q : Int)]
        omega
      have hNn : (N : Int) = -s * ((NA : Int) * o - (NB : Int) * t) := by
        rw [hNN]
        simp only [Int.neg_mul, Int.mul_sub]
        omega
      obtain ⟨s', A', B', f3, f5, f7, f8, hrun, k1, k2, k3, k4⟩ := ih N r NA (A + q * NA) NB (B + q * NB) (-s) (some (false, .int (q : Int))) (by omega) (by omega) (by rw [Nat.add_comm (N * _)] at hA'; rw [Nat.add_comm]; exact hA') (by rw [Nat.add_comm (N * _)] at hB'; rw [Nat.add_comm]; exact hB') hg' hNn hRr b2 (by omega) b4 (by omega) b6 (by omega)
      refine ⟨s', A', B', f3, f5, f7, f8, ?_, k1, k2, k3, k4⟩
      rw [← hrun]
      have hne : decide ((N : Int) = 0) = false := decide_eq_false (by omega)
      rw [← e4', ← e5']
      simp [whileF, C_shared_2, turn, h0]
/-- what shared tells -/
theorem shared_int (fuel : Nat) (o t : Int) (ho : o.natAbs < 2 ^ 1999) (ht : t.natAbs < 2 ^ 1999) (hf : t.natAbs < fuel) : ∃ a b : Int, G_shared fuel [.int o, .int t] = .ok (false, .tup [.int (Int.gcd o t : Nat), .int a, .int b]) ∧ ((Int.gcd o t : Nat) : Int) = a * o + b * t ∧ a.natAbs ≤ t.natAbs + 1 ∧ b.natAbs ≤ o.natAbs + 1 := by
  obtain ⟨s', A', B', e3, e5, e7, e8, hrun, k1, k2, k3, k4⟩ := shared_loop fuel (some (false, .int o)) (some (false, .int t)) o.natAbs t.natAbs (Nat.gcd o.natAbs t.natAbs) ho ht fuel o.natAbs t.natAbs 1 0 0 1 1 none hf (.inl rfl)
    (by omega) (by omega) rfl (by omega) (by omega) (by omega) (by omega) (by omega) (by omega) (by omega) (by omega)
  have ab : ∀ x : Int, (if x < 0 then -x else x) = ((x.natAbs : Nat) : Int) := fun x => by split <;> omega
  have z0 : (1 : Int) * ((1 : Nat) : Int) = 1 := rfl
  have z1 : -((1 : Int) * ((0 : Nat) : Int)) = 0 := rfl
  rw [z0, z1] at hrun
  refine ⟨if o < 0 then -(s' * A') else s' * A', if t < 0 then -(-(s' * B')) else -(s' * B'), ?_, ?_, ?_, ?_⟩
  · simp [dFn, D_shared, tAbs, ab, hrun, sign_int]
    rfl
  · show ((Nat.gcd o.natAbs t.natAbs : Nat) : Int) = _
    rw [k2]
    have q1 : ∀ x : Int, ((x.natAbs : Nat) : Int) = if x < 0 then -x else x := fun x => (ab x).symm
    rw [q1 o, q1 t]
    split <;> split <;> simp only [Int.mul_sub, Int.neg_mul, Int.mul_neg, Int.neg_neg, Int.mul_assoc] <;> omega
  · have : (s' * (A' : Int)).natAbs = A' := by
      rcases k1 with rfl | rfl <;> omega
    split <;> omega
  · have : (s' * (B' : Int)).natAbs = B' := by
      rcases k1 with rfl | rfl <;> omega
    split <;> omega
/-! ### the law -/
def fuel : Nat := 2 ^ 2000
theorem fuel_big {x : Nat} (h : x < 2 ^ 1000) : x < fuel := Nat.lt_trans h (Nat.pow_lt_pow_right (by omega) (by omega))
theorem big_pow {x n m : Nat} (h : x < 2 ^ n) (hn : n ≤ m) : x < 2 ^ m := Nat.lt_of_lt_of_le h (Nat.pow_le_pow_right (by omega) hn)
theorem whole_int (i : Int) : G__law_whole [.int i] = .ok (false, .bl true) := by
  simp [dFn, D__law_whole]
theorem cell_at (ns : List Int) : ∃ c : Int, G__law_cell_at [.scr ns, .int 0] = .ok (false, .int c) := by
  cases ns with
  | nil => exact ⟨0, by simp [dFn, D__law_cell_at]⟩
  | cons n r =>
    refine ⟨n, ?_⟩
    have h : L2.atI (n :: r) 0 = some n := atI_natE (n :: r) 0
    have h2 : (0 : Int) < (r.length : Int) + 1 := by omega
    simp [dFn, D__law_cell_at, h, h2]
theorem good (o t : Int) (due : Nat) (h : Int.gcd o t = due) (ho : o.natAbs < 2 ^ 900) (ht : t.natAbs < 2 ^ 900) : G__law_good fuel [.int o, .int t, .int (due : Int)] = .ok (false, .bl true) := by
  obtain ⟨a, b, h1, h2, h3, h4⟩ := shared_int fuel o t (big_pow ho (by omega)) (big_pow ht (by omega)) (fuel_big (big_pow ht (by omega)))
  rw [h] at h1 h2
  have p : (2 : Nat) ^ 901 = 2 * 2 ^ 900 := by rw [Nat.pow_succ]; omega
  have p1 : (1 : Nat) < 2 ^ 900 := Nat.one_lt_two_pow (by omega)
  have m1 := tMul_int (mulOk_pow (i := a) (j := o) (a := 901) (b := 900) (by omega) ho (by omega) (by omega) (by omega))
  have m2 := tMul_int (mulOk_pow (i := b) (j := t) (a := 901) (b := 900) (by omega) ht (by omega) (by omega) (by omega))
  generalize fuel = f at *
  simp [dFn, D__law_good, B__law_good_1, h1, whole_int, atI, ixN, m1, m2, h2]
theorem pair_turn (e0 e3 : Option (Bool × T)) (o t c : Int) (h : o.natAbs < 2 ^ 900) : B__law_pair_1 [e0, some (false, .int o), some (false, .int t), some (false, .int c)] = .ok .nx [e0, some (false, .int (o * (c % 100 - 50) + t)), some (false, .int o), some (false, .int c)] := by
  have hc : (c % 100 - 50).natAbs < 2 ^ 6 := by omega
  have m := tMul_int (mulOk_pow h hc (by omega) (by omega) (by omega))
  simp [B__law_pair_1, tMod_int, m]
theorem pair_loop (e0 : Option (Bool × T)) : ∀ (cs : List Int) (o t : Int) (i : Nat) (e3 : Option (Bool × T)), Int.gcd o t = 1 → o.natAbs ≤ 2 ^ (6 * i) → t.natAbs ≤ 2 ^ (6 * i) → i + cs.length ≤ 60 →
    ∃ (o' t' : Int) (e3' : Option (Bool × T)), forL (gN 3) B__law_pair_1 (cs.map T.int) [e0, some (false, .int o), some (false, .int t), e3] = .ok .nx [e0, some (false, .int o'), some (false, .int t'), e3'] ∧ Int.gcd o' t' = 1 ∧ o'.natAbs ≤ 2 ^ 360 ∧ t'.natAbs ≤ 2 ^ 360
  | [], o, t, i, e3, h1, h2, h3, h4 => by
    have hp : (2 : Nat) ^ (6 * i) ≤ 2 ^ 360 := Nat.pow_le_pow_right (by omega) (by simp at h4; omega)
    exact ⟨o, t, e3, rfl, h1, Nat.le_trans h2 hp, Nat.le_trans h3 hp⟩
  | c :: cs, o, t, i, e3, h1, h2, h3, h4 => by
    simp only [List.length_cons] at h4
    have hp : (2 : Nat) ^ (6 * i) < 2 ^ 900 := Nat.pow_lt_pow_right (by omega) (by omega)
    have hs : (2 : Nat) ^ (6 * (i + 1)) = 64 * 2 ^ (6 * i) := by
      rw [Nat.mul_add, Nat.pow_add]
      omega
    have hc : (c % 100 - 50).natAbs ≤ 50 := by omega
    have hm : (o * (c % 100 - 50)).natAbs ≤ 50 * 2 ^ (6 * i) := by
      rw [Int.natAbs_mul, Nat.mul_comm]
      exact Nat.mul_le_mul hc h2
    have hg : Int.gcd (o * (c % 100 - 50) + t) o = 1 := by
      rw [Int.gcd_mul_left_add_left, Int.gcd_comm]
      exact h1
    have ha := Int.natAbs_add_le (o * (c % 100 - 50)) t
    obtain ⟨o', t', e3', hr, k⟩ := pair_loop e0 cs (o * (c % 100 - 50) + t) o (i + 1) (some (false, .int c)) hg (by omega) (by omega) (by omega)
    refine ⟨o', t', e3', ?_, k⟩
    rw [← hr]
    simp [pair_turn e0 e3 o t c (by omega)]
theorem law_true (ns : List Int) (hl : ns.length ≤ 63) : G_law fuel [.scr ns] = .ok (false, .bl true) := by
  obtain ⟨c, hc⟩ := cell_at ns
  have hcut : cut ns (some 1) (some 61) = (ns.drop 1).take 60 := cut_both ns 1 61 (by omega)
  have hlen : ((ns.drop 1).take 60).length ≤ 60 := by
    rw [List.length_take]
    omega
  generalize (ns.drop 1).take 60 = cs at hcut hlen
  obtain ⟨o, t, e3, hp, hg, bo, bt⟩ := pair_loop (some (false, .lst (cs.map T.int))) cs 1 0 0 none rfl (by omega) (by omega) (by omega)
  have hpair : G__law_pair [.lst (cs.map T.int)] = .ok (false, .tup [.int o, .int t]) := by
    simp [dFn, D__law_pair, hp]
  -- whatever the common number is
  have main : ∀ m : Int, m.natAbs < 2 ^ 300 → ∀ e1 : Option (Bool × T), (dSeq (dAsgG (gT 2 (gCon (gN 3) (gCon (gN 4) gNils))) (dCall G__law_pair [(dSlc (dVar 0) (dPart (dC (.int 1))) (dPart (dC (.int 61))))]))
      (dSeq (dAsg 3 (dOp tMul (dVar 3) (dVar 2)))
      (dSeq (dAsg 4 (dOp tMul (dVar 4) (dVar 2)))
      (dSeq (dAsg 5 (dB tAbs [(dVar 2)]))
      (dSeq (dIf (dOrT (dNotT (dTruth (dCall (G__law_good fuel) [(dVar 3), (dVar 4), (dVar 5)]))) (dNotT (dTruth (dCall (G__law_good fuel) [(dVar 4), (dVar 3), (dVar 5)])))) (dRet (dC (.bl false))) dSkip)
      (dSeq (dIf (dOrT (dNotT (dTruth (dCall (G__law_good fuel) [(dUn tNegI (dVar 3)), (dVar 4), (dVar 5)]))) (dNotT (dTruth (dCall (G__law_good fuel) [(dVar 4), (dUn tNegI (dVar 3)), (dVar 5)])))) (dRet (dC (.bl false))) dSkip)
      (dSeq (dFor (dIt (dLst [(dVar 3), (dVar 4)])) (gN 6) (B_law_1 fuel)) (dRet (dC (.bl true)))))))))) [some (false, .scr ns), e1, some (false, .int m), none, none, none, none] = .ok (.rt (false, .bl true)) [some (false, .scr ns), e1, some (false, .int m), some (false, .int (o * m)), some (false, .int (t * m)), some (false, .int (m.natAbs : Int)), some (false, .int (t * m))] := by
    intro m hm e1
    have p36 : (2 : Nat) ^ 360 < 2 ^ 361 := Nat.pow_lt_pow_right (by omega) (by omega)
    have lo : o.natAbs < 2 ^ 361 := by omega
    have lt : t.natAbs < 2 ^ 361 := by omega
    have m1 := tMul_int (mulOk_pow (i := o) (j := m) lo hm (by omega) (by omega) (by omega))
    have m2 := tMul_int (mulOk_pow (i := t) (j := m) lt hm (by omega) (by omega) (by omega))
    have B : ∀ x : Int, x.natAbs < 2 ^ 361 → (x * m).natAbs < 2 ^ 900 := fun x hx => by
      rw [Int.natAbs_mul]
      have : x.natAbs * m.natAbs < 2 ^ 361 * 2 ^ 300 := Nat.mul_lt_mul'' hx hm
      rw [← Nat.pow_add] at this
      exact big_pow this (by omega)
    have bo' := B o lo
    have bt' := B t lt
    have g1 : Int.gcd (o * m) (t * m) = m.natAbs := by rw [Int.gcd_mul_right, hg, Nat.one_mul]
    have g2 : Int.gcd (t * m) (o * m) = m.natAbs := by rw [Int.gcd_comm]; exact g1
    have ab : ∀ x : Int, (if x < 0 then -x else x) = ((x.natAbs : Nat) : Int) := fun x => by split <;> omega
    generalize o * m = x at *
    generalize t * m = y at *
    have z : (0 : Int).natAbs < 2 ^ 900 := by exact Nat.lt_trans (by decide) (Nat.one_lt_two_pow (by omega))
    have q1 := good x y _ g1 bo' bt'
    have q2 := good y x _ g2 bt' bo'
    have q3 := good (-x) y m.natAbs (by rw [Int.neg_gcd]; exact g1) (by rw [Int.natAbs_neg]; exact bo') bt'
    have q4 := good y (-x) m.natAbs (by rw [Int.gcd_neg]; exact g2) bt' (by rw [Int.natAbs_neg]; exact bo')
    have tn : ∀ u : Int, u.natAbs < 2 ^ 900 → ∀ s0 s1 s2 s3 s4 s5, B_law_1 fuel [s0, s1, s2, s3, s4, s5, some (false, .int u)] = .ok .nx [s0, s1, s2, s3, s4, s5, some (false, .int u)] := fun u hu s0 s1 s2 s3 s4 s5 => by
      have r1 := good u u u.natAbs Int.gcd_self hu hu
      have r2 := good u 0 u.natAbs Int.gcd_zero hu z
      have r3 := good 0 u u.natAbs Int.zero_gcd z hu
      generalize fuel = f at *
      simp [B_law_1, tAbs, ab, r1, r2, r3]
    have t1 := tn x bo'
    have t2 := tn y bt'
    generalize fuel = f at *
    simp [hcut, hpair, m1, m2, tAbs, ab, q1, q2, q3, q4, t1, t2]
  have e60 : E60.natAbs < 2 ^ 299 := by decide +kernel
  have p300 : (2 : Nat) ^ 300 = 2 * 2 ^ 299 := by rw [Nat.pow_succ]; omega
  have pos := E60_pos
  have s1 : dAsg 1 (dCall G__law_cell_at [(dVar 0), (dC (.int 0))]) (ini 7 [.scr ns]) = .ok .nx [some (false, .scr ns), some (false, .int c), none, none, none, none, none] := by simp [hc]
  have s2 : dAsg 2 (dOp tSub (dOp tMod (dOp tFdiv (dVar 1) (dC (.int 5))) (dOp tAdd (dOp tMul (dC (.int 2)) (dOp tPow (dC (.int 10)) (dC (.int 60)))) (dC (.int 1)))) (dOp tPow (dC (.int 10)) (dC (.int 60)))) [some (false, .scr ns), some (false, .int c), none, none, none, none, none] =
      .ok .nx [some (false, .scr ns), some (false, .int c), some (false, .int (c / 5 % (2 * E60 + 1) - E60)), none, none, none, none] := by simp
  refine dFn_rt ?_
  unfold D_law
  rw [seq_nx s1, seq_nx s2]
  by_cases h5 : c % 5 = 0
  · rw [seq_nx (e' := [some (false, .scr ns), some (false, .int c), some (false, .int (c / 5 % 13 - 6)), none, none, none, none]) (by simp [tMod_int, h5])]
    have p100 : (100 : Nat) < 2 ^ 299 := by decide +kernel
    exact ⟨_, main _ (by omega) _⟩
  · rw [seq_nx (e' := [some (false, .scr ns), some (false, .int c), some (false, .int (c / 5 % (2 * E60 + 1) - E60)), none, none, none, none]) (by simp [tMod_int, h5])]
    have h6 := Int.emod_nonneg (c / 5) (show 2 * E60 + 1 ≠ 0 by omega)
    have h7 := Int.emod_lt_of_pos (c / 5) (show 0 < 2 * E60 + 1 by omega)
    exact ⟨_, main _ (by omega) _⟩

section
def topS (i : Nat) : Stmt := PySem.Challenge.pw_swapmart_k01_shared.main.body.getD i (.Pass ⟨0, 0, 0, 0⟩)
abbrev noC : Nat → Value := fun _ => Value.none
abbrev s__with_sign_of : Stmt := topS 2
theorem sc__with_sign_of : FnScope ["number", "many"] ["number", "many"] (defScope s__with_sign_of) := ⟨rfl, rfl, rfl, by decide +kernel, rfl, by decide +kernel, by decide +kernel⟩
abbrev s_shared : Stmt := topS 1
theorem sc_shared : FnScope ["one", "other", "d", "next_d", "a", "next_a", "b", "next_b", "often"] ["one", "other"] (defScope s_shared) := ⟨rfl, rfl, rfl, by decide +kernel, rfl, by decide +kernel, by decide +kernel⟩
abbrev s__law_cell_at : Stmt := topS 4
theorem sc__law_cell_at : FnScope ["script", "k"] ["script", "k"] (defScope s__law_cell_at) := ⟨rfl, rfl, rfl, by decide +kernel, rfl, by decide +kernel, by decide +kernel⟩
abbrev s__law_whole : Stmt := topS 5
theorem sc__law_whole : FnScope ["found"] ["found"] (defScope s__law_whole) := ⟨rfl, rfl, rfl, by decide +kernel, rfl, by decide +kernel, by decide +kernel⟩
abbrev s__law_pair : Stmt := topS 6
theorem sc__law_pair : FnScope ["cells", "one", "other", "cell"] ["cells"] (defScope s__law_pair) := ⟨rfl, rfl, rfl, by decide +kernel, rfl, by decide +kernel, by decide +kernel⟩
abbrev s__law_good : Stmt := topS 7
theorem sc__law_good : FnScope ["one", "other", "due", "found", "number"] ["one", "other", "due"] (defScope s__law_good) := ⟨rfl, rfl, rfl, by decide +kernel, rfl, by decide +kernel, by decide +kernel⟩
abbrev s_law : Stmt := topS 8
theorem sc_law : FnScope ["script", "cell", "common", "one", "other", "due", "number"] ["script"] (defScope s_law) := ⟨rfl, rfl, rfl, by decide +kernel, rfl, by decide +kernel, by decide +kernel⟩
variable {P : Program} {w : World} {K : PySem.W.Frag} {mg : Str → Option Value} {base : Heap}
set_option maxHeartbeats 4000000 in
theorem ok__with_sign_of {f : Addr} {fd : FuncData} (F : Fun K "_with_sign_of" "_with_sign_of" s__with_sign_of f fd) : FnOk P w K mg base CX0 1 f fd ["number", "many"] (spT K noC 2 (dFn 2 (D__with_sign_of))) := by
  refine fn_okF (k := 0) F sc__with_sign_of fun cdv A outer s H E hr => ?_
  have nd := sc__with_sign_of.nd
  have hu : (A.deeper (envOfC "_with_sign_of" (defScope s__with_sign_of) s.heap.objs.size f cdv)).units + 64 < cLine := hr.units
  exact ⟨_, (sone (sret (xif (ylt (xv 0) xint) (xneg (xv 1)) (xv 1))))⟩
set_option maxHeartbeats 4000000 in
theorem ok_shared (fuel : Nat) {f : Addr} {fd : FuncData} (F : Fun K "shared" "shared" s_shared f fd) (K__with_sign_of : Fk P w K mg base noC "_with_sign_of" 1 2 (G__with_sign_of)) (m_abs : mg "abs" = none) : FnOk P w K mg base CX0 2 f fd ["one", "other"] (spT K noC 2 (dFn 9 (D_shared fuel))) := by
  refine fn_okF (k := 1) F sc_shared fun cdv A outer s H E hr => ?_
  have nd := sc_shared.nd
  have hu : (A.deeper (envOfC "shared" (defScope s_shared) s.heap.objs.size f cdv)).units + 64 < cLine := hr.units
  exact ⟨_, (scons (spar 2 3 rfl nd (acons (xb call_abs bs_abs m_abs (acons (xv 0) anil)) (acons (xb call_abs bs_abs m_abs (acons (xv 1) anil)) anil)))
  (scons (sasg (xtup (acons xint (acons xint anil))) (gtup rfl (gscons (gname 4 nd) (gscons (gname 5 nd) gsnil))))
  (scons (sasg (xtup (acons xint (acons xint anil))) (gtup rfl (gscons (gname 6 nd) (gscons (gname 7 nd) gsnil))))
  (scons (swhile fuel PassesOwn.never (yne hu (xv 3) xint)
  (scons (sset 8 nd (xfdiv (xv 2) (xv 3)))
  (scons (spar 2 3 rfl nd (acons (xv 3) (acons (xsub (xv 2) (xmul (xv 8) (xv 3))) anil)))
  (scons (spar 4 5 rfl nd (acons (xv 5) (acons (xsub (xv 4) (xmul (xv 8) (xv 5))) anil)))
  (sone (spar 6 7 rfl nd (acons (xv 7) (acons (xsub (xv 6) (xmul (xv 8) (xv 7))) anil))))))))
  (sone (sret (xtup (acons (xv 2) (acons (xcall K__with_sign_of hr (acons (xv 0) (acons (xv 4) anil))) (acons (xcall K__with_sign_of hr (acons (xv 1) (acons (xv 6) anil))) anil))))))))))⟩
set_option maxHeartbeats 4000000 in
theorem ok__law_cell_at {f : Addr} {fd : FuncData} (F : Fun K "_law_cell_at" "_law_cell_at" s__law_cell_at f fd) (m_len : mg "len" = none) : FnOk P w K mg base CX0 1 f fd ["script", "k"] (spT K noC 2 (dFn 2 (D__law_cell_at))) := by
  refine fn_okF (k := 0) F sc__law_cell_at fun cdv A outer s H E hr => ?_
  have nd := sc__law_cell_at.nd
  have hu : (A.deeper (envOfC "_law_cell_at" (defScope s__law_cell_at) s.heap.objs.size f cdv)).units + 64 < cLine := hr.units
  exact ⟨_, (scons (sif (ylt (xv 1) (xlenV 0 m_len)) (sone (sret (xixV 0 (xv 1)))) snil)
  (sone (sret xint)))⟩
set_option maxHeartbeats 4000000 in
theorem ok__law_whole {f : Addr} {fd : FuncData} (F : Fun K "_law_whole" "_law_whole" s__law_whole f fd) (m_bool : mg "bool" = none) (m_int : mg "int" = none) (m_isinstance : mg "isinstance" = none) : FnOk P w K mg base CX0 1 f fd ["found"] (spT K noC 1 (dFn 1 (D__law_whole))) := by
  refine fn_okF (k := 0) F sc__law_whole fun cdv A outer s H E hr => ?_
  have nd := sc__law_whole.nd
  have hu : (A.deeper (envOfC "_law_whole" (defScope s__law_whole) s.heap.objs.size f cdv)).units + 64 < cLine := hr.units
  exact ⟨_, (sone (sret (xand (xis m_isinstance m_int (xv 0)) (xone (xnot (xis m_isinstance m_bool (xv 0)))))))⟩
set_option maxHeartbeats 4000000 in
theorem ok__law_pair {f : Addr} {fd : FuncData} (F : Fun K "_law_pair" "_law_pair" s__law_pair f fd) : FnOk P w K mg base CX0 1 f fd ["cells"] (spT K noC 1 (dFn 4 (D__law_pair))) := by
  refine fn_okF (k := 0) F sc__law_pair fun cdv A outer s H E hr => ?_
  have nd := sc__law_pair.nd
  have hu : (A.deeper (envOfC "_law_pair" (defScope s__law_pair) s.heap.objs.size f cdv)).units + 64 < cLine := hr.units
  exact ⟨_, (scons (sset 1 nd xint)
  (scons (sset 2 nd xint)
  (scons (sfor PassesOwn.never rfl (iit (xv 0)) (gname 3 nd)
  (sone (spar 1 2 rfl nd (acons (xadd (xmul (xv 1) (xsub (xmod (xv 3) xint) xint)) (xv 2)) (acons (xv 1) anil)))))
  (sone (sret (xtup (acons (xv 1) (acons (xv 2) anil))))))))⟩
set_option maxHeartbeats 4000000 in
theorem ok__law_good (fuel : Nat) {f : Addr} {fd : FuncData} (F : Fun K "_law_good" "_law_good" s__law_good f fd) (K__law_whole : Fk P w K mg base noC "_law_whole" 2 1 (G__law_whole)) (K_shared : Fk P w K mg base noC "shared" 2 2 (G_shared fuel)) (m_isinstance : mg "isinstance" = none) (m_len : mg "len" = none) (m_tuple : mg "tuple" = none) : FnOk P w K mg base CX0 3 f fd ["one", "other", "due"] (spT K noC 3 (dFn 5 (D__law_good fuel))) := by
  refine fn_okF (k := 2) F sc__law_good fun cdv A outer s H E hr => ?_
  have nd := sc__law_good.nd
  have hu : (A.deeper (envOfC "_law_good" (defScope s__law_good) s.heap.objs.size f cdv)).units + 64 < cLine := hr.units
  exact ⟨_, (scons (sset 3 nd (xcall K_shared hr (acons (xv 0) (acons (xv 1) anil))))
  (scons (sif (yw (wor (ynot (ytru (xis m_isinstance m_tuple (xv 3)))) (wor1 (yne hu (xlenV 3 m_len) xint)))) (sone (sret xbl)) snil)
  (scons (sfor PassesOwn.never rfl (iit (xv 3)) (gname 4 nd)
  (sone (sif (ynot (ytru (xcall K__law_whole hr (acons (xv 4) anil)))) (sone (sret xbl)) snil)))
  (sone (sret (xand (xeq hu (xixV 3 xint) (xv 2)) (xone (xeq hu (xadd (xmul (xixV 3 xint) (xv 0)) (xmul (xixV 3 xint) (xv 1))) (xv 2)))))))))⟩
set_option maxHeartbeats 4000000 in
theorem ok_law (fuel : Nat) {f : Addr} {fd : FuncData} (F : Fun K "law" "law" s_law f fd) (K__law_cell_at : Fk P w K mg base noC "_law_cell_at" 3 2 (G__law_cell_at)) (K__law_good : Fk P w K mg base noC "_law_good" 3 3 (G__law_good fuel)) (K__law_pair : Fk P w K mg base noC "_law_pair" 3 1 (G__law_pair)) (m_abs : mg "abs" = none) : FnOk P w K mg base CX0 4 f fd ["script"] (spT K noC 1 (dFn 7 (D_law fuel))) := by
  refine fn_okF (k := 3) F sc_law fun cdv A outer s H E hr => ?_
  have nd := sc_law.nd
  have hu : (A.deeper (envOfC "law" (defScope s_law) s.heap.objs.size f cdv)).units + 64 < cLine := hr.units
  exact ⟨_, (scons (sset 1 nd (xcall K__law_cell_at hr (acons (xv 0) (acons xint anil))))
  (scons (sset 2 nd (xsub (xmod (xfdiv (xv 1) xint) (xadd (xmul xint (xpow xint xint)) xint)) (xpow xint xint)))
  (scons (sif (yeq hu (xmod (xv 1) xint) xint) (sone (sset 2 nd (xsub (xmod (xfdiv (xv 1) xint) xint) xint))) snil)
  (scons (sasg (xcall K__law_pair hr (acons (xslc (xv 0) (osm xint) (osm xint)) anil)) (gtup rfl (gscons (gname 3 nd) (gscons (gname 4 nd) gsnil))))
  (scons (sset 3 nd (xmul (xv 3) (xv 2)))
  (scons (sset 4 nd (xmul (xv 4) (xv 2)))
  (scons (sset 5 nd (xb call_abs bs_abs m_abs (acons (xv 2) anil)))
  (scons (sif (yw (wor (ynot (ytru (xcall K__law_good hr (acons (xv 3) (acons (xv 4) (acons (xv 5) anil)))))) (wor1 (ynot (ytru (xcall K__law_good hr (acons (xv 4) (acons (xv 3) (acons (xv 5) anil))))))))) (sone (sret xbl)) snil)
  (scons (sif (yw (wor (ynot (ytru (xcall K__law_good hr (acons (xneg (xv 3)) (acons (xv 4) (acons (xv 5) anil)))))) (wor1 (ynot (ytru (xcall K__law_good hr (acons (xv 4) (acons (xneg (xv 3)) (acons (xv 5) anil))))))))) (sone (sret xbl)) snil)
  (scons (sfor PassesOwn.never rfl (iit (xlst (acons (xv 3) (acons (xv 4) anil)))) (gname 6 nd)
  (scons (sif (ynot (ytru (xcall K__law_good hr (acons (xv 6) (acons (xv 6) (acons (xb call_abs bs_abs m_abs (acons (xv 6) anil)) anil)))))) (sone (sret xbl)) snil)
  (sone (sif (yw (wor (ynot (ytru (xcall K__law_good hr (acons (xv 6) (acons xint (acons (xb call_abs bs_abs m_abs (acons (xv 6) anil)) anil)))))) (wor1 (ynot (ytru (xcall K__law_good hr (acons xint (acons (xv 6) (acons (xb call_abs bs_abs m_abs (acons (xv 6) anil)) anil))))))))) (sone (sret xbl)) snil))))
  (sone (sret xbl))))))))))))⟩
theorem all_mk {l : PySem.W.OpenLaw} {w : World} {K : PySem.W.Frag} {h : Heap} {mg : Str → Option Value} {fa : Addr} (fuel : Nat) (X : K.In h) (G : h.Ns mainGlobals mg) (hfa : mg "law" = some (.ref fa))
    {od1 an1 : Option Addr} {sl1 : Array (Option Value)} {oc1 kV1 dc1 pm1 cd1 ct1 : Value} {f1 : Addr}
    (a1 : PySem.W.nsIn K mainGlobals "_with_sign_of" = some (some (.ref f1))) (l1 : K.lookup f1 = some ⟨oc1, od1, .func (PySem.W.fnOf "_with_sign_of" "_with_sign_of" (defArgs s__with_sign_of) (defBody s__with_sign_of) (defScope s__with_sign_of) .none kV1 dc1 pm1 an1 cd1 ct1), sl1⟩) (c1 : PySem.W.codeIn K cd1 "_with_sign_of" = true) (k1 : PySem.W.keepIn K (.ref f1) = true)
    {od2 an2 : Option Addr} {sl2 : Array (Option Value)} {oc2 kV2 dc2 pm2 cd2 ct2 : Value} {f2 : Addr}
    (a2 : PySem.W.nsIn K mainGlobals "shared" = some (some (.ref f2))) (l2 : K.lookup f2 = some ⟨oc2, od2, .func (PySem.W.fnOf "shared" "shared" (defArgs s_shared) (defBody s_shared) (defScope s_shared) .none kV2 dc2 pm2 an2 cd2 ct2), sl2⟩) (c2 : PySem.W.codeIn K cd2 "shared" = true) (k2 : PySem.W.keepIn K (.ref f2) = true)
    {od3 an3 : Option Addr} {sl3 : Array (Option Value)} {oc3 kV3 dc3 pm3 cd3 ct3 : Value} {f3 : Addr}
    (a3 : PySem.W.nsIn K mainGlobals "_law_cell_at" = some (some (.ref f3))) (l3 : K.lookup f3 = some ⟨oc3, od3, .func (PySem.W.fnOf "_law_cell_at" "_law_cell_at" (defArgs s__law_cell_at) (defBody s__law_cell_at) (defScope s__law_cell_at) .none kV3 dc3 pm3 an3 cd3 ct3), sl3⟩) (c3 : PySem.W.codeIn K cd3 "_law_cell_at" = true) (k3 : PySem.W.keepIn K (.ref f3) = true)
    {od4 an4 : Option Addr} {sl4 : Array (Option Value)} {oc4 kV4 dc4 pm4 cd4 ct4 : Value} {f4 : Addr}
    (a4 : PySem.W.nsIn K mainGlobals "_law_whole" = some (some (.ref f4))) (l4 : K.lookup f4 = some ⟨oc4, od4, .func (PySem.W.fnOf "_law_whole" "_law_whole" (defArgs s__law_whole) (defBody s__law_whole) (defScope s__law_whole) .none kV4 dc4 pm4 an4 cd4 ct4), sl4⟩) (c4 : PySem.W.codeIn K cd4 "_law_whole" = true) (k4 : PySem.W.keepIn K (.ref f4) = true)
    {od5 an5 : Option Addr} {sl5 : Array (Option Value)} {oc5 kV5 dc5 pm5 cd5 ct5 : Value} {f5 : Addr}
    (a5 : PySem.W.nsIn K mainGlobals "_law_pair" = some (some (.ref f5))) (l5 : K.lookup f5 = some ⟨oc5, od5, .func (PySem.W.fnOf "_law_pair" "_law_pair" (defArgs s__law_pair) (defBody s__law_pair) (defScope s__law_pair) .none kV5 dc5 pm5 an5 cd5 ct5), sl5⟩) (c5 : PySem.W.codeIn K cd5 "_law_pair" = true) (k5 : PySem.W.keepIn K (.ref f5) = true)
    {od6 an6 : Option Addr} {sl6 : Array (Option Value)} {oc6 kV6 dc6 pm6 cd6 ct6 : Value} {f6 : Addr}
    (a6 : PySem.W.nsIn K mainGlobals "_law_good" = some (some (.ref f6))) (l6 : K.lookup f6 = some ⟨oc6, od6, .func (PySem.W.fnOf "_law_good" "_law_good" (defArgs s__law_good) (defBody s__law_good) (defScope s__law_good) .none kV6 dc6 pm6 an6 cd6 ct6), sl6⟩) (c6 : PySem.W.codeIn K cd6 "_law_good" = true) (k6 : PySem.W.keepIn K (.ref f6) = true)
    {od7 an7 : Option Addr} {sl7 : Array (Option Value)} {oc7 kV7 dc7 pm7 cd7 ct7 : Value} {f7 : Addr}
    (a7 : PySem.W.nsIn K mainGlobals "law" = some (some (.ref f7))) (l7 : K.lookup f7 = some ⟨oc7, od7, .func (PySem.W.fnOf "law" "law" (defArgs s_law) (defBody s_law) (defScope s_law) .none kV7 dc7 pm7 an7 cd7 ct7), sl7⟩) (c7 : PySem.W.codeIn K cd7 "law" = true) (k7 : PySem.W.keepIn K (.ref f7) = true)
    (z_abs : PySem.W.nsIn K mainGlobals "abs" = some none)
    (z_bool : PySem.W.nsIn K mainGlobals "bool" = some none)
    (z_int : PySem.W.nsIn K mainGlobals "int" = some none)
    (z_isinstance : PySem.W.nsIn K mainGlobals "isinstance" = some none)
    (z_len : PySem.W.nsIn K mainGlobals "len" = some none)
    (z_tuple : PySem.W.nsIn K mainGlobals "tuple" = some none) :
    ∃ fd : FuncData, (∀ (s : Shared) (v : Value), BindsTo s fd ⟨[v], []⟩ [("script", v)]) ∧ ∀ base : Heap, K.In base → base.Ns mainGlobals mg → FnOk l.prog w K mg base CX0 4 fa fd ["script"] (spT K noC 1 (G_law fuel)) := by
  have e := hfa.symm.trans (PySem.W.mg_of X G a7)
  cases e
  have F1 := fun_mk (st := s__with_sign_of) l1 c1 k1
  have F2 := fun_mk (st := s_shared) l2 c2 k2
  have F3 := fun_mk (st := s__law_cell_at) l3 c3 k3
  have F4 := fun_mk (st := s__law_whole) l4 c4 k4
  have F5 := fun_mk (st := s__law_pair) l5 c5 k5
  have F6 := fun_mk (st := s__law_good) l6 c6 k6
  have F7 := fun_mk (st := s_law) l7 c7 k7
  refine ⟨PySem.W.fnOf "law" "law" (defArgs s_law) (defBody s_law) (defScope s_law) .none kV7 dc7 pm7 an7 cd7 ct7, fun s v => .of_eq rfl, fun base _ _ => ?_⟩
  have m_abs := PySem.W.mg_none_of X G z_abs
  have m_bool := PySem.W.mg_none_of X G z_bool
  have m_int := PySem.W.mg_none_of X G z_int
  have m_isinstance := PySem.W.mg_none_of X G z_isinstance
  have m_len := PySem.W.mg_none_of X G z_len
  have m_tuple := PySem.W.mg_none_of X G z_tuple
  have b1 := F1.binds (ps := ["number", "many"]) fun _ _ _ _ _ _ us hl => match us, hl with | [_, _], _ => rfl
  have K__with_sign_of : Fk l.prog w K mg base noC "_with_sign_of" 1 2 (G__with_sign_of) := (Fk.mk' (PySem.W.mg_of X G a1) F1.kp b1 rfl (ok__with_sign_of F1))
  have b2 := F2.binds (ps := ["one", "other"]) fun _ _ _ _ _ _ us hl => match us, hl with | [_, _], _ => rfl
  have K_shared : Fk l.prog w K mg base noC "shared" 2 2 (G_shared fuel) := (Fk.mk' (PySem.W.mg_of X G a2) F2.kp b2 rfl (ok_shared fuel F2 (K__with_sign_of.up (by decide)) m_abs))
  have b3 := F3.binds (ps := ["script", "k"]) fun _ _ _ _ _ _ us hl => match us, hl with | [_, _], _ => rfl
  have K__law_cell_at : Fk l.prog w K mg base noC "_law_cell_at" 1 2 (G__law_cell_at) := (Fk.mk' (PySem.W.mg_of X G a3) F3.kp b3 rfl (ok__law_cell_at F3 m_len))
  have b4 := F4.binds (ps := ["found"]) fun _ _ _ _ _ _ us hl => match us, hl with | [_], _ => rfl
  have K__law_whole : Fk l.prog w K mg base noC "_law_whole" 1 1 (G__law_whole) := (Fk.mk' (PySem.W.mg_of X G a4) F4.kp b4 rfl (ok__law_whole F4 m_bool m_int m_isinstance))
  have b5 := F5.binds (ps := ["cells"]) fun _ _ _ _ _ _ us hl => match us, hl with | [_], _ => rfl
  have K__law_pair : Fk l.prog w K mg base noC "_law_pair" 1 1 (G__law_pair) := (Fk.mk' (PySem.W.mg_of X G a5) F5.kp b5 rfl (ok__law_pair F5))
  have b6 := F6.binds (ps := ["one", "other", "due"]) fun _ _ _ _ _ _ us hl => match us, hl with | [_, _, _], _ => rfl
  have K__law_good : Fk l.prog w K mg base noC "_law_good" 3 3 (G__law_good fuel) := (Fk.mk' (PySem.W.mg_of X G a6) F6.kp b6 rfl (ok__law_good fuel F6 (K__law_whole.up (by decide)) (K_shared.up (by decide)) m_isinstance m_len m_tuple))
  have ok := ok_law (P := l.prog) (w := w) (base := base) fuel F7 (K__law_cell_at.up (by decide)) (K__law_good.up (by decide)) (K__law_pair.up (by decide)) m_abs
  exact ok
end
end Lw
open PySem PySem.W PyProof.Rows
set_option maxRecDepth 100000 in
set_option maxHeartbeats 0 in
theorem PySem.Challenge.cw_swapmart_k01_shared_holds : PySem.Challenge.rw_swapmart_k01_shared.Holds := by
  w_on; o_law; k_head; (case hw => w_witness2)
  k_fill
  refine L2.walk_of (l := PySem.Challenge.rw_swapmart_k01_shared) (n := 63) (k := 4) (x := "script") (CX := fun _ => L2.CX0) (sp := fun w => Tr.spT _ Lw.noC 1 (Lw.G_law Lw.fuel)) rfl (by decide) rfl ⟨rfl, by decide, by decide⟩ (fun w h Y => PySem.W.kIn_of Y) ?F (fun _ _ a ns hl _ hS => Tr.law_sp hS (Lw.law_true ns hl)) (fun _ _ _ _ _ h => h)
  case F =>
    intro w mg fa h KX G hmg
    refine' Lw.all_mk Lw.fuel KX G hmg ?a1 ?l1 ?c1 ?k1 ?a2 ?l2 ?c2 ?k2 ?a3 ?l3 ?c3 ?k3 ?a4 ?l4 ?c4 ?k4 ?a5 ?l5 ?c5 ?k5 ?a6 ?l6 ?c6 ?k6 ?a7 ?l7 ?c7 ?k7 ?z_abs ?z_bool ?z_int ?z_isinstance ?z_len ?z_tuple
    (case a1 => k_is); (case l1 => k_is); (case c1 => k_is); (case k1 => k_is); (case a2 => k_is); (case l2 => k_is); (case c2 => k_is); (case k2 => k_is); (case a3 => k_is); (case l3 => k_is); (case c3 => k_is); (case k3 => k_is); (case a4 => k_is); (case l4 => k_is); (case c4 => k_is); (case k4 => k_is); (case a5 => k_is); (case l5 => k_is); (case c5 => k_is); (case k5 => k_is); (case a6 => k_is); (case l6 => k_is); (case c6 => k_is); (case k6 => k_is); (case a7 => k_is); (case l7 => k_is); (case c7 => k_is); (case k7 => k_is); (case z_abs => k_is); (case z_bool => k_is); (case z_int => k_is); (case z_isinstance => k_is); (case z_len => k_is); (case z_tuple => k_is)
