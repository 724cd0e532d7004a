import PyProof.Rows.All
import Wide.All
import OpenK.AllK
import Wide.FinOn
import HandS.ForMost
import HandS.ForExc
import HandS.Walk
import HandS.Wide
import HandS.Evl
import HandS.IsInst
import HandS.FStr
import HandS.RaiseMore
import HandS.ExcIs
import HandS.TupLe
import HandS.Sort
import HandS.Gcd
import HandS.List
import HandS.Style
import PyProof.ReprRoads
import PyProof.Rows.ReprOcc
import PyProof.Rows.RegStrFacts
import PyProof.Rows.CountFlat
import PySem.Challenge.RW_swapmart_k34_lies_in
set_option Elab.async false
set_option linter.all false
set_option maxRecDepth 100000
set_option maxHeartbeats 4000000
/-! trees and cells: what values are; lists that stand still are trees, lists that may change are cells of a store -/
namespace Sr
open PySem PySem.Spec PyProof.Rows L2
open Evl (Ex)

inductive T where
  | non | bl (b : Bool) | int (i : Int) | str (x : Str) | lst (xs : List T) | tup (xs : List T) | scr (ns : List Int) | ref (i : Nat) | adr (a : Addr) | rng (lo hi : Int)
inductive Cell where
  | l (ts : List T) | o (c : Nat) (fs : List (Str × T)) | x (c : Nat)
abbrev Sto := List Cell

mutual
inductive Rep (K : PySem.W.Frag) (F : Hp) (φ : List Addr) : V → T → Prop where
  | non : Rep K F φ .non .non
  | bl {b : Bool} : Rep K F φ (.bl b) (.bl b)
  | int {i : Int} : Rep K F φ (.int i) (.int i)
  | str {x : Str} : Rep K F φ (.str x) (.str x)
  | lst {p : Addr} {vs : List V} {ts : List T} : F p = some (.lst vs) → Reps K F φ vs ts → Rep K F φ (.ref p) (.lst ts)
  | tup {p : Addr} {vs : List V} {ts : List T} : F p = some (.tup vs) → Reps K F φ vs ts → Rep K F φ (.ref p) (.tup ts)
  | scr {p : Addr} {ns : List Int} : SqL K F p (ns.map V.int) → Rep K F φ (.ref p) (.scr ns)
  | ref {p : Addr} {i : Nat} : φ[i]? = some p → Rep K F φ (.ref p) (.ref i)
  | adr {a : Addr} : Rep K F φ (.ref a) (.adr a)
  | rng {p : Addr} {lo hi : Int} : F p = some (.rng lo hi) → Rep K F φ (.ref p) (.rng lo hi)
inductive Reps (K : PySem.W.Frag) (F : Hp) (φ : List Addr) : List V → List T → Prop where
  | nil : Reps K F φ [] []
  | cons {v : V} {t : T} {vs : List V} {ts : List T} : Rep K F φ v t → Reps K F φ vs ts → Reps K F φ (v :: vs) (t :: ts)
end

/-- the world goes on -/
structure Up (F : Hp) (φ : List Addr) (F' : Hp) (φ' : List Addr) : Prop where
  ex : Ex F F'
  pre : φ <+: φ'
theorem Up.refl (F : Hp) (φ : List Addr) : Up F φ F φ := ⟨Ex.refl F, List.prefix_refl φ⟩
theorem Up.trans {F F1 F2 : Hp} {φ φ1 φ2 : List Addr} (a : Up F φ F1 φ1) (b : Up F1 φ1 F2 φ2) : Up F φ F2 φ2 := ⟨a.ex.trans b.ex, a.pre.trans b.pre⟩
theorem Up.get {F F' : Hp} {φ φ' : List Addr} (a : Up F φ F' φ') {i : Nat} {p : Addr} (h : φ[i]? = some p) : φ'[i]? = some p := by
  obtain ⟨l, rfl⟩ := a.pre
  rw [List.getElem?_append_left]
  · exact h
  · rcases Nat.lt_or_ge i φ.length with q | q
    · exact q
    · rw [List.getElem?_eq_none q] at h
      cases h

section
variable {K : PySem.W.Frag} {F F' : Hp} {φ φ' : List Addr}
mutual
theorem Rep.mono (x : Up F φ F' φ') : ∀ {v : V} {t : T}, Rep K F φ v t → Rep K F' φ' v t
  | _, _, .non => .non
  | _, _, .bl => .bl
  | _, _, .int => .int
  | _, _, .str => .str
  | _, _, .lst h r => .lst (x.ex _ _ h) (Reps.mono x r)
  | _, _, .tup h r => .tup (x.ex _ _ h) (Reps.mono x r)
  | _, _, .scr h => .scr (Evl.ex_l x.ex h)
  | _, _, .ref h => .ref (x.get h)
  | _, _, .adr => .adr
  | _, _, .rng h => .rng (x.ex _ _ h)
theorem Reps.mono (x : Up F φ F' φ') : ∀ {vs : List V} {ts : List T}, Reps K F φ vs ts → Reps K F' φ' vs ts
  | _, _, .nil => .nil
  | _, _, .cons a r => .cons (Rep.mono x a) (Reps.mono x r)
end
theorem Reps.length : ∀ {vs : List V} {ts : List T}, Reps K F φ vs ts → vs.length = ts.length
  | _, _, .nil => rfl
  | _, _, .cons _ r => congrArg (· + 1) r.length
theorem Reps.get : ∀ {vs : List V} {ts : List T} {i : Nat} {t : T}, Reps K F φ vs ts → ts[i]? = some t → ∃ v, vs[i]? = some v ∧ Rep K F φ v t
  | _, _, _, _, .nil, h => by simp at h
  | _, _, 0, _, .cons a _, h => by
    cases Option.some.inj h
    exact ⟨_, rfl, a⟩
  | _, _, i + 1, _, .cons _ r, h => Reps.get (i := i) r h
theorem Reps.get' : ∀ {vs : List V} {ts : List T} {i : Nat} {v : V}, Reps K F φ vs ts → vs[i]? = some v → ∃ t, ts[i]? = some t ∧ Rep K F φ v t
  | _, _, _, _, .nil, h => by simp at h
  | _, _, 0, _, .cons a _, h => by
    cases Option.some.inj h
    exact ⟨_, rfl, a⟩
  | _, _, i + 1, _, .cons _ r, h => Reps.get' (i := i) r h
theorem Reps.append : ∀ {vs ws : List V} {ts us : List T}, Reps K F φ vs ts → Reps K F φ ws us → Reps K F φ (vs ++ ws) (ts ++ us)
  | _, _, _, _, .nil, h => h
  | _, _, _, _, .cons a r, h => .cons a (r.append h)
theorem Reps.set : ∀ {vs : List V} {ts : List T} (i : Nat) {v : V} {t : T}, Reps K F φ vs ts → Rep K F φ v t → Reps K F φ (vs.set i v) (ts.set i t)
  | _, _, _, _, _, .nil, _ => .nil
  | _, _, 0, _, _, .cons _ r, h => .cons h r
  | _, _, i + 1, _, _, .cons a r, h => .cons a (r.set i h)
theorem Reps.take : ∀ {vs : List V} {ts : List T} (n : Nat), Reps K F φ vs ts → Reps K F φ (vs.take n) (ts.take n)
  | _, _, 0, _ => .nil
  | _, _, _ + 1, .nil => .nil
  | _, _, n + 1, .cons a r => .cons a (r.take n)
theorem Reps.drop : ∀ {vs : List V} {ts : List T} (n : Nat), Reps K F φ vs ts → Reps K F φ (vs.drop n) (ts.drop n)
  | _, _, 0, r => r
  | _, _, _ + 1, .nil => .nil
  | _, _, n + 1, .cons _ r => r.drop n
theorem Reps.reverse : ∀ {vs : List V} {ts : List T}, Reps K F φ vs ts → Reps K F φ vs.reverse ts.reverse
  | _, _, .nil => .nil
  | _, _, .cons a r => by
    rw [List.reverse_cons, List.reverse_cons]
    exact r.reverse.append (.cons a .nil)
theorem Reps.ints : ∀ {vs : List V} {ns : List Int}, Reps K F φ vs (ns.map T.int) → vs = ns.map V.int
  | [], [], _ => rfl
  | _ :: _, [], h => by cases h
  | [], _ :: _, h => by cases h
  | v :: vs, n :: ns, h => by
    cases h with
    | cons a r =>
      cases a
      rw [r.ints]
      rfl
theorem Reps.of_ints : ∀ (ns : List Int), Reps K F φ (ns.map V.int) (ns.map T.int)
  | [] => .nil
  | _ :: ns => .cons .int (Reps.of_ints ns)
end

/-- an error that is kept: an object of the class cls, without a dict -/
def exO (a : Addr) (cls : Value) : HO := .ext fun h => ∃ oe vs, h.get? a = some oe ∧ Zc cls none oe ∧ oe.data = .fields vs
/-- a cell stands at p -/
def CellAt (K : PySem.W.Frag) (F H : Hp) (φ : List Addr) (clsA : Nat → Value) (p : Addr) : Cell → Prop
  | .l ts => ∃ vs, H p = some (.lst vs) ∧ Reps K F φ vs ts
  | .o c fs => ∃ C dx vfs, clsA c = .ref C ∧ H p = some (.ins C dx vfs) ∧ vfs.map (·.1) = fs.map (·.1) ∧ Reps K F φ (vfs.map (·.2)) (fs.map (·.2))
  | .x c => H p = some (exO p (clsA c))
theorem CellAt.mono {K : PySem.W.Frag} {F F' H : Hp} {φ φ' : List Addr} {ca : Nat → Value} {p : Addr} (x : Up F φ F' φ') : ∀ {c : Cell}, CellAt K F H φ ca p c → CellAt K F' H φ' ca p c
  | .l ts, ⟨vs, h, r⟩ => ⟨vs, h, r.mono x⟩
  | .o c fs, ⟨C, dx, vfs, e, h, n, r⟩ => ⟨C, dx, vfs, e, h, n, r.mono x⟩
  | .x c, h => h
theorem CellAt.at {K : PySem.W.Frag} {F H H' : Hp} {φ : List Addr} {ca : Nat → Value} {p : Addr} (e : H' p = H p) : ∀ {c : Cell}, CellAt K F H φ ca p c → CellAt K F H' φ ca p c
  | .l ts, ⟨vs, h, r⟩ => ⟨vs, by rw [e]; exact h, r⟩
  | .o c fs, ⟨C, dx, vfs, e1, h, n, r⟩ => ⟨C, dx, vfs, e1, by rw [e]; exact h, n, r⟩
  | .x c, h => e.trans h
theorem CellAt.some {K : PySem.W.Frag} {F H : Hp} {φ : List Addr} {ca : Nat → Value} {p : Addr} : ∀ {c : Cell}, CellAt K F H φ ca p c → H p ≠ none
  | .l ts, ⟨vs, h, r⟩ => by rw [h]; exact fun z => nomatch z
  | .o c fs, ⟨C, dx, vfs, e1, h, n, r⟩ => by rw [h]; exact fun z => nomatch z
  | .x c, h => by
    have h : H p = Option.some (exO p (ca c)) := h
    rw [h]
    exact fun z => nomatch z

/-- N: what must stay as it is and nobody here knows; F: what stands still; φ: where the cells stand -/
structure Hr (K : PySem.W.Frag) (ca : Nat → Value) (N F H : Hp) (φ : List Addr) (s : Sto) : Prop where
  xN : Ex N H
  sub : Ex F H
  nF : ∀ a, N a ≠ none → F a = none
  len : φ.length = s.length
  cell : ∀ (i : Nat) (c : Cell) (p : Addr), s[i]? = some c → φ[i]? = some p → CellAt K F H φ ca p c
  out : ∀ (i : Nat) (p : Addr), φ[i]? = some p → N p = none ∧ F p = none
  inj : ∀ (i j : Nat) (p : Addr), φ[i]? = some p → φ[j]? = some p → i = j

abbrev En := List (Option T)
structure Rl (K : PySem.W.Frag) (ca : Nat → Value) (N F H : Hp) (φ : List Addr) (e : En) (s : Sto) (σ : L2.St) : Prop where
  hr : Hr K ca N F H φ s
  len : e.length = σ.length
  slot : ∀ (i : Nat) (t : T), e[i]? = some (some t) → ∃ v, σ[i]? = some (some v) ∧ Rep K F φ v t

section
variable {K : PySem.W.Frag} {ca : Nat → Value} {N F H F' H' : Hp} {φ φ' : List Addr} {e : En} {s s' : Sto} {σ : L2.St}
theorem Hr.there (r : Hr K ca N F H φ s) {i : Nat} {p : Addr} (h : φ[i]? = some p) : H p ≠ none := by
  have hi : i < φ.length := by
    rcases Nat.lt_or_ge i φ.length with q | q
    · exact q
    · rw [List.getElem?_eq_none q] at h
      cases h
  have hs : i < s.length := by rw [← r.len]; exact hi
  exact (r.cell i _ p (List.getElem?_eq_getElem hs) h).some
theorem Hr.get (r : Hr K ca N F H φ s) {i : Nat} {c : Cell} (h : s[i]? = some c) : ∃ p, φ[i]? = some p ∧ CellAt K F H φ ca p c := by
  have hi : i < s.length := by
    rcases Nat.lt_or_ge i s.length with q | q
    · exact q
    · rw [List.getElem?_eq_none q] at h
      cases h
  have hf : i < φ.length := by rw [r.len]; exact hi
  exact ⟨φ[i], List.getElem?_eq_getElem hf, r.cell i c _ h (List.getElem?_eq_getElem hf)⟩
theorem Hr.newF (r : Hr K ca N F H φ s) {p : Addr} (hp : H p = none) : F p = none ∧ N p = none ∧ ∀ i : Nat, φ[i]? ≠ some p := by
  refine ⟨?_, ?_, fun i h => r.there h hp⟩
  · cases q : F p with
    | none => rfl
    | some o =>
      rw [r.sub p o q] at hp
      cases hp
  · cases q : N p with
    | none => rfl
    | some o =>
      rw [r.xN p o q] at hp
      cases hp
/-- a new thing that stands still -/
theorem Hr.addF (r : Hr K ca N F H φ s) {p : Addr} {o : HO} (hp : H p = none) : Hr K ca N (upd F p o) (upd H p o) φ s := by
  obtain ⟨hF, hN, hφ⟩ := r.newF hp
  have x : Up F φ (upd F p o) φ := ⟨Ex.new hF, List.prefix_refl _⟩
  refine ⟨r.xN.trans (Ex.new hp), fun a u h => ?_, fun a h => ?_, r.len, fun i c q hc hq => ?_, fun i q h => ?_, r.inj⟩
  · by_cases z : a = p
    · subst z
      rw [upd_same] at h ⊢
      exact h
    · rw [upd_ne z] at h ⊢
      exact r.sub a u h
  · have z : a ≠ p := fun z => h (z ▸ hN)
    rw [upd_ne z]
    exact r.nF a h
  · have z : q ≠ p := fun z => hφ i (z ▸ hq)
    exact ((r.cell i c q hc hq).mono x).at (upd_ne z)
  · have z : q ≠ p := fun z => hφ i (z ▸ h)
    rw [upd_ne z]
    exact r.out i q h
theorem pre_snoc (φ : List Addr) (p : Addr) : φ <+: φ ++ [p] := ⟨[p], rfl⟩
theorem get_snoc {α : Type} {l : List α} {x y : α} {i : Nat} (h : (l ++ [x])[i]? = some y) : l[i]? = some y ∨ (i = l.length ∧ y = x) := by
  rcases Nat.lt_trichotomy i l.length with q | q | q
  · rw [List.getElem?_append_left q] at h
    exact .inl h
  · subst q
    rw [List.getElem?_append_right (Nat.le_refl _), Nat.sub_self] at h
    exact .inr ⟨rfl, (Option.some.inj h).symm⟩
  · rw [List.getElem?_eq_none (by rw [List.length_append]; exact q)] at h
    cases h
/-- a new cell -/
theorem Hr.addC (r : Hr K ca N F H φ s) {p : Addr} {o : HO} {c : Cell} (hp : H p = none) (hc : CellAt K F (upd H p o) φ ca p c) : Hr K ca N F (upd H p o) (φ ++ [p]) (s ++ [c]) := by
  obtain ⟨hF, hN, hφ⟩ := r.newF hp
  have x : Up F φ F (φ ++ [p]) := ⟨Ex.refl F, pre_snoc φ p⟩
  refine ⟨r.xN.trans (Ex.new hp), r.sub.trans (Ex.new hp), r.nF, by rw [List.length_append, List.length_append, r.len]; rfl, fun i c' q h hq => ?_, fun i q h => ?_, fun i j q hi hj => ?_⟩
  · rcases get_snoc h with h | ⟨e1, e2⟩
    · rcases get_snoc hq with hq | ⟨e3, e4⟩
      · have z : q ≠ p := fun z => hφ i (z ▸ hq)
        exact ((r.cell i c' q h hq).mono x).at (upd_ne z)
      · rw [e3, r.len, List.getElem?_eq_none (Nat.le_refl _)] at h
        cases h
    · subst e2
      rcases get_snoc hq with hq | ⟨e3, e4⟩
      · rw [e1, ← r.len, List.getElem?_eq_none (Nat.le_refl _)] at hq
        cases hq
      · subst e4
        exact hc.mono x
  · rcases get_snoc h with h | ⟨_, e2⟩
    · exact r.out i q h
    · subst e2
      exact ⟨hN, hF⟩
  · rcases get_snoc hi with hi2 | ⟨e1, e2⟩
    · rcases get_snoc hj with hj2 | ⟨e3, e4⟩
      · exact r.inj i j q hi2 hj2
      · subst e4
        exact absurd hi2 (hφ i)
    · subst e2
      rcases get_snoc hj with hj2 | ⟨e3, e4⟩
      · exact absurd hj2 (hφ j)
      · rw [e1, e3]
/-- a cell changed -/
theorem Hr.mut (r : Hr K ca N F H φ s) {i : Nat} {p : Addr} {o : HO} {c : Cell} (hp : φ[i]? = some p) (hc : CellAt K F (upd H p o) φ ca p c) : Hr K ca N F (upd H p o) φ (s.set i c) := by
  obtain ⟨hN, hF⟩ := r.out i p hp
  refine ⟨fun a u h => ?_, fun a u h => ?_, r.nF, by rw [List.length_set]; exact r.len, fun j c' q h hq => ?_, r.out, r.inj⟩
  · have z : a ≠ p := fun z => by
      rw [z, hN] at h
      cases h
    rw [upd_ne z]
    exact r.xN a u h
  · have z : a ≠ p := fun z => by
      rw [z, hF] at h
      cases h
    rw [upd_ne z]
    exact r.sub a u h
  · by_cases z : j = i
    · subst z
      rw [hp] at hq
      cases hq
      have hj : j < s.length := by
        rcases Nat.lt_or_ge j s.length with q | q
        · exact q
        · rw [List.getElem?_eq_none (by rw [List.length_set]; exact q)] at h
          cases h
      rw [List.getElem?_set_self hj] at h
      cases h
      exact hc
    · rw [List.getElem?_set_ne (Ne.symm z)] at h
      have n : q ≠ p := fun n => z (r.inj j i p (n ▸ hq) hp)
      exact (r.cell j c' q h hq).at (upd_ne n)
/-- p, known to nobody, is put aside -/
theorem Hr.hold (r : Hr K ca N F H φ s) {p : Addr} {o : HO} (hN : N p = none) (hF : F p = none) (hφ : ∀ i : Nat, φ[i]? ≠ some p) (hH : H p = some o) : Hr K ca (upd N p o) F H φ s := by
  refine ⟨fun a u h => ?_, r.sub, fun a h => ?_, r.len, r.cell, fun i q h => ⟨?_, (r.out i q h).2⟩, r.inj⟩
  · by_cases z : a = p
    · subst z
      rw [upd_same] at h
      cases h
      exact hH
    · rw [upd_ne z] at h
      exact r.xN a u h
  · by_cases z : a = p
    · subst z
      exact hF
    · rw [upd_ne z] at h
      exact r.nF a h
  · have z : q ≠ p := fun z => hφ i (z ▸ h)
    rw [upd_ne z]
    exact (r.out i q h).1
theorem Hr.unhold {p : Addr} {o : HO} (r : Hr K ca (upd N p o) F H φ s) (hN : N p = none) : Hr K ca N F H φ s ∧ H p = some o ∧ F p = none ∧ ∀ i : Nat, φ[i]? ≠ some p := by
  refine ⟨⟨fun a u h => ?_, r.sub, fun a h => ?_, r.len, r.cell, fun i q h => ⟨?_, (r.out i q h).2⟩, r.inj⟩, r.xN p o upd_same, r.nF p (by rw [upd_same]; exact fun z => nomatch z), fun i h => ?_⟩
  · have z : a ≠ p := fun z => by
      rw [z, hN] at h
      cases h
    exact r.xN a u (by rw [upd_ne z]; exact h)
  · have z : a ≠ p := fun z => h (z ▸ hN)
    exact r.nF a (by rw [upd_ne z]; exact h)
  · have z := (r.out i q h).1
    by_cases n : q = p
    · rw [n]; exact hN
    · rw [upd_ne n] at z
      exact z
  · have z := (r.out i p h).1
    rw [upd_same] at z
    cases z
/-- p, known to nobody, changes -/
theorem Hr.mutD (r : Hr K ca N F H φ s) {p : Addr} {o : HO} (hN : N p = none) (hF : F p = none) (hφ : ∀ i : Nat, φ[i]? ≠ some p) : Hr K ca N F (upd H p o) φ s := by
  refine ⟨fun a u h => ?_, fun a u h => ?_, r.nF, r.len, fun i c q h hq => ?_, r.out, r.inj⟩
  · rw [upd_ne (fun z => by rw [z, hN] at h; cases h)]
    exact r.xN a u h
  · rw [upd_ne (fun z => by rw [z, hF] at h; cases h)]
    exact r.sub a u h
  · exact (r.cell i c q h hq).at (upd_ne fun (z : q = p) => hφ i (z ▸ hq))
/-- p, known to nobody, stands still from now on -/
theorem Hr.still (r : Hr K ca N F H φ s) {p : Addr} {o : HO} (hN : N p = none) (hF : F p = none) (hφ : ∀ i : Nat, φ[i]? ≠ some p) (hH : H p = some o) : Hr K ca N (upd F p o) H φ s := by
  have x : Up F φ (upd F p o) φ := ⟨Ex.new hF, List.prefix_refl _⟩
  refine ⟨r.xN, fun a u h => ?_, fun a h => ?_, r.len, fun i c q h hq => (r.cell i c q h hq).mono x, fun i q h => ⟨(r.out i q h).1, ?_⟩, r.inj⟩
  · by_cases z : a = p
    · subst z
      rw [upd_same] at h
      cases h
      exact hH
    · rw [upd_ne z] at h
      exact r.sub a u h
  · rw [upd_ne fun (z : a = p) => h (z ▸ hN)]
    exact r.nF a h
  · rw [upd_ne fun (z : q = p) => hφ i (z ▸ h)]
    exact (r.out i q h).2
/-- p, known to nobody, becomes a cell -/
theorem Hr.cellD (r : Hr K ca N F H φ s) {p : Addr} {c : Cell} (hN : N p = none) (hF : F p = none) (hφ : ∀ i : Nat, φ[i]? ≠ some p) (hc : CellAt K F H φ ca p c) : Hr K ca N F H (φ ++ [p]) (s ++ [c]) := by
  have x : Up F φ F (φ ++ [p]) := ⟨Ex.refl F, pre_snoc φ p⟩
  refine ⟨r.xN, r.sub, r.nF, by rw [List.length_append, List.length_append, r.len]; rfl, fun i c' q h hq => ?_, fun i q h => ?_, fun i j q hi hj => ?_⟩
  · rcases get_snoc h with h | ⟨e1, e2⟩
    · rcases get_snoc hq with hq | ⟨e3, e4⟩
      · exact (r.cell i c' q h hq).mono x
      · rw [e3, r.len, List.getElem?_eq_none (Nat.le_refl _)] at h
        cases h
    · subst e2
      rcases get_snoc hq with hq | ⟨e3, e4⟩
      · rw [e1, ← r.len, List.getElem?_eq_none (Nat.le_refl _)] at hq
        cases hq
      · subst e4
        exact hc.mono x
  · rcases get_snoc h with h | ⟨_, e2⟩
    · exact r.out i q h
    · subst e2
      exact ⟨hN, hF⟩
  · rcases get_snoc hi with hi2 | ⟨e1, e2⟩
    · rcases get_snoc hj with hj2 | ⟨e3, e4⟩
      · exact r.inj i j q hi2 hj2
      · subst e4
        exact absurd hi2 (hφ i)
    · subst e2
      rcases get_snoc hj with hj2 | ⟨e3, e4⟩
      · exact absurd hj2 (hφ j)
      · rw [e1, e3]
theorem Rl.behind (r : Rl K ca N F H φ e s σ) (x : Up F φ F' φ') (f : Hr K ca N F' H' φ' s') : Rl K ca N F' H' φ' e s' σ := ⟨f, r.len, fun i t h => by
  obtain ⟨v, h1, h2⟩ := r.slot i t h
  exact ⟨v, h1, h2.mono x⟩⟩
end
def getS (l : En) (i j : Nat) (x : Option T) : (l.set i x)[j]? = if j = i ∧ i < l.length then some x else l[j]? := by
  by_cases h : j = i
  · subst h
    by_cases k : j < l.length
    · rw [if_pos ⟨rfl, k⟩, List.getElem?_set_self k]
    · rw [if_neg fun z => k z.2, List.getElem?_eq_none (by rw [List.length_set]; omega), List.getElem?_eq_none (by omega)]
  · rw [if_neg fun z => h z.1, List.getElem?_set_ne (Ne.symm h)]
theorem getSv (l : L2.St) (i j : Nat) (x : Option V) : (l.set i x)[j]? = if j = i ∧ i < l.length then some x else l[j]? := by
  by_cases h : j = i
  · subst h
    by_cases k : j < l.length
    · rw [if_pos ⟨rfl, k⟩, List.getElem?_set_self k]
    · rw [if_neg fun z => k z.2, List.getElem?_eq_none (by rw [List.length_set]; omega), List.getElem?_eq_none (by omega)]
  · rw [if_neg fun z => h z.1, List.getElem?_set_ne (Ne.symm h)]
theorem Rl.set {K : PySem.W.Frag} {ca : Nat → Value} {N F H : Hp} {φ : List Addr} {e : En} {s : Sto} {σ : L2.St} (r : Rl K ca N F H φ e s σ) {i : Nat} {v : V} {t : T} (h : Rep K F φ v t) : Rl K ca N F H φ (e.set i (some t)) s (σ.set i (some v)) := by
  have hl := r.len
  refine ⟨r.hr, by rw [List.length_set, List.length_set]; exact hl, fun j u hj => ?_⟩
  rw [getS] at hj
  rw [getSv]
  split at hj
  · rename_i c
    rw [if_pos ⟨c.1, by rw [← hl]; exact c.2⟩]
    cases hj
    exact ⟨v, rfl, h⟩
  · rename_i c
    rw [if_neg (by rw [← hl]; exact c)]
    exact r.slot j u hj
theorem Rl.unset {K : PySem.W.Frag} {ca : Nat → Value} {N F H : Hp} {φ : List Addr} {e : En} {s : Sto} {σ : L2.St} (r : Rl K ca N F H φ e s σ) (i : Nat) : Rl K ca N F H φ (e.set i none) s (σ.set i none) := by
  have hl := r.len
  refine ⟨r.hr, by rw [List.length_set, List.length_set]; exact hl, fun j u hj => ?_⟩
  rw [getS] at hj
  rw [getSv]
  split at hj
  · cases hj
  · rename_i c
    rw [if_neg (by rw [← hl]; exact c)]
    exact r.slot j u hj
end Sr

namespace Sr
open PySem PySem.Spec PyProof.Rows L2
open Evl (Ex)
/-! ### what a run comes to -/
inductive R (α : Type) where
  | ok (a : α) (e : En) (s : Sto)
  | ex (c : Nat) (e : En) (s : Sto)
  | bad
abbrev M (α : Type) := En → Sto → R α
@[simp] def M.bind {α β : Type} (m : M α) (f : α → M β) : M β := fun e s => match m e s with
  | .ok a e' s' => f a e' s'
  | .ex c e' s' => .ex c e' s'
  | .bad => .bad
@[simp] def M.pure {α : Type} (a : α) : M α := fun e s => .ok a e s
@[simp] def M.bad {α : Type} : M α := fun _ _ => .bad
@[simp] def M.opt {α : Type} : Option α → M α
  | some a => M.pure a
  | none => M.bad
abbrev EM := M T

/-- K, the classes of errors by number, the classes of objects by number, what is wanted of an error -/
structure Ct where
  K : PySem.W.Frag
  cls : Nat → Value
  W : WX
abbrev Ct.rl (C : Ct) := Rl C.K C.cls
abbrev Ct.hr (C : Ct) := Hr C.K C.cls

section
variable {C : Ct} {α β γ δ : Type}
def Po (C : Ct) (rel : Hp → List Addr → β → α → Prop) (N : Hp) (σ : L2.St) (Q : β → Hp → Prop) (F : Hp) (φ : List Addr) : R α → Prop
  | .ok a e' s' => ∀ b F' φ' H', C.rl N F' H' φ' e' s' σ → Up F φ F' φ' → rel F' φ' b a → Q b H'
  | .ex c e' s' => ∀ F' φ' H', C.rl N F' H' φ' e' s' σ → Up F φ F' φ' → C.W (C.cls c) none σ H'
  | .bad => False
/-- t, read, is d -/
def SX (C : Ct) (rel : Hp → List Addr → β → α → Prop) (t : L2.St → Hp → (β → Hp → Prop) → Prop) (d : M α) : Prop :=
  ∀ N F H φ e s σ, C.rl N F H φ e s σ → ∀ Q, Po C rel N σ Q F φ (d e s) → t σ H Q
/-- what a run may be asked -/
structure Pk (C : Ct) (N : Hp) (σ : L2.St) (P : Hp → List Addr → R γ → Prop) : Prop where
  mono : ∀ {F φ F1 φ1 x}, Up F φ F1 φ1 → P F φ x → P F1 φ1 x
  ex : ∀ {F φ c e' s'}, P F φ (.ex c e' s') → ∀ F' φ' H', C.rl N F' H' φ' e' s' σ → Up F φ F' φ' → C.W (C.cls c) none σ H'
  bad : ∀ {F φ}, ¬ P F φ .bad
theorem Po.pk {rel : Hp → List Addr → β → α → Prop} {N : Hp} {σ : L2.St} {Q : β → Hp → Prop} : Pk C N σ (Po C rel N σ Q) where
  mono := fun {F φ F1 φ1 x} u h => match x, h with
    | .ok _ _ _, h => fun b F' φ' H' r v => h b F' φ' H' r (u.trans v)
    | .ex _ _ _, h => fun F' φ' H' r v => h F' φ' H' r (u.trans v)
  ex := fun h => h
  bad := fun h => h
theorem SX.go' {rel : Hp → List Addr → β → α → Prop} {t : L2.St → Hp → (β → Hp → Prop) → Prop} {d : M α} (h : SX C rel t d) {N F H : Hp} {φ : List Addr} {e : En} {s : Sto} {σ : L2.St} (r : C.rl N F H φ e s σ) {g : α → M γ} {P : Hp → List Addr → R γ → Prop} (pk : Pk C N σ P)
    {Q : β → Hp → Prop} (q : P F φ (M.bind d g e s)) (k : ∀ b a F' φ' H' e' s', d e s = .ok a e' s' → C.rl N F' H' φ' e' s' σ → Up F φ F' φ' → rel F' φ' b a → P F' φ' (g a e' s') → Q b H') : t σ H Q := by
  refine h N F H φ e s σ r Q ?_
  unfold M.bind at q
  cases hd : d e s with
  | ok x e' s' =>
    rw [hd] at q
    intro b F' φ' H' r' u rp
    exact k b x F' φ' H' e' s' hd r' u rp (pk.mono u q)
  | ex c e' s' =>
    rw [hd] at q
    exact pk.ex q
  | bad =>
    rw [hd] at q
    exact absurd q pk.bad
theorem SX.go {rel : Hp → List Addr → β → α → Prop} {t : L2.St → Hp → (β → Hp → Prop) → Prop} {d : M α} (h : SX C rel t d) {N F H : Hp} {φ : List Addr} {e : En} {s : Sto} {σ : L2.St} (r : C.rl N F H φ e s σ) {g : α → M γ} {P : Hp → List Addr → R γ → Prop} (pk : Pk C N σ P)
    {Q : β → Hp → Prop} (q : P F φ (M.bind d g e s)) (k : ∀ b a F' φ' H' e' s', C.rl N F' H' φ' e' s' σ → Up F φ F' φ' → rel F' φ' b a → P F' φ' (g a e' s') → Q b H') : t σ H Q :=
  h.go' r pk q fun b a F' φ' H' e' s' _ => k b a F' φ' H' e' s'
end
abbrev SE (C : Ct) (t : TE) (d : EM) : Prop := SX C (Rep C.K) t d
abbrev SA (C : Ct) (t : TA) (d : M (List T)) : Prop := SX C (Reps C.K) t d
abbrev ST (C : Ct) (t : TT) (d : M Bool) : Prop := SX C (fun _ _ b a => b = a) t d
abbrev SO (C : Ct) (t : TO) (d : M (Option Int)) : Prop := SX C (fun _ _ b a => b = a) t d

/-- what an operation on values gives: a value that stands, a new list, a new tuple -/
inductive O where
  | v (t : T) | l (ts : List T) | u (ts : List T)
def PoV (K : PySem.W.Frag) (F H : Hp) (φ : List Addr) (Q : VK) : O → Prop
  | .v t => ∀ v, Rep K F φ v t → Q v H
  | .l ts => ∀ p vs, H p = none → Reps K F φ vs ts → Q (.ref p) (upd H p (.lst vs))
  | .u ts => ∀ p vs, H p = none → Reps K F φ vs ts → Q (.ref p) (upd H p (.tup vs))
/-- m: a new list is a cell -/
@[simp] def lift (m : Bool) (o : Option O) : EM := fun e s => match o with
  | some (.v t) => .ok t e s
  | some (.l ts) => if m = true then .ok (.ref s.length) e (s ++ [.l ts]) else .ok (.lst ts) e s
  | some (.u ts) => .ok (.tup ts) e s
  | none => .bad
/-- a value at its top -/
def vw (s : Sto) : T → T
  | .ref i => match s[i]? with
    | some (.l ts) => .lst ts
    | _ => .ref i
  | t => t
@[simp] theorem vw_non (s : Sto) : vw s .non = .non := rfl
@[simp] theorem vw_bl (s : Sto) (b : Bool) : vw s (.bl b) = .bl b := rfl
@[simp] theorem vw_int (s : Sto) (i : Int) : vw s (.int i) = .int i := rfl
@[simp] theorem vw_str (s : Sto) (x : Str) : vw s (.str x) = .str x := rfl
@[simp] theorem vw_lst (s : Sto) (xs : List T) : vw s (.lst xs) = .lst xs := rfl
@[simp] theorem vw_tup (s : Sto) (xs : List T) : vw s (.tup xs) = .tup xs := rfl
@[simp] theorem vw_scr (s : Sto) (xs : List Int) : vw s (.scr xs) = .scr xs := rfl
@[simp] theorem vw_adr (s : Sto) (a : Addr) : vw s (.adr a) = .adr a := rfl
@[simp] theorem vw_rng (s : Sto) (a b : Int) : vw s (.rng a b) = .rng a b := rfl
@[simp] theorem vw_ref (s : Sto) (i : Nat) : vw s (.ref i) = (match s[i]? with
    | some (.l ts) => .lst ts
    | _ => .ref i) := rfl
def Rep1 (K : PySem.W.Frag) (F H : Hp) (φ : List Addr) (v : V) (x : T) : Prop := Rep K F φ v x ∨ ∃ p vs ts, v = .ref p ∧ x = .lst ts ∧ H p = some (.lst vs) ∧ Reps K F φ vs ts
inductive Rep1s (K : PySem.W.Frag) (F H : Hp) (φ : List Addr) : List V → List T → Prop where
  | nil : Rep1s K F H φ [] []
  | cons {v : V} {t : T} {vs : List V} {ts : List T} : Rep1 K F H φ v t → Rep1s K F H φ vs ts → Rep1s K F H φ (v :: vs) (t :: ts)
section
variable {C : Ct} {N F H : Hp} {φ : List Addr} {e : En} {s : Sto} {σ : L2.St}
theorem Rl.addF (r : C.rl N F H φ e s σ) {p : Addr} {o : HO} (hp : H p = none) : C.rl N (upd F p o) (upd H p o) φ e s σ ∧ Up F φ (upd F p o) φ := by
  have x : Up F φ (upd F p o) φ := ⟨Ex.new (r.hr.newF hp).1, List.prefix_refl _⟩
  exact ⟨r.behind x (r.hr.addF hp), x⟩
theorem Rl.addC (r : C.rl N F H φ e s σ) {p : Addr} {vs : List V} {ts : List T} (hp : H p = none) (h : Reps C.K F φ vs ts) : C.rl N F (upd H p (.lst vs)) (φ ++ [p]) e (s ++ [.l ts]) σ ∧ Up F φ F (φ ++ [p]) := by
  have x : Up F φ F (φ ++ [p]) := ⟨Ex.refl F, pre_snoc φ p⟩
  exact ⟨r.behind x (r.hr.addC hp ⟨vs, upd_same, h⟩), x⟩
theorem snoc_at {α : Type} (l : List α) (x : α) : (l ++ [x])[l.length]? = some x := by
  rw [List.getElem?_append_right (Nat.le_refl _), Nat.sub_self]
  rfl
theorem lift_of {m : Bool} {Q : VK} (r : C.rl N F H φ e s σ) {o : Option O} (h : Po C (Rep C.K) N σ Q F φ (lift m o e s)) : ∃ z, o = some z ∧ PoV C.K F H φ Q z := by
  cases o with
  | none => exact h.elim
  | some z =>
    refine ⟨z, rfl, ?_⟩
    cases z with
    | v t => exact fun v hv => h v F φ H r (Up.refl _ _) hv
    | l ts =>
      intro p vs hp hr
      cases m with
      | false =>
        obtain ⟨r', x⟩ := r.addF (o := .lst vs) hp
        exact h (.ref p) _ φ _ r' x (.lst upd_same (hr.mono x))
      | true =>
        obtain ⟨r', x⟩ := r.addC hp hr
        refine h (.ref p) F _ _ r' x (.ref ?_)
        rw [← r.hr.len]
        exact snoc_at _ _
    | u ts =>
      intro p vs hp hr
      obtain ⟨r', x⟩ := r.addF (o := .tup vs) hp
      exact h (.ref p) _ φ _ r' x (.tup upd_same (hr.mono x))
theorem Hr.view (r : C.hr N F H φ s) {v : V} {x : T} (h : Rep C.K F φ v x) : Rep1 C.K F H φ v (vw s x) := by
  cases x with
  | ref i =>
    cases h with
    | @ref p _ hp =>
      show Rep1 _ _ _ _ _ (match s[i]? with
        | some (.l ts) => .lst ts
        | _ => .ref i)
      split
      · rename_i ts hs
        obtain ⟨vs, h1, h2⟩ := r.cell i _ p hs hp
        exact .inr ⟨p, vs, ts, rfl, rfl, h1, h2⟩
      · exact .inl (.ref hp)
  | _ => exact .inl h
theorem Hr.views (r : C.hr N F H φ s) : ∀ {vs : List V} {xs : List T}, Reps C.K F φ vs xs → Rep1s C.K F H φ vs (xs.map (vw s))
  | _, _, .nil => .nil
  | _, _, .cons a b => .cons (r.view a) (r.views b)
theorem Rep1.lst {K : PySem.W.Frag} {v : V} {ts : List T} (x : Ex F H) (h : Rep1 K F H φ v (.lst ts)) : ∃ p vs, v = .ref p ∧ H p = some (.lst vs) ∧ Reps K F φ vs ts := by
  rcases h with h | ⟨p, vs, ts', e1, e2, h1, h2⟩
  · cases h with
    | lst h1 h2 => exact ⟨_, _, rfl, x _ _ h1, h2⟩
  · cases e2
    exact ⟨p, vs, e1, h1, h2⟩
theorem Rep1.rep {K : PySem.W.Frag} {v : V} {t : T} (n : ∀ ts, t ≠ .lst ts) (h : Rep1 K F H φ v t) : Rep K F φ v t := by
  rcases h with h | ⟨p, vs, ts', e1, e2, _⟩
  · exact h
  · exact absurd e2 (n ts')
/-- as a list that is to be read: a list, a cell, the script -/
def sqOf : T → Option (List T)
  | .lst ts => some ts
  | .scr ns => some (ns.map .int)
  | _ => none
theorem Rep1.sq {K : PySem.W.Frag} {v : V} {t : T} {ts : List T} (x : Ex F H) (h : Rep1 K F H φ v t) (hs : sqOf t = some ts) : ∃ p vs, v = .ref p ∧ SqL K H p vs ∧ Reps K F φ vs ts := by
  cases t with
  | lst us =>
    cases hs
    obtain ⟨p, vs, e, h1, h2⟩ := h.lst x
    exact ⟨p, vs, e, .inl (.inl h1), h2⟩
  | scr ns =>
    cases hs
    cases h.rep (fun _ z => T.noConfusion z) with
    | scr h1 => exact ⟨_, _, rfl, Evl.ex_l x h1, Reps.of_ints ns⟩
  | _ => cases hs
end

/-! ### the forms of expressions -/
@[simp] def dC (t : T) : EM := fun e s => .ok t e s
@[simp] def dVar (i : Nat) : EM := fun e s => match e[i]? with
  | some (some t) => .ok t e s
  | _ => .bad
@[simp] def dOp (m : Bool) (f : T → T → Option O) (a b : EM) : EM := fun e s => (M.bind a fun x => M.bind b fun y => fun e s => lift m (f (vw s x) (vw s y)) e s) e s
@[simp] def dUn (f : T → Option O) (a : EM) : EM := fun e s => (M.bind a fun x => fun e s => lift false (f (vw s x)) e s) e s
@[simp] def dArgs : List EM → M (List T)
  | [] => fun e s => M.pure [] e s
  | a :: r => fun e s => (M.bind a fun x => M.bind (dArgs r) fun xs => M.pure (x :: xs)) e s
@[simp] def dB (m : Bool) (f : List T → Option O) (as : List EM) : EM := fun e s => (M.bind (dArgs as) fun xs => fun e s => lift m (f (xs.map (vw s))) e s) e s
@[simp] def dTup (as : List EM) : EM := fun e s => (M.bind (dArgs as) fun xs => lift false (some (.u xs))) e s
@[simp] def dLst (m : Bool) (as : List EM) : EM := fun e s => (M.bind (dArgs as) fun xs => lift m (some (.l xs))) e s
@[simp] def dTest (a : EM) : M Bool := fun e s => (M.bind a fun x => match x with
  | .bl b => M.pure b
  | _ => M.bad) e s
def truth : T → Option Bool
  | .non => some false
  | .bl b => some b
  | .int i => some (i != 0)
  | .lst ts => some (!ts.isEmpty)
  | .tup ts => some (!ts.isEmpty)
  | .scr ns => some (!ns.isEmpty)
  | _ => none
@[simp] theorem truth_non : truth .non = some false := rfl
@[simp] theorem truth_bl (b : Bool) : truth (.bl b) = some b := rfl
@[simp] theorem truth_int (i : Int) : truth (.int i) = some (i != 0) := rfl
@[simp] theorem truth_lst (ts : List T) : truth (.lst ts) = some (!ts.isEmpty) := rfl
@[simp] theorem truth_tup (ts : List T) : truth (.tup ts) = some (!ts.isEmpty) := rfl
@[simp] theorem truth_scr (ts : List Int) : truth (.scr ts) = some (!ts.isEmpty) := rfl
@[simp] def dTruth (a : EM) : M Bool := fun e s => (M.bind a fun x => fun e s => M.opt (truth (vw s x)) e s) e s
@[simp] def dNotT (a : M Bool) : M Bool := fun e s => (M.bind a fun b => M.pure !b) e s
@[simp] def dAndT (a b : M Bool) : M Bool := fun e s => (M.bind a fun x => if x = true then b else M.pure false) e s
@[simp] def dOrT (a b : M Bool) : M Bool := fun e s => (M.bind a fun x => if x = true then M.pure true else b) e s
@[simp] def dIfE (t : M Bool) (a b : EM) : EM := fun e s => (M.bind t fun c => if c = true then a else b) e s
@[simp] def dAndV (a b : EM) : EM := fun e s => (M.bind (dTest a) fun c => if c = true then b else M.pure (T.bl false)) e s
@[simp] def dOrV (a b : EM) : EM := fun e s => (M.bind (dTest a) fun c => if c = true then M.pure (T.bl true) else b) e s
@[simp] def dNotV (a : EM) : EM := fun e s => (M.bind (dTest a) fun c => M.pure (T.bl !c)) e s

section
variable {C : Ct}
theorem se_c {v : V} {t : T} (h : ∀ F φ, Rep C.K F φ v t) : SE C (tC v) (dC t) := fun N F H φ e s σ r Q q => q v F φ H r (Up.refl _ _) (h F φ)
theorem se_var {i : Nat} : SE C (tVar i) (dVar i) := fun N F H φ e s σ r Q q => by
  unfold dVar at q
  split at q
  · rename_i t h
    obtain ⟨v, h1, rp⟩ := r.slot i t h
    exact ⟨v, h1, q v F φ H r (Up.refl _ _) rp⟩
  · exact q.elim
/-- an operation by values -/
def OpS (C : Ct) (r : R2) (f : T → T → Option O) : Prop := ∀ F H φ vx x vy y z Q, Ex F H → Rep1 C.K F H φ vx x → Rep1 C.K F H φ vy y → f x y = some z → PoV C.K F H φ Q z → r vx vy H Q
theorem se_op {m : Bool} {r : R2} {f : T → T → Option O} {ta tb : TE} {a b : EM} (hr : OpS C r f) (ha : SE C ta a) (hb : SE C tb b) : SE C (tOp r ta tb) (dOp m f a b) := fun N F H φ e s σ rl Q q => by
  refine ha.go rl Po.pk q fun v x F1 φ1 H1 e1 s1 r1 u1 rp q1 => ?_
  refine hb.go r1 Po.pk q1 fun w y F2 φ2 H2 e2 s2 r2 u2 rp2 q2 => ?_
  obtain ⟨z, hz, p⟩ := lift_of r2 q2
  exact hr F2 H2 φ2 v _ w _ z Q r2.hr.sub (r2.hr.view (rp.mono u2)) (r2.hr.view rp2) hz p
def UnS (C : Ct) (r : V → Hp → VK → Prop) (f : T → Option O) : Prop := ∀ F H φ vx x z Q, Ex F H → Rep1 C.K F H φ vx x → f x = some z → PoV C.K F H φ Q z → r vx H Q
theorem se_un {r : V → Hp → VK → Prop} {f : T → Option O} {ta : TE} {a : EM} (hr : UnS C r f) (ha : SE C ta a) : SE C (tUn r ta) (dUn f a) := fun N F H φ e s σ rl Q q => by
  refine ha.go rl Po.pk q fun v x F1 φ1 H1 e1 s1 r1 u1 rp q1 => ?_
  obtain ⟨z, hz, p⟩ := lift_of r1 q1
  exact hr F1 H1 φ1 v _ z Q r1.hr.sub (r1.hr.view rp) hz p
theorem sa_nil : SA C tNil (dArgs []) := fun N F H φ e s σ r Q q => q [] F φ H r (Up.refl _ _) .nil
theorem sa_cons {ta : TE} {tr : TA} {a : EM} {as : List EM} (ha : SE C ta a) (hr : SA C tr (dArgs as)) : SA C (tCons ta tr) (dArgs (a :: as)) := fun N F H φ e s σ rl Q q => by
  refine ha.go rl Po.pk q fun v x F1 φ1 H1 e1 s1 r1 u1 rp q1 => ?_
  refine hr.go r1 Po.pk q1 fun vs xs F2 φ2 H2 e2 s2 r2 u2 rps q2 => ?_
  exact q2 (v :: vs) F2 φ2 H2 r2 (Up.refl _ _) (.cons (rp.mono u2) rps)
/-- a call of a built-in by values -/
def BS (C : Ct) (r : List V → Hp → VK → Prop) (f : List T → Option O) : Prop := ∀ F H φ vs xs z Q, Ex F H → Rep1s C.K F H φ vs xs → f xs = some z → PoV C.K F H φ Q z → r vs H Q
theorem se_b {m : Bool} {r : List V → Hp → VK → Prop} {f : List T → Option O} {ta : TA} {as : List EM} (hr : BS C r f) (ha : SA C ta (dArgs as)) : SE C (tCB r ta) (dB m f as) := fun N F H φ e s σ rl Q q => by
  refine ha.go rl Po.pk q fun vs xs F1 φ1 H1 e1 s1 r1 u1 rps q1 => ?_
  obtain ⟨z, hz, p⟩ := lift_of r1 q1
  exact hr F1 H1 φ1 vs _ z Q r1.hr.sub (r1.hr.views rps) hz p
theorem dArgs_len : ∀ (as : List EM) e s xs e' s', dArgs as e s = .ok xs e' s' → xs.length = as.length := by
  intro as
  induction as with
  | nil =>
    intro e s xs e' s' h
    cases h
    rfl
  | cons a as ih =>
    intro e s xs e' s' h
    unfold dArgs M.bind at h
    split at h
    · rename_i x e1 s1 h1
      dsimp only at h
      split at h
      · rename_i ys e2 s2 h2
        cases h
        rw [List.length_cons, List.length_cons, ih _ _ _ _ _ h2]
      · cases h
      · cases h
    · cases h
    · cases h
theorem se_seq {m : Bool} {mk : List T → O} {cn : List V → HO} {ta : TA} {as : List EM} (ha : SA C ta (dArgs as)) (hl : as.length ≤ 1000) {t : TE} (ht : t = fun σ H Q => ta σ H fun xs H1 => xs.length ≤ sizeLine ∧ ∀ p, H1 p = none → Q (.ref p) (upd H1 p (cn xs)))
    (hmk : ∀ F H φ Q xs vs, PoV C.K F H φ Q (mk xs) → Reps C.K F φ vs xs → ∀ p, H p = none → Q (.ref p) (upd H p (cn vs))) : SE C t (fun e s => (M.bind (dArgs as) fun xs => lift m (some (mk xs))) e s) := fun N F H φ e s σ rl Q q => by
  subst ht
  refine ha.go' rl Po.pk q fun vs xs F' φ' H' e' s' hd r' u' rps q' => ?_
  have hz : vs.length ≤ sizeLine := by
    rw [rps.length, dArgs_len _ _ _ _ _ _ hd]
    exact Nat.le_trans hl (by decide)
  refine ⟨hz, fun p hp => ?_⟩
  obtain ⟨z, hz, pv⟩ := lift_of r' q'
  cases hz
  exact hmk _ _ _ _ _ _ pv rps p hp
theorem se_tup {ta : TA} {as : List EM} (ha : SA C ta (dArgs as)) (hl : as.length ≤ 1000) : SE C (tTup ta) (dTup as) := se_seq (m := false) (mk := .u) (cn := .tup) ha hl rfl fun F H φ Q xs vs h r p hp => h p vs hp r
theorem se_lst {m : Bool} {ta : TA} {as : List EM} (ha : SA C ta (dArgs as)) (hl : as.length ≤ 1000) : SE C (tLst ta) (dLst m as) := se_seq (mk := .l) (cn := .lst) ha hl rfl fun F H φ Q xs vs h r p hp => h p vs hp r
/-! tests -/
theorem st_test {t : TE} {d : EM} (h : SE C t d) : ST C (tTest t) (dTest d) := fun N F H φ e s σ rl Q q => by
  refine h.go rl Po.pk q fun v x F1 φ1 H1 e1 s1 r1 u1 rp q1 => ?_
  cases x <;> first | exact q1.elim | skip
  cases rp
  exact ⟨_, rfl, q1 _ F1 φ1 H1 r1 (Up.refl _ _) rfl⟩
theorem tru_of {F H : Hp} {φ : List Addr} {v : V} {x : T} {b : Bool} (x1 : Ex F H) (rp : Rep1 C.K F H φ v x) (h : truth x = some b) : TruV C.K v H b := by
  cases x with
  | lst ts =>
    obtain ⟨p, vs, rfl, h1, rs⟩ := rp.lst x1
    refine .inl ⟨_, .inl (.inl h1), ?_⟩
    rw [← Option.some.inj h]
    cases rs <;> rfl
  | tup ts =>
    cases rp.rep (fun _ z => T.noConfusion z) with
    | tup h1 rs =>
      refine .inr (.inl ⟨_, .inl (.inl (x1 _ _ h1)), ?_⟩)
      rw [← Option.some.inj h]
      cases rs <;> rfl
  | scr ns =>
    cases rp.rep (fun _ z => T.noConfusion z) with
    | scr h1 =>
      refine .inl ⟨_, Evl.ex_l x1 h1, ?_⟩
      rw [← Option.some.inj h]
      cases ns <;> rfl
  | non =>
    cases rp.rep (fun _ z => T.noConfusion z)
    exact (Option.some.inj h).symm
  | bl b =>
    cases rp.rep (fun _ z => T.noConfusion z)
    exact (Option.some.inj h).symm
  | int i =>
    cases rp.rep (fun _ z => T.noConfusion z)
    exact (Option.some.inj h).symm
  | _ => cases h
theorem st_truth {t : TE} {d : EM} (h : SE C t d) : ST C (fun σ H Q => t σ H fun x H' => ∃ k, TruV C.K x H' k ∧ Q k H') (dTruth d) := fun N F H φ e s σ rl Q q => by
  refine h.go rl Po.pk q fun v x F1 φ1 H1 e1 s1 r1 u1 rp q1 => ?_
  have rv := r1.hr.view rp
  cases ht : truth (vw s1 x) with
  | none =>
    simp only [ht, M.opt] at q1
    exact q1.elim
  | some b =>
    simp only [ht, M.opt] at q1
    exact ⟨b, tru_of r1.hr.sub rv ht, q1 _ F1 φ1 H1 r1 (Up.refl _ _) rfl⟩
theorem st_not {t : TT} {d : M Bool} (h : ST C t d) : ST C (tNot t) (dNotT d) := fun N F H φ e s σ rl Q q => by
  refine h.go rl Po.pk q fun v x F1 φ1 H1 e1 s1 r1 u1 rp q1 => ?_
  subst rp
  exact q1 _ F1 φ1 H1 r1 (Up.refl _ _) rfl
theorem st_and {t u : TT} {a b : M Bool} (h : ST C t a) (k : ST C u b) : ST C (tAnd t u) (dAndT a b) := fun N F H φ e s σ rl Q q => by
  refine h.go rl Po.pk q fun v x F1 φ1 H1 e1 s1 r1 u1 rp q1 => ?_
  subst rp
  cases v with
  | true => exact k N F1 H1 φ1 e1 s1 σ r1 Q q1
  | false => exact q1 _ F1 φ1 H1 r1 (Up.refl _ _) rfl
theorem st_or {t u : TT} {a b : M Bool} (h : ST C t a) (k : ST C u b) : ST C (tOr t u) (dOrT a b) := fun N F H φ e s σ rl Q q => by
  refine h.go rl Po.pk q fun v x F1 φ1 H1 e1 s1 r1 u1 rp q1 => ?_
  subst rp
  cases v with
  | true => exact q1 _ F1 φ1 H1 r1 (Up.refl _ _) rfl
  | false => exact k N F1 H1 φ1 e1 s1 σ r1 Q q1
theorem se_ifE {t : TT} {ta tb : TE} {d : M Bool} {a b : EM} (h : ST C t d) (ha : SE C ta a) (hb : SE C tb b) : SE C (tIf t ta tb) (dIfE d a b) := fun N F H φ e s σ rl Q q => by
  refine h.go rl Po.pk q fun v x F1 φ1 H1 e1 s1 r1 u1 rp q1 => ?_
  subst rp
  cases v with
  | true => exact ha N F1 H1 φ1 e1 s1 σ r1 Q q1
  | false => exact hb N F1 H1 φ1 e1 s1 σ r1 Q q1
theorem se_andV {ta tb : TE} {a b : EM} (ha : SE C ta a) (hb : SE C tb b) : SE C (tAndV ta tb) (dAndV a b) := fun N F H φ e s σ rl Q q => by
  refine (st_test ha).go (Q := fun c H1 => if c = true then tb σ H1 Q else Q (.bl false) H1) rl Po.pk q fun v x F1 φ1 H1 e1 s1 r1 u1 rp q1 => ?_
  subst rp
  cases v with
  | true => exact hb N F1 H1 φ1 e1 s1 σ r1 Q q1
  | false => exact q1 (.bl false) F1 φ1 H1 r1 (Up.refl _ _) .bl
theorem se_orV {ta tb : TE} {a b : EM} (ha : SE C ta a) (hb : SE C tb b) : SE C (tOrV ta tb) (dOrV a b) := fun N F H φ e s σ rl Q q => by
  refine (st_test ha).go (Q := fun c H1 => if c = true then Q (.bl true) H1 else tb σ H1 Q) rl Po.pk q fun v x F1 φ1 H1 e1 s1 r1 u1 rp q1 => ?_
  subst rp
  cases v with
  | true => exact q1 (.bl true) F1 φ1 H1 r1 (Up.refl _ _) .bl
  | false => exact hb N F1 H1 φ1 e1 s1 σ r1 Q q1
theorem se_notV {ta : TE} {a : EM} (ha : SE C ta a) : SE C (tNotV ta) (dNotV a) := fun N F H φ e s σ rl Q q => by
  refine (st_test ha).go (Q := fun c H1 => Q (.bl !c) H1) rl Po.pk q fun v x F1 φ1 H1 e1 s1 r1 u1 rp q1 => ?_
  subst rp
  exact q1 (.bl !v) F1 φ1 H1 r1 (Up.refl _ _) .bl
end
end Sr

namespace Sr
open PySem PySem.Spec PyProof.Rows L2
open Evl (Ex)

/-! ### operations on trees -/
mutual
def toD : T → PyData
  | .non => .none
  | .bl b => .bool b
  | .int i => .int i
  | .str x => .str x
  | .lst xs => .list (toDs xs)
  | .tup xs => .tuple (toDs xs)
  | .scr ns => .list (ns.map PyData.int)
  | .ref _ => .none
  | .adr _ => .none
  | .rng _ _ => .none
def toDs : List T → List PyData
  | [] => []
  | x :: xs => toD x :: toDs xs
end
mutual
/-- nothing but data -/
def clo : T → Bool
  | .ref _ => false
  | .adr _ => false
  | .rng _ _ => false
  | .lst xs => clos xs
  | .tup xs => clos xs
  | _ => true
def clos : List T → Bool
  | [] => true
  | x :: xs => clo x && clos xs
end
def okD (x : T) : Bool := clo x && SeqAt.shaped (toD x)
noncomputable def mulOk (i j : Int) : Bool := @decide _ (Classical.propDecidable (i.natAbs.log2 + j.natAbs.log2 < 1000000))
noncomputable def divOk (j : Int) : Bool := @decide _ (Classical.propDecidable (j ≠ 0))
noncomputable def lenOk (n : Nat) : Bool := @decide _ (Classical.propDecidable (n ≤ 16777216))
noncomputable def rngOk (a b : Int) : Bool := @decide _ (Classical.propDecidable ((-4611686018427387904 ≤ a ∧ a < 4611686018427387904) ∧ (-4611686018427387904 ≤ b ∧ b < 4611686018427387904)))
theorem rngOk_of {a b : Int} (h : rngOk a b = true) : (-4611686018427387904 ≤ a ∧ a < 4611686018427387904) ∧ (-4611686018427387904 ≤ b ∧ b < 4611686018427387904) := @of_decide_eq_true _ (Classical.propDecidable _) h
theorem rngOk_mk {a b : Int} (h1 : -1000000000000 ≤ a) (h2 : a ≤ 1000000000000) (h3 : -1000000000000 ≤ b) (h4 : b ≤ 1000000000000) : rngOk a b = true := @decide_eq_true _ (Classical.propDecidable _) ⟨⟨by omega, by omega⟩, ⟨by omega, by omega⟩⟩
theorem lenOk_mk {n : Nat} (h : n ≤ 16777216) : lenOk n = true := @decide_eq_true _ (Classical.propDecidable _) h
theorem mulOk_mk {i j : Int} (h : i.natAbs.log2 + j.natAbs.log2 < 1000000) : mulOk i j = true := @decide_eq_true _ (Classical.propDecidable _) h
theorem divOk_mk {j : Int} (h : j ≠ 0 ∧ j.natAbs.log2 < 9000) : divOk j = true := @decide_eq_true _ (Classical.propDecidable _) h.1
theorem divOk_nz {j : Int} (h : j ≠ 0) : divOk j = true := @decide_eq_true _ (Classical.propDecidable _) h
theorem divOk_of {j : Int} (h : divOk j = true) : j ≠ 0 := @of_decide_eq_true _ (Classical.propDecidable _) h
def bI (f : Int → Int → Option T) : T → T → Option O
  | .int i, .int j => (f i j).map .v
  | _, _ => none
noncomputable def tAdd : T → T → Option O
  | .int i, .int j => some (.v (.int (i + j)))
  | .lst a, .lst b => if lenOk (a.length + b.length) = true then some (.l (a ++ b)) else none
  | .str a, .str b => if lenOk (a.length + b.length) = true then some (.v (.str (a ++ b))) else none
  | _, _ => none
def tSub : T → T → Option O := bI fun i j => some (.int (i - j))
noncomputable def tMul : T → T → Option O
  | .int i, .int j => if mulOk i j = true then some (.v (.int (i * j))) else none
  | .lst a, .int k => if rngOk k 0 = true ∧ lenOk (a.length * k.toNat) = true then some (.l (List.replicate k.toNat a).flatten) else none
  | _, _ => none
noncomputable def tFdiv : T → T → Option O := bI fun i j => if divOk j = true then some (.int (i.fdiv j)) else none
def tMod : T → T → Option O := bI fun i j => if j ≠ 0 then some (.int (i.fmod j)) else none
def tPow : T → T → Option O := bI fun i j => if 0 ≤ j ∧ j ≤ 1000000 ∧ i.natAbs < 2 ^ 64 then some (.int (i ^ j.toNat)) else none
def tLt : T → T → Option O := bI fun i j => some (.bl (decide (i < j)))
def tLe : T → T → Option O := bI fun i j => some (.bl (decide (i ≤ j)))
def tGt : T → T → Option O := bI fun i j => some (.bl (decide (j < i)))
def tGe : T → T → Option O := bI fun i j => some (.bl (decide (j ≤ i)))
def tNegI : T → Option O
  | .int i => some (.v (.int (-i)))
  | _ => none
def tIx : T → T → Option O
  | .lst xs, .int i => (atI xs i).map .v
  | .tup xs, .int i => (atI xs i).map .v
  | .scr ns, .int i => (atI ns i).map fun n => .v (.int n)
  | _, _ => none
def cut {α : Type} (xs : List α) (lo hi : Option Int) : List α := (xs.drop (HT.sIx xs.length 0 lo)).take (HT.sIx xs.length xs.length hi - HT.sIx xs.length 0 lo)
def tSlc : T → Option Int → Option Int → Option O
  | .lst xs, lo, hi => some (.l (cut xs lo hi))
  | .scr ns, lo, hi => some (.l ((cut ns lo hi).map .int))
  | _, _, _ => none
def tLen : List T → Option O
  | [.lst xs] => some (.v (.int xs.length))
  | [.tup xs] => some (.v (.int xs.length))
  | [.scr ns] => some (.v (.int ns.length))
  | _ => none
def tAbs : List T → Option O
  | [.int i] => some (.v (.int (if i < 0 then -i else i)))
  | _ => none
def tMax2 : List T → Option O
  | [.int i, .int j] => some (.v (.int (if j > i then j else i)))
  | _ => none
def tMin2 : List T → Option O
  | [.int i, .int j] => some (.v (.int (if j < i then j else i)))
  | _ => none
def allInts : List T → Option (List Int)
  | [] => some []
  | .int i :: r => (allInts r).map (i :: ·)
  | _ => none
def tSum : List T → Option O
  | [.lst xs] => (allInts xs).map fun ns => .v (.int ns.sum)
  | _ => none
def tList : List T → Option O
  | [.lst xs] => some (.l xs)
  | [.tup xs] => some (.l xs)
  | [.scr ns] => some (.l (ns.map .int))
  | _ => none
@[simp] theorem tIx_lst (xs : List T) (i : Int) : tIx (.lst xs) (.int i) = (atI xs i).map .v := rfl
@[simp] theorem tIx_tup (xs : List T) (i : Int) : tIx (.tup xs) (.int i) = (atI xs i).map .v := rfl
@[simp] theorem tIx_scr (ns : List Int) (i : Int) : tIx (.scr ns) (.int i) = (atI ns i).map fun n => .v (.int n) := rfl
@[simp] theorem tSlc_lst (xs : List T) (lo hi : Option Int) : tSlc (.lst xs) lo hi = some (.l (cut xs lo hi)) := rfl
@[simp] theorem tSlc_scr (ns : List Int) (lo hi : Option Int) : tSlc (.scr ns) lo hi = some (.l ((cut ns lo hi).map .int)) := rfl
@[simp] theorem tLen_lst (xs : List T) : tLen [.lst xs] = some (.v (.int xs.length)) := rfl
@[simp] theorem tLen_tup (xs : List T) : tLen [.tup xs] = some (.v (.int xs.length)) := rfl
@[simp] theorem tLen_scr (xs : List Int) : tLen [.scr xs] = some (.v (.int xs.length)) := rfl
@[simp] theorem tAbs_int (i : Int) : tAbs [.int i] = some (.v (.int (if i < 0 then -i else i))) := rfl
@[simp] theorem tMax2_int (i j : Int) : tMax2 [.int i, .int j] = some (.v (.int (if j > i then j else i))) := rfl
@[simp] theorem tMin2_int (i j : Int) : tMin2 [.int i, .int j] = some (.v (.int (if j < i then j else i))) := rfl
@[simp] theorem tList_lst (xs : List T) : tList [.lst xs] = some (.l xs) := rfl
@[simp] theorem tList_tup (xs : List T) : tList [.tup xs] = some (.l xs) := rfl
@[simp] theorem tList_scr (xs : List Int) : tList [.scr xs] = some (.l (xs.map .int)) := rfl
def tyN : T → String
  | .non => "NoneType"
  | .bl _ => "bool"
  | .int _ => "int"
  | .str _ => "str"
  | .lst _ => "list"
  | .tup _ => "tuple"
  | .scr _ => "list"
  | .ref _ => ""
  | .adr _ => ""
  | .rng _ _ => ""
def isB (tn : String) (x : T) : Option O := match x with
  | .scr _ => none
  | .ref _ => none
  | .adr _ => none
  | .rng _ _ => none
  | x => (kitB (tyN x) tn).map fun b => .v (.bl b)

section
variable {C : Ct} {X : Cx}
theorem OpR.or {f : Value → Value → Sem Value} {r r' : R2} (h : OpR X f r) (h' : OpR X f r') : OpR X f (fun x y H Q => r x y H Q ∨ r' x y H Q) := by
  intro pins s σ H x y v u Q I rx ry q
  rcases q with q | q
  · exact h pins s σ H x y v u Q I rx ry q
  · exact h' pins s σ H x y v u Q I rx ry q
def rOr (r r' : R2) : R2 := fun x y H Q => r x y H Q ∨ r' x y H Q
def rStrAdd : R2 := fun x y H Q => ∃ i j, x = .str i ∧ y = .str j ∧ i.length + j.length ≤ sizeLine ∧ Q (.str (i ++ j)) H
def rAdd3 : R2 := rOr (rI0 fun i j => .int (i + j)) (rOr rCat rStrAdd)
theorem op_add3 : OpR X (binaryOp .Add) rAdd3 := op_add.or (op_cat.or op_add_str)
theorem lenOk_le {n : Nat} (h : lenOk n = true) : n ≤ sizeLine := by
  have h1 : n ≤ 16777216 := @of_decide_eq_true _ (Classical.propDecidable _) h
  rw [sizeLine_eq]
  exact h1
theorem Rep1.int {K : PySem.W.Frag} {F H : Hp} {φ : List Addr} {v : V} {i : Int} (h : Rep1 K F H φ v (.int i)) : v = .int i := by
  cases h.rep (fun _ z => T.noConfusion z)
  rfl
theorem Rep1.str {K : PySem.W.Frag} {F H : Hp} {φ : List Addr} {v : V} {i : Str} (h : Rep1 K F H φ v (.str i)) : v = .str i := by
  cases h.rep (fun _ z => T.noConfusion z)
  rfl
theorem Rep1.tup {K : PySem.W.Frag} {F H : Hp} {φ : List Addr} {v : V} {ts : List T} (x : Ex F H) (h : Rep1 K F H φ v (.tup ts)) : ∃ p vs, v = .ref p ∧ H p = some (.tup vs) ∧ Reps K F φ vs ts := by
  cases h.rep (fun _ z => T.noConfusion z) with
  | tup h1 h2 => exact ⟨_, _, rfl, x _ _ h1, h2⟩
theorem Rep1.scr {K : PySem.W.Frag} {F H : Hp} {φ : List Addr} {v : V} {ns : List Int} (x : Ex F H) (h : Rep1 K F H φ v (.scr ns)) : ∃ p, v = .ref p ∧ SqL K H p (ns.map V.int) := by
  cases h.rep (fun _ z => T.noConfusion z) with
  | scr h1 => exact ⟨_, rfl, Evl.ex_l x h1⟩
theorem os_add : OpS C rAdd3 tAdd := by
  intro F H φ vx x vy y z Q ex rx ry h q
  unfold tAdd at h
  split at h
  · cases h
    rw [rx.int, ry.int]
    exact .inl ⟨_, _, rfl, rfl, q _ .int⟩
  · split at h
    · rename_i hl
      cases h
      obtain ⟨p1, vs1, rfl, h1, r1⟩ := rx.lst ex
      obtain ⟨p2, vs2, rfl, h2, r2⟩ := ry.lst ex
      refine .inr (.inl ⟨_, _, _, _, rfl, rfl, h1, h2, ?_, fun p hp => q p _ hp (r1.append r2)⟩)
      rw [r1.length, r2.length]
      exact lenOk_le hl
    · cases h
  · split at h
    · rename_i hl
      cases h
      rw [rx.str, ry.str]
      exact .inr (.inr ⟨_, _, rfl, rfl, lenOk_le hl, q _ .str⟩)
    · cases h
  · cases h
theorem os_bI {Cd : Int → Int → Prop} {g : Int → Int → V} {f : Int → Int → Option T} (h : ∀ i j t, f i j = some t → Cd i j ∧ ∀ F φ, Rep C.K F φ (g i j) t) : OpS C (rI Cd g) (bI f) := by
  intro F H φ vx x vy y z Q ex rx ry hz q
  unfold bI at hz
  split at hz
  · rename_i i j
    cases hf : f i j with
    | none =>
      rw [hf] at hz
      cases hz
    | some t =>
      rw [hf] at hz
      cases hz
      rw [rx.int, ry.int]
      obtain ⟨h1, h2⟩ := h i j t hf
      exact ⟨i, j, rfl, rfl, h1, q _ (h2 F φ)⟩
  · cases hz
theorem os_bI0 {g : Int → Int → V} {f : Int → Int → Option T} (h : ∀ i j t, f i j = some t → ∀ F φ, Rep C.K F φ (g i j) t) : OpS C (rI0 g) (bI f) := by
  intro F H φ vx x vy y z Q ex rx ry hz q
  unfold bI at hz
  split at hz
  · rename_i i j
    cases hf : f i j with
    | none =>
      rw [hf] at hz
      cases hz
    | some t =>
      rw [hf] at hz
      cases hz
      rw [rx.int, ry.int]
      exact ⟨i, j, rfl, rfl, q _ (h i j t hf F φ)⟩
  · cases hz
theorem os_sub : OpS C (rI0 fun i j => .int (i - j)) tSub := os_bI0 fun i j t h F φ => by
  cases h
  exact .int
theorem os_lt : OpS C (rI0 fun i j => .bl (decide (i < j))) tLt := os_bI0 fun i j t h F φ => by
  cases h
  exact .bl
theorem os_le : OpS C (rI0 fun i j => .bl (decide (i ≤ j))) tLe := os_bI0 fun i j t h F φ => by
  cases h
  exact .bl
theorem os_gt : OpS C (rI0 fun i j => .bl (decide (i > j))) tGt := os_bI0 fun i j t h F φ => by
  cases h
  exact .bl
theorem os_ge : OpS C (rI0 fun i j => .bl (decide (i ≥ j))) tGe := os_bI0 fun i j t h F φ => by
  cases h
  exact .bl
theorem os_mod : OpS C (rI (fun _ j => j ≠ 0) fun i j => .int (i.fmod j)) tMod := os_bI fun i j t h => by
  split at h
  · rename_i hj
    cases h
    exact ⟨hj, fun F φ => .int⟩
  · cases h
def CDivX (_ j : Int) : Prop := j ≠ 0
/-- room for a division of numbers of any size -/
def Pyl (X : Cx) : Prop := ∀ s : Shared, (∀ b o, X.base.get? b = some o → s.heap.get? b = some o) → X.A.frames = some X.stack → PySem.PylongRoom (model X.prog X.w) X.A s
theorem op_fdivX {X : Cx} (hp : Pyl X) : OpR X (binaryOp .FloorDiv) (rI CDivX fun i j => .int (i.fdiv j)) := by
  intro pins s σ H x y v u Q I rx ry h
  obtain ⟨i, j, rfl, rfl, hc, q⟩ := h
  obtain ⟨t, rfl⟩ := rx
  obtain ⟨t', rfl⟩ := ry
  exact floordiv_int hc ⟨.int (i.fdiv j), H, I.tok _, ⟨_, rfl⟩, q⟩ (.inr (hp s I.bk I.ok.frames))
theorem os_fdiv : OpS C (rI CDivX fun i j => .int (i.fdiv j)) tFdiv := os_bI fun i j t h => by
  split at h
  · rename_i hj
    cases h
    exact ⟨divOk_of hj, fun F φ => .int⟩
  · cases h
theorem os_pow : OpS C (rI CPow fun i j => .int (i ^ j.toNat)) tPow := os_bI fun i j t h => by
  split at h
  · rename_i hj
    cases h
    exact ⟨hj, fun F φ => .int⟩
  · cases h
def rMul2 : R2 := rOr (rI CMulW fun i j => .int (i * j)) rRep
theorem op_mul2 : OpR X (binaryOp .Mult) rMul2 := op_mulW.or op_rep
theorem Reps.flat {K : PySem.W.Frag} {F : Hp} {φ : List Addr} {vs : List V} {ts : List T} (h : Reps K F φ vs ts) : ∀ n : Nat, Reps K F φ (List.replicate n vs).flatten (List.replicate n ts).flatten
  | 0 => .nil
  | n + 1 => by
    rw [List.replicate_succ, List.replicate_succ, List.flatten_cons, List.flatten_cons]
    exact h.append (h.flat n)
theorem mulOk_of {i j : Int} (h : mulOk i j = true) : CMulW i j := (@of_decide_eq_true _ (Classical.propDecidable _) h : i.natAbs.log2 + j.natAbs.log2 < 1000000)
theorem os_mul : OpS C rMul2 tMul := by
  intro F H φ vx x vy y z Q ex rx ry h q
  unfold tMul at h
  split at h
  · split at h
    · rename_i hm
      cases h
      rw [rx.int, ry.int]
      exact .inl ⟨_, _, rfl, rfl, mulOk_of hm, q _ .int⟩
    · cases h
  · split at h
    · rename_i k hk
      cases h
      rw [ry.int]
      obtain ⟨p1, vs1, rfl, h1, r1⟩ := rx.lst ex
      have hk1 := rngOk_of hk.1
      refine .inr ⟨_, _, _, rfl, rfl, h1, by omega, by omega, ?_, fun p hp => q p _ hp (r1.flat _)⟩
      rw [r1.length]
      exact lenOk_le hk.2
    · cases h
  · cases h
theorem us_neg : UnS C (rU fun i => .int (-i)) tNegI := by
  intro F H φ vx x z Q ex rx h q
  unfold tNegI at h
  split at h
  · cases h
    rw [rx.int]
    exact ⟨_, rfl, q _ .int⟩
  · cases h
mutual
theorem Rep.dp {K : PySem.W.Frag} {F H : Hp} {φ : List Addr} (x : Ex F H) : ∀ {v : V} {t : T}, clo t = true → Rep K F φ v t → Dp K H v (toD t)
  | _, _, _, .non => .non
  | _, _, _, .bl => .bl _
  | _, _, _, .int => .int _
  | _, _, _, .str => .str _
  | _, .lst ts, c, .lst h r => .lst (.inl (.inl (x _ _ h))) (Reps.dp x c r)
  | _, .tup ts, c, .tup h r => .tup (.inl (.inl (x _ _ h))) (Reps.dp x c r)
  | _, _, _, .scr (ns := ns) h => .lst (Evl.ex_l x h) (dp_ints ns)
  | _, _, c, .ref _ => by cases c
  | _, _, c, .adr => by cases c
  | _, _, c, .rng _ => by cases c
theorem Reps.dp {K : PySem.W.Frag} {F H : Hp} {φ : List Addr} (x : Ex F H) : ∀ {vs : List V} {ts : List T}, clos ts = true → Reps K F φ vs ts → DpAll K H vs (toDs ts)
  | _, _, _, .nil => .nil
  | _, _, c, .cons a r => by
    unfold clos at c
    rw [Bool.and_eq_true] at c
    exact .cons (Rep.dp x c.1 a) (Reps.dp x c.2 r)
theorem dp_ints {K : PySem.W.Frag} {H : Hp} : ∀ (ns : List Int), DpAll K H (ns.map V.int) (ns.map PyData.int)
  | [] => .nil
  | n :: ns => .cons (.int n) (dp_ints ns)
end
theorem atI_at {α : Type} {xs : List α} {i : Int} {v : α} (h : atI xs i = some v) : ∃ j : Nat, ixN xs.length i = some j ∧ xs[j]? = some v := by
  unfold atI at h
  cases e : ixN xs.length i with
  | none =>
    rw [e] at h
    cases h
  | some j =>
    rw [e] at h
    exact ⟨j, rfl, h⟩
theorem Reps.atI {K : PySem.W.Frag} {F : Hp} {φ : List Addr} {vs : List V} {ts : List T} {i : Int} {t : T} (r : Reps K F φ vs ts) (h : L2.atI ts i = some t) : ∃ v, L2.atI vs i = some v ∧ Rep K F φ v t := by
  obtain ⟨j, h1, h2⟩ := atI_at h
  obtain ⟨v, h3, h4⟩ := r.get h2
  refine ⟨v, ?_, h4⟩
  unfold L2.atI
  rw [r.length, h1]
  exact h3
theorem os_ix : OpS C (rIx C.K) tIx := by
  intro F H φ vx x vy y z Q ex rx ry h q
  unfold tIx at h
  split at h
  · rename_i xs i
    rw [ry.int]
    cases ha : L2.atI xs i with
    | none =>
      rw [ha] at h
      cases h
    | some t =>
      rw [ha] at h
      cases h
      obtain ⟨p, vs, rfl, hp, r⟩ := rx.lst ex
      obtain ⟨v, h1, h2⟩ := r.atI ha
      exact .inl ⟨p, vs, i, v, rfl, rfl, .inl (.inl hp), h1, q v h2⟩
  · rename_i xs i
    rw [ry.int]
    cases ha : L2.atI xs i with
    | none =>
      rw [ha] at h
      cases h
    | some t =>
      rw [ha] at h
      cases h
      obtain ⟨p, vs, rfl, hp, r⟩ := rx.tup ex
      obtain ⟨v, h2, h3⟩ := r.atI ha
      exact .inr (.inl ⟨_, _, i, v, rfl, rfl, .inl (.inl hp), h2, q v h3⟩)
  · rename_i ns i
    rw [ry.int]
    cases ha : L2.atI ns i with
    | none =>
      rw [ha] at h
      cases h
    | some n =>
      rw [ha] at h
      cases h
      obtain ⟨p, rfl, h1⟩ := rx.scr ex
      refine .inl ⟨_, _, i, .int n, rfl, rfl, h1, ?_, q _ .int⟩
      obtain ⟨j, h2, h3⟩ := atI_at ha
      unfold L2.atI
      rw [List.length_map, h2]
      show (ns.map V.int)[j]? = _
      rw [List.getElem?_map, h3]
      rfl
  · cases h
theorem Reps.cut {K : PySem.W.Frag} {F : Hp} {φ : List Addr} {vs : List V} {ts : List T} (r : Reps K F φ vs ts) (lo hi : Option Int) : Reps K F φ (cutV vs lo hi) (Sr.cut ts lo hi) := by
  unfold cutV Sr.cut
  rw [r.length]
  exact (r.drop _).take _
theorem cut_map {α β : Type} (f : α → β) (xs : List α) (lo hi : Option Int) : Sr.cut (xs.map f) lo hi = (Sr.cut xs lo hi).map f := by
  unfold Sr.cut
  rw [List.length_map, ← List.map_drop, ← List.map_take]
theorem os_slc {F H : Hp} {φ : List Addr} {vx : V} {x : T} {lo hi : Option Int} {z : O} {Q : VK} (ex : Ex F H) (rx : Rep1 C.K F H φ vx x) (h : tSlc x lo hi = some z) (q : PoV C.K F H φ Q z) : rSlL C.K vx lo hi H Q := by
  cases x with
  | lst xs =>
    cases h
    obtain ⟨p, vs, rfl, hp, r⟩ := rx.lst ex
    exact ⟨_, _, rfl, .inl (.inl hp), fun p hp => q p _ hp (r.cut lo hi)⟩
  | scr ns =>
    cases h
    obtain ⟨p, rfl, h1⟩ := rx.scr ex
    refine ⟨_, _, rfl, h1, fun p hp => ?_⟩
    refine q p _ hp ?_
    show Reps C.K F φ (Sr.cut (ns.map V.int) lo hi) _
    rw [cut_map]
    exact Reps.of_ints _
  | _ => cases h
/-! ### built-ins -/
theorem Rep1s.one {K : PySem.W.Frag} {F H : Hp} {φ : List Addr} {vs : List V} {x : T} (h : Rep1s K F H φ vs [x]) : ∃ v, vs = [v] ∧ Rep1 K F H φ v x := by
  cases h with
  | cons a r =>
    cases r
    exact ⟨_, rfl, a⟩
theorem Rep1s.two {K : PySem.W.Frag} {F H : Hp} {φ : List Addr} {vs : List V} {x y : T} (h : Rep1s K F H φ vs [x, y]) : ∃ v w, vs = [v, w] ∧ Rep1 K F H φ v x ∧ Rep1 K F H φ w y := by
  cases h with
  | cons a r =>
    cases r with
    | cons b r =>
      cases r
      exact ⟨_, _, rfl, a, b⟩
theorem bs_len : BS C (fun xs H Q => ∃ p ys, xs = [.ref p] ∧ (SqL C.K H p ys ∨ SqT C.K H p ys) ∧ Q (.int ys.length) H) tLen := by
  intro F H φ vs xs z Q ex rs h q
  unfold tLen at h
  split at h
  · cases h
    obtain ⟨v, rfl, rx⟩ := rs.one
    obtain ⟨p, ws, rfl, hp, r⟩ := rx.lst ex
    exact ⟨_, _, rfl, .inl (.inl (.inl hp)), q _ (by rw [r.length]; exact .int)⟩
  · cases h
    obtain ⟨v, rfl, rx⟩ := rs.one
    obtain ⟨p, ws, rfl, hp, r⟩ := rx.tup ex
    exact ⟨_, _, rfl, .inr (.inl (.inl hp)), q _ (by rw [r.length]; exact .int)⟩
  · cases h
    obtain ⟨v, rfl, rx⟩ := rs.one
    obtain ⟨p, rfl, hp⟩ := rx.scr ex
    exact ⟨_, _, rfl, .inl hp, q _ (by rw [List.length_map]; exact .int)⟩
  · cases h
theorem bs_abs : BS C (fun xs H Q => ∃ i, xs = [.int i] ∧ Q (.int (if i < 0 then -i else i)) H) tAbs := by
  intro F H φ vs xs z Q ex rs h q
  unfold tAbs at h
  split at h
  · cases h
    obtain ⟨v, rfl, rx⟩ := rs.one
    rw [rx.int]
    exact ⟨_, rfl, q _ .int⟩
  · cases h
theorem bs_max2 : BS C (fun xs H Q => ∃ i j, xs = [.int i, .int j] ∧ Q (.int (if j > i then j else i)) H) tMax2 := by
  intro F H φ vs xs z Q ex rs h q
  unfold tMax2 at h
  split at h
  · cases h
    obtain ⟨v, w, rfl, rx, ry⟩ := rs.two
    rw [rx.int, ry.int]
    exact ⟨_, _, rfl, q _ .int⟩
  · cases h
theorem bs_min2 : BS C (fun xs H Q => ∃ i j, xs = [.int i, .int j] ∧ Q (.int (if j < i then j else i)) H) tMin2 := by
  intro F H φ vs xs z Q ex rs h q
  unfold tMin2 at h
  split at h
  · cases h
    obtain ⟨v, w, rfl, rx, ry⟩ := rs.two
    rw [rx.int, ry.int]
    exact ⟨_, _, rfl, q _ .int⟩
  · cases h
theorem allInts_eq : ∀ {ts : List T} {ns : List Int}, allInts ts = some ns → ts = ns.map T.int
  | [], ns, h => by cases h; rfl
  | t :: ts, ns, h => by
    unfold allInts at h
    split at h
    · cases h
      rename_i e
      cases e
    · rename_i i r e
      cases e
      cases hr : allInts ts with
      | none =>
        rw [hr] at h
        cases h
      | some ms =>
        rw [hr] at h
        cases h
        rw [allInts_eq hr]
        rfl
    · cases h
theorem allInts_map (ns : List Int) : allInts (ns.map T.int) = some ns := by
  induction ns with
  | nil => rfl
  | cons n ns ih =>
    show (allInts (ns.map T.int)).map (n :: ·) = _
    rw [ih]
    rfl
theorem bs_sum : BS C (rSum C.K) tSum := by
  intro F H φ vs xs z Q ex rs h q
  unfold tSum at h
  split at h
  · rename_i ts
    cases ha : allInts ts with
    | none =>
      rw [ha] at h
      cases h
    | some ns =>
      rw [ha] at h
      cases h
      rw [allInts_eq ha] at rs
      obtain ⟨v, rfl, rx⟩ := rs.one
      obtain ⟨p, ws, rfl, hp, r⟩ := rx.lst ex
      refine ⟨_, ns, rfl, .inl (.inl ?_), q _ .int⟩
      rw [← r.ints]
      exact hp
  · cases h
def rListOf (K : PySem.W.Frag) : List V → Hp → VK → Prop := fun xs H Q => ∃ p ys, xs = [.ref p] ∧ (SqL K H p ys ∨ SqT K H p ys) ∧ ∀ l, H l = none → Q (.ref l) (upd H l (.lst ys))
theorem bs_list : BS C (rListOf C.K) tList := by
  intro F H φ vs xs z Q ex rs h q
  unfold tList at h
  split at h
  · cases h
    obtain ⟨v, rfl, rx⟩ := rs.one
    obtain ⟨p, ws, rfl, hp, r⟩ := rx.lst ex
    exact ⟨_, _, rfl, .inl (.inl (.inl hp)), fun l hl => q l _ hl r⟩
  · cases h
    obtain ⟨v, rfl, rx⟩ := rs.one
    obtain ⟨p, ws, rfl, hp, r⟩ := rx.tup ex
    exact ⟨_, _, rfl, .inr (.inl (.inl hp)), fun l hl => q l _ hl r⟩
  · rename_i ns
    cases h
    obtain ⟨v, rfl, rx⟩ := rs.one
    obtain ⟨p, rfl, hp⟩ := rx.scr ex
    exact ⟨_, _, rfl, .inl hp, fun l hl => q l _ hl (Reps.of_ints ns)⟩
  · cases h
theorem Rep1.ty {F H : Hp} {φ : List Addr} {v : V} {x : T} (ex : Ex F H) (r : Rep1 C.K F H φ v x) (hx : ∀ ns, x ≠ .scr ns) (h2 : ∀ i, x ≠ .ref i) (h3 : ∀ i, x ≠ .adr i) (h4 : ∀ i j, x ≠ .rng i j) : TyX C.K H v (.type (tyN x)) := by
  rcases r with r | ⟨p, vs, ts, rfl, rfl, h1, _⟩
  · cases r with
    | non => exact .base .non
    | bl => exact .base (.bl _)
    | int => exact .base (.int _)
    | str => exact .base (.str _)
    | lst h1 r1 => exact .base (.lst (ex _ _ h1))
    | tup h1 r1 => exact .base (.tup (ex _ _ h1))
    | scr h1 => exact absurd rfl (hx _)
    | ref h => exact absurd rfl (h2 _)
    | adr => exact absurd rfl (h3 _)
    | rng _ => exact absurd rfl (h4 _ _)
  · exact .base (.lst h1)
/-- isinstance(x, T), T a built-in type -/
theorem se_is {tn : String} {ta : TE} {a : EM} (ha : SE C ta a) : SE C (tCB (rIsi C.K) (tCons ta (tCons (tC (.ty tn)) tNil))) (dUn (isB tn) a) := fun N F H φ e s σ rl Q q => by
  refine ha.go rl Po.pk q fun v x F1 φ1 H1 e1 s1 r1 u1 rp q1 => ?_
  obtain ⟨z, hz, p⟩ := lift_of r1 q1
  have rv := r1.hr.view rp
  revert hz rv
  generalize vw s1 x = y
  intro hz rv
  unfold isB at hz
  split at hz
  · cases hz
  · cases hz
  · cases hz
  · cases hz
  · rename_i h1 h2 h3 h4
    cases hk : kitB (tyN y) tn with
    | none =>
      rw [hk] at hz
      cases hz
    | some b =>
      rw [hk] at hz
      cases hz
      exact ⟨v, .ty tn, _, _, b, rfl, .ty tn, rv.ty r1.hr.sub h1 h2 h3 h4, kit_ty hk, p _ .bl⟩
/-! ### equality, at any depth -/
def mapO {α β : Type} (f : α → Option β) : List α → Option (List β)
  | [] => some []
  | x :: xs => match f x, mapO f xs with
    | some y, some ys => some (y :: ys)
    | _, _ => none
/-- with what stands in the cells from b on, to the depth n -/
def rs : Nat → Nat → Sto → T → Option T
  | 0, _, _, _ => none
  | n + 1, b, s, .lst xs => (mapO (rs n b s) xs).map .lst
  | n + 1, b, s, .tup xs => (mapO (rs n b s) xs).map .tup
  | n + 1, b, s, .ref i => if i < b then some (.ref i) else match s[i]? with
    | some (.l xs) => (mapO (rs n b s) xs).map .lst
    | _ => none
  | _ + 1, _, _, t => some t
def tEq (x y : T) : Option O := if okD x = true ∧ okD y = true then some (.v (.bl (PyData.eqv (toD x) (toD y)))) else none
def tNe (x y : T) : Option O := if okD x = true ∧ okD y = true then some (.v (.bl (!PyData.eqv (toD x) (toD y)))) else none
def dRs (f : T → T → Option O) (x y : T) : EM := fun e s => match rs 9 0 s x, rs 9 0 s y with
  | some x', some y' => lift false (f x' y') e s
  | _, _ => .bad
@[simp] def dEq (f : T → T → Option O) (a b : EM) : EM := fun e s => (M.bind a fun x => M.bind b fun y => dRs f x y) e s
theorem mapO_reps {K : PySem.W.Frag} {H : Hp} {F : Hp} {φ : List Addr} {f : T → Option T} (hf : ∀ v x y, Rep K F φ v x → f x = some y → clo y = true → Dp K H v (toD y)) : ∀ {vs : List V} {xs ys : List T}, Reps K F φ vs xs → mapO f xs = some ys → clos ys = true → DpAll K H vs (toDs ys)
  | _, _, _, .nil, h, _ => by
    cases h
    exact .nil
  | _, _, _, .cons (t := x) (ts := xs) a r, h, c => by
    unfold mapO at h
    split at h
    · rename_i y ys h1 h2
      cases h
      unfold clos at c
      rw [Bool.and_eq_true] at c
      exact .cons (hf _ _ _ a h1 c.1) (mapO_reps hf r h2 c.2)
    · cases h
theorem rs_dp {N F H : Hp} {φ : List Addr} {s : Sto} (r : C.hr N F H φ s) : ∀ (n : Nat) (v : V) (x y : T), Rep C.K F φ v x → rs n 0 s x = some y → clo y = true → Dp C.K H v (toD y)
  | 0, _, _, _, _, h, _ => by cases h
  | n + 1, v, x, y, rp, h, c => by
    have ih := rs_dp r n
    cases rp with
    | lst h1 r1 =>
      unfold rs at h
      rename_i p vs ts
      cases hm : mapO (rs n 0 s) ts with
      | none => rw [hm] at h; cases h
      | some ys =>
        rw [hm] at h
        cases h
        exact .lst (.inl (.inl (r.sub _ _ h1))) (mapO_reps ih r1 hm c)
    | tup h1 r1 =>
      unfold rs at h
      rename_i p vs ts
      cases hm : mapO (rs n 0 s) ts with
      | none => rw [hm] at h; cases h
      | some ys =>
        rw [hm] at h
        cases h
        exact .tup (.inl (.inl (r.sub _ _ h1))) (mapO_reps ih r1 hm c)
    | ref hp =>
      rename_i p i
      unfold rs at h
      rw [if_neg (by omega)] at h
      split at h
      · rename_i ts hs
        cases hm : mapO (rs n 0 s) ts with
        | none => rw [hm] at h; cases h
        | some ys =>
          rw [hm] at h
          cases h
          obtain ⟨vs, h1, h2⟩ := r.cell i _ p hs hp
          exact .lst (.inl (.inl h1)) (mapO_reps ih h2 hm c)
      · cases h
    | adr =>
      unfold rs at h
      cases h
      cases c
    | rng _ =>
      unfold rs at h
      cases h
      cases c
    | non => unfold rs at h; cases h; exact .non
    | bl => unfold rs at h; cases h; exact .bl _
    | int => unfold rs at h; cases h; exact .int _
    | str => unfold rs at h; cases h; exact .str _
    | scr h1 => unfold rs at h; cases h; exact .lst (Evl.ex_l r.sub h1) (dp_ints _)
theorem se_eq {r : R2} {f : T → T → Option O} {ta tb : TE} {a b : EM} (ha : SE C ta a) (hb : SE C tb b)
    (hr : ∀ F H φ vx x vy y z Q, Dp C.K H vx (toD x) → Dp C.K H vy (toD y) → clo x = true → clo y = true → f x y = some z → PoV C.K F H φ Q z → r vx vy H Q) (hc : ∀ x y z, f x y = some z → clo x = true ∧ clo y = true) : SE C (tOp r ta tb) (dEq f a b) := fun N F H φ e s σ rl Q q => by
  refine ha.go rl Po.pk q fun v x F1 φ1 H1 e1 s1 r1 u1 rp q1 => ?_
  refine hb.go r1 Po.pk q1 fun w y F2 φ2 H2 e2 s2 r2 u2 rp2 q2 => ?_
  unfold dRs at q2
  split at q2
  · rename_i x' y' hx hy
    obtain ⟨z, hz, p⟩ := lift_of r2 q2
    obtain ⟨c1, c2⟩ := hc _ _ _ hz
    exact hr F2 H2 φ2 v _ w _ z Q (rs_dp r2.hr 9 v x x' (rp.mono u2) hx c1) (rs_dp r2.hr 9 w y y' rp2 hy c2) c1 c2 hz p
  · exact q2.elim
theorem okD_of {x : T} (h : okD x = true) : clo x = true ∧ SeqAt.shaped (toD x) = true := by
  unfold okD at h
  rw [Bool.and_eq_true] at h
  exact h
theorem se_eqE {ta tb : TE} {a b : EM} (ha : SE C ta a) (hb : SE C tb b) : SE C (tOp (rEqD C.K) ta tb) (dEq tEq a b) := se_eq ha hb (fun F H φ vx x vy y z Q d1 d2 c1 c2 h q => by
  unfold tEq at h
  split at h
  · rename_i hs
    cases h
    exact ⟨_, _, d1, d2, (okD_of hs.1).2, (okD_of hs.2).2, q _ .bl⟩
  · cases h) fun x y z h => by
  unfold tEq at h
  split at h
  · rename_i hs
    exact ⟨(okD_of hs.1).1, (okD_of hs.2).1⟩
  · cases h
theorem se_neE {ta tb : TE} {a b : EM} (ha : SE C ta a) (hb : SE C tb b) : SE C (tOp (rNeD C.K) ta tb) (dEq tNe a b) := se_eq ha hb (fun F H φ vx x vy y z Q d1 d2 c1 c2 h q => by
  unfold tNe at h
  split at h
  · rename_i hs
    cases h
    exact ⟨_, _, d1, d2, (okD_of hs.1).2, (okD_of hs.2).2, q _ .bl⟩
  · cases h) fun x y z h => by
  unfold tNe at h
  split at h
  · rename_i hs
    exact ⟨(okD_of hs.1).1, (okD_of hs.2).1⟩
  · cases h
end
end Sr

namespace Sr
open PySem PySem.Spec PyProof.Rows L2
open Evl (Ex)
/-! ### any, all of numbers and truths -/
def vTru : V → Bool
  | .int i => i != 0
  | .bl b => b
  | _ => false
def vTs : V → Bool
  | .int _ => true
  | .bl _ => true
  | _ => false
theorem truth_vals {prog : Program} {w : World} {A : Around} {xs : List V} {its : List Value} (r : Vals xs its) (h : xs.all vTs = true) : TruthOf prog w A (fun i v => its.toArray[i]? = some v) (fun i => (xs.map vTru).getD i false) := fun i v s Q E hv hq => by
  have hv' : its[i]? = some v := by simpa using hv
  have hi : i < xs.length := by
    rw [r.length]
    rcases Nat.lt_or_ge i its.length with q | q
    · exact q
    · rw [List.getElem?_eq_none q] at hv'
      cases hv'
  obtain ⟨u, hu, ru⟩ := r.get (List.getElem?_eq_getElem hi)
  rw [hv'] at hu
  cases hu
  have hm : vTs xs[i] = true := List.all_eq_true.mp h _ (List.getElem_mem hi)
  have hg : (xs.map vTru).getD i false = vTru xs[i] := by
    rw [List.getD_eq_getElem?_getD, List.getElem?_map, List.getElem?_eq_getElem hi]
    rfl
  have hq' : Q ((xs.map vTru).getD i false) s := hq
  rw [hg] at hq'
  revert hm hq' ru
  generalize xs[i] = x
  intro ru hm hq'
  cases x with
  | int j =>
    obtain ⟨t, rfl⟩ := ru
    exact PySem.P.truthy_int hq'
  | bl b =>
    cases ru
    exact wpAny_truthy_bool hq'
  | _ => cases hm
def rAnyM (K : PySem.W.Frag) : List V → Hp → VK → Prop := fun vs H Q => ∃ (a : Addr) (xs : List V), vs = [V.ref a] ∧ SqL K H a xs ∧ xs.all vTs = true ∧ Q (.bl (xs.any vTru)) H
def rAllM (K : PySem.W.Frag) : List V → Hp → VK → Prop := fun vs H Q => ∃ (a : Addr) (xs : List V), vs = [V.ref a] ∧ SqL K H a xs ∧ xs.all vTs = true ∧ Q (.bl (xs.all vTru)) H
section
variable {X : Cx}
theorem cr_anyM (hc : X.calm = true) : CallR X (.builtin "any") (rAnyM X.K) := by
  intro pins s σ H vs us Q I r h
  obtain ⟨a, xs, rfl, hs, ha, q⟩ := h
  obtain ⟨its, rv, hl, _⟩ := I.list hs
  rw [Vals.ref1 r]
  refine call_any_walk (iter_any hl.isList fun s₂ e2 st hne => ?_)
  subst e2
  refine ⟨_, _, _, _, _, _, _, rfl, Walks.list (A := X.A.in1) (I.ok.hd hc) _ a hne its.toArray, st, truth_vals rv ha, fun h' tk hk => ?_⟩
  refine ⟨.bl _, H, I.kept fun b o eo => hk b o (fun hmem => ?_) (Heap.get?_push_of_some _ eo), ?_, q⟩
  · rcases List.mem_cons.mp hmem with e1 | hmem
    · exact absurd (e1 ▸ Heap.lt_size eo) (Nat.lt_irrefl _)
    · cases hmem
  · show Value.bool _ = Value.bool _
    have e : (List.range its.toArray.size).any (fun i => (xs.map vTru).getD i false) = (xs.map vTru).any id := by
      rw [List.size_toArray, ← rv.length, ← List.length_map (f := vTru)]
      exact any_range _
    rw [e, List.any_map]
    rfl
theorem cr_allM (hc : X.calm = true) : CallR X (.builtin "all") (rAllM X.K) := by
  intro pins s σ H vs us Q I r h
  obtain ⟨a, xs, rfl, hs, ha, q⟩ := h
  obtain ⟨its, rv, hl, _⟩ := I.list hs
  rw [Vals.ref1 r]
  refine call_all_walk (iter_any hl.isList fun s₂ e2 st hne => ?_)
  subst e2
  refine ⟨_, _, _, _, _, _, _, rfl, Walks.list (A := X.A.in1) (I.ok.hd hc) _ a hne its.toArray, st, truth_vals rv ha, fun h' tk hk => ?_⟩
  refine ⟨.bl _, H, I.kept fun b o eo => hk b o (fun hmem => ?_) (Heap.get?_push_of_some _ eo), ?_, q⟩
  · rcases List.mem_cons.mp hmem with e1 | hmem
    · exact absurd (e1 ▸ Heap.lt_size eo) (Nat.lt_irrefl _)
    · cases hmem
  · show Value.bool _ = Value.bool _
    have e : (List.range its.toArray.size).all (fun i => (xs.map vTru).getD i false) = (xs.map vTru).all id := by
      rw [List.size_toArray, ← rv.length, ← List.length_map (f := vTru)]
      exact all_range _
    rw [e, List.all_map]
    rfl
end
@[simp] def tTru : T → Option Bool
  | .int i => some (i != 0)
  | .bl b => some b
  | _ => none
def tAny : List T → Option O
  | [.lst xs] => (mapO tTru xs).map fun bs => .v (.bl (bs.any id))
  | [.scr ns] => some (.v (.bl (ns.any fun n => n != 0)))
  | _ => none
def tAll : List T → Option O
  | [.lst xs] => (mapO tTru xs).map fun bs => .v (.bl (bs.all id))
  | [.scr ns] => some (.v (.bl (ns.all fun n => n != 0)))
  | _ => none
theorem reps_tru {K : PySem.W.Frag} {F : Hp} {φ : List Addr} : ∀ {vs : List V} {xs : List T} {bs : List Bool}, Reps K F φ vs xs → mapO tTru xs = some bs → vs.all vTs = true ∧ vs.map vTru = bs
  | _, _, _, .nil, h => by
    cases h
    exact ⟨rfl, rfl⟩
  | _, _, _, .cons (t := x) (ts := xs) a r, h => by
    unfold mapO at h
    split at h
    · rename_i y ys h1 h2
      cases h
      obtain ⟨k1, k2⟩ := reps_tru r h2
      cases a with
      | int =>
        cases h1
        exact ⟨by rw [List.all_cons, k1]; rfl, by rw [List.map_cons, k2]; rfl⟩
      | bl =>
        cases h1
        exact ⟨by rw [List.all_cons, k1]; rfl, by rw [List.map_cons, k2]; rfl⟩
      | _ => cases h1
    · cases h
section
variable {C : Ct}
theorem bs_any : BS C (rAnyM C.K) tAny := by
  intro F H φ vs xs z Q ex rs h q
  unfold tAny at h
  split at h
  · rename_i ts
    cases ha : mapO tTru ts with
    | none =>
      rw [ha] at h
      cases h
    | some bs =>
      rw [ha] at h
      cases h
      obtain ⟨v, rfl, rx⟩ := rs.one
      obtain ⟨p, ws, rfl, hp, r⟩ := rx.lst ex
      obtain ⟨k1, k2⟩ := reps_tru r ha
      refine ⟨p, ws, rfl, .inl (.inl hp), k1, q _ ?_⟩
      rw [← k2, List.any_map]
      exact .bl
  · cases h
    obtain ⟨v, rfl, rx⟩ := rs.one
    obtain ⟨p, rfl, hp⟩ := rx.scr ex
    refine ⟨p, _, rfl, hp, by rw [List.all_map, List.all_eq_true]; intro x _; rfl, q _ ?_⟩
    rw [List.any_map]
    exact .bl
  · cases h
theorem bs_all : BS C (rAllM C.K) tAll := by
  intro F H φ vs xs z Q ex rs h q
  unfold tAll at h
  split at h
  · rename_i ts
    cases ha : mapO tTru ts with
    | none =>
      rw [ha] at h
      cases h
    | some bs =>
      rw [ha] at h
      cases h
      obtain ⟨v, rfl, rx⟩ := rs.one
      obtain ⟨p, ws, rfl, hp, r⟩ := rx.lst ex
      obtain ⟨k1, k2⟩ := reps_tru r ha
      refine ⟨p, ws, rfl, .inl (.inl hp), k1, q _ ?_⟩
      rw [← k2, List.all_map]
      exact .bl
  · cases h
    obtain ⟨v, rfl, rx⟩ := rs.one
    obtain ⟨p, rfl, hp⟩ := rx.scr ex
    refine ⟨p, _, rfl, hp, by rw [List.all_map, List.all_eq_true]; intro x _; rfl, q _ ?_⟩
    rw [List.all_map]
    exact .bl
  · cases h
end
end Sr

namespace Sr
open PySem PySem.Spec PyProof.Rows L2
open Evl (Ex)
/-! ### statements -/
inductive Fl where
  | nx | rt (t : T) | bk | ct
abbrev SM := M Fl
def PoS (C : Ct) (N : Hp) (D : Ends) (F : Hp) (φ : List Addr) : R Fl → Prop
  | .ok .nx e' s' => ∀ F' φ' H' σ', C.rl N F' H' φ' e' s' σ' → Up F φ F' φ' → D.nx σ' H'
  | .ok .bk e' s' => ∀ F' φ' H' σ', C.rl N F' H' φ' e' s' σ' → Up F φ F' φ' → D.bk σ' H'
  | .ok .ct e' s' => ∀ F' φ' H' σ', C.rl N F' H' φ' e' s' σ' → Up F φ F' φ' → D.ct σ' H'
  | .ok (.rt t) _ s' => ∀ v F' φ' H', C.hr N F' H' φ' s' → Up F φ F' φ' → Rep C.K F' φ' v t → D.rt v H'
  | .ex c e' s' => ∀ F' φ' H' σ', C.rl N F' H' φ' e' s' σ' → Up F φ F' φ' → C.W (C.cls c) none σ' H'
  | .bad => False
theorem PoS.mono {C : Ct} {N F F1 : Hp} {φ φ1 : List Addr} {D : Ends} (x : Up F φ F1 φ1) : ∀ {r : R Fl}, PoS C N D F φ r → PoS C N D F1 φ1 r
  | .ok .nx _ _, h => fun F' φ' H' σ' r x' => h F' φ' H' σ' r (x.trans x')
  | .ok .bk _ _, h => fun F' φ' H' σ' r x' => h F' φ' H' σ' r (x.trans x')
  | .ok .ct _ _, h => fun F' φ' H' σ' r x' => h F' φ' H' σ' r (x.trans x')
  | .ok (.rt _) _ _, h => fun v F' φ' H' r x' => h v F' φ' H' r (x.trans x')
  | .ex _ _ _, h => fun F' φ' H' σ' r x' => h F' φ' H' σ' r (x.trans x')
  | .bad, h => h
theorem PoS.pk {C : Ct} {N : Hp} {D : Ends} {σ : L2.St} : Pk C N σ (PoS C N D) where
  mono := fun u h => h.mono u
  ex := fun h F' φ' H' r u => h F' φ' H' σ r u
  bad := fun h => h
def SS (C : Ct) (t : TS) (d : SM) : Prop := ∀ N F H φ e s σ, C.rl N F H φ e s σ → ∀ D, PoS C N D F φ (d e s) → t D σ H
/-- a target -/
abbrev GM := T → M Unit
def PoG (C : Ct) (N : Hp) (Q : L2.St → Hp → Prop) (F : Hp) (φ : List Addr) : R Unit → Prop
  | .ok _ e' s' => ∀ F' φ' H' σ', C.rl N F' H' φ' e' s' σ' → Up F φ F' φ' → Q σ' H'
  | .ex c e' s' => ∀ F' φ' H' σ', C.rl N F' H' φ' e' s' σ' → Up F φ F' φ' → C.W (C.cls c) none σ' H'
  | .bad => False
theorem PoG.mono {C : Ct} {N F F1 : Hp} {φ φ1 : List Addr} {Q : L2.St → Hp → Prop} (x : Up F φ F1 φ1) : ∀ {r : R Unit}, PoG C N Q F φ r → PoG C N Q F1 φ1 r
  | .ok _ _ _, h => fun F' φ' H' σ' r x' => h F' φ' H' σ' r (x.trans x')
  | .ex _ _ _, h => fun F' φ' H' σ' r x' => h F' φ' H' σ' r (x.trans x')
  | .bad, h => h
def SG (C : Ct) (g : TG) (d : GM) : Prop := ∀ N F H φ e s σ v t, C.rl N F H φ e s σ → Rep C.K F φ v t → ∀ Q, PoG C N Q F φ (d t e s) → g v σ H Q
def SGs (C : Ct) (g : TGs) (d : List T → M Unit) : Prop := ∀ N F H φ e s σ vs ts, C.rl N F H φ e s σ → Reps C.K F φ vs ts → ∀ Q, PoG C N Q F φ (d ts e s) → g vs σ H Q
@[simp] def gN (i : Nat) : GM := fun t e s => .ok () (e.set i (some t)) s
@[simp] def gNils : List T → M Unit
  | [] => M.pure ()
  | _ => M.bad
@[simp] def gCon (a : GM) (r : List T → M Unit) : List T → M Unit
  | [] => M.bad
  | t :: ts => M.bind (a t) fun _ => r ts
def unp (s : Sto) : T → Option (List T)
  | .tup ts => some ts
  | .lst ts => some ts
  | .ref i => match s[i]? with
    | some (.l ts) => some ts
    | _ => none
  | _ => none
@[simp] theorem unp_tup (s : Sto) (ts : List T) : unp s (.tup ts) = some ts := rfl
@[simp] theorem unp_lst (s : Sto) (ts : List T) : unp s (.lst ts) = some ts := rfl
@[simp] theorem unp_ref (s : Sto) (i : Nat) : unp s (.ref i) = (match s[i]? with
    | some (.l ts) => some ts
    | _ => none) := rfl
@[simp] def gT (n : Nat) (r : List T → M Unit) : GM := fun t e s => match unp s t with
  | some ts => if ts.length = n then r ts e s else .bad
  | none => .bad
/-- a tuple or a list unpacked -/
def gSeq (K : PySem.W.Frag) (n : Nat) (t : TGs) : TG := fun v σ H Q => gTup K n t v σ H Q ∨ gLst K n t v σ H Q
section
variable {C : Ct}
theorem sg_name {i : Nat} : SG C (gName i) (gN i) := fun N F H φ e s σ v t rl rp Q q => q F φ H _ (rl.set rp) (Up.refl _ _)
theorem sgs_nil : SGs C gNil gNils := fun N F H φ e s σ vs ts rl rp Q q => by
  cases rp with
  | nil => exact ⟨rfl, q F φ H σ rl (Up.refl _ _)⟩
  | cons a r => exact q.elim
theorem sgs_cons {a : TG} {r : TGs} {da : GM} {dr : List T → M Unit} (ha : SG C a da) (hr : SGs C r dr)
    (noex : ∀ t e s c e' s', da t e s ≠ .ex c e' s') : SGs C (gCons a r) (gCon da dr) := fun N F H φ e s σ vs ts rl rp Q q => by
  cases rp with
  | nil => exact q.elim
  | cons rv rr =>
    rename_i v t vs ts
    refine ⟨v, vs, rfl, ha N F H φ e s σ v t rl rv _ ?_⟩
    have q : PoG C N Q F φ (M.bind (da t) (fun _ => dr ts) e s) := q
    unfold M.bind at q
    cases hd : da t e s with
    | ok u e' s' =>
      rw [hd] at q
      intro F' φ' H' σ' rl' x'
      exact hr N F' H' φ' e' s' σ' vs ts rl' (rr.mono x') Q (PoG.mono x' q)
    | ex c e' s' => exact absurd hd (noex t e s c e' s')
    | bad =>
      rw [hd] at q
      exact q.elim
theorem pg_seq {X : Cx} {es : List Expr} {k : Nat} {pos : Pos} {t : TGs} {n : Nat} (hc : X.calm = true) (h : PGs X es t)
    (hn : (assignEach es X.env).length = n := by rfl) (hst : (assignEach es X.env).findIdx? (·.1) = none := by rfl) : PG X (.Tuple es k pos) (gSeq X.K n t) :=
  ⟨fun pins s σ H v u Q I r hw => by
    rcases hw with hw | hw
    · exact (pg_tup hc h hn hst).run pins s σ H v u Q I r hw
    · exact (pg_lst hc h hn hst).run pins s σ H v u Q I r hw⟩
theorem sg_tup {n : Nat} {g : TGs} {d : List T → M Unit} (h : SGs C g d) : SG C (gSeq C.K n g) (gT n d) := fun N F H φ e s σ v t rl rp Q q => by
  unfold gT at q
  have lst : ∀ ts, (∃ p vs, v = .ref p ∧ H p = some (.lst vs) ∧ Reps C.K F φ vs ts) → PoG C N Q F φ (if ts.length = n then d ts e s else .bad) → gSeq C.K n g v σ H Q := fun ts hh q => by
    obtain ⟨p, vs, rfl, h1, h2⟩ := hh
    split at q
    · rename_i hn
      exact .inr ⟨p, vs, rfl, .inl (.inl h1), by rw [h2.length]; exact hn, h N F H φ e s σ _ _ rl h2 Q q⟩
    · exact q.elim
  cases rp with
  | tup h1 r1 =>
    dsimp only [unp] at q
    split at q
    · rename_i hn
      exact .inl ⟨_, _, rfl, .inl (.inl (rl.hr.sub _ _ h1)), by rw [r1.length]; exact hn, h N F H φ e s σ _ _ rl r1 Q q⟩
    · exact q.elim
  | lst h1 r1 => exact lst _ ⟨_, _, rfl, rl.hr.sub _ _ h1, r1⟩ q
  | @ref p i hp =>
    dsimp only [unp] at q
    cases hs : s[i]? with
    | none =>
      rw [hs] at q
      exact q.elim
    | some c =>
      rw [hs] at q
      cases c with
      | o _ _ => exact q.elim
      | x _ => exact q.elim
      | l ts =>
        obtain ⟨vs, h1, h2⟩ := rl.hr.cell i _ p hs hp
        exact lst ts ⟨p, vs, rfl, h1, h2⟩ q
  | _ => exact q.elim
end

@[simp] def dSeq (a b : SM) : SM := fun e s => (M.bind a fun f => match f with
  | .nx => b
  | f => M.pure f) e s
@[simp] def dSkip : SM := fun e s => (M.pure .nx) e s
@[simp] def dAsg (i : Nat) (d : EM) : SM := fun e s => (M.bind d fun t => fun e s => .ok .nx (e.set i (some t)) s) e s
@[simp] def dAsgG (g : GM) (d : EM) : SM := fun e s => (M.bind d fun t => M.bind (g t) fun _ => M.pure .nx) e s
@[simp] def dPar (i j : Nat) (a b : EM) : SM := fun e s => (M.bind a fun x => M.bind b fun y => fun e s => .ok .nx ((e.set i (some x)).set j (some y)) s) e s
@[simp] def dIf (t : M Bool) (a b : SM) : SM := fun e s => (M.bind t fun c => if c = true then a else b) e s
@[simp] def loopF (k : SM) : Fl → SM := fun f => match f with
  | .nx => k
  | .ct => k
  | .bk => M.pure .nx
  | .rt r => M.pure (.rt r)
def whileF (t : M Bool) (body : SM) : Nat → SM
  | 0, _, _ => .bad
  | n + 1, e, s => (M.bind t fun c => if c = true then M.bind body (loopF (whileF t body n)) else M.pure .nx) e s
abbrev Ks := List (Nat × List T)
/-- the cells that are walked stand as they stood -/
@[simp] def kp : Ks → Sto → Prop
  | [], _ => True
  | (i, ts) :: r, s => s[i]? = some (.l ts) ∧ kp r s
noncomputable def chk (ks : Ks) : M Unit := fun e s => @ite _ (kp ks s) (Classical.propDecidable _) (.ok () e s) .bad
theorem chk_ok {ks : Ks} {e : En} {s : Sto} (h : kp ks s) : chk ks e s = .ok () e s := if_pos h
@[simp] theorem chk_nil (e : En) (s : Sto) : chk [] e s = .ok () e s := chk_ok trivial
noncomputable def forL (ks : Ks) (g : GM) (body : SM) : List T → SM
  | [], e, s => (M.bind (chk ks) fun _ => M.pure .nx) e s
  | t :: r, e, s => (M.bind (chk ks) fun _ => M.bind (g t) fun _ => M.bind body (loopF (forL ks g body r))) e s
@[simp] theorem forL_nil0 (g : GM) (body : SM) (e : En) (s : Sto) : forL [] g body [] e s = .ok .nx e s := by
  simp [forL]
@[simp] theorem forL_cons0 (g : GM) (body : SM) (t : T) (r : List T) (e : En) (s : Sto) : forL [] g body (t :: r) e s = (M.bind (g t) fun _ => M.bind body (loopF (forL [] g body r))) e s := by
  simp [forL]
theorem forL_nilk {ks : Ks} {g : GM} {body : SM} {e : En} {s : Sto} (h : kp ks s) : forL ks g body [] e s = .ok .nx e s := by
  simp [forL, chk_ok h]
theorem forL_consk {ks : Ks} {g : GM} {body : SM} {t : T} {r : List T} {e : En} {s : Sto} (h : kp ks s) : forL ks g body (t :: r) e s = (M.bind (g t) fun _ => M.bind body (loopF (forL ks g body r))) e s := by
  simp [forL, chk_ok h]
@[simp] noncomputable def dFor (it : M (List T × Ks)) (g : GM) (body : SM) : SM := fun e s => (M.bind it fun x => forL x.2 g body x.1) e s
@[simp] def dRet (d : EM) : SM := fun e s => (M.bind d fun r => M.pure (.rt r)) e s
@[simp] def dRetN : SM := fun e s => (M.pure (.rt .non)) e s
@[simp] def dExpr (d : EM) : SM := fun e s => (M.bind d fun _ => M.pure .nx) e s
@[simp] def dBreak : SM := fun e s => (M.pure .bk) e s
@[simp] def dCont : SM := fun e s => (M.pure .ct) e s
noncomputable def putApp (x t : T) : SM := fun e s => match x with
  | .ref i => match s[i]? with
    | some (.l ts) => if lenOk (ts.length + 1) = true then .ok .nx e (s.set i (.l (ts ++ [t]))) else .bad
    | _ => .bad
  | _ => .bad
def isCl (x : T) : M Unit := fun e s => match x with
  | .ref i => match s[i]? with
    | some (.l _) => .ok () e s
    | _ => .bad
  | _ => .bad
@[simp] theorem putApp_ref (i : Nat) (t : T) (e : En) (s : Sto) : putApp (.ref i) t e s = (match s[i]? with
    | some (.l ts) => if lenOk (ts.length + 1) = true then .ok .nx e (s.set i (.l (ts ++ [t]))) else .bad
    | _ => .bad) := rfl
@[simp] theorem isCl_ref (i : Nat) (e : En) (s : Sto) : isCl (.ref i) e s = (match s[i]? with
    | some (.l _) => .ok () e s
    | _ => .bad) := rfl
@[simp] noncomputable def dApp (dx d : EM) : SM := fun e s => (M.bind dx fun x => M.bind (isCl x) fun _ => M.bind d fun t => putApp x t) e s
def putIx (x y t : T) : SM := fun e s => match x, y with
  | .ref i, .int k => match s[i]? with
    | some (.l ts) => match ixN ts.length k with
      | some j => .ok .nx e (s.set i (.l (ts.set j t)))
      | none => .bad
    | _ => .bad
  | _, _ => .bad
@[simp] theorem putIx_ref (i : Nat) (k : Int) (t : T) (e : En) (s : Sto) : putIx (.ref i) (.int k) t e s = (match s[i]? with
    | some (.l ts) => match ixN ts.length k with
      | some j => .ok .nx e (s.set i (.l (ts.set j t)))
      | none => .bad
    | _ => .bad) := rfl
@[simp] def dSet (dx ix d : EM) : SM := fun e s => (M.bind d fun t => M.bind dx fun x => M.bind ix fun y => putIx x y t) e s
@[simp] def slotI (i : Nat) : M Int := fun e s => match e[i]? with
  | some (some (.int a)) => .ok a e s
  | _ => .bad
@[simp] def dAug (f : Int → Int → Int) (i : Nat) (d : EM) : SM := fun e s => (M.bind (slotI i) fun a => M.bind d fun y => match y with
  | .int b => fun e s => .ok .nx (e.set i (some (.int (f a b)))) s
  | _ => M.bad) e s
section
variable {C : Ct}
/-- a statement, then what is behind it -/
theorem PoS.toS {N F : Hp} {φ : List Addr} {D : Ends} {g : Fl → SM} {d : SM} {e : En} {s : Sto} (D1 : Ends) (q : PoS C N D F φ (M.bind d g e s))
    (hn : ∀ e' s' F' φ' H' σ', C.rl N F' H' φ' e' s' σ' → Up F φ F' φ' → PoS C N D F' φ' (g .nx e' s') → D1.nx σ' H') (hb : ∀ e' s' F' φ' H' σ', C.rl N F' H' φ' e' s' σ' → Up F φ F' φ' → PoS C N D F' φ' (g .bk e' s') → D1.bk σ' H')
    (hc : ∀ e' s' F' φ' H' σ', C.rl N F' H' φ' e' s' σ' → Up F φ F' φ' → PoS C N D F' φ' (g .ct e' s') → D1.ct σ' H') (hr : ∀ t e' s' v F' φ' H', C.hr N F' H' φ' s' → Up F φ F' φ' → Rep C.K F' φ' v t → PoS C N D F' φ' (g (.rt t) e' s') → D1.rt v H') : PoS C N D1 F φ (d e s) := by
  unfold M.bind at q
  cases hd : d e s with
  | ok x e' s' =>
    rw [hd] at q
    cases x with
    | nx => exact fun F' φ' H' σ' r x => hn e' s' F' φ' H' σ' r x (PoS.mono x q)
    | bk => exact fun F' φ' H' σ' r x => hb e' s' F' φ' H' σ' r x (PoS.mono x q)
    | ct => exact fun F' φ' H' σ' r x => hc e' s' F' φ' H' σ' r x (PoS.mono x q)
    | rt r => exact fun v F' φ' H' f x o => hr r e' s' v F' φ' H' f x o (PoS.mono x q)
  | ex c e' s' =>
    rw [hd] at q
    exact q
  | bad =>
    rw [hd] at q
    exact q.elim
theorem ss_seq {t u : TS} {a b : SM} (ha : SS C t a) (hb : SS C u b) : SS C (tSeq t u) (dSeq a b) := fun N F H φ e s σ rl D q => by
  refine ha N F H φ e s σ rl { D with nx := u D } (PoS.toS _ q (fun e' s' F' φ' H' σ' r x q' => hb N F' H' φ' e' s' σ' r D q') (fun e' s' F' φ' H' σ' r x q' => q' F' φ' H' σ' r (Up.refl _ _)) (fun e' s' F' φ' H' σ' r x q' => q' F' φ' H' σ' r (Up.refl _ _))
    fun r e' s' v F' φ' H' f x o q' => q' v F' φ' H' f (Up.refl _ _) o)
theorem ss_next : SS C tNext dSkip := fun N F H φ e s σ rl D q => q F φ H σ rl (Up.refl _ _)
theorem ss_break : SS C tBreak dBreak := fun N F H φ e s σ rl D q => q F φ H σ rl (Up.refl _ _)
theorem ss_cont : SS C tCont dCont := fun N F H φ e s σ rl D q => q F φ H σ rl (Up.refl _ _)
theorem ss_asg {i : Nat} {t : TE} {d : EM} (h : SE C t d) : SS C (tAsg t (gName i)) (dAsg i d) := fun N F H φ e s σ rl D q =>
  h.go (Q := fun x H1 => gName i x σ H1 D.nx) rl PoS.pk q fun v x F' φ' H' e' s' r' x' rp q' => q' F' φ' H' _ (r'.set rp) (Up.refl _ _)
theorem ss_asgG {g : TG} {dg : GM} {t : TE} {d : EM} (h : SE C t d) (hg : SG C g dg) : SS C (tAsg t g) (dAsgG dg d) := fun N F H φ e s σ rl D q =>
  h.go (Q := fun x H1 => g x σ H1 D.nx) rl PoS.pk q fun v x F' φ' H' e' s' r' x' rp q' => by
    refine hg N F' H' φ' e' s' σ v x r' rp D.nx ?_
    unfold M.bind at q'
    cases hd : dg x e' s' with
    | ok u e2 s2 =>
      rw [hd] at q'
      exact q'
    | ex c e2 s2 =>
      rw [hd] at q'
      exact q'
    | bad =>
      rw [hd] at q'
      exact q'.elim
theorem ss_par {i j : Nat} {ta tb : TE} {a b : EM} (ha : SE C ta a) (hb : SE C tb b) : SS C (tPar i j (tCons ta (tCons tb tNil))) (dPar i j a b) := fun N F H φ e s σ rl D q => by
  refine ha.go (Q := fun x H1 => tb σ H1 fun y H2 => ∃ v w, [x, y] = [v, w] ∧ D.nx ((σ.set i (some v)).set j (some w)) H2) rl PoS.pk q fun v x F1 φ1 H1 e1 s1 r1 u1 rp q1 => ?_
  refine hb.go r1 PoS.pk q1 fun w y F2 φ2 H2 e2 s2 r2 u2 rp2 q2 => ?_
  exact ⟨v, w, rfl, q2 F2 φ2 H2 _ ((r2.set (rp.mono u2)).set rp2) (Up.refl _ _)⟩
theorem ss_if {t : TT} {u w : TS} {d : M Bool} {a b : SM} (h : ST C t d) (ha : SS C u a) (hb : SS C w b) : SS C (tIfS t u w) (dIf d a b) := fun N F H φ e s σ rl D q =>
  h.go (Q := fun c H1 => if c = true then u D σ H1 else w D σ H1) rl PoS.pk q fun v x F' φ' H' e' s' r' x' rp q' => by
    subst rp
    cases v with
    | true => exact ha N F' H' φ' e' s' σ r' D q'
    | false => exact hb N F' H' φ' e' s' σ r' D q'
theorem ss_ret {t : TE} {d : EM} (h : SE C t d) : SS C (tRet t) (dRet d) := fun N F H φ e s σ rl D q =>
  h.go (Q := D.rt) rl PoS.pk q fun v x F' φ' H' e' s' r' x' rp q' => q' v F' φ' H' r'.hr (Up.refl _ _) rp
theorem ss_retN : SS C tRetN dRetN := fun N F H φ e s σ rl D q => q .non F φ H rl.hr (Up.refl _ _) .non
theorem ss_expr {t : TE} {d : EM} (h : SE C t d) : SS C (tDrop t) (dExpr d) := fun N F H φ e s σ rl D q =>
  h.go (Q := fun _ H1 => D.nx σ H1) rl PoS.pk q fun v x F' φ' H' e' s' r' x' rp q' => q' F' φ' H' σ r' (Up.refl _ _)
theorem cell_of {N F H : Hp} {φ : List Addr} {s : Sto} (r : C.hr N F H φ s) {v : V} {i : Nat} (rp : Rep C.K F φ v (.ref i)) {ts : List T} (h : s[i]? = some (.l ts)) : ∃ p vs, v = .ref p ∧ φ[i]? = some p ∧ H p = some (.lst vs) ∧ Reps C.K F φ vs ts := by
  cases rp with
  | ref hp =>
    obtain ⟨vs, h1, h2⟩ := r.cell i _ _ h hp
    exact ⟨_, vs, rfl, hp, h1, h2⟩
theorem Rl.mut {N F H : Hp} {φ : List Addr} {e : En} {s : Sto} {σ : L2.St} (r : C.rl N F H φ e s σ) {i : Nat} {p : Addr} {vs : List V} {ts : List T} (hp : φ[i]? = some p) (h : Reps C.K F φ vs ts) : C.rl N F (upd H p (.lst vs)) φ e (s.set i (.l ts)) σ :=
  r.behind (Up.refl _ _) (r.hr.mut hp ⟨vs, upd_same, h⟩)
theorem ss_app {to t : TE} {dx d : EM} (hx : SE C to dx) (h : SE C t d) : SS C (tDrop (tBM C.K "list" rAppend to (tCons t tNil))) (dApp dx d) := fun N F H φ e s σ rl D q => by
  refine hx.go (Q := fun x H1 => tyV C.K "list" x H1 ∧ tCons t tNil σ H1 fun xs H2 => rAppend x xs H2 fun _ H3 => D.nx σ H3) rl PoS.pk q fun v x F1 φ1 H1 e1 s1 r1 u1 rp q1 => ?_
  cases x with
  | ref i =>
    cases hs : s1[i]? with
    | none =>
      simp [hs] at q1
      exact q1.elim
    | some c =>
      cases c with
      | o _ _ =>
        simp [hs] at q1
        exact q1.elim
      | x _ =>
        simp [hs] at q1
        exact q1.elim
      | l ts =>
        have q1 : PoS C N D F1 φ1 (M.bind d (fun t => putApp (.ref i) t) e1 s1) := by
          have q1 := q1
          simp only [M.bind, isCl, hs] at q1
          exact q1
        obtain ⟨p, vs, rfl, hp, h1, h2⟩ := cell_of r1.hr rp hs
        refine ⟨.inl ⟨rfl, vs, .inl (.inl h1)⟩, ?_⟩
        refine h.go (Q := fun y H2 => tNil σ H2 fun xs H3 => rAppend (.ref p) (y :: xs) H3 fun _ H4 => D.nx σ H4) r1 PoS.pk q1 fun w y F2 φ2 H2 e2 s2 r2 u2 rp2 q2 => ?_
        simp only [putApp] at q2
        cases hs2 : s2[i]? with
        | none =>
          rw [hs2] at q2
          exact q2.elim
        | some c =>
          rw [hs2] at q2
          cases c with
          | o _ _ => exact q2.elim
          | x _ => exact q2.elim
          | l us =>
            dsimp only at q2
            split at q2
            · rename_i hl
              obtain ⟨p', vs', e', hp', h1', h2'⟩ := cell_of r2.hr (rp.mono u2) hs2
              cases e'
              have hz : vs'.length < sizeLine := by
                rw [h2'.length]
                have := lenOk_le hl
                omega
              exact ⟨p, vs', w, rfl, rfl, h1', hz, q2 F2 φ2 _ σ (r2.mut hp' (h2'.append (.cons rp2 .nil))) (Up.refl _ _)⟩
            · exact q2.elim
  | _ => exact q1.elim
theorem ss_set {to t ti : TE} {dx d di : EM} (hx : SE C to dx) (h : SE C t d) (hi : SE C ti di) : SS C (tAsg t (gSub to ti rSetL)) (dSet dx di d) := fun N F H φ e s σ rl D q => by
  refine h.go (Q := fun x H1 => gSub to ti rSetL x σ H1 D.nx) rl PoS.pk q fun v x F1 φ1 H1 e1 s1 r1 u1 rp q1 => ?_
  refine hx.go (Q := fun o H1 => ti σ H1 fun i H2 => rSetL o i v H2 fun H3 => D.nx σ H3) r1 PoS.pk q1 fun ov o F2 φ2 H2 e2 s2 r2 u2 rp2 q2 => ?_
  refine hi.go (Q := fun i H2 => rSetL ov i v H2 fun H3 => D.nx σ H3) r2 PoS.pk q2 fun iv y F3 φ3 H3 e3 s3 r3 u3 rp3 q3 => ?_
  cases o with
  | ref i =>
    cases y with
    | int k =>
      simp only [putIx] at q3
      cases hs : s3[i]? with
      | none =>
        rw [hs] at q3
        exact q3.elim
      | some c =>
        rw [hs] at q3
        cases c with
        | o _ _ => exact q3.elim
        | x _ => exact q3.elim
        | l ts =>
          dsimp only at q3
          cases hk : ixN ts.length k with
          | none =>
            rw [hk] at q3
            exact q3.elim
          | some j =>
            rw [hk] at q3
            obtain ⟨p, vs, rfl, hp, h1, h2⟩ := cell_of r3.hr (rp2.mono u3) hs
            cases rp3
            exact ⟨p, vs, k, j, rfl, rfl, h1, by rw [h2.length]; exact hk, q3 F3 φ3 _ σ (r3.mut hp (h2.set j (rp.mono (u2.trans u3)))) (Up.refl _ _)⟩
    | _ => exact q3.elim
  | _ => exact q3.elim
theorem ss_aug {i : Nat} {f : Int → Int → Int} {t : TE} {d : EM} (h : SE C t d) : SS C (tAug i t (ipI f)) (dAug f i d) := fun N F H φ e s σ rl D q => by
  simp only [dAug, M.bind, slotI] at q
  cases he : e[i]? with
  | none =>
    rw [he] at q
    exact q.elim
  | some o =>
    rw [he] at q
    cases o with
    | none => exact q.elim
    | some x =>
      cases x with
      | int a =>
        obtain ⟨v, h1, h2⟩ := rl.slot i _ he
        cases h2
        refine ⟨.int a, h1, ?_⟩
        refine h.go (Q := fun y H1 => ipI f (.int a) y H1 fun z H2 => D.nx (σ.set i (some z)) H2) (g := fun y => match y with
          | .int b => fun e s => .ok .nx (e.set i (some (.int (f a b)))) s
          | _ => M.bad) rl PoS.pk q fun v x F' φ' H' e' s' r' x' rp q' => ?_
        cases x with
        | int b =>
          cases rp
          exact ⟨a, b, rfl, rfl, q' F' φ' H' _ (r'.set .int) (Up.refl _ _)⟩
        | _ => exact q'.elim
      | _ => exact q.elim
theorem ss_while {n : Nat} {t : TT} {u : TS} {d : M Bool} {b : SM} (h : ST C t d) (hb : SS C u b) : SS C (tWhile t u) (whileF d b n) := fun N F H φ e s σ rl D q => by
  refine ⟨fun m σ' H' => ∃ F' φ' e' s', C.rl N F' H' φ' e' s' σ' ∧ PoS C N D F' φ' (whileF d b m e' s'), ⟨n, F, φ, e, s, rl, q⟩, ?_⟩
  rintro m σ1 H1 ⟨F1, φ1, e1, s1, r1, q1⟩
  cases m with
  | zero => exact q1.elim
  | succ m =>
    refine h.go (g := fun c => if c = true then M.bind b (loopF (whileF d b m)) else M.pure .nx) r1 PoS.pk q1 fun c x F2 φ2 H2 e2 s2 r2 x2 rp q2 => ?_
    subst rp
    cases c with
    | false => exact q2 F2 φ2 H2 σ1 r2 (Up.refl _ _)
    | true =>
      refine ⟨fun σ' H' => ∃ F' φ' e' s', C.rl N F' H' φ' e' s' σ' ∧ PoS C N D F' φ' (whileF d b m e' s'), fun σ' H' hw => ⟨m, Nat.lt_succ_self m, hw⟩, ?_⟩
      refine hb N F2 H2 φ2 e2 s2 σ1 r2 _ (PoS.toS (D := D) (g := loopF (whileF d b m)) _ q2 (fun e' s' F' φ' H' σ' r x q' => ⟨F', φ', e', s', r, q'⟩) (fun e' s' F' φ' H' σ' r x q' => q' F' φ' H' σ' r (Up.refl _ _)) (fun e' s' F' φ' H' σ' r x q' => ⟨F', φ', e', s', r, q'⟩)
        fun r e' s' v F' φ' H' f x o q' => q' v F' φ' H' f (Up.refl _ _) o)
end
end Sr

namespace Sr
open PySem PySem.Spec PyProof.Rows L2
open Evl (Ex)
/-! ### what is walked -/
structure Wk (C : Ct) (J : It) (F : Hp) (φ : List Addr) (ts : List T) (ks : Ks) : Prop where
  goes : ∀ i N F2 H2 φ2 s2, i < ts.length → Up F φ F2 φ2 → C.hr N F2 H2 φ2 s2 → kp ks s2 → J.go i H2
  stops : ∀ N F2 H2 φ2 s2, Up F φ F2 φ2 → C.hr N F2 H2 φ2 s2 → kp ks s2 → J.stop ts.length H2
  yields : ∀ i N F2 H2 φ2 s2 x H3, i < ts.length → Up F φ F2 φ2 → C.hr N F2 H2 φ2 s2 → kp ks s2 → J.yld i H2 x H3 → ∃ t, ts[i]? = some t ∧ ((H3 = H2 ∧ Rep C.K F2 φ2 x t) ∨ ∃ p xs us, x = .ref p ∧ H2 p = none ∧ H3 = upd H2 p (.tup xs) ∧ t = .tup us ∧ Reps C.K F2 φ2 xs us)
section
variable {C : Ct}
theorem Wk.got {J : It} {F : Hp} {φ : List Addr} {ts : List T} {ks : Ks} (w : Wk C J F φ ts ks) {N F2 H2 H3 : Hp} {φ2 : List Addr} {e : En} {s : Sto} {σ : L2.St} {i : Nat} {x : V} (r : C.rl N F2 H2 φ2 e s σ) (hk : kp ks s) (hi : i < ts.length) (u : Up F φ F2 φ2) (y : J.yld i H2 x H3) :
    ∃ t F3, ts[i]? = some t ∧ C.rl N F3 H3 φ2 e s σ ∧ Up F2 φ2 F3 φ2 ∧ Rep C.K F3 φ2 x t := by
  obtain ⟨t, ht, h⟩ := w.yields i N F2 H2 φ2 s x H3 hi u r.hr hk y
  rcases h with ⟨rfl, rp⟩ | ⟨p, xs, us, rfl, hp, rfl, rfl, rs⟩
  · exact ⟨t, F2, ht, r, Up.refl _ _, rp⟩
  · obtain ⟨r', x'⟩ := r.addF (o := .tup xs) hp
    exact ⟨_, _, ht, r', x', .tup upd_same (rs.mono x')⟩
abbrev SI (C : Ct) (wi : TI) (d : M (List T × Ks)) : Prop := SX C (fun F φ (J : It) (x : List T × Ks) => Wk C J F φ x.1 x.2) wi d
/-- what a value is walked as -/
def itms (s : Sto) : T → Option (List T × Ks)
  | .lst ts => some (ts, [])
  | .tup ts => some (ts, [])
  | .scr ns => some (ns.map .int, [])
  | .ref i => match s[i]? with
    | some (.l ts) => some (ts, [(i, ts)])
    | _ => none
  | _ => none
def lItems (s : Sto) : T → Option (List T × Ks)
  | .lst ts => some (ts, [])
  | .scr ns => some (ns.map .int, [])
  | .ref i => match s[i]? with
    | some (.l ts) => some (ts, [(i, ts)])
    | _ => none
  | _ => none
@[simp] def optS {α : Type} (f : Sto → Option α) : M α := fun e s => match f s with
  | some a => .ok a e s
  | none => .bad
@[simp] def dIt (d : EM) : M (List T × Ks) := fun e s => (M.bind d fun x => optS fun s => itms s x) e s
def rngL (lo : Int) (n : Nat) : List T := (List.range n).map fun i => .int (lo + (i : Nat))
noncomputable def rng1 : Sto → List T → Option (List T × Ks)
  | _, [.int n] => if rngOk n 0 = true then some (rngL 0 n.toNat, []) else none
  | _, _ => none
noncomputable def rng2 : Sto → List T → Option (List T × Ks)
  | _, [.int lo, .int n] => if rngOk lo n = true then some (rngL lo (n - lo).toNat, []) else none
  | _, _ => none
def zipT : List T → List T → List T
  | x :: xs, y :: ys => .tup [x, y] :: zipT xs ys
  | _, _ => []
def zip2 : Sto → List T → Option (List T × Ks)
  | s, [a, b] => match lItems s a, lItems s b with
    | some (xs, k1), some (ys, k2) => some (zipT xs ys, k1 ++ k2)
    | _, _ => none
  | _, _ => none
def enumT (n : Nat) : List T → List T
  | x :: xs => .tup [.int (n : Nat), x] :: enumT (n + 1) xs
  | [] => []
def enum1 : Sto → List T → Option (List T × Ks)
  | s, [a] => match lItems s a with
    | some (xs, k) => some (enumT 0 xs, k)
    | none => none
  | _, _ => none
def rev1 : Sto → List T → Option (List T × Ks)
  | s, [a] => match lItems s a with
    | some (xs, k) => some (xs.reverse, k)
    | none => none
  | _, _ => none
@[simp] theorem itms_lst (s : Sto) (ts : List T) : itms s (.lst ts) = some (ts, []) := rfl
@[simp] theorem itms_tup (s : Sto) (ts : List T) : itms s (.tup ts) = some (ts, []) := rfl
@[simp] theorem itms_scr (s : Sto) (ns : List Int) : itms s (.scr ns) = some (ns.map .int, []) := rfl
@[simp] theorem itms_ref (s : Sto) (i : Nat) : itms s (.ref i) = (match s[i]? with
    | some (.l ts) => some (ts, [(i, ts)])
    | _ => none) := rfl
@[simp] theorem lItems_lst (s : Sto) (ts : List T) : lItems s (.lst ts) = some (ts, []) := rfl
@[simp] theorem lItems_scr (s : Sto) (ns : List Int) : lItems s (.scr ns) = some (ns.map .int, []) := rfl
@[simp] theorem lItems_ref (s : Sto) (i : Nat) : lItems s (.ref i) = (match s[i]? with
    | some (.l ts) => some (ts, [(i, ts)])
    | _ => none) := rfl
@[simp] theorem zip2_eq (s : Sto) (a b : T) : zip2 s [a, b] = (match lItems s a, lItems s b with
    | some (xs, k1), some (ys, k2) => some (zipT xs ys, k1 ++ k2)
    | _, _ => none) := rfl
@[simp] theorem enum1_eq (s : Sto) (a : T) : enum1 s [a] = (match lItems s a with
    | some (xs, k) => some (enumT 0 xs, k)
    | none => none) := rfl
@[simp] theorem rev1_eq (s : Sto) (a : T) : rev1 s [a] = (match lItems s a with
    | some (xs, k) => some (xs.reverse, k)
    | none => none) := rfl
@[simp] def dItA (f : Sto → List T → Option (List T × Ks)) (as : List EM) : M (List T × Ks) := fun e s => (M.bind (dArgs as) fun xs => optS fun s => f s xs) e s

/-- a list at a, as it stands at each turn -/
structure Seq (C : Ct) (F : Hp) (φ : List Addr) (a : Addr) (ts : List T) (ks : Ks) : Prop where
  at' : ∀ N F2 H2 φ2 s2, Up F φ F2 φ2 → C.hr N F2 H2 φ2 s2 → kp ks s2 → ∃ vs, SqL C.K H2 a vs ∧ Reps C.K F2 φ2 vs ts
theorem seq_of {N F H : Hp} {φ : List Addr} {s : Sto} (r : C.hr N F H φ s) {v : V} {x : T} {ts : List T} {ks : Ks} (rp : Rep C.K F φ v x) (h : lItems s x = some (ts, ks)) : ∃ a, v = .ref a ∧ Seq C F φ a ts ks := by
  cases rp with
  | lst h1 r1 =>
    cases h
    exact ⟨_, rfl, ⟨fun N F2 H2 φ2 s2 u r2 _ => ⟨_, .inl (.inl (r2.sub _ _ (u.ex _ _ h1))), r1.mono u⟩⟩⟩
  | @scr p ns h1 =>
    cases h
    exact ⟨_, rfl, ⟨fun N F2 H2 φ2 s2 u r2 _ => ⟨_, Evl.ex_l (u.ex.trans r2.sub) h1, Reps.of_ints ns⟩⟩⟩
  | @ref p i hp =>
    unfold lItems at h
    dsimp only at h
    split at h
    · rename_i us hs
      cases h
      refine ⟨_, rfl, ⟨fun N F2 H2 φ2 s2 u r2 hk => ?_⟩⟩
      obtain ⟨vs, h1, h2⟩ := r2.cell i _ p hk.1 (u.get hp)
      exact ⟨vs, .inl (.inl h1), h2⟩
    · cases h
  | _ => cases h
theorem kp_app {k1 k2 : Ks} {s : Sto} (h : kp (k1 ++ k2) s) : kp k1 s ∧ kp k2 s := by
  induction k1 with
  | nil => exact ⟨trivial, h⟩
  | cons x k ih =>
    obtain ⟨i, ts⟩ := x
    obtain ⟨a, b⟩ := ih h.2
    exact ⟨⟨h.1, a⟩, b⟩
theorem wk_list {F : Hp} {φ : List Addr} {a : Addr} {ts : List T} {ks : Ks} (q : Seq C F φ a ts ks) : Wk C (Itl C.K a) F φ ts ks where
  goes := fun i N F2 H2 φ2 s2 hi u r hk => by
    obtain ⟨vs, h, rr⟩ := q.at' N F2 H2 φ2 s2 u r hk
    exact ⟨vs, vs[i]'(by rw [rr.length]; exact hi), h, by simp⟩
  stops := fun N F2 H2 φ2 s2 u r hk => by
    obtain ⟨vs, h, rr⟩ := q.at' N F2 H2 φ2 s2 u r hk
    exact ⟨vs, h, by rw [rr.length]; exact Nat.le_refl _⟩
  yields := fun i N F2 H2 φ2 s2 x H3 hi u r hk y => by
    obtain ⟨vs, h, rr⟩ := q.at' N F2 H2 φ2 s2 u r hk
    obtain ⟨y1, y2⟩ := y
    obtain ⟨t, ht, rp⟩ := rr.get' (y2 vs h)
    exact ⟨t, ht, .inl ⟨y1, rp⟩⟩
theorem wk_tup {F : Hp} {φ : List Addr} {a : Addr} {vs : List V} {ts : List T} (h : SqT C.K F a vs) (rr : Reps C.K F φ vs ts) : Wk C (Itt C.K a) F φ ts [] where
  goes := fun i N F2 H2 φ2 s2 hi u r hk => ⟨vs, vs[i]'(by rw [rr.length]; exact hi), Evl.ex_t (u.ex.trans r.sub) h, by simp⟩
  stops := fun N F2 H2 φ2 s2 u r hk => ⟨vs, Evl.ex_t (u.ex.trans r.sub) h, by rw [rr.length]; exact Nat.le_refl _⟩
  yields := fun i N F2 H2 φ2 s2 x H3 hi u r hk y => by
    obtain ⟨y1, y2⟩ := y
    obtain ⟨t, ht, rp⟩ := rr.get' (y2 vs (Evl.ex_t (u.ex.trans r.sub) h))
    exact ⟨t, ht, .inl ⟨y1, rp.mono u⟩⟩
theorem wk_rng {F : Hp} {φ : List Addr} {lo : Int} {n : Nat} : Wk C (Itr lo n) F φ (rngL lo n) [] where
  goes := fun i N F2 H2 φ2 s2 hi u r hk => by
    unfold rngL at hi
    rw [List.length_map, List.length_range] at hi
    exact hi
  stops := fun N F2 H2 φ2 s2 u r hk => by
    show n ≤ (rngL lo n).length
    unfold rngL
    rw [List.length_map, List.length_range]
    exact Nat.le_refl _
  yields := fun i N F2 H2 φ2 s2 x H3 hi u r hk y => by
    unfold rngL at hi
    rw [List.length_map, List.length_range] at hi
    obtain ⟨y1, rfl⟩ := y
    refine ⟨.int (lo + (i : Nat)), ?_, .inl ⟨y1, .int⟩⟩
    unfold rngL
    rw [List.getElem?_map, List.getElem?_range hi]
    rfl
theorem wk_rev {F : Hp} {φ : List Addr} {a : Addr} {ts : List T} {ks : Ks} (q : Seq C F φ a ts ks) : Wk C (Itv C.K a ts.length) F φ ts.reverse ks where
  goes := fun i N F2 H2 φ2 s2 hi u r hk => by
    obtain ⟨vs, h, rr⟩ := q.at' N F2 H2 φ2 s2 u r hk
    rw [List.length_reverse] at hi
    exact ⟨hi, vs, vs[ts.length - 1 - i]'(by rw [rr.length]; omega), h, by simp⟩
  stops := fun N F2 H2 φ2 s2 u r hk => by
    show ts.length ≤ ts.reverse.length
    rw [List.length_reverse]
    exact Nat.le_refl _
  yields := fun i N F2 H2 φ2 s2 x H3 hi u r hk y => by
    obtain ⟨vs, h, rr⟩ := q.at' N F2 H2 φ2 s2 u r hk
    obtain ⟨y1, y2⟩ := y
    rw [List.length_reverse] at hi
    obtain ⟨t, ht, rp⟩ := rr.get' (y2 vs h)
    exact ⟨t, by rw [List.getElem?_reverse hi]; exact ht, .inl ⟨y1, rp⟩⟩
theorem zipT_len : ∀ (xs ys : List T), (zipT xs ys).length = min xs.length ys.length
  | [], _ => by simp [zipT]
  | _ :: _, [] => by simp [zipT]
  | x :: xs, y :: ys => by
    show (zipT xs ys).length + 1 = _
    rw [zipT_len xs ys]
    simp only [List.length_cons]
    omega
theorem zipT_get : ∀ {xs ys : List T} {i : Nat} {x y : T}, xs[i]? = some x → ys[i]? = some y → (zipT xs ys)[i]? = some (.tup [x, y])
  | [], _, _, _, _, h, _ => by simp at h
  | _ :: _, [], _, _, _, _, h => by simp at h
  | x :: xs, y :: ys, 0, _, _, h, h' => by
    cases Option.some.inj h
    cases Option.some.inj h'
    rfl
  | x :: xs, y :: ys, i + 1, _, _, h, h' => zipT_get (xs := xs) (ys := ys) (i := i) h h'
theorem wk_zip {F : Hp} {φ : List Addr} {a b : Addr} {ts us : List T} {k1 k2 : Ks} (q : Seq C F φ a ts k1) (q' : Seq C F φ b us k2) : Wk C (Itz C.K a b) F φ (zipT ts us) (k1 ++ k2) where
  goes := fun i N F2 H2 φ2 s2 hi u r hk => by
    obtain ⟨k1, k2⟩ := kp_app hk
    obtain ⟨vs, h, rr⟩ := q.at' N F2 H2 φ2 s2 u r k1
    obtain ⟨ws, h', rr'⟩ := q'.at' N F2 H2 φ2 s2 u r k2
    rw [zipT_len] at hi
    have l1 := rr.length
    have l2 := rr'.length
    exact ⟨vs, ws, vs[i]'(by omega), ws[i]'(by omega), h, h', by simp, by simp⟩
  stops := fun N F2 H2 φ2 s2 u r hk => by
    obtain ⟨k1, k2⟩ := kp_app hk
    obtain ⟨vs, h, rr⟩ := q.at' N F2 H2 φ2 s2 u r k1
    obtain ⟨ws, h', rr'⟩ := q'.at' N F2 H2 φ2 s2 u r k2
    have l1 := rr.length
    have l2 := rr'.length
    refine ⟨vs, ws, h, h', ?_⟩
    rw [zipT_len]
    omega
  yields := fun i N F2 H2 φ2 s2 x H3 hi u r hk y => by
    obtain ⟨k1, k2⟩ := kp_app hk
    obtain ⟨vs, h, rr⟩ := q.at' N F2 H2 φ2 s2 u r k1
    obtain ⟨ws, h', rr'⟩ := q'.at' N F2 H2 φ2 s2 u r k2
    obtain ⟨p, x, z, rfl, hp, rfl, y1, y2⟩ := y
    obtain ⟨t, ht, rp⟩ := rr.get' (y1 vs h)
    obtain ⟨u, hu, rp2⟩ := rr'.get' (y2 ws h')
    exact ⟨_, zipT_get ht hu, .inr ⟨p, _, _, rfl, hp, rfl, rfl, .cons rp (.cons rp2 .nil)⟩⟩
theorem enumT_len : ∀ (n : Nat) (xs : List T), (enumT n xs).length = xs.length
  | _, [] => rfl
  | n, x :: xs => by
    show (enumT (n + 1) xs).length + 1 = _
    rw [enumT_len (n + 1) xs]
    rfl
theorem enumT_get : ∀ {n : Nat} {xs : List T} {i : Nat} {x : T}, xs[i]? = some x → (enumT n xs)[i]? = some (.tup [.int ((n + i : Nat) : Int), x])
  | _, [], _, _, h => by simp at h
  | n, x :: xs, 0, _, h => by
    cases Option.some.inj h
    rfl
  | n, x :: xs, i + 1, _, h => by
    have q := enumT_get (n := n + 1) (xs := xs) (i := i) h
    have e : n + 1 + i = n + (i + 1) := by omega
    rw [e] at q
    exact q
theorem wk_enum {F : Hp} {φ : List Addr} {a : Addr} {ts : List T} {ks : Ks} (q : Seq C F φ a ts ks) : Wk C (Ite C.K a) F φ (enumT 0 ts) ks where
  goes := fun i N F2 H2 φ2 s2 hi u r hk => by
    obtain ⟨vs, h, rr⟩ := q.at' N F2 H2 φ2 s2 u r hk
    rw [enumT_len] at hi
    exact ⟨vs, vs[i]'(by rw [rr.length]; exact hi), h, by simp⟩
  stops := fun N F2 H2 φ2 s2 u r hk => by
    obtain ⟨vs, h, rr⟩ := q.at' N F2 H2 φ2 s2 u r hk
    exact ⟨vs, h, by rw [enumT_len, rr.length]; exact Nat.le_refl _⟩
  yields := fun i N F2 H2 φ2 s2 x H3 hi u r hk y => by
    obtain ⟨vs, h, rr⟩ := q.at' N F2 H2 φ2 s2 u r hk
    obtain ⟨p, x, rfl, hp, rfl, y1⟩ := y
    obtain ⟨t, ht, rp⟩ := rr.get' (y1 vs h)
    have q := enumT_get (n := 0) ht
    rw [Nat.zero_add] at q
    exact ⟨_, q, .inr ⟨p, _, _, rfl, hp, rfl, rfl, .cons .int (.cons rp .nil)⟩⟩
/-- a list or a tuple -/
def iSeq (K : PySem.W.Frag) (tl : TE) : TI := fun σ H R => tl σ H fun x H1 => ∃ a, x = .ref a ∧ (((∃ xs, SqL K H1 a xs) ∧ R (Itl K a) H1) ∨ ((∃ xs, SqT K H1 a xs) ∧ R (Itt K a) H1))
theorem optS_pk {α β γ : Type} {rel : Hp → List Addr → β → α → Prop} {N : Hp} {σ : L2.St} {Q : β → Hp → Prop} {F : Hp} {φ : List Addr} {f : Sto → Option α} {e : En} {s : Sto} (q : Po C rel N σ Q F φ (optS f e s)) : ∃ a, f s = some a ∧ Po C rel N σ Q F φ (.ok a e s) := by
  unfold optS at q
  cases h : f s with
  | none =>
    rw [h] at q
    exact q.elim
  | some a =>
    rw [h] at q
    exact ⟨a, rfl, q⟩
theorem si_it {tl : TE} {d : EM} (h : SE C tl d) : SI C (iSeq C.K tl) (dIt d) := fun N F H φ e s σ rl Q q => by
  refine h.go rl Po.pk q fun v x F1 φ1 H1 e1 s1 r1 u1 rp q1 => ?_
  obtain ⟨⟨ts, ks⟩, hf, q1⟩ := optS_pk (γ := Unit) q1
  have lst : lItems s1 x = some (ts, ks) → ∃ a, v = .ref a ∧ (((∃ xs, SqL C.K H1 a xs) ∧ Q (Itl C.K a) H1) ∨ ((∃ xs, SqT C.K H1 a xs) ∧ Q (Itt C.K a) H1)) := fun hl => by
    obtain ⟨a, rfl, sq⟩ := seq_of r1.hr rp hl
    have hk : kp ks s1 := by
      cases x with
      | ref i =>
        unfold lItems at hl
        dsimp only at hl
        split at hl
        · rename_i us hs
          cases hl
          exact ⟨hs, trivial⟩
        · cases hl
      | lst _ => cases hl; trivial
      | scr _ => cases hl; trivial
      | _ => cases hl
    obtain ⟨vs, h1, _⟩ := sq.at' N F1 H1 φ1 s1 (Up.refl _ _) r1.hr hk
    exact ⟨a, rfl, .inl ⟨⟨vs, h1⟩, q1 _ F1 φ1 H1 r1 (Up.refl _ _) (wk_list sq)⟩⟩
  cases x with
  | lst _ => exact lst hf
  | scr _ => exact lst hf
  | ref i => exact lst hf
  | tup us =>
    cases hf
    cases rp with
    | tup h1 rr => exact ⟨_, rfl, .inr ⟨⟨_, .inl (.inl (r1.hr.sub _ _ h1))⟩, q1 _ F1 φ1 H1 r1 (Up.refl _ _) (wk_tup (.inl (.inl h1)) rr)⟩⟩
  | _ => cases hf
theorem lItems_kp {s : Sto} {x : T} {ts : List T} {ks : Ks} (hl : lItems s x = some (ts, ks)) : kp ks s := by
  cases x with
  | ref i =>
    unfold lItems at hl
    dsimp only at hl
    split at hl
    · rename_i us hs
      cases hl
      exact ⟨hs, trivial⟩
    · cases hl
  | lst _ => cases hl; trivial
  | scr _ => cases hl; trivial
  | _ => cases hl
theorem si_args {ta : TA} {f : Sto → List T → Option (List T × Ks)} {as : List EM} {wi : TI} {R : List V → Hp → (It → Hp → Prop) → Prop} (e : wi = fun σ H Q => ta σ H fun vs H1 => R vs H1 Q) (ha : SA C ta (dArgs as))
    (hr : ∀ N F H φ s vs xs ts ks Q, C.hr N F H φ s → Reps C.K F φ vs xs → f s xs = some (ts, ks) → (∀ J, Wk C J F φ ts ks → Q J H) → R vs H Q) : SI C wi (dItA f as) := fun N F H φ e' s σ rl Q q => by
  subst e
  refine ha.go rl Po.pk q fun vs xs F1 φ1 H1 e1 s1 r1 u1 rs q1 => ?_
  obtain ⟨⟨ts, ks⟩, hf, q1⟩ := optS_pk (γ := Unit) q1
  exact hr N F1 H1 φ1 s1 vs xs ts ks Q r1.hr rs hf fun J w => q1 J F1 φ1 H1 r1 (Up.refl _ _) w
theorem Reps.one {K : PySem.W.Frag} {F : Hp} {φ : List Addr} {vs : List V} {x : T} (h : Reps K F φ vs [x]) : ∃ v, vs = [v] ∧ Rep K F φ v x := by
  cases h with
  | cons a r =>
    cases r
    exact ⟨_, rfl, a⟩
theorem Reps.two {K : PySem.W.Frag} {F : Hp} {φ : List Addr} {vs : List V} {x y : T} (h : Reps K F φ vs [x, y]) : ∃ v w, vs = [v, w] ∧ Rep K F φ v x ∧ Rep K F φ w y := by
  cases h with
  | cons a r =>
    cases r with
    | cons b r =>
      cases r
      exact ⟨_, _, rfl, a, b⟩
theorem si_rng1 {ta : TA} {as : List EM} (ha : SA C ta (dArgs as)) : SI C (iRng1 ta) (dItA rng1 as) := si_args rfl ha fun N F H φ s vs xs ts ks Q r rs hf k => by
  unfold rng1 at hf
  split at hf
  · split at hf
    · rename_i hn
      have hn := rngOk_of hn
      cases hf
      obtain ⟨v, rfl, rp⟩ := rs.one
      cases rp
      exact ⟨_, rfl, by omega, by omega, k _ wk_rng⟩
    · cases hf
  · cases hf
theorem si_rng2 {ta : TA} {as : List EM} (ha : SA C ta (dArgs as)) : SI C (iRng2 ta) (dItA rng2 as) := si_args rfl ha fun N F H φ s vs xs ts ks Q r rs hf k => by
  unfold rng2 at hf
  split at hf
  · split at hf
    · rename_i hn
      have hn := rngOk_of hn
      cases hf
      obtain ⟨v, w, rfl, rp, rq⟩ := rs.two
      cases rp
      cases rq
      exact ⟨_, _, rfl, ⟨by omega, by omega, by omega, by omega⟩, k _ wk_rng⟩
    · cases hf
  · cases hf
theorem si_zip {ta : TA} {as : List EM} (ha : SA C ta (dArgs as)) : SI C (iZip C.K ta) (dItA zip2 as) := si_args rfl ha fun N F H φ s vs xs ts ks Q r rs hf k => by
  unfold zip2 at hf
  split at hf
  · rename_i a b
    split at hf
    · rename_i xs k1 ys k2 h1 h2
      cases hf
      obtain ⟨v, w, rfl, rp, rq⟩ := rs.two
      obtain ⟨p, rfl, s1⟩ := seq_of r rp h1
      obtain ⟨p2, rfl, s2⟩ := seq_of r rq h2
      obtain ⟨ws1, g1, _⟩ := s1.at' N F H φ s (Up.refl _ _) r (lItems_kp h1)
      obtain ⟨ws2, g2, _⟩ := s2.at' N F H φ s (Up.refl _ _) r (lItems_kp h2)
      exact ⟨p, p2, ws1, ws2, rfl, g1, g2, k _ (wk_zip s1 s2)⟩
    · cases hf
  · cases hf
theorem si_enum {ta : TA} {as : List EM} (ha : SA C ta (dArgs as)) : SI C (iEnum C.K ta) (dItA enum1 as) := si_args rfl ha fun N F H φ s vs xs ts ks Q r rs hf k => by
  unfold enum1 at hf
  split at hf
  · rename_i a
    split at hf
    · rename_i xs k1 h1
      cases hf
      obtain ⟨v, rfl, rp⟩ := rs.one
      obtain ⟨p, rfl, s1⟩ := seq_of r rp h1
      obtain ⟨ws1, g1, _⟩ := s1.at' N F H φ s (Up.refl _ _) r (lItems_kp h1)
      exact ⟨p, ws1, rfl, g1, k _ (wk_enum s1)⟩
    · cases hf
  · cases hf
theorem si_rev {ta : TA} {as : List EM} (ha : SA C ta (dArgs as)) : SI C (iRev C.K ta) (dItA rev1 as) := si_args rfl ha fun N F H φ s vs xs ts ks Q r rs hf k => by
  unfold rev1 at hf
  split at hf
  · rename_i a
    split at hf
    · rename_i xs k1 h1
      cases hf
      obtain ⟨v, rfl, rp⟩ := rs.one
      obtain ⟨p, rfl, s1⟩ := seq_of r rp h1
      obtain ⟨ws1, g1, g2⟩ := s1.at' N F H φ s (Up.refl _ _) r (lItems_kp h1)
      refine ⟨p, ws1, rfl, g1, ?_⟩
      rw [g2.length]
      exact k _ (wk_rev s1)
    · cases hf
  · cases hf
theorem chk_go {β : Type} {ks : Ks} {g : Unit → M β} {e : En} {s : Sto} {P : R β → Prop} (hb : ¬ P .bad) (q : P (M.bind (chk ks) g e s)) : kp ks s ∧ P (g () e s) := by
  unfold M.bind chk at q
  by_cases h : kp ks s
  · rw [if_pos h] at q
    exact ⟨h, q⟩
  · rw [if_neg h] at q
    exact absurd q hb
/-- for -/
theorem ss_for {wi : TI} {g : TG} {u : TS} {d : M (List T × Ks)} {dg : GM} {b : SM} (hi : SI C wi d) (hg : SG C g dg) (hb : SS C u b) : SS C (tFor wi g u) (dFor d dg b) := fun N F H φ e s σ rl D q => by
  refine hi.go rl PoS.pk q fun J x F1 φ1 H1 e1 s1 r1 u1 w q1 => ?_
  obtain ⟨ts, ks⟩ := x
  refine ⟨fun i m σ' H' => m = ts.length - i ∧ i ≤ ts.length ∧ ∃ F' φ' e' s', C.rl N F' H' φ' e' s' σ' ∧ Up F1 φ1 F' φ' ∧ PoS C N D F' φ' (forL ks dg b (ts.drop i) e' s'), ⟨ts.length, by simp, Nat.zero_le _, F1, φ1, e1, s1, r1, Up.refl _ _, q1⟩, ?_⟩
  rintro i m σ2 H2 ⟨rfl, hi, F2, φ2, e2, s2, r2, x2, q2⟩
  by_cases hlt : i < ts.length
  · have hdr : ts.drop i = ts[i] :: ts.drop (i + 1) := List.drop_eq_getElem_cons hlt
    rw [hdr] at q2
    obtain ⟨hk, q2⟩ := chk_go (P := PoS C N D F2 φ2) (fun h => h) q2
    refine .inr ⟨w.goes i N F2 H2 φ2 s2 hlt x2 r2.hr hk, fun σ' H' => ∃ F' φ' e' s', C.rl N F' H' φ' e' s' σ' ∧ Up F1 φ1 F' φ' ∧ PoS C N D F' φ' (forL ks dg b (ts.drop (i + 1)) e' s'), fun σ' H' hw => ⟨ts.length - (i + 1), by omega, rfl, hlt, hw⟩, fun x H3 y => ?_⟩
    obtain ⟨t, F3, ht, r3, x3, rp⟩ := w.got r2 hk hlt x2 y
    have et : ts[i] = t := by
      dsimp only at ht
      rw [List.getElem?_eq_getElem hlt] at ht
      exact Option.some.inj ht
    rw [et] at q2
    refine hg N F3 H3 φ2 e2 s2 σ2 x t r3 rp _ ?_
    have q2 : PoS C N D F2 φ2 (M.bind (dg t) (fun _ => M.bind b (loopF (forL ks dg b (ts.drop (i + 1))))) e2 s2) := q2
    unfold M.bind at q2
    cases hg2 : dg t e2 s2 with
    | bad =>
      rw [hg2] at q2
      exact q2.elim
    | ex c e4 s4 =>
      rw [hg2] at q2
      exact fun F' φ' H' σ' r' x' => q2 F' φ' H' σ' r' (x3.trans x')
    | ok uu e4 s4 =>
      rw [hg2] at q2
      intro F4 φ4 H4 σ4 r4 x4
      refine hb N F4 H4 φ4 e4 s4 σ4 r4 _ (PoS.toS (D := D) (g := loopF (forL ks dg b (ts.drop (i + 1)))) _ (PoS.mono (x3.trans x4) q2) (fun e' s' F' φ' H' σ' r x q' => ⟨F', φ', e', s', r, ((x2.trans x3).trans x4).trans x, q'⟩)
        (fun e' s' F' φ' H' σ' r x q' => q' F' φ' H' σ' r (Up.refl _ _)) (fun e' s' F' φ' H' σ' r x q' => ⟨F', φ', e', s', r, ((x2.trans x3).trans x4).trans x, q'⟩) fun r e' s' v F' φ' H' f x o q' => q' v F' φ' H' f (Up.refl _ _) o)
  · have ei : i = ts.length := by omega
    subst ei
    rw [List.drop_length] at q2
    obtain ⟨hk, q2⟩ := chk_go (P := PoS C N D F2 φ2) (fun h => h) q2
    exact .inl ⟨w.stops N F2 H2 φ2 s2 x2 r2.hr hk, q2 F2 φ2 H2 σ2 r2 (Up.refl _ _)⟩
end
end Sr

namespace Sr
open PySem PySem.Spec PyProof.Rows L2
open Evl (Ex)
/-! ### comprehensions -/
@[simp] def wipeE (e : En) : List Nat → En
  | [] => e
  | v :: vs => (wipeE e vs).set v none
noncomputable def lcL (ks : Ks) (own : List Nat) (g : GM) (t : M Bool) (el : EM) : List T → List T → M (List T)
  | [], acc, e, s => (M.bind (chk ks) fun _ => M.pure acc) e s
  | x :: r, acc, e, s => (M.bind (chk ks) fun _ => M.bind (g x) fun _ => M.bind t fun b => if b = true then M.bind el fun y => fun e s => if lenOk (acc.length + 1) = true then lcL ks own g t el r (acc ++ [y]) (wipeE e own) s else .bad else fun e s => lcL ks own g t el r acc (wipeE e own) s) e s
@[simp] theorem lcL_nil0 (own : List Nat) (g : GM) (t : M Bool) (el : EM) (acc : List T) (e : En) (s : Sto) : lcL [] own g t el [] acc e s = .ok acc e s := by
  simp [lcL]
@[simp] theorem lcL_cons0 (own : List Nat) (g : GM) (t : M Bool) (el : EM) (x : T) (r acc : List T) (e : En) (s : Sto) : lcL [] own g t el (x :: r) acc e s = (M.bind (g x) fun _ => M.bind t fun b => if b = true then M.bind el fun y => fun e s => if lenOk (acc.length + 1) = true then lcL [] own g t el r (acc ++ [y]) (wipeE e own) s else .bad else fun e s => lcL [] own g t el r acc (wipeE e own) s) e s := by
  simp [lcL]
theorem lcL_nilk {ks : Ks} {own : List Nat} {g : GM} {t : M Bool} {el : EM} {acc : List T} {e : En} {s : Sto} (h : kp ks s) : lcL ks own g t el [] acc e s = .ok acc e s := by
  simp [lcL, chk_ok h]
theorem lcL_consk {ks : Ks} {own : List Nat} {g : GM} {t : M Bool} {el : EM} {x : T} {r acc : List T} {e : En} {s : Sto} (h : kp ks s) : lcL ks own g t el (x :: r) acc e s = (M.bind (g x) fun _ => M.bind t fun b => if b = true then M.bind el fun y => fun e s => if lenOk (acc.length + 1) = true then lcL ks own g t el r (acc ++ [y]) (wipeE e own) s else .bad else fun e s => lcL ks own g t el r acc (wipeE e own) s) e s := by
  simp [lcL, chk_ok h]
@[simp] noncomputable def dLc (m : Bool) (it : M (List T × Ks)) (own : List Nat) (g : GM) (t : M Bool) (el : EM) : EM := fun e s => (M.bind it fun x => fun e s => match lcL x.2 own g t el x.1 [] (wipeE e own) s with
  | .ok acc e' s' => lift m (some (.l acc)) e' s'
  | _ => .bad) e s
@[simp] def dYes : M Bool := fun e s => .ok true e s
section
variable {C : Ct} {N F H : Hp} {φ : List Addr} {e : En} {s : Sto} {σ : L2.St}
theorem Rl.wipe (r : C.rl N F H φ e s σ) : ∀ vs : List Nat, C.rl N F H φ (wipeE e vs) s (L2.wipe σ vs)
  | [] => r
  | v :: vs => (r.wipe vs).unset v
theorem Rl.ofWipe {vs : List Nat} (r : C.rl N F H φ e s (L2.wipe σ vs)) : C.rl N F H φ e s σ := by
  refine ⟨r.hr, by rw [r.len, wipe_length], fun j t hj => ?_⟩
  obtain ⟨v, h1, h2⟩ := r.slot j t hj
  exact ⟨v, (wipe_some h1).1, h2⟩
theorem wipe_wipe (σ : L2.St) : ∀ vs : List Nat, ∀ ws : List Nat, (∀ v ∈ ws, v ∈ vs) → L2.wipe (L2.wipe σ vs) ws = L2.wipe σ vs
  | vs, [], _ => rfl
  | vs, w :: ws, h => by
    show (L2.wipe (L2.wipe σ vs) ws).set w none = _
    rw [wipe_wipe σ vs ws fun v hv => h v (List.mem_cons_of_mem _ hv)]
    apply List.ext_getElem?
    intro j
    rw [getSv]
    split
    · rename_i c
      have hm : j ∈ vs := by
        rw [c.1]
        exact h w (List.mem_cons_self ..)
      have hj : j < (L2.wipe σ vs).length := by
        rw [c.1]
        exact c.2
      cases hc : (L2.wipe σ vs)[j]? with
      | none =>
        rw [List.getElem?_eq_none_iff] at hc
        omega
      | some o =>
        cases o with
        | none => rfl
        | some x => exact absurd hm (wipe_some hc).2
    · rfl
theorem wipe_set {σ : L2.St} {i : Nat} {x : Option V} {vs : List Nat} (h : i ∈ vs) : L2.wipe (σ.set i x) vs = L2.wipe σ vs := by
  have step : ∀ (σ : L2.St) (v : Nat), v ≠ i → (σ.set i x).set v none = (σ.set v none).set i x := fun σ v hv => List.set_comm _ _ (Ne.symm hv)
  have comm : ∀ (σ : L2.St) (vs : List Nat), i ∉ vs → L2.wipe (σ.set i x) vs = (L2.wipe σ vs).set i x := by
    intro σ vs
    induction vs with
    | nil => intro _; rfl
    | cons v vs ih =>
      intro hm
      show (L2.wipe (σ.set i x) vs).set v none = ((L2.wipe σ vs).set v none).set i x
      rw [ih fun z => hm (List.mem_cons_of_mem _ z), step _ _ fun z => hm (by rw [z]; exact List.mem_cons_self ..)]
  induction vs with
  | nil => cases h
  | cons v vs ih =>
    show (L2.wipe (σ.set i x) vs).set v none = (L2.wipe σ vs).set v none
    by_cases hm : i ∈ vs
    · rw [ih hm]
    · have hv : i = v := by
        rcases List.mem_cons.mp h with z | z
        · exact z
        · exact absurd z hm
      rw [comm σ vs hm, hv, List.set_set]
end
/-- a target that stores own names alone -/
def OwnG (vs : List Nat) (g : TG) : Prop := ∀ (v : V) (σ : L2.St) (H : Hp) (Q : L2.St → Hp → Prop), g v σ H (fun σ2 H2 => L2.wipe σ2 vs = L2.wipe σ vs → Q σ2 H2) → g v σ H fun σ2 H2 => L2.wipe σ2 vs = L2.wipe σ vs ∧ Q σ2 H2
def OwnGs (vs : List Nat) (g : TGs) : Prop := ∀ (ws : List V) (σ : L2.St) (H : Hp) (Q : L2.St → Hp → Prop), g ws σ H (fun σ2 H2 => L2.wipe σ2 vs = L2.wipe σ vs → Q σ2 H2) → g ws σ H fun σ2 H2 => L2.wipe σ2 vs = L2.wipe σ vs ∧ Q σ2 H2
theorem own_name {vs : List Nat} {i : Nat} (h : i ∈ vs) : OwnG vs (gName i) := fun v σ H Q q => ⟨wipe_set h, q (wipe_set h)⟩
theorem own_nil {vs : List Nat} : OwnGs vs gNil := fun ws σ H Q q => ⟨q.1, rfl, q.2 rfl⟩
theorem own_cons {vs : List Nat} {i : Nat} {gs : TGs} (h : i ∈ vs) (hs : OwnGs vs gs) : OwnGs vs (gCons (gName i) gs) := fun ws σ H Q q => by
  obtain ⟨v, r, e, q⟩ := q
  refine ⟨v, r, e, ?_⟩
  have q : gs r (σ.set i (some v)) H (fun σ2 H2 => L2.wipe σ2 vs = L2.wipe σ vs → Q σ2 H2) := q
  have e2 : L2.wipe (σ.set i (some v)) vs = L2.wipe σ vs := wipe_set h
  have k := hs r (σ.set i (some v)) H Q (by rw [e2]; exact q)
  show gs r (σ.set i (some v)) H _
  rw [e2] at k
  exact k
theorem own_tup {vs : List Nat} {K : PySem.W.Frag} {n : Nat} {gs : TGs} (hs : OwnGs vs gs) : OwnG vs (gSeq K n gs) := fun v σ H Q q => by
  rcases q with q | q
  · obtain ⟨a, xs, e, h1, h2, q⟩ := q
    exact .inl ⟨a, xs, e, h1, h2, hs xs σ H Q q⟩
  · obtain ⟨a, xs, e, h1, h2, q⟩ := q
    exact .inr ⟨a, xs, e, h1, h2, hs xs σ H Q q⟩

abbrev Ct.nx (C : Ct) : Ct := { C with W := fun _ _ _ _ => False }
section
variable {C : Ct}
theorem pk_eq {α : Type} {C : Ct} {N : Hp} {σ : L2.St} {fin : α} {ef : En} {sf : Sto} : Pk C N σ (fun _ _ r => r = R.ok fin ef sf) where
  mono := fun _ h => h
  ex := fun h => by cases h
  bad := fun h => by cases h
def LcW (C : Ct) (N F1 : Hp) (φ1 : List Addr) (ks : Ks) (own : List Nat) (dg : GM) (dt : M Bool) (de : EM) (D : Addr) (ts fin : List T) (ef : En) (sf : Sto) (σ : L2.St) (i : Nat) (H' : Hp) : Prop :=
  ∃ F' φ' e' s' avs acc, C.rl N F' H' φ' e' s' (L2.wipe σ own) ∧ Up F1 φ1 F' φ' ∧ H' D = some (.lst avs) ∧ F' D = none ∧ (∀ i : Nat, φ'[i]? ≠ some D) ∧ Reps C.K F' φ' avs acc ∧
    lcL ks own dg dt de (ts.drop i) acc e' s' = .ok fin ef sf
theorem Rl.hold {N F H : Hp} {φ : List Addr} {e : En} {s : Sto} {σ : L2.St} (r : C.rl N F H φ e s σ) {p : Addr} {o : HO} (hN : N p = none) (hF : F p = none) (hφ : ∀ i : Nat, φ[i]? ≠ some p) (hH : H p = some o) : C.rl (upd N p o) F H φ e s σ := ⟨r.hr.hold hN hF hφ hH, r.len, r.slot⟩
theorem se_lc {m : Bool} {wi : TI} {g : TG} {tt : TT} {te : TE} {own : List Nat} {d : M (List T × Ks)} {dg : GM} {dt : M Bool} {de : EM} (hi : SI C wi d) (ow : OwnG own g) (hg : SG C.nx g dg) (ht : ST C.nx tt dt) (he : SE C.nx te de) :
    SE C (tLc wi g tt te own) (dLc m d own dg dt de) := fun N F H φ e s σ rl Q q => by
  refine hi.go rl Po.pk q fun J x F1 φ1 H1 e1 s1 r1 u1 w q1 D hD => ?_
  obtain ⟨ts, ks⟩ := x
  dsimp only at q1
  cases hfin : lcL ks own dg dt de ts [] (wipeE e1 own) s1 with
  | bad =>
    rw [hfin] at q1
    exact q1.elim
  | ex c e2 s2 =>
    rw [hfin] at q1
    exact q1.elim
  | ok fin ef sf =>
    rw [hfin] at q1
    obtain ⟨DF, DN, Dφ⟩ := r1.hr.newF hD
    have r1' : C.rl N F1 (upd H1 D (.lst [])) φ1 e1 s1 σ := r1.behind (Up.refl _ _) (r1.hr.mutD DN DF Dφ)
    refine ⟨fun i m H' => m = ts.length - i ∧ i ≤ ts.length ∧ LcW C N F1 φ1 ks own dg dt de D ts fin ef sf σ i H', ⟨ts.length, by simp, Nat.zero_le _, F1, φ1, wipeE e1 own, s1, [], [], r1'.wipe own, Up.refl _ _, upd_same, DF, Dφ, .nil, hfin⟩, ?_⟩
    rintro i m H2 ⟨rfl, hle, F2, φ2, e2, s2, avs, acc, r2, x2, hDv, hFD, hno, hacc, hrun⟩
    by_cases hlt : i < ts.length
    · have hdr : ts.drop i = ts[i] :: ts.drop (i + 1) := List.drop_eq_getElem_cons hlt
      rw [hdr] at hrun
      obtain ⟨hk, hrun⟩ := chk_go (P := fun r => r = .ok fin ef sf) (fun h => by cases h) hrun
      refine .inr ⟨w.goes i N F2 H2 φ2 s2 hlt x2 r2.hr hk, LcW C N F1 φ1 ks own dg dt de D ts fin ef sf σ (i + 1), fun H' hw => ⟨ts.length - (i + 1), by omega, rfl, hlt, hw⟩, fun x H3 y => ?_⟩
      have rh := r2.hold DN hFD hno hDv
      obtain ⟨t, F3, htt, r3, x3, rp⟩ := w.got rh hk hlt x2 y
      have et : ts[i] = t := by
        dsimp only at htt
        rw [List.getElem?_eq_getElem hlt] at htt
        exact Option.some.inj htt
      rw [et] at hrun
      have hrun : M.bind (dg t) (fun _ => M.bind dt fun b => if b = true then M.bind de fun y => fun e s => if lenOk (acc.length + 1) = true then lcL ks own dg dt de (ts.drop (i + 1)) (acc ++ [y]) (wipeE e own) s else .bad else fun e s => lcL ks own dg dt de (ts.drop (i + 1)) acc (wipeE e own) s) e2 s2 = .ok fin ef sf := hrun
      have idem : L2.wipe (L2.wipe σ own) own = L2.wipe σ own := wipe_wipe σ own own fun _ h => h
      have fn := ow x (L2.wipe σ own) H3 (fun σ2 H2' => tt σ2 H2' fun b H3' => if b = true then te σ2 H3' fun y H4 => ∃ acc', H4 D = some (.lst acc') ∧ acc'.length < sizeLine ∧ LcW C N F1 φ1 ks own dg dt de D ts fin ef sf σ (i + 1) (upd H4 D (.lst (acc' ++ [y]))) else LcW C N F1 φ1 ks own dg dt de D ts fin ef sf σ (i + 1) H3')
      rw [idem] at fn
      refine fn (hg (upd N D (.lst avs)) F3 H3 φ2 e2 s2 (L2.wipe σ own) x t r3 rp _ ?_)
      unfold M.bind at hrun
      cases hgt : dg t e2 s2 with
      | bad =>
        rw [hgt] at hrun
        cases hrun
      | ex c e4 s4 =>
        rw [hgt] at hrun
        cases hrun
      | ok uu e4 s4 =>
        rw [hgt] at hrun
        intro F4 φ4 H4 σ4 r4 x4 hw4
        refine ht.go r4 (pk_eq (fin := fin) (ef := ef) (sf := sf)) hrun fun b b' F5 φ5 H5 e5 s5 r5 x5 rb hrun5 => ?_
        subst rb
        cases b with
        | false =>
          have hrun5 : lcL ks own dg dt de (ts.drop (i + 1)) acc (wipeE e5 own) s5 = .ok fin ef sf := hrun5
          obtain ⟨h6, hD6, hF6, hn6⟩ := r5.hr.unhold DN
          have r6 : C.rl N F5 H5 φ5 e5 s5 σ4 := ⟨h6, r5.len, r5.slot⟩
          have r7 := r6.wipe own
          rw [hw4] at r7
          show LcW C N F1 φ1 ks own dg dt de D ts fin ef sf σ (i + 1) H5
          exact ⟨F5, φ5, wipeE e5 own, s5, avs, acc, r7, ((x2.trans x3).trans x4).trans x5, hD6, hF6, hn6, hacc.mono ((x3.trans x4).trans x5), hrun5⟩
        | true =>
          show te σ4 H5 _
          refine he.go r5 (pk_eq (fin := fin) (ef := ef) (sf := sf)) hrun5 fun v yv F6 φ6 H6 e6 s6 r6 x6 rpv hrun6 => ?_
          split at hrun6
          · rename_i hlen
            obtain ⟨h7, hD7, hF7, hn7⟩ := r6.hr.unhold DN
            have r7 : C.rl N F6 H6 φ6 e6 s6 σ4 := ⟨h7, r6.len, r6.slot⟩
            refine ⟨avs, hD7, ?_, ?_⟩
            · rw [hacc.length]
              have := lenOk_le hlen
              omega
            · have r8 : C.rl N F6 (upd H6 D (.lst (avs ++ [v]))) φ6 e6 s6 σ4 := r7.behind (Up.refl _ _) (h7.mutD DN hF7 hn7)
              have r9 := r8.wipe own
              rw [hw4] at r9
              have xx := (((x3.trans x4).trans x5).trans x6)
              exact ⟨F6, φ6, wipeE e6 own, s6, avs ++ [v], acc ++ [yv], r9, x2.trans xx, upd_same, hF7, hn7, (hacc.mono xx).append (.cons rpv .nil), hrun6⟩
          · cases hrun6
    · have ei : i = ts.length := by omega
      subst ei
      rw [List.drop_length] at hrun
      obtain ⟨hk, hrun⟩ := chk_go (P := fun r => r = .ok fin ef sf) (fun h => by cases h) hrun
      cases hrun
      refine .inl ⟨w.stops N F2 H2 φ2 _ x2 r2.hr hk, ?_⟩
      have r3 := r2.ofWipe
      cases m with
      | false =>
        have u : Up F2 φ2 (upd F2 D (.lst avs)) φ2 := ⟨Ex.new hFD, List.prefix_refl _⟩
        exact q1 (.ref D) (upd F2 D (.lst avs)) φ2 H2 (r3.behind u (r3.hr.still DN hFD hno hDv)) (x2.trans u) (.lst upd_same (hacc.mono u))
      | true =>
        have u : Up F2 φ2 F2 (φ2 ++ [D]) := ⟨Ex.refl F2, pre_snoc φ2 D⟩
        refine q1 (.ref D) F2 (φ2 ++ [D]) H2 (r3.behind u (r3.hr.cellD DN hFD hno ⟨avs, hDv, hacc⟩)) (x2.trans u) (.ref ?_)
        rw [← r3.hr.len]
        exact snoc_at _ _
end
/-! ### defs -/
inductive Rf where
  | ok (t : T) (s : Sto) | ex (c : Nat) (s : Sto) | bad
abbrev Gf := List T → Sto → Rf
@[simp] def dCall (g : Gf) (as : List EM) : EM := fun e s => (M.bind (dArgs as) fun xs => fun e s => match g xs s with
  | .ok t s' => .ok t e s'
  | .ex c s' => .ex c e s'
  | .bad => .bad) e s
def PoF (K : PySem.W.Frag) (cls : Nat → Value) (N F : Hp) (φ : List Addr) (Q : VK) (E : XK) : Rf → Prop
  | .ok t s' => ∀ v F' φ' H', Hr K cls N F' H' φ' s' → Up F φ F' φ' → Rep K F' φ' v t → Q v H'
  | .ex c s' => ∀ F' φ' H', Hr K cls N F' H' φ' s' → Up F φ F' φ' → E (cls c) none H'
  | .bad => False
/-- the promise: of n trees what g tells -/
def spT (K : PySem.W.Frag) (cls : Nat → Value) (n : Nat) (g : Gf) : Sp := fun vs H Q E => ∃ N F φ s ts, Hr K cls N F H φ s ∧ Reps K F φ vs ts ∧ ts.length = n ∧ PoF K cls N F φ Q E (g ts s)
theorem spT_len {K : PySem.W.Frag} {cls : Nat → Value} {n : Nat} {g : Gf} {vs : List V} {H : Hp} {Q : VK} {E : XK} (h : spT K cls n g vs H Q E) : vs.length = n := by
  obtain ⟨N, F, φ, s, ts, _, r, e, _⟩ := h
  rw [r.length, e]
theorem spT_imp {K : PySem.W.Frag} {cls : Nat → Value} {n : Nat} {f g : Gf} (h : ∀ ts s, ts.length = n → g ts s ≠ .bad → f ts s = g ts s) {vs : List V} {H : Hp} {Q : VK} {E : XK} (q : spT K cls n g vs H Q E) : spT K cls n f vs H Q E := by
  obtain ⟨N, F, φ, s, ts, x, r, e, q⟩ := q
  refine ⟨N, F, φ, s, ts, x, r, e, ?_⟩
  rw [h ts s e fun z => by rw [z] at q; exact q]
  exact q
section
variable {C : Ct}
theorem se_callS {n : Nat} {g : Gf} {as : List EM} {ta : TA} (ha : SA C ta (dArgs as)) (hl : as.length = n) : SE C (tCallS (spT C.K C.cls n g) (WE C.W) ta) (dCall g as) := fun N F H φ e s σ rl Q q => by
  refine ha.go' rl Po.pk q fun vs xs F1 φ1 H1 e1 s1 hd r1 u1 rs q1 => ?_
  refine ⟨N, F1, φ1, s1, xs, r1.hr, rs, by rw [dArgs_len _ _ _ _ _ _ hd]; exact hl, ?_⟩
  cases hg : g xs s1 with
  | bad =>
    rw [hg] at q1
    exact q1.elim
  | ex c s2 =>
    rw [hg] at q1
    exact fun F' φ' H' f u => q1 F' φ' H' (r1.behind u f) u
  | ok t s2 =>
    rw [hg] at q1
    exact fun v F' φ' H' f u rp => q1 v F' φ' H' (r1.behind u f) u rp
end
@[simp] def ini (n : Nat) (ts : List T) : En := ts.map some ++ List.replicate (n - ts.length) none
/-- what a body gives out, as it is -/
def dFnR (n : Nat) (d : SM) : Gf := fun ts s => match d (ini n ts) s with
  | .ok (.rt t) _ s' => .ok t s'
  | .ok .nx _ s' => .ok .non s'
  | .ex c _ s' => .ex c s'
  | _ => .bad
/-- its own cells stand still from now on -/
noncomputable def finP (s : Sto) (t : T) (s' : Sto) : Rf := @ite _ (s <+: s') (Classical.propDecidable _) (match rs 9 s.length s' t with
  | some t' => .ok t' s
  | none => .bad) .bad
noncomputable def finX (s : Sto) (c : Nat) (s' : Sto) : Rf := @ite _ (s <+: s') (Classical.propDecidable _) (.ex c s) .bad
noncomputable def dFn (n : Nat) (d : SM) : Gf := fun ts s => match d (ini n ts) s with
  | .ok (.rt t) _ s' => finP s t s'
  | .ok .nx _ s' => finP s .non s'
  | .ex c _ s' => finX s c s'
  | _ => .bad
theorem ini_get {n : Nat} {ts : List T} {i : Nat} {x : T} (h : (ini n ts)[i]? = some (some x)) : ts[i]? = some x := by
  unfold ini at h
  rw [List.getElem?_append] at h
  split at h
  · rw [List.getElem?_map] at h
    cases ht : ts[i]? with
    | none =>
      rw [ht] at h
      cases h
    | some t =>
      rw [ht] at h
      cases h
      rfl
  · rw [List.getElem?_replicate] at h
    split at h <;> cases h
theorem rl_start {K : PySem.W.Frag} {cls : Nat → Value} {N F H : Hp} {φ : List Addr} {s : Sto} {Ns : List Str} {vs : List V} {ts : List T} (x : Hr K cls N F H φ s) (r : Reps K F φ vs ts) : Rl K cls N F H φ (ini Ns.length ts) s (L2.start Ns vs) where
  hr := x
  len := by
    unfold ini L2.start
    simp only [List.length_append, List.length_map, List.length_replicate, r.length]
  slot := fun i t h => by
    have h2 := ini_get h
    obtain ⟨v, h3, h4⟩ := r.get h2
    refine ⟨v, ?_, h4⟩
    unfold L2.start
    have hi : i < vs.length := by
      rcases Nat.lt_or_ge i vs.length with q | q
      · exact q
      · rw [List.getElem?_eq_none q] at h3
        cases h3
    rw [List.getElem?_append_left (by rw [List.length_map]; exact hi), List.getElem?_map, h3]
    rfl
section
variable {K : PySem.W.Frag} {cls : Nat → Value} {N F H : Hp} {φ : List Addr} {s : Sto}
/-- the cells behind the first n stand still from now on -/
noncomputable def frzF (F H : Hp) (φ : List Addr) (n : Nat) : Hp := fun a => match F a with
  | some o => some o
  | none => @ite _ (∃ i, n ≤ i ∧ φ[i]? = some a) (Classical.propDecidable _) (match H a with
    | some (.lst vs) => some (.lst vs)
    | _ => none) none
theorem frz_ex {n : Nat} : Ex F (frzF F H φ n) := fun a o h => by
  unfold frzF
  rw [h]
theorem frz_lst {n i : Nat} {p : Addr} {vs : List V} (hF : F p = none) (hn : n ≤ i) (hp : φ[i]? = some p) (hH : H p = some (.lst vs)) : frzF F H φ n p = some (.lst vs) := by
  unfold frzF
  rw [hF]
  dsimp only
  rw [if_pos ⟨i, hn, hp⟩, hH]
theorem frz_no {n : Nat} {p : Addr} (hF : F p = none) (h : ∀ i, n ≤ i → φ[i]? ≠ some p) : frzF F H φ n p = none := by
  unfold frzF
  rw [hF]
  dsimp only
  rw [if_neg fun ⟨i, a, b⟩ => h i a b]
theorem frz_H {n : Nat} (x : Ex F H) : Ex (frzF F H φ n) H := fun a o h => by
  unfold frzF at h
  split at h
  · rename_i o' hF
    cases h
    exact x _ _ hF
  · split at h
    · split at h
      · rename_i vs hH
        cases h
        exact hH
      · cases h
    · cases h
theorem mapO_fr {F' : Hp} {φ' : List Addr} {f : T → Option T} (hf : ∀ v x y, Rep K F φ v x → f x = some y → Rep K F' φ' v y) : ∀ {vs : List V} {xs ys : List T}, Reps K F φ vs xs → mapO f xs = some ys → Reps K F' φ' vs ys
  | _, _, _, .nil, h => by
    cases h
    exact .nil
  | _, _, _, .cons (t := x) (ts := xs) a r, h => by
    unfold mapO at h
    split at h
    · rename_i y ys h1 h2
      cases h
      exact .cons (hf _ _ _ a h1) (mapO_fr hf r h2)
    · cases h
theorem rs_frz {n : Nat} (r : Hr K cls N F H φ s) : ∀ (k : Nat) (v : V) (x y : T), Rep K F φ v x → rs k n s x = some y → Rep K (frzF F H φ n) (φ.take n) v y
  | 0, _, _, _, _, h => by cases h
  | k + 1, v, x, y, rp, h => by
    have ih := rs_frz (n := n) r k
    have ex : Ex F (frzF F H φ n) := frz_ex
    cases rp with
    | lst h1 r1 =>
      unfold rs at h
      rename_i p vs ts
      cases hm : mapO (rs k n s) ts with
      | none => rw [hm] at h; cases h
      | some ys =>
        rw [hm] at h
        cases h
        exact .lst (ex _ _ h1) (mapO_fr ih r1 hm)
    | tup h1 r1 =>
      unfold rs at h
      rename_i p vs ts
      cases hm : mapO (rs k n s) ts with
      | none => rw [hm] at h; cases h
      | some ys =>
        rw [hm] at h
        cases h
        exact .tup (ex _ _ h1) (mapO_fr ih r1 hm)
    | ref hp =>
      rename_i p i
      unfold rs at h
      split at h
      · rename_i hi
        cases h
        refine .ref ?_
        rw [List.getElem?_take_of_lt hi]
        exact hp
      · rename_i hi
        split at h
        · rename_i ts hs
          cases hm : mapO (rs k n s) ts with
          | none => rw [hm] at h; cases h
          | some ys =>
            rw [hm] at h
            cases h
            obtain ⟨vs, h1, h2⟩ := r.cell i _ p hs hp
            exact .lst (frz_lst (r.out i p hp).2 (by omega) hp h1) (mapO_fr ih h2 hm)
        · cases h
    | adr =>
      unfold rs at h
      cases h
      exact .adr
    | rng h1 =>
      unfold rs at h
      cases h
      exact .rng (ex _ _ h1)
    | non => unfold rs at h; cases h; exact .non
    | bl => unfold rs at h; cases h; exact .bl
    | int => unfold rs at h; cases h; exact .int
    | str => unfold rs at h; cases h; exact .str
    | scr h1 => unfold rs at h; cases h; exact .scr (Evl.ex_l ex h1)
mutual
theorem Rep.pull {F' F'' : Hp} {ψ : List Addr} (x : Ex F' F'') : ∀ {v v' : V} {t : T}, Rep K F φ v t → Rep K F' (φ ++ ψ) v' t → Rep K F'' φ v' t
  | _, _, _, .non, h => by cases h; exact .non
  | _, _, _, .bl, h => by cases h; exact .bl
  | _, _, _, .int, h => by cases h; exact .int
  | _, _, _, .str, h => by cases h; exact .str
  | _, _, _, .lst _ r, h => by
    cases h with
    | lst h1 r1 => exact .lst (x _ _ h1) (Reps.pull x r r1)
  | _, _, _, .tup _ r, h => by
    cases h with
    | tup h1 r1 => exact .tup (x _ _ h1) (Reps.pull x r r1)
  | _, _, _, .scr _, h => by
    cases h with
    | scr h1 => exact .scr (Evl.ex_l x h1)
  | _, _, _, .ref (i := i) hp, h => by
    cases h with
    | ref h1 =>
      rw [List.getElem?_append_left] at h1
      · exact .ref h1
      · rcases Nat.lt_or_ge i φ.length with q | q
        · exact q
        · rw [List.getElem?_eq_none q] at hp
          cases hp
  | _, _, _, .adr, h => by cases h; exact .adr
  | _, _, _, .rng _, h => by
    cases h with
    | rng h1 => exact .rng (x _ _ h1)
theorem Reps.pull {F' F'' : Hp} {ψ : List Addr} (x : Ex F' F'') : ∀ {vs vs' : List V} {ts : List T}, Reps K F φ vs ts → Reps K F' (φ ++ ψ) vs' ts → Reps K F'' φ vs' ts
  | _, _, _, .nil, h => by cases h; exact .nil
  | _, _, _, .cons a r, h => by
    cases h with
    | cons a1 r1 => exact .cons (Rep.pull x a a1) (Reps.pull x r r1)
end
/-- behind a def whose own cells stand still: the caller's cells are as they were -/
theorem Hr.frz {F' H' : Hp} {φ' : List Addr} {s' : Sto} (r0 : Hr K cls N F H φ s) (r : Hr K cls N F' H' φ' s') (u : Up F φ F' φ') (hp : s <+: s') : Hr K cls N (frzF F' H' φ' s.length) H' φ s ∧ Up F φ (frzF F' H' φ' s.length) φ := by
  obtain ⟨l, rfl⟩ := hp
  obtain ⟨ψ, rfl⟩ := u.pre
  have x0 : Ex F (frzF F' H' (φ ++ ψ) s.length) := u.ex.trans frz_ex
  refine ⟨⟨r.xN, frz_H r.sub, fun a h => frz_no (r.nF a h) fun i _ z => h ((r.out i a z).1), r0.len, fun i c p hc hp => ?_, fun i p h => ?_, r0.inj⟩, ⟨x0, List.prefix_refl _⟩⟩
  · have hi : i < s.length := by
      rcases Nat.lt_or_ge i s.length with q | q
      · exact q
      · rw [List.getElem?_eq_none q] at hc
        cases hc
    have hp' : (φ ++ ψ)[i]? = some p := by
      rw [List.getElem?_append_left (by rw [r0.len]; exact hi)]
      exact hp
    have hc' := r.cell i c p (by rw [List.getElem?_append_left hi]; exact hc) hp'
    -- what the cell holds stood there before
    have h0 := r0.cell i c p hc hp
    cases c with
    | l ts =>
      obtain ⟨vs, g1, g2⟩ := hc'
      obtain ⟨vs0, _, g3⟩ := h0
      exact ⟨vs, g1, g3.pull frz_ex g2⟩
    | o c fs =>
      obtain ⟨C, dx, vfs, k1, k2, k3, k4⟩ := hc'
      obtain ⟨C0, dx0, vfs0, l1, l2, l3, l4⟩ := h0
      exact ⟨C, dx, vfs, k1, k2, k3, l4.pull frz_ex k4⟩
    | x c => exact hc'
  · have hi : i < s.length := by
      rw [← r0.len]
      rcases Nat.lt_or_ge i φ.length with q | q
      · exact q
      · rw [List.getElem?_eq_none q] at h
        cases h
    have hp' : (φ ++ ψ)[i]? = some p := by
      rw [List.getElem?_append_left (by rw [r0.len]; exact hi)]
      exact h
    refine ⟨(r.out i p hp').1, frz_no (r.out i p hp').2 fun j hj z => ?_⟩
    have := r.inj i j p hp' z
    omega
/-- THE END of a def whose own cells stand still -/
theorem PoF.finP {t : T} {s' : Sto} {Q : VK} {E : XK} {v : V} {F' H' : Hp} {φ' : List Addr} (r0 : Hr K cls N F H φ s) (r : Hr K cls N F' H' φ' s') (u : Up F φ F' φ') (rp : Rep K F' φ' v t) (q : PoF K cls N F φ Q E (finP s t s')) : Q v H' := by
  unfold Sr.finP at q
  by_cases hp : s <+: s'
  · rw [if_pos hp] at q
    cases hr : rs 9 s.length s' t with
    | none =>
      rw [hr] at q
      exact q.elim
    | some t' =>
      rw [hr] at q
      obtain ⟨f, u'⟩ := r0.frz r u hp
      refine q v _ φ H' f u' ?_
      have k := rs_frz r 9 v t t' rp hr
      obtain ⟨ψ, rfl⟩ := u.pre
      rw [← r0.len, List.take_left] at k
      rw [← r0.len]
      exact k
  · rw [if_neg hp] at q
    exact q.elim
theorem PoF.finX {c : Nat} {s' : Sto} {Q : VK} {E : XK} {F' H' : Hp} {φ' : List Addr} (r0 : Hr K cls N F H φ s) (r : Hr K cls N F' H' φ' s') (u : Up F φ F' φ') (q : PoF K cls N F φ Q E (finX s c s')) : E (cls c) none H' := by
  unfold Sr.finX at q
  by_cases hp : s <+: s'
  · rw [if_pos hp] at q
    obtain ⟨f, u'⟩ := r0.frz r u hp
    exact q _ φ H' f u'
  · rw [if_neg hp] at q
    exact q.elim
end
abbrev W0 : WX := fun _ _ _ _ => False
end Sr

namespace Sr
open PySem PySem.Spec PyProof.Rows L2
open Evl (Ex)

/-! ### syntax with its reading and what it does -/
structure XE (X : Cx) (K : PySem.W.Frag) (cls : Nat → Value) (W : WX) (ex : Expr) (t : TE) (d : EM) : Prop where
  p : PE X ex t
  s : SE ⟨K, cls, W⟩ t d
  k : X.K = K
structure XT (X : Cx) (K : PySem.W.Frag) (cls : Nat → Value) (W : WX) (ex : Expr) (t : TT) (d : M Bool) : Prop where
  p : PT X ex t
  s : ST ⟨K, cls, W⟩ t d
  k : X.K = K
structure XW (X : Cx) (K : PySem.W.Frag) (cls : Nat → Value) (W : WX) (ex : Expr) (t : TT) (d : M Bool) : Prop where
  p : PW X ex t
  s : ST ⟨K, cls, W⟩ t d
  k : X.K = K
structure XA (X : Cx) (K : PySem.W.Frag) (cls : Nat → Value) (W : WX) (es : List Expr) (t : TA) (as : List EM) : Prop where
  p : PA X es t
  s : SA ⟨K, cls, W⟩ t (dArgs as)
  k : X.K = K
structure XO (X : Cx) (K : PySem.W.Frag) (cls : Nat → Value) (W : WX) (ex : Option Expr) (t : TO) (d : M (Option Int)) : Prop where
  p : PO X ex t
  s : SO ⟨K, cls, W⟩ t d
  k : X.K = K
structure XI (X : Cx) (K : PySem.W.Frag) (cls : Nat → Value) (W : WX) (tg ex : Expr) (t : TI) (d : M (List T × Ks)) : Prop where
  p : PI X tg ex t
  s : SI ⟨K, cls, W⟩ t d
  k : X.K = K
structure XG (X : Cx) (K : PySem.W.Frag) (cls : Nat → Value) (W : WX) (ex : Expr) (t : TG) (d : GM) : Prop where
  p : PG X ex t
  s : SG ⟨K, cls, W⟩ t d
  k : X.K = K
structure XGs (X : Cx) (K : PySem.W.Frag) (cls : Nat → Value) (W : WX) (es : List Expr) (t : TGs) (d : List T → M Unit) : Prop where
  p : PGs X es t
  s : SGs ⟨K, cls, W⟩ t d
  k : X.K = K
structure XTs (X : Cx) (K : PySem.W.Frag) (cls : Nat → Value) (W : WX) (es : List Expr) (t : TT) (d : M Bool) : Prop where
  p : PTs X es t
  s : ST ⟨K, cls, W⟩ t d
  k : X.K = K
structure XS (X : Cx) (K : PySem.W.Frag) (cls : Nat → Value) (W : WX) (st : Stmt) (t : TS) (d : SM) : Prop where
  p : PS X st t
  s : SS ⟨K, cls, W⟩ t d
  k : X.K = K
structure XSs (X : Cx) (K : PySem.W.Frag) (cls : Nat → Value) (W : WX) (st : List Stmt) (t : TS) (d : SM) : Prop where
  p : PSs X st t
  s : SS ⟨K, cls, W⟩ t d
  k : X.K = K

section
variable {X : Cx} {K : PySem.W.Frag} {cls : Nat → Value} {W : WX} {a b c e : Expr} {es : List Expr} {ta tb tc te : TE} {da db dc d : EM} {pos p p2 : Pos}
theorem xv (i : Nat) {x : Str} (hN : X.N[i]? = some x := by rfl) (hv : Vis X.env.scope x := by first | exact Or.inl rfl | exact Or.inr (Or.inl rfl) | exact Or.inr (Or.inr rfl)) (hd : (x == ("__debug__" : Str)) = false := by decide)
    (hcd : (x == ("__classdict__" : Str)) = false := by decide) (hk : X.K = K := by rfl) : XE X K cls W (.Name x pos) (tVar i) (dVar i) := by
  cases hk
  exact ⟨pe_var hN hv hd hcd, se_var, rfl⟩
theorem xint {i : Int} {j} (hk : X.K = K := by rfl) : XE X K cls W (.Constant (.int i) j pos) (tC (.int i)) (dC (.int i)) := by
  cases hk
  exact ⟨pe_int, se_c fun _ _ => .int, rfl⟩
theorem xbl {i : Bool} {j} (hk : X.K = K := by rfl) : XE X K cls W (.Constant (.bool i) j pos) (tC (.bl i)) (dC (.bl i)) := by
  cases hk
  exact ⟨pe_bl, se_c fun _ _ => .bl, rfl⟩
theorem xnon {j} (hk : X.K = K := by rfl) : XE X K cls W (.Constant .none j pos) (tC .non) (dC .non) := by
  cases hk
  exact ⟨pe_non, se_c fun _ _ => .non, rfl⟩
theorem xstr {x : Str} {j} (hk : X.K = K := by rfl) : XE X K cls W (.Constant (.str x) j pos) (tC (.str x)) (dC (.str x)) := by
  cases hk
  exact ⟨pe_str, se_c fun _ _ => .str, rfl⟩
theorem xadd {m : Bool} (ha : XE X K cls W a ta da) (hb : XE X K cls W b tb db) : XE X K cls W (.BinOp a .Add b pos) (tOp rAdd3 ta tb) (dOp m tAdd da db) := by
  cases ha.k
  exact ⟨pe_op op_add3 ha.p hb.p, se_op os_add ha.s hb.s, rfl⟩
theorem xsub (ha : XE X K cls W a ta da) (hb : XE X K cls W b tb db) : XE X K cls W (.BinOp a .Sub b pos) (tOp (rI0 fun i j => .int (i - j)) ta tb) (dOp false tSub da db) := by
  cases ha.k
  exact ⟨pe_op op_sub ha.p hb.p, se_op os_sub ha.s hb.s, rfl⟩
theorem xmul {m : Bool} (ha : XE X K cls W a ta da) (hb : XE X K cls W b tb db) : XE X K cls W (.BinOp a .Mult b pos) (tOp rMul2 ta tb) (dOp m tMul da db) := by
  cases ha.k
  exact ⟨pe_op op_mul2 ha.p hb.p, se_op os_mul ha.s hb.s, rfl⟩
theorem xfdiv (hp : Pyl X) (ha : XE X K cls W a ta da) (hb : XE X K cls W b tb db) : XE X K cls W (.BinOp a .FloorDiv b pos) (tOp (rI CDivX fun i j => .int (i.fdiv j)) ta tb) (dOp false tFdiv da db) := by
  cases ha.k
  exact ⟨pe_op (op_fdivX hp) ha.p hb.p, se_op os_fdiv ha.s hb.s, rfl⟩
theorem xmod (ha : XE X K cls W a ta da) (hb : XE X K cls W b tb db) : XE X K cls W (.BinOp a .Mod b pos) (tOp (rI (fun _ j => j ≠ 0) fun i j => .int (i.fmod j)) ta tb) (dOp false tMod da db) := by
  cases ha.k
  exact ⟨pe_op op_modN ha.p hb.p, se_op os_mod ha.s hb.s, rfl⟩
theorem xpow (ha : XE X K cls W a ta da) (hb : XE X K cls W b tb db) : XE X K cls W (.BinOp a .Pow b pos) (tOp (rI CPow fun i j => .int (i ^ j.toNat)) ta tb) (dOp false tPow da db) := by
  cases ha.k
  exact ⟨pe_op op_pow ha.p hb.p, se_op os_pow ha.s hb.s, rfl⟩
theorem xneg (ha : XE X K cls W a ta da) : XE X K cls W (.UnaryOp .USub a pos) (tUn (rU fun i => .int (-i)) ta) (dUn tNegI da) := by
  cases ha.k
  exact ⟨pe_un un_neg ha.p, se_un us_neg ha.s, rfl⟩
theorem xlt (ha : XE X K cls W a ta da) (hb : XE X K cls W b tb db) : XE X K cls W (.Compare a [.Lt] [b] pos) (tOp (rI0 fun i j => .bl (decide (i < j))) ta tb) (dOp false tLt da db) := by
  cases ha.k
  exact ⟨pe_cmpR op_lt ha.p hb.p (nomark _), se_op os_lt ha.s hb.s, rfl⟩
theorem xle (ha : XE X K cls W a ta da) (hb : XE X K cls W b tb db) : XE X K cls W (.Compare a [.LtE] [b] pos) (tOp (rI0 fun i j => .bl (decide (i ≤ j))) ta tb) (dOp false tLe da db) := by
  cases ha.k
  exact ⟨pe_cmpR op_le ha.p hb.p (nomark _), se_op os_le ha.s hb.s, rfl⟩
theorem xgt (ha : XE X K cls W a ta da) (hb : XE X K cls W b tb db) : XE X K cls W (.Compare a [.Gt] [b] pos) (tOp (rI0 fun i j => .bl (decide (i > j))) ta tb) (dOp false tGt da db) := by
  cases ha.k
  exact ⟨pe_cmpR op_gt ha.p hb.p (nomark _), se_op os_gt ha.s hb.s, rfl⟩
theorem xge (ha : XE X K cls W a ta da) (hb : XE X K cls W b tb db) : XE X K cls W (.Compare a [.GtE] [b] pos) (tOp (rI0 fun i j => .bl (decide (i ≥ j))) ta tb) (dOp false tGe da db) := by
  cases ha.k
  exact ⟨pe_cmpR op_ge ha.p hb.p (nomark _), se_op os_ge ha.s hb.s, rfl⟩
theorem xeq (hu : X.A.units + 64 < cLine) (ha : XE X K cls W a ta da) (hb : XE X K cls W b tb db) : XE X K cls W (.Compare a [.Eq] [b] pos) (tOp (rEqD K) ta tb) (dEq tEq da db) := by
  cases ha.k
  exact ⟨pe_cmpR (op_eqD hu) ha.p hb.p (nomark _), se_eqE ha.s hb.s, rfl⟩
theorem xne (hu : X.A.units + 64 < cLine) (ha : XE X K cls W a ta da) (hb : XE X K cls W b tb db) : XE X K cls W (.Compare a [.NotEq] [b] pos) (tOp (rNeD K) ta tb) (dEq tNe da db) := by
  cases ha.k
  exact ⟨pe_cmpR (op_neD hu) ha.p hb.p (nomark _), se_neE ha.s hb.s, rfl⟩
theorem ylt (ha : XE X K cls W a ta da) (hb : XE X K cls W b tb db) : XT X K cls W (.Compare a [.Lt] [b] pos) (tTest (tOp (rI0 fun i j => .bl (decide (i < j))) ta tb)) (dTest (dOp false tLt da db)) := by
  cases ha.k
  exact ⟨pt_cmpR op_lt ha.p hb.p (nomark _), st_test (se_op os_lt ha.s hb.s), rfl⟩
theorem yle (ha : XE X K cls W a ta da) (hb : XE X K cls W b tb db) : XT X K cls W (.Compare a [.LtE] [b] pos) (tTest (tOp (rI0 fun i j => .bl (decide (i ≤ j))) ta tb)) (dTest (dOp false tLe da db)) := by
  cases ha.k
  exact ⟨pt_cmpR op_le ha.p hb.p (nomark _), st_test (se_op os_le ha.s hb.s), rfl⟩
theorem ygt (ha : XE X K cls W a ta da) (hb : XE X K cls W b tb db) : XT X K cls W (.Compare a [.Gt] [b] pos) (tTest (tOp (rI0 fun i j => .bl (decide (i > j))) ta tb)) (dTest (dOp false tGt da db)) := by
  cases ha.k
  exact ⟨pt_cmpR op_gt ha.p hb.p (nomark _), st_test (se_op os_gt ha.s hb.s), rfl⟩
theorem yge (ha : XE X K cls W a ta da) (hb : XE X K cls W b tb db) : XT X K cls W (.Compare a [.GtE] [b] pos) (tTest (tOp (rI0 fun i j => .bl (decide (i ≥ j))) ta tb)) (dTest (dOp false tGe da db)) := by
  cases ha.k
  exact ⟨pt_cmpR op_ge ha.p hb.p (nomark _), st_test (se_op os_ge ha.s hb.s), rfl⟩
theorem yeq (hu : X.A.units + 64 < cLine) (ha : XE X K cls W a ta da) (hb : XE X K cls W b tb db) : XT X K cls W (.Compare a [.Eq] [b] pos) (tTest (tOp (rEqD K) ta tb)) (dTest (dEq tEq da db)) := by
  cases ha.k
  exact ⟨pt_cmpR (op_eqD hu) ha.p hb.p (nomark _), st_test (se_eqE ha.s hb.s), rfl⟩
theorem yne (hu : X.A.units + 64 < cLine) (ha : XE X K cls W a ta da) (hb : XE X K cls W b tb db) : XT X K cls W (.Compare a [.NotEq] [b] pos) (tTest (tOp (rNeD K) ta tb)) (dTest (dEq tNe da db)) := by
  cases ha.k
  exact ⟨pt_cmpR (op_neD hu) ha.p hb.p (nomark _), st_test (se_neE ha.s hb.s), rfl⟩
/-- any other expression as a test, by its truth -/
theorem ytru (ha : XE X K cls W a ta da) (he : ∀ whole, isTrue a X.env whole = (do let v ← whole; standAt a.pos; holding [v] (truthy v)) := by intro _; rfl) : XT X K cls W a (fun σ H Q => ta σ H fun x H' => ∃ k, TruV K x H' k ∧ Q k H') (dTruth da) := by
  cases ha.k
  exact ⟨pt_truth ha.p he, st_truth ha.s, rfl⟩
theorem ynot {t : TT} {dt : M Bool} (h : XT X K cls W a t dt) : XT X K cls W (.UnaryOp .Not a pos) (tNot t) (dNotT dt) := by
  cases h.k
  exact ⟨pt_not h.p, st_not h.s, rfl⟩
theorem yw {t : TT} {dt : M Bool} (h : XW X K cls W a t dt) : XT X K cls W a t dt := by
  cases h.k
  exact ⟨h.p.pt, h.s, rfl⟩
theorem wand1 {t : TT} {dt : M Bool} (h : XT X K cls W a t dt) : XW X K cls W (.BoolOp .And [a] pos) t dt := by
  cases h.k
  exact ⟨pw_and1 h.p, h.s, rfl⟩
theorem wor1 {t : TT} {dt : M Bool} (h : XT X K cls W a t dt) : XW X K cls W (.BoolOp .Or [a] pos) t dt := by
  cases h.k
  exact ⟨pw_or1 h.p, h.s, rfl⟩
theorem wand {t u : TT} {dt du : M Bool} (h : XT X K cls W a t dt) (k : XW X K cls W (.BoolOp .And (b :: es) pos) u du) : XW X K cls W (.BoolOp .And (a :: b :: es) pos) (tAnd t u) (dAndT dt du) := by
  cases h.k
  exact ⟨pw_and h.p k.p, st_and h.s k.s, rfl⟩
theorem wor {t u : TT} {dt du : M Bool} (h : XT X K cls W a t dt) (k : XW X K cls W (.BoolOp .Or (b :: es) pos) u du) : XW X K cls W (.BoolOp .Or (a :: b :: es) pos) (tOr t u) (dOrT dt du) := by
  cases h.k
  exact ⟨pw_or h.p k.p, st_or h.s k.s, rfl⟩
theorem xone {op : BoolOp} (ha : XE X K cls W a ta da) : XE X K cls W (.BoolOp op [a] pos) ta da := by
  cases ha.k
  exact ⟨pe_one ha.p, ha.s, rfl⟩
theorem xand (ha : XE X K cls W a ta da) (hb : XE X K cls W (.BoolOp .And (b :: es) pos) tb db) : XE X K cls W (.BoolOp .And (a :: b :: es) pos) (tAndV ta tb) (dAndV da db) := by
  cases ha.k
  exact ⟨pe_and ha.p hb.p, se_andV ha.s hb.s, rfl⟩
theorem xor (ha : XE X K cls W a ta da) (hb : XE X K cls W (.BoolOp .Or (b :: es) pos) tb db) : XE X K cls W (.BoolOp .Or (a :: b :: es) pos) (tOrV ta tb) (dOrV da db) := by
  cases ha.k
  exact ⟨pe_or ha.p hb.p, se_orV ha.s hb.s, rfl⟩
theorem xnot (ha : XE X K cls W a ta da) : XE X K cls W (.UnaryOp .Not a pos) (tNotV ta) (dNotV da) := by
  cases ha.k
  exact ⟨pe_not ha.p, se_notV ha.s, rfl⟩
theorem xif {t : TT} {dt : M Bool} (h : XT X K cls W c t dt) (ha : XE X K cls W a ta da) (hb : XE X K cls W b tb db) : XE X K cls W (.IfExp c a b pos) (tIf t ta tb) (dIfE dt da db) := by
  cases h.k
  exact ⟨pe_ifExp h.p ha.p hb.p, se_ifE h.s ha.s hb.s, rfl⟩
theorem xix (ha : XE X K cls W a ta da) (hb : XE X K cls W b tb db) (hs : PlainIx b := by exact fun _ _ => rfl) : XE X K cls W (.Subscript a b pos) (tOp (rIx K) ta tb) (dOp false tIx da db) := by
  cases ha.k
  exact ⟨pe_ix ix_seq ha.p hb.p hs, se_op os_ix ha.s hb.s, rfl⟩
theorem anil (hk : X.K = K := by rfl) : XA X K cls W [] tNil [] := by
  cases hk
  exact ⟨pa_nil, sa_nil, rfl⟩
theorem acons {t : TA} {as : List EM} (ha : XE X K cls W e te d) (hr : XA X K cls W es t as) (hs : starEach (e :: es) X.env = (false, eval e X.env) :: starEach es X.env := by rfl) : XA X K cls W (e :: es) (tCons te t) (d :: as) := by
  cases ha.k
  exact ⟨pa_cons ha.p hr.p hs, sa_cons ha.s hr.s, rfl⟩
theorem xtup {t : TA} {as : List EM} {k} (h : XA X K cls W es t as) (hl : as.length ≤ 1000 := by exact Nat.le_of_ble_eq_true rfl) : XE X K cls W (.Tuple es k pos) (tTup t) (dTup as) := by
  cases h.k
  exact ⟨pe_tup h.p, se_tup h.s hl, rfl⟩
theorem xlst {m : Bool} {t : TA} {as : List EM} (h : XA X K cls W es t as) (hl : as.length ≤ 1000 := by exact Nat.le_of_ble_eq_true rfl) : XE X K cls W (.List es pos) (tLst t) (dLst m as) := by
  cases h.k
  exact ⟨pe_lst h.p, se_lst h.s hl, rfl⟩
/-! built-ins -/
theorem xb {m : Bool} {x : Str} {id : String} {r : List V → Hp → VK → Prop} {f : List T → Option O} {t : TA} {as : List EM} (hc : CallR X (.builtin id) r) (hf : BS ⟨K, cls, W⟩ r f) (hm : X.mg x = none) (ha : XA X K cls W (e :: es) t as) (hg : Gl X x := by rfl) (hv : bootBuiltins x = some (.builtin id) := by decide +kernel) (hn : x ≠ "__name__" := by decide) (hdb : (x == ("__debug__" : Str)) = false := by decide)
    (he : starEach (e :: es) X.env = (false, eval e X.env) :: starEach es X.env := by rfl) (hpl : (backTo pos (starEach es X.env)).any (·.1) = false := by rfl) : XE X K cls W (.Call (.Name x p) (e :: es) [] pos) (tCB r t) (dB m f as) := by
  cases ha.k
  exact ⟨pe_callB hc hg hm hv ha.p hn hdb he hpl, se_b hf ha.s, rfl⟩
theorem xbT {m : Bool} {x : Str} {id : String} {r : List V → Hp → VK → Prop} {f : List T → Option O} {t : TA} {as : List EM} (hc : CallR X (.type id) r) (hf : BS ⟨K, cls, W⟩ r f) (hm : X.mg x = none) (ha : XA X K cls W (e :: es) t as) (hg : Gl X x := by rfl) (hv : bootBuiltins x = some (.type id) := by decide +kernel) (hn : x ≠ "__name__" := by decide) (hdb : (x == ("__debug__" : Str)) = false := by decide)
    (he : starEach (e :: es) X.env = (false, eval e X.env) :: starEach es X.env := by rfl) (hpl : (backTo pos (starEach es X.env)).any (·.1) = false := by rfl) : XE X K cls W (.Call (.Name x p) (e :: es) [] pos) (tCB r t) (dB m f as) := by
  cases ha.k
  exact ⟨pe_callTy hc hg hm hv ha.p hn hdb he hpl, se_b hf ha.s, rfl⟩
/-- isinstance(x, T), T a built-in type by its name -/
theorem xis {tn : Str} {s : String} (hm : X.mg "isinstance" = none) (hmt : X.mg tn = none) (ha : XE X K cls W a ta da) (hg : Gl X "isinstance" := by rfl) (hgt : Gl X tn := by rfl) (hv : bootBuiltins tn = some (.type s) := by decide +kernel) (hn : tn ≠ "__name__" := by decide) (hd : (tn == ("__debug__" : Str)) = false := by decide)
    (he : starEach [a, .Name tn p2] X.env = (false, eval a X.env) :: starEach [.Name tn p2] X.env := by rfl) (hs2 : starEach [.Name tn p2] X.env = (false, eval (.Name tn p2) X.env) :: starEach [] X.env := by rfl) (hpl : (backTo pos (starEach [.Name tn p2] X.env)).any (·.1) = false := by rfl) (hb : bootBuiltins "isinstance" = some (.builtin "isinstance") := by decide +kernel) :
    XE X K cls W (.Call (.Name "isinstance" p) [a, .Name tn p2] [] pos) (tCB (rIsi K) (tCons ta (tCons (tC (.ty s)) tNil))) (dUn (isB s) da) := by
  cases ha.k
  exact ⟨pe_callB call_isi hg hm hb (pa_cons ha.p (pa_cons (pe_bltn hgt hmt hv rfl hn hd) pa_nil hs2) he) (by decide) (by decide) he hpl, se_is ha.s, rfl⟩
theorem irng1 {tg : Expr} {t : TA} {as : List EM} (hm : X.mg "range" = none) (ha : XA X K cls W [a] t as) (hg : Gl X "range" := by rfl) (hs : starEach [a] X.env = [(false, eval a X.env)] := by rfl) : XI X K cls W tg (.Call (.Name "range" p) [a] [] pos) (iRng1 t) (dItA rng1 as) := by
  cases ha.k
  exact ⟨pi_range1 hg hm ha.p hs, si_rng1 ha.s, rfl⟩
theorem irng2 {tg : Expr} {t : TA} {as : List EM} (hm : X.mg "range" = none) (ha : XA X K cls W [a, b] t as) (hg : Gl X "range" := by rfl) (hs : starEach [a, b] X.env = [(false, eval a X.env), (false, eval b X.env)] := by rfl) (hs2 : starEach [b] X.env = [(false, eval b X.env)] := by rfl) :
    XI X K cls W tg (.Call (.Name "range" p) [a, b] [] pos) (iRng2 t) (dItA rng2 as) := by
  cases ha.k
  exact ⟨pi_range2 hg hm ha.p hs hs2, si_rng2 ha.s, rfl⟩
theorem izip {t : TA} {as : List EM} {elts : List Expr} {kk : Nat} {tpos : Pos} (hm : X.mg "zip" = none) (ha : XA X K cls W [a, b] t as) (hg : Gl X "zip" := by rfl) (hs : starEach [a, b] X.env = (false, eval a X.env) :: starEach [b] X.env := by rfl) (hpl : (backTo pos (starEach [b] X.env)).any (·.1) = false := by rfl) :
    XI X K cls W (.Tuple elts kk tpos) (.Call (.Name "zip" p) [a, b] [] pos) (iZip K t) (dItA zip2 as) := by
  cases ha.k
  exact ⟨pi_zip hg hm ha.p hs hpl, si_zip ha.s, rfl⟩
theorem ienum {t : TA} {as : List EM} {elts : List Expr} {kk : Nat} {tpos : Pos} (hm : X.mg "enumerate" = none) (ha : XA X K cls W [a] t as) (hg : Gl X "enumerate" := by rfl) (hs : starEach [a] X.env = [(false, eval a X.env)] := by rfl) :
    XI X K cls W (.Tuple elts kk tpos) (.Call (.Name "enumerate" p) [a] [] pos) (iEnum K t) (dItA enum1 as) := by
  cases ha.k
  exact ⟨pi_enum hg hm ha.p hs, si_enum ha.s, rfl⟩
/-! slices -/
theorem ono (hk : X.K = K := by rfl) : XO X K cls W none tNoPart (fun e s => .ok none e s) := by
  cases hk
  exact ⟨po_none, fun N F H φ e s σ r Q q => q none F φ H r (Up.refl _ _) rfl, rfl⟩
@[simp] def dPart (d : EM) : M (Option Int) := fun e s => (M.bind d fun x => match x with
  | .int i => M.pure (some i)
  | _ => M.bad) e s
theorem osm (ha : XE X K cls W a ta da) : XO X K cls W (some a) (tPart ta) (dPart da) := by
  cases ha.k
  exact ⟨po_some ha.p, fun N F H φ e s σ rl Q q => by
    refine ha.s.go (g := fun x => match x with | .int i => M.pure (some i) | _ => M.bad) rl Po.pk q fun v x F1 φ1 H1 e1 s1 r1 u1 rp q1 => ?_
    cases rp with
    | int => exact ⟨_, rfl, q1 _ F1 φ1 H1 r1 (Up.refl _ _) rfl⟩
    | _ => exact q1.elim, rfl⟩
@[simp] def dSlc (m : Bool) (a : EM) (lo hi : M (Option Int)) : EM := fun e s => (M.bind a fun x => M.bind lo fun l => M.bind hi fun u => fun e s => lift m (tSlc (vw s x) l u) e s) e s
theorem xslc {m : Bool} {tl th : TO} {dl dh : M (Option Int)} {lo hi : Option Expr} (ha : XE X K cls W a ta da) (hl : XO X K cls W lo tl dl) (hh : XO X K cls W hi th dh) : XE X K cls W (.Subscript a (.Slice lo hi none p2) pos) (tSl (rSlL K) ta tl th) (dSlc m da dl dh) := by
  cases ha.k
  exact ⟨pe_slice sl_list ha.p hl.p hh.p, fun N F H φ e s σ rl Q q => by
      refine ha.s.go rl Po.pk q fun v x F1 φ1 H1 e1 s1 r1 u1 rp q1 => ?_
      refine hl.s.go r1 Po.pk q1 fun l l' F2 φ2 H2 e2 s2 r2 u2 rl2 q2 => ?_
      subst rl2
      refine hh.s.go r2 Po.pk q2 fun u u' F3 φ3 H3 e3 s3 r3 u3 ru3 q3 => ?_
      subst ru3
      obtain ⟨z, hz, pv⟩ := lift_of r3 q3
      exact os_slc r3.hr.sub (r3.hr.view (rp.mono (u2.trans u3))) hz pv, rfl⟩
theorem iit {tg : Expr} (ha : XE X K cls W a ta da) : XI X K cls W tg a (iSeq K ta) (dIt da) := by
  cases ha.k
  refine ⟨⟨fun pins s σ H R I h => thn (ha.p.run pins s σ H _ I h) fun v s1 hv => ?_⟩, si_it ha.s, rfl⟩
  obtain ⟨x, H1, J, rv, ad, rfl, h1⟩ := hv
  cases rv
  have new : ∀ bb ∈ [s1.heap.objs.size], FpOk X pins H1 bb := fun bb hb => by
    rw [List.mem_singleton.mp hb]
    exact J.fpOk (Nat.le_refl _) (J.hok.fresh (Nat.le_refl _))
  rcases h1 with ⟨⟨zs, hz⟩, h1⟩ | ⟨⟨zs, hz⟩, h1⟩
  · obtain ⟨its, _, pl, _⟩ := J.list hz
    exact wpAny_pyIter_list pl.isList ⟨_, [s1.heap.objs.size], _, Itl X.K ad, H1, rfl, J.kept (t' := s1.toks) fun _ _ q => Heap.get?_push_of_some _ q, turn_list ad _, ⟨_, Heap.get?_push_size _ rfl, rfl, rfl⟩, new, h1⟩
  · obtain ⟨its, _, pl, _⟩ := J.tuple hz
    exact wpAny_pyIter_tuple pl ⟨_, [s1.heap.objs.size], _, Itt X.K ad, H1, rfl, J.kept (t' := s1.toks) fun _ _ q => Heap.get?_push_of_some _ q, turn_tuple ad _, ⟨_, Heap.get?_push_size _ rfl, rfl, rfl⟩, new, h1⟩
theorem irev {tg : Expr} {t : TA} {as : List EM} (hm : X.mg "reversed" = none) (ha : XA X K cls W [a] t as) (hg : Gl X "reversed" := by rfl) (hs : starEach [a] X.env = [(false, eval a X.env)] := by rfl) : XI X K cls W tg (.Call (.Name "reversed" p) [a] [] pos) (iRev K t) (dItA rev1 as) := by
  cases ha.k
  exact ⟨pi_reversed hg hm ha.p hs, si_rev ha.s, rfl⟩
/-! targets -/
theorem gname (i : Nat) {x : Str} (hN : X.N.Nodup) (hi : X.N[i]? = some x := by rfl) (hx : Loc X.env.scope x := by first | exact Or.inl rfl | exact Or.inr rfl) (hf : X.fn x = true ∨ X.env.scope.names.lookup x = some .local := by first | exact .inl rfl | exact .inr rfl | assumption) (hk : X.K = K := by rfl) : XG X K cls W (.Name x pos) (gName i) (gN i) := by
  cases hk
  exact ⟨pg_name hN hi hx hf, sg_name, rfl⟩
theorem gsnil (hk : X.K = K := by rfl) : XGs X K cls W [] gNil gNils := by
  cases hk
  exact ⟨pgs_nil, sgs_nil, rfl⟩
theorem gscons {i : Nat} {r : TGs} {dr : List T → M Unit} (ha : XG X K cls W a (gName i) (gN i)) (hr : XGs X K cls W es r dr)
    (hs : (assignEach (a :: es) X.env).map (fun z => z.2) = assign a X.env :: (assignEach es X.env).map (fun z => z.2) := by rfl) : XGs X K cls W (a :: es) (gCons (gName i) r) (gCon (gN i) dr) := by
  cases ha.k
  exact ⟨pgs_cons ha.p hr.p hs, sgs_cons ha.s hr.s fun t e s c e' s' h => (by cases h), rfl⟩
theorem gtup {k : Nat} {t : TGs} {n : Nat} {dr : List T → M Unit} (hc : X.calm = true) (h : XGs X K cls W es t dr) (hn : (assignEach es X.env).length = n := by rfl) (hst : (assignEach es X.env).findIdx? (·.1) = none := by rfl) : XG X K cls W (.Tuple es k pos) (gSeq K n t) (gT n dr) := by
  cases h.k
  exact ⟨pg_seq hc h.p hn hst, sg_tup h.s, rfl⟩
/-! comprehensions -/
theorem tsnil (hk : X.K = K := by rfl) : XTs X K cls W [] tYes dYes := by
  cases hk
  exact ⟨pts_nil, fun N F H φ e s σ r Q q => q true F φ H r (Up.refl _ _) rfl, rfl⟩
theorem tsone {t : TT} {dt : M Bool} (h : XT X K cls W a t dt) : XTs X K cls W [a] t dt := by
  cases h.k
  exact ⟨pts_one h.p, h.s, rfl⟩
theorem xlc {m : Bool} {elt tg iter : Expr} {ifs : List Expr} {scope : Scope} (own : List (Str × Nat)) {wi : TI} {g : TG} {tt : TT} {te : TE} {di : M (List T × Ks)} {dg : GM} {dt : M Bool} {de : EM} (hc : X.calm = true) (hN : X.N.Nodup) (hi : XI X K cls W tg iter wi di) (ok : BlkOk X.N X.env.scope scope own)
    (ow : OwnG (own.map (·.2)) g)
    (hg : ∀ (s : Shared) (H : Hp) (C : Addr) (cl : List (Str × Addr)) (fp : List Addr), XG (X.blk s H scope (compEnvC scope cl C X.env) fp) K cls W0 tg g dg)
    (ht : ∀ (s : Shared) (H : Hp) (C : Addr) (cl : List (Str × Addr)) (fp : List Addr), XTs (X.blk s H scope (compEnvC scope cl C X.env) fp) K cls W0 ifs tt dt)
    (he : ∀ (s : Shared) (H : Hp) (C : Addr) (cl : List (Str × Addr)) (fp : List Addr), XE (X.blk s H scope (compEnvC scope cl C X.env) fp) K cls W0 elt te de) (hs : ∀ x, foldedSetIterable iter X.env x = pure x := by intro _; rfl) :
    XE X K cls W (.ListComp elt [⟨tg, iter, ifs, 0⟩] scope pos) (tLc wi g tt te (own.map (·.2))) (dLc m di (own.map (·.2)) dg dt de) := by
  cases hi.k
  exact ⟨pe_lc hc hN hi.p ok (fun s H C cl fp => (hg s H C cl fp).p) (fun s H C cl fp => (ht s H C cl fp).p) (fun s H C cl fp => (he s H C cl fp).p) hs,
     se_lc hi.s ow (hg {} (fun _ => none) 0 [] []).s (ht {} (fun _ => none) 0 [] []).s (he {} (fun _ => none) 0 [] []).s, rfl⟩
/-! statements -/
theorem snil (hk : X.K = K := by rfl) : XSs X K cls W [] tNext dSkip := by
  cases hk
  exact ⟨pss_nil, ss_next, rfl⟩
theorem scons {st : Stmt} {rest : List Stmt} {t u : TS} {ds dr : SM} (h : XS X K cls W st t ds) (k : XSs X K cls W rest u dr) : XSs X K cls W (st :: rest) (tSeq t u) (dSeq ds dr) := by
  cases h.k
  exact ⟨pss_cons h.p k.p, ss_seq h.s k.s, rfl⟩
theorem sone {st : Stmt} {t : TS} {ds : SM} (h : XS X K cls W st t ds) : XSs X K cls W [st] t ds := by
  cases h.k
  exact ⟨pss_one h.p, h.s, rfl⟩
theorem snever {st : Stmt} (hk : X.K = K := by rfl) : XS X K cls W st tNever (fun _ _ => .bad) := by
  cases hk
  exact ⟨ps_never, fun N F H φ e s σ rl D q => q.elim, rfl⟩
theorem spass (hk : X.K = K := by rfl) : XS X K cls W (.Pass pos) tNext dSkip := by
  cases hk
  exact ⟨ps_pass, ss_next, rfl⟩
theorem sbreak (hk : X.K = K := by rfl) : XS X K cls W (.Break pos) tBreak dBreak := by
  cases hk
  exact ⟨ps_break, ss_break, rfl⟩
theorem scont (hk : X.K = K := by rfl) : XS X K cls W (.Continue pos) tCont dCont := by
  cases hk
  exact ⟨ps_continue, ss_cont, rfl⟩
theorem sset (i : Nat) {x : Str} {pos' : Pos} (hN : X.N.Nodup) (he : XE X K cls W e te d) (hi : X.N[i]? = some x := by rfl) (hx : Loc X.env.scope x := by first | exact Or.inl rfl | exact Or.inr rfl) (hs : swapsWith e (some (.Name x pos')) pos.line X.env = pure false := by rfl)
    (hf : X.fn x = true ∨ X.env.scope.names.lookup x = some .local := by first | exact .inl rfl | exact .inr rfl | assumption) : XS X K cls W (.Assign [.Name x pos'] e pos) (tAsg te (gName i)) (dAsg i d) := by
  cases he.k
  exact ⟨ps_set hN hi hx he.p hs hf, ss_asg he.s, rfl⟩
/-- x = [..], x a local -/
theorem ssetLc {m : Bool} (i : Nat) {y : Str} {py : Pos} {elt tg iter : Expr} {ifs : List Expr} {scope : Scope} {spos : Pos} (own : List (Str × Nat)) {wi : TI} {g : TG} {tt : TT} {te : TE} {di : M (List T × Ks)} {dg : GM} {dt : M Bool} {de : EM} (hc : X.calm = true) (hN : X.N.Nodup) (hi : XI X K cls W tg iter wi di) (ok : BlkOk X.N X.env.scope scope own)
    (ow : OwnG (own.map (·.2)) g)
    (hg : ∀ (s : Shared) (H : Hp) (C : Addr) (cl : List (Str × Addr)) (fp : List Addr), XG (X.blk s H scope (compEnvC scope cl C X.env) fp) K cls W0 tg g dg)
    (ht : ∀ (s : Shared) (H : Hp) (C : Addr) (cl : List (Str × Addr)) (fp : List Addr), XTs (X.blk s H scope (compEnvC scope cl C X.env) fp) K cls W0 ifs tt dt)
    (he : ∀ (s : Shared) (H : Hp) (C : Addr) (cl : List (Str × Addr)) (fp : List Addr), XE (X.blk s H scope (compEnvC scope cl C X.env) fp) K cls W0 elt te de)
    (hk : X.env.scope.kind = .function := by rfl) (hl : (py.line == pos.line) = true := by rfl) (hany : (scope.names.any fun (n, k) => n == y && (k == .local || k == .cell)) = false := by decide +kernel)
    (hs : ∀ x, foldedSetIterable iter X.env x = pure x := by intro _; rfl) (hy : X.N[i]? = some y := by rfl) (hyl : X.env.scope.names.lookup y = some .local := by rfl) :
    XS X K cls W (.Assign [.Name y py] (.ListComp elt [⟨tg, iter, ifs, 0⟩] scope pos) spos) (tAsg (tLc wi g tt te (own.map (·.2))) (gName i)) (dAsg i (dLc m di (own.map (·.2)) dg dt de)) := by
  cases hi.k
  exact ⟨ps_setLc hc hN hy hyl (sw_true hk hyl hl hany) hi.p ok (fun s H C cl fp => (hg s H C cl fp).p) (fun s H C cl fp => (ht s H C cl fp).p) (fun s H C cl fp => (he s H C cl fp).p) hs,
     ss_asg (se_lc hi.s ow (hg {} (fun _ => none) 0 [] []).s (ht {} (fun _ => none) 0 [] []).s (he {} (fun _ => none) 0 [] []).s), rfl⟩
/-- a target of any form -/
theorem sasg {tg : Expr} {g : TG} {dg : GM} (he : XE X K cls W e te d) (hg : XG X K cls W tg g dg) (hs : swapsWithSole [tg] e pos.line X.env = pure false := by rfl) (hw : swappedStores [tg] e X.env = pure none := by rfl) (h1 : (assignEach [tg] X.env).map (fun z => z.2) = [assign tg X.env] := by rfl) : XS X K cls W (.Assign [tg] e pos) (tAsg te g) (dAsgG dg d) := by
  cases he.k
  exact ⟨ps_asg he.p hg.p hs hw h1, ss_asgG he.s hg.s, rfl⟩
theorem sif {u w : TS} {t : TT} {dt : M Bool} {du dw : SM} {us ws : List Stmt} (h : XT X K cls W c t dt) (ha : XSs X K cls W us u du) (hb : XSs X K cls W ws w dw) : XS X K cls W (.If c us ws pos) (tIfS t u w) (dIf dt du dw) := by
  cases h.k
  exact ⟨ps_if h.p ha.p hb.p, ss_if h.s ha.s hb.s, rfl⟩
theorem sret (h : XE X K cls W e te d) : XS X K cls W (.Return (some e) pos) (tRet te) (dRet d) := by
  cases h.k
  exact ⟨ps_ret h.p, ss_ret h.s, rfl⟩
theorem sretN (hk : X.K = K := by rfl) : XS X K cls W (.Return none pos) tRetN dRetN := by
  cases hk
  exact ⟨ps_retN, ss_retN, rfl⟩
theorem sexpr (h : XE X K cls W e te d) (hs : swapsWith e none pos.line X.env = pure false := by rfl) : XS X K cls W (.Expr e pos) (tDrop te) (dExpr d) := by
  cases h.k
  exact ⟨ps_expr h.p hs, ss_expr h.s, rfl⟩
theorem swhile (n : Nat) {t : TT} {u : TS} {dt : M Bool} {du : SM} {us : List Stmt} (hp : PassesOwn (model X.prog X.w) X.A X.env X.xe) (h : XT X K cls W c t dt) (hb : XSs X K cls W us u du) : XS X K cls W (.While c us [] pos) (tWhile t u) (whileF dt du n) := by
  cases h.k
  exact ⟨ps_while hp h.p hb.p, ss_while h.s hb.s, rfl⟩
theorem sfor {tg iter : Expr} {wi : TI} {g : TG} {u : TS} {di : M (List T × Ks)} {dg : GM} {du : SM} {us : List Stmt} (hp : PassesOwn (model X.prog X.w) X.A X.env X.xe) (hc : X.calm = true) (hi : XI X K cls W tg iter wi di) (hg : XG X K cls W tg g dg) (hb : XSs X K cls W us u du)
    (hs : ∀ x, foldedSetIterable iter X.env x = pure x := by intro _; rfl) : XS X K cls W (.For tg iter us [] pos) (tFor wi g u) (dFor di dg du) := by
  cases hi.k
  exact ⟨ps_for hp hc hi.p hg.p hb.p hs, ss_for hi.s hg.s hb.s, rfl⟩
theorem saug_add (i : Nat) {x : Str} {pos' : Pos} (hN : X.N.Nodup) (he : XE X K cls W e te d) (hi : X.N[i]? = some x := by rfl) (hx : Loc X.env.scope x := by first | exact Or.inl rfl | exact Or.inr rfl) (hf : X.fn x = true ∨ X.env.scope.names.lookup x = some .local := by first | exact .inl rfl | exact .inr rfl | assumption) :
    XS X K cls W (.AugAssign (.Name x pos') .Add e pos) (tAug i te (ipI fun i j => i + j)) (dAug (fun i j => i + j) i d) := by
  cases he.k
  exact ⟨ps_aug hN hi hx he.p ip_add hf, ss_aug he.s, rfl⟩
theorem saug_sub (i : Nat) {x : Str} {pos' : Pos} (hN : X.N.Nodup) (he : XE X K cls W e te d) (hi : X.N[i]? = some x := by rfl) (hx : Loc X.env.scope x := by first | exact Or.inl rfl | exact Or.inr rfl) (hf : X.fn x = true ∨ X.env.scope.names.lookup x = some .local := by first | exact .inl rfl | exact .inr rfl | assumption) :
    XS X K cls W (.AugAssign (.Name x pos') .Sub e pos) (tAug i te (ipI fun i j => i - j)) (dAug (fun i j => i - j) i d) := by
  cases he.k
  exact ⟨ps_aug hN hi hx he.p ip_sub hf, ss_aug he.s, rfl⟩
end
end Sr

namespace Sr
open PySem PySem.Spec PyProof.Rows L2
open Evl (Ex)

/-- the classes of the program by number -/
def clsNames : List Str := ["MartError", "NoFit", "NoPart", "NoTariff", "TooMany", "Endless", "NoText", "NoName", "NoRow", "Twice", "Axes", "Desk"]
def clsOf (K : PySem.W.Frag) (n : Nat) : Value := match clsNames[n]? with
  | some x => match PySem.W.nsIn K mainGlobals x with
    | some (some v) => v
    | _ => .none
  | none => .none
/-- c' is caught as c -/
def sbE (rc : List Nat) (c' c : Nat) : Option Bool := if c' ∈ rc then some (c == 0 || c == c') else none

/-! ### f-strings -/
noncomputable def fmtOk (i : Int) : Bool := @decide _ (Classical.propDecidable (i.natAbs.log2 < 1920))
theorem fmtOk_mk {i : Int} (h : i.natAbs.log2 < 1920) : fmtOk i = true := @decide_eq_true _ (Classical.propDecidable _) h
theorem fmtOk_of {i : Int} (h : fmtOk i = true) : i.natAbs.log2 < 1920 := @of_decide_eq_true _ (Classical.propDecidable _) h
noncomputable def fmtV : T → EM
  | .str y => fun e s => if lenOk y.length = true then .ok (.str y) e s else .bad
  | .int i => fun e s => if fmtOk i = true then .ok (.str (Str.ofString (toString i))) e s else .bad
  | _ => M.bad
@[simp] theorem fmtV_str (y : Str) : fmtV (.str y) = fun e s => if lenOk y.length = true then .ok (.str y) e s else .bad := rfl
@[simp] theorem fmtV_int (i : Int) : fmtV (.int i) = fun e s => if fmtOk i = true then .ok (.str (Str.ofString (toString i))) e s else .bad := rfl
@[simp] noncomputable def dFmt (a : EM) : EM := fun e s => (M.bind a fun x => fmtV x) e s
@[simp] noncomputable def dJoinA : List EM → Str → M Str
  | [], acc => M.pure acc
  | a :: r, acc => fun e s => (M.bind a fun x => match x with
    | .str y => fun e s => if lenOk (acc ++ y).length = true then dJoinA r (acc ++ y) e s else .bad
    | _ => M.bad) e s
@[simp] noncomputable def dJoin (as : List EM) : EM := fun e s => (M.bind (dJoinA as Str.empty) fun x => M.pure (.str x)) e s
section
variable {C : Ct}
theorem se_fmt {t : TE} {d : EM} (h : SE C t d) : SE C (tFmt t) (dFmt d) := fun N F H φ e s σ rl Q q => by
  refine h.go rl Po.pk q fun v x F1 φ1 H1 e1 s1 r1 u1 rp q1 => ?_
  cases x with
  | str y =>
    cases rp
    unfold fmtV at q1
    dsimp only at q1
    split at q1
    · rename_i hl
      exact .inl ⟨y, rfl, lenOk_le hl, q1 _ F1 φ1 H1 r1 (Up.refl _ _) .str⟩
    · exact q1.elim
  | int i =>
    cases rp
    unfold fmtV at q1
    dsimp only at q1
    split at q1
    · rename_i hl
      exact .inr ⟨i, rfl, fmtOk_of hl, q1 _ F1 φ1 H1 r1 (Up.refl _ _) .str⟩
    · exact q1.elim
  | _ => exact q1.elim
inductive SJ (C : Ct) : List TE → List EM → Prop where
  | nil : SJ C [] []
  | cons {t : TE} {d : EM} {ts : List TE} {ds : List EM} (h : SE C t d) (r : SJ C ts ds) : SJ C (t :: ts) (d :: ds)
theorem sj_run {ts : List TE} {ds : List EM} (h : SJ C ts ds) : ∀ acc : Str, SX C (fun _ _ (b : Str) a => b = a) (tJs ts acc) (dJoinA ds acc) := by
  induction h with
  | nil => exact fun acc N F H φ e s σ rl Q q => q acc F φ H rl (Up.refl _ _) rfl
  | cons h r ih =>
    intro acc N F H φ e s σ rl Q q
    refine h.go rl Po.pk q fun v x F1 φ1 H1 e1 s1 r1 u1 rp q1 => ?_
    cases x with
    | str y =>
      cases rp
      dsimp only at q1
      split at q1
      · rename_i hl
        exact ⟨y, rfl, lenOk_le hl, ih (acc ++ y) N F1 H1 φ1 e1 s1 σ r1 Q q1⟩
      · exact q1.elim
    | _ => exact q1.elim
theorem se_join {ts : List TE} {ds : List EM} (h : SJ C ts ds) : SE C (fun σ H Q => tJs ts Str.empty σ H fun out H1 => Q (.str out) H1) (dJoin ds) := fun N F H φ e s σ rl Q q => by
  refine (sj_run h Str.empty).go rl Po.pk q fun b a F1 φ1 H1 e1 s1 r1 u1 rp q1 => ?_
  subst rp
  exact q1 _ F1 φ1 H1 r1 (Up.refl _ _) .str
end

/-! ### raise, try -/
@[simp] def dRaise (c : Nat) (d : EM) : SM := fun e s => (M.bind d fun _ => fun e s => .ex c e s) e s
theorem ss_raise {C : Ct} {c : Nat} {v : Value} (hv : C.cls c = v) {t : TE} {d : EM} (h : SE C t d) : SS C (fun _ σ H => (fun (σ : L2.St) (H : Hp) (Q : XK) => t σ H fun _ H1 => Q v none H1) σ H fun cls d H' => C.W cls d σ H') (dRaise c d) := fun N F H φ e s σ rl D q => by
  refine h.go rl PoS.pk q fun v' x F1 φ1 H1 e1 s1 r1 u1 rp q1 => ?_
  rw [← hv]
  exact q1 F1 φ1 H1 σ r1 (Up.refl _ _)
@[simp] def clr (i : Nat) : R Fl → R Fl
  | .ok f e s => .ok f (e.set i none) s
  | _ => .bad
/-- whatever the address -/
noncomputable def indep {α : Type} (f : Addr → R α) : R α := @ite _ (∀ a b, f a = f b) (Classical.propDecidable _) (f 0) .bad
theorem indep_ok {α : Type} {f : Addr → R α} {r : R α} (h : ∀ a, f a = r) : indep f = r := by
  unfold indep
  rw [if_pos fun a b => by rw [h a, h b]]
  exact h 0
@[simp] noncomputable def dTryA (rc : List Nat) (i c : Nat) (body : SM) (suite : Addr → Nat → SM) : SM := fun e s => match body e s with
  | .ex c' e' s' => match sbE rc c' c with
    | some true => indep fun a => clr i (suite a c' (e'.set i (some (.adr a))) s')
    | some false => .ex c' e' s'
    | none => .bad
  | r => r
@[simp] noncomputable def dTryO (rc : List Nat) (c : Nat) (body suite : SM) : SM := fun e s => match body e s with
  | .ex c' e' s' => match sbE rc c' c with
    | some true => match suite e' s' with
      | .ex _ _ _ => .bad
      | r => r
    | some false => .ex c' e' s'
    | none => .bad
  | r => r
section
variable {K : PySem.W.Frag} {cls : Nat → Value} {Wo : WX} {rc : List Nat}
theorem ss_tryA {i c : Nat} {cv : Value} {tb : WX → TS} {ts : Addr → Value → Option Addr → TS} {db : SM} {ds : Addr → Nat → SM} (hb : ∀ W : WX, SS ⟨K, cls, W⟩ (tb W) db) (hs : ∀ a c', c' ∈ rc → SS ⟨K, cls, W0⟩ (ts a (cls c') none) (ds a c'))
    (he : ∀ c' b, sbE rc c' c = some b → PySem.W.exmOne K (cls c') cv = some b) : SS ⟨K, cls, Wo⟩ (fun D σ H => tb (wAs K cv i ts Wo D) D σ H) (dTryA rc i c db ds) := fun N F H φ e s σ rl D q => by
  refine hb (wAs K cv i ts Wo D) N F H φ e s σ rl D ?_
  unfold dTryA at q
  cases hd : db e s with
  | bad =>
    rw [hd] at q
    exact q
  | ok f e' s' =>
    rw [hd] at q
    cases f with
    | _ => exact q
  | ex c' e' s' =>
    rw [hd] at q
    dsimp only at q
    intro F' φ' H' σ' r' u'
    cases hsb : sbE rc c' c with
    | none =>
      rw [hsb] at q
      exact q.elim
    | some b =>
      rw [hsb] at q
      have hr : c' ∈ rc := by
        unfold sbE at hsb
        split at hsb
        · assumption
        · cases hsb
      cases b with
      | false => exact ⟨false, he c' false hsb, fun z => Bool.noConfusion z, fun _ => q F' φ' H' σ' r' u'⟩
      | true =>
        refine ⟨true, he c' true hsb, fun _ a ha => ?_, fun z => Bool.noConfusion z⟩
        refine hs a c' hr N F' H' φ' (e'.set i (some (.adr a))) s' (σ'.set i (some (.ref a))) (r'.set .adr) _ ?_
        dsimp only at q
        unfold indep at q
        by_cases hi : ∀ a b : Addr, clr i (ds a c' (e'.set i (some (.adr a))) s') = clr i (ds b c' (e'.set i (some (.adr b))) s')
        · rw [if_pos hi] at q
          have q : PoS ⟨K, cls, Wo⟩ N D F φ (clr i (ds 0 c' (e'.set i (some (.adr 0))) s')) := q
          rw [hi 0 a] at q
          cases hz : ds a c' (e'.set i (some (.adr a))) s' with
          | bad =>
            rw [hz] at q
            exact q.elim
          | ex c2 e2 s2 =>
            rw [hz] at q
            exact q.elim
          | ok f e2 s2 =>
            rw [hz] at q
            cases f with
            | nx => exact fun F2 φ2 H2 σ2 r2 u2 => q F2 φ2 H2 _ (r2.unset i) (u'.trans u2)
            | bk => exact fun F2 φ2 H2 σ2 r2 u2 => q F2 φ2 H2 _ (r2.unset i) (u'.trans u2)
            | ct => exact fun F2 φ2 H2 σ2 r2 u2 => q F2 φ2 H2 _ (r2.unset i) (u'.trans u2)
            | rt t => exact fun v F2 φ2 H2 r2 u2 => q v F2 φ2 H2 r2 (u'.trans u2)
        · rw [if_neg hi] at q
          exact q.elim
theorem ss_tryO {c : Nat} {cv : Value} {tb : WX → TS} {ts : Addr → Value → Option Addr → TS} {db ds : SM} (hb : ∀ W : WX, SS ⟨K, cls, W⟩ (tb W) db) (hs : ∀ a v d, SS ⟨K, cls, W0⟩ (ts a v d) ds)
    (he : ∀ c' b, sbE rc c' c = some b → PySem.W.exmOne K (cls c') cv = some b) : SS ⟨K, cls, Wo⟩ (fun D σ H => tb (wOnly K cv ts Wo D) D σ H) (dTryO rc c db ds) := fun N F H φ e s σ rl D q => by
  refine hb (wOnly K cv ts Wo D) N F H φ e s σ rl D ?_
  unfold dTryO at q
  cases hd : db e s with
  | bad =>
    rw [hd] at q
    exact q
  | ok f e' s' =>
    rw [hd] at q
    cases f with
    | _ => exact q
  | ex c' e' s' =>
    rw [hd] at q
    dsimp only at q
    intro F' φ' H' σ' r' u'
    cases hsb : sbE rc c' c with
    | none =>
      rw [hsb] at q
      exact q.elim
    | some b =>
      rw [hsb] at q
      cases b with
      | false => exact ⟨false, he c' false hsb, fun z => Bool.noConfusion z, fun _ => q F' φ' H' σ' r' u'⟩
      | true =>
        refine ⟨true, he c' true hsb, fun _ a ha => ?_, fun z => Bool.noConfusion z⟩
        refine hs a _ _ N F' H' φ' e' s' σ' r' _ ?_
        dsimp only at q
        cases hz : ds e' s' with
        | bad =>
          rw [hz] at q
          exact q.elim
        | ex c2 e2 s2 =>
          rw [hz] at q
          exact q.elim
        | ok f e2 s2 =>
          rw [hz] at q
          have q : PoS ⟨K, cls, Wo⟩ N D F φ (.ok f e2 s2) := q
          have q := PoS.mono u' q
          cases f with
          | _ => exact q
end
/-! isinstance of a caught error -/
def rIsX (K : PySem.W.Frag) (v : Value) (dd : Option Addr) (a : Addr) : List V → Hp → VK → Prop := fun xs H Q => ∃ (D : Addr) (c : V) (cv : Value) (b : Bool), v = .ref D ∧ dd = none ∧ ExcC K D ∧ xs = [.ref a, c] ∧ ClsV c cv ∧ PySem.W.kitOne K (.ref D) cv = some b ∧ Q (.bl b) H
def rIsXT (K : PySem.W.Frag) (v : Value) (dd : Option Addr) (a : Addr) : List V → Hp → VK → Prop := fun xs H Q => ∃ (D tp : Addr) (cs : List V) (us : List Value) (b : Bool), v = .ref D ∧ dd = none ∧ ExcC K D ∧ xs = [.ref a, .ref tp] ∧ H tp = some (.tup cs) ∧ Paired ClsV cs us ∧ PySem.W.kitAny K (.ref D) us = some b ∧ Q (.bl b) H
theorem inst_at {X : Cx} {a D : Addr} {oe : Obj} {pn pins : List (Addr × Obj)} {σ : L2.St} {H : Hp} {s : Shared} (I : Inv (X.suite a ((a, oe) :: pn)) pins σ H s) (hz : Zc (.ref D) none oe) (hf : ∃ vs, oe.data = .fields vs) : PySem.W.InstAt s.heap a oe D none := by
  obtain ⟨hget, _⟩ := I.pin (a, oe) (List.mem_append.mpr (.inl List.mem_cons_self))
  obtain ⟨vs, hv⟩ := hf
  obtain ⟨oc, od, oda, osl⟩ := oe
  obtain ⟨h1, h2⟩ := hz
  dsimp only at h1 h2 hv
  subst h1 h2 hv
  exact ⟨hget, rfl, rfl, trivial⟩
theorem call_isX {X : Cx} {a : Addr} {v : Value} {dd : Option Addr} {oe : Obj} {pn : List (Addr × Obj)} (hz : Zc v dd oe) (hf : ∃ vs, oe.data = .fields vs) : CallR (X.suite a ((a, oe) :: pn)) (.builtin "isinstance") (rIsX X.K v dd a) := by
  intro pins s σ H xs us Q I r h
  obtain ⟨D, c, cv, b, rfl, rfl, C, rfl, hcv, e, q⟩ := h
  cases r with
  | cons rx rr =>
    cases rr with
    | cons rt rr =>
      cases rr
      cases rx
      have ec := hcv.eq rt
      subst ec
      exact PySem.W.kia_one (PySem.W.handS_kitx_exc C.hg C.hk C.hs C.hd C.ha C.hn C.ht C.hm) I.kIn (inst_at I hz hf) e (fun z => nomatch z) fun tk => ⟨.bl b, H, I.kept (t' := tk) fun _ _ z => z, rfl, q⟩
theorem call_isXT {X : Cx} {a : Addr} {v : Value} {dd : Option Addr} {oe : Obj} {pn : List (Addr × Obj)} (hz : Zc v dd oe) (hf : ∃ vs, oe.data = .fields vs) : CallR (X.suite a ((a, oe) :: pn)) (.builtin "isinstance") (rIsXT X.K v dd a) := by
  intro pins s σ H xs us Q I r h
  obtain ⟨D, tp, cs, ws, b, rfl, rfl, C, rfl, hT, k, e, q⟩ := h
  obtain ⟨u1, u2, rfl, r1, r2⟩ := vals2 r
  cases (show u1 = Value.ref a from r1)
  cases (show u2 = Value.ref tp from r2)
  obtain ⟨_, its, rv, o, h1, h2, n, h3⟩ := (show ObjOk X.prog X.w H s.heap tp (.tup cs) from I.hok tp _ hT)
  have e3 := ClsV.all k rv
  subst e3
  obtain ⟨oc, od, dt, sl⟩ := o
  simp only at h2 h3
  subst h2 h3
  exact PySem.W.kia_tup (PySem.W.handS_kitx_exc C.hg C.hk C.hs C.hd C.ha C.hn C.ht C.hm) I.kIn (inst_at I hz hf) h1 e (fun z => nomatch z) fun tk => ⟨.bl b, H, I.kept (t' := tk) fun _ _ z => z, rfl, q⟩
/-- whether the error c' is under class j; 12 is ValueError -/
def kbE (rc : List Nat) (c' j : Nat) : Option Bool := if c' ∈ rc then some (j == 0 || j == c' || j == 12) else none
@[simp] def slotA (i : Nat) (a : Addr) : M Unit := fun e s => match e[i]? with
  | some (some (.adr b)) => if b = a then .ok () e s else .bad
  | _ => .bad
@[simp] def dIsX (rc : List Nat) (i : Nat) (a : Addr) (c' j : Nat) : EM := fun e s => (M.bind (slotA i a) fun _ => M.bind (M.opt (kbE rc c' j)) fun b => M.pure (.bl b)) e s
@[simp] def dIsXT (rc : List Nat) (i : Nat) (a : Addr) (c' : Nat) (js : List Nat) : EM := fun e s => (M.bind (slotA i a) fun _ => M.bind (M.opt (mapO (kbE rc c') js)) fun bs => M.pure (.bl (bs.any id))) e s
/-- a class by its number, as a value -/
structure ClsAt (K : PySem.W.Frag) (cls : Nat → Value) (rc : List Nat) (j : Nat) (v : V) (u : Value) : Prop where
  k : ClsV v u
  one : ∀ c' b, kbE rc c' j = some b → ∃ D, cls c' = .ref D ∧ ExcC K D ∧ PySem.W.kitOne K (.ref D) u = some b
def tCs : List V → TA
  | [] => tNil
  | v :: r => tCons (tC v) (tCs r)
theorem tCs_of : ∀ (vs : List V) {σ : L2.St} {H : Hp} {Q : List V → Hp → Prop}, Q vs H → tCs vs σ H Q
  | [], _, _, _, q => q
  | v :: r, _, _, _, q => tCs_of r q
section
variable {K : PySem.W.Frag} {cls : Nat → Value} {rc : List Nat}
theorem slotA_go {C : Ct} {N F H : Hp} {φ : List Addr} {e : En} {s : Sto} {σ : L2.St} {i : Nat} {a : Addr} {β : Type} {g : Unit → M β} {P : R β → Prop} (rl : C.rl N F H φ e s σ) (hb : ¬ P .bad) (q : P (M.bind (slotA i a) g e s)) : σ[i]? = some (some (.ref a)) ∧ P (g () e s) := by
  unfold M.bind at q
  cases he : e[i]? with
  | none =>
    have h : slotA i a e s = .bad := by simp [slotA, he]
    rw [h] at q
    exact absurd q hb
  | some o =>
    cases o with
    | none =>
      have h : slotA i a e s = .bad := by simp [slotA, he]
      rw [h] at q
      exact absurd q hb
    | some x =>
      have no : (∀ b, x ≠ .adr b) → slotA i a e s = .bad := fun n => by
        simp only [slotA, he]
        try (cases x <;> first | rfl | exact absurd rfl (n _))
      cases x with
      | adr b =>
        by_cases hba : b = a
        · have h : slotA i a e s = .ok () e s := by simp [slotA, he, hba]
          rw [h] at q
          subst hba
          obtain ⟨v, h1, h2⟩ := rl.slot i _ he
          cases h2
          exact ⟨h1, q⟩
        · have h : slotA i a e s = .bad := by simp [slotA, he, hba]
          rw [h] at q
          exact absurd q hb
      | _ =>
        have h := no (fun _ z => T.noConfusion z)
        rw [h] at q
        exact absurd q hb
theorem se_isX {i j c' : Nat} {a : Addr} {v : V} {u : Value} (k : ClsAt K cls rc j v u) : SE ⟨K, cls, W0⟩ (tCB (rIsX K (cls c') none a) (tCons (tVar i) (tCons (tC v) tNil))) (dIsX rc i a c' j) := fun N F H φ e s σ rl Q q => by
  obtain ⟨h1, q⟩ := slotA_go (P := Po ⟨K, cls, W0⟩ (Rep K) N σ Q F φ) rl (fun h => h) q
  cases hk : kbE rc c' j with
  | none =>
    rw [hk] at q
    exact q.elim
  | some b =>
    rw [hk] at q
    obtain ⟨D, g1, g2, g3⟩ := k.one c' b hk
    exact ⟨_, h1, D, v, u, b, g1, rfl, g2, rfl, k.k, g3, q _ F φ H rl (Up.refl _ _) .bl⟩
inductive ClsAts (K : PySem.W.Frag) (cls : Nat → Value) (rc : List Nat) : List Nat → List V → List Value → Prop where
  | nil : ClsAts K cls rc [] [] []
  | cons {j : Nat} {v : V} {u : Value} {js : List Nat} {vs : List V} {us : List Value} (h : ClsAt K cls rc j v u) (r : ClsAts K cls rc js vs us) : ClsAts K cls rc (j :: js) (v :: vs) (u :: us)
theorem ClsAts.pd : ∀ {js : List Nat} {vs : List V} {us : List Value}, ClsAts K cls rc js vs us → Paired ClsV vs us
  | _, _, _, .nil => .nil
  | _, _, _, .cons h r => .cons h.k r.pd
theorem ClsAts.len : ∀ {js : List Nat} {vs : List V} {us : List Value}, ClsAts K cls rc js vs us → vs.length = js.length
  | _, _, _, .nil => rfl
  | _, _, _, .cons _ r => congrArg (· + 1) r.len
theorem kitAny_of {D : Addr} : ∀ {js : List Nat} {vs : List V} {us : List Value} {bs : List Bool}, ClsAts K cls rc js vs us → mapO (kbE rc c') js = some bs → (∀ {j : Nat} {u : Value} {v : V} {b : Bool}, ClsAt K cls rc j v u → kbE rc c' j = some b → PySem.W.kitOne K (.ref D) u = some b) → PySem.W.kitAny K (.ref D) us = some (bs.any id)
  | _, _, _, _, .nil, h, _ => by
    cases h
    rfl
  | _, _, _, _, .cons (j := j) (js := js) a r, h, k => by
    unfold mapO at h
    split at h
    · rename_i b bs h1 h2
      cases h
      have g1 := k a h1
      have g2 := kitAny_of r h2 k
      unfold PySem.W.kitAny
      rw [g1]
      cases b with
      | true => rfl
      | false => exact g2
    · cases h
theorem se_isXT {i c' : Nat} {a : Addr} {js : List Nat} {vs : List V} {us : List Value} (hne : js ≠ []) (k : ClsAts K cls rc js vs us) (hl : js.length ≤ 1000) : SE ⟨K, cls, W0⟩ (tCB (rIsXT K (cls c') none a) (tCons (tVar i) (tCons (tTup (tCs vs)) tNil))) (dIsXT rc i a c' js) := fun N F H φ e s σ rl Q q => by
  obtain ⟨h1, q⟩ := slotA_go (P := Po ⟨K, cls, W0⟩ (Rep K) N σ Q F φ) rl (fun h => h) q
  cases hk : mapO (kbE rc c') js with
  | none =>
    rw [hk] at q
    exact q.elim
  | some bs =>
    rw [hk] at q
    -- the class of the error
    obtain ⟨D, g1, g2⟩ : ∃ D, cls c' = .ref D ∧ ExcC K D := by
      cases k with
      | nil => exact absurd rfl hne
      | cons x r =>
        unfold mapO at hk
        split at hk
        · rename_i b bs h1 h2
          obtain ⟨D, z1, z2, _⟩ := x.one c' b h1
          exact ⟨D, z1, z2⟩
        · cases hk
    have hz : PySem.W.kitAny K (.ref D) us = some (bs.any id) := kitAny_of k hk fun x hx => by
      obtain ⟨D', z1, _, z3⟩ := x.one c' _ hx
      rw [g1] at z1
      cases z1
      exact z3
    refine ⟨_, h1, tCs_of vs ⟨?_, fun p hp => ?_⟩⟩
    · rw [k.len]
      exact Nat.le_trans hl (by decide)
    · obtain ⟨r', u'⟩ := Rl.addF (C := ⟨K, cls, W0⟩) (o := .tup vs) rl hp
      exact ⟨D, p, vs, us, _, g1, rfl, g2, rfl, upd_same, k.pd, hz, q _ _ φ _ r' u' .bl⟩
end
section
variable {X : Cx} {K : PySem.W.Frag} {cls : Nat → Value} {W : WX} {a b c e : Expr} {es : List Expr} {ta tb tc te : TE} {da db dc d : EM} {pos p p2 : Pos}
/-! calls -/
/-- room, and no text of data under way -/
structure RmG (k : Nat) (A : Around) : Prop extends Room k A where
  gd : A.guards = some []
theorem RmG.mono {j k : Nat} {A : Around} (r : RmG k A) (h : j ≤ k) : RmG j A := ⟨r.toRoom.mono h, r.gd⟩
theorem RmG.deeper {k : Nat} {A : Around} (r : RmG (k + 1) A) (env : Env) : RmG k (A.deeper env) := ⟨r.toRoom.deeper env, r.gd⟩
/-- a def's promise to callers that have that room -/
structure FnG (P : Program) (w : World) (K : PySem.W.Frag) (mg : Str → Option Value) (base : Heap) (k : Nat) (f : Addr) (fd : FuncData) (ps : List Str) (sp : Sp) : Prop where
  num : ∀ vs H Q E, sp vs H Q E → vs.length = ps.length
  runs : ∀ (A : Around) (outer : List Env) (s : Shared) (H : Hp) (args : Args) (us : List Value) (vs : List V) (Q : VK) (E : XK), RmG k A → Env0 P w K mg base A outer s H → BindsTo s fd args (ps.zip us) → Vals vs us → sp vs H Q E →
    codeAny (model P w) A (.call (.ref f) args) (CR (L2.CX P w) outer P w H s Q E) s
theorem FnG.mono {P : Program} {w : World} {K : PySem.W.Frag} {mg : Str → Option Value} {base : Heap} {j k : Nat} {f : Addr} {fd : FuncData} {ps : List Str} {sp : Sp} (F : FnG P w K mg base j f fd ps sp) (h : j ≤ k) : FnG P w K mg base k f fd ps sp :=
  { num := F.num, runs := fun A outer s H args us vs Q E hr => F.runs A outer s H args us vs Q E (hr.mono h) }
theorem FnG.imp {P : Program} {w : World} {K : PySem.W.Frag} {mg : Str → Option Value} {base : Heap} {k : Nat} {f : Addr} {fd : FuncData} {ps : List Str} {sp sp' : Sp} (F : FnG P w K mg base k f fd ps sp) (h : ∀ vs H Q E, sp' vs H Q E → sp vs H Q E) : FnG P w K mg base k f fd ps sp' :=
  { num := fun vs H Q E q => F.num vs H Q E (h _ _ _ _ q), runs := fun A outer s H args us vs Q E hr he hb hv hs => F.runs A outer s H args us vs Q E hr he hb hv (h _ _ _ _ hs) }
/-- a def as it stands: its level k, its parameters' number n, what it does g -/
structure Fk (P : Program) (w : World) (K : PySem.W.Frag) (mg : Str → Option Value) (base : Heap) (cls : Nat → Value) (x : Str) (k n : Nat) (g : Gf) : Prop where
  ex : ∃ (f : Addr) (fd : FuncData) (ps : List Str), ps.length = n ∧ mg x = some (.ref f) ∧ PySem.W.keepIn K (.ref f) = true ∧ Binds K fd ps [] ∧ FnG P w K mg base k f fd ps (spT K cls n g)
theorem Fk.imp {P : Program} {w : World} {K : PySem.W.Frag} {mg : Str → Option Value} {base : Heap} {x : Str} {k n : Nat} {f g : Gf} (F : Fk P w K mg base cls x k n f) (h : ∀ ts s, ts.length = n → g ts s ≠ .bad → f ts s = g ts s) : Fk P w K mg base cls x k n g := by
  obtain ⟨fa, fd, ps, h1, h2, h3, h4, h5⟩ := F.ex
  exact ⟨fa, fd, ps, h1, h2, h3, h4, h5.imp fun vs H Q E q => spT_imp h q⟩
theorem Fk.up {P : Program} {w : World} {K : PySem.W.Frag} {mg : Str → Option Value} {base : Heap} {x : Str} {j k n : Nat} {g : Gf} (F : Fk P w K mg base cls x j n g) (h : j ≤ k) : Fk P w K mg base cls x k n g := by
  obtain ⟨fa, fd, ps, h1, h2, h3, h4, h5⟩ := F.ex
  exact ⟨fa, fd, ps, h1, h2, h3, h4, h5.mono h⟩
theorem xcall {x : Str} {k n : Nat} {g : Gf} {t : TA} {as : List EM} (F : Fk X.prog X.w X.K X.mg X.base cls x k n g) (hr : RmG k X.A) (tk : Takes X W) (ha : XA X K cls W (e :: es) t as) (hl : as.length = n := by rfl) (hg : Gl X x := by rfl) (hdb : (x == ("__debug__" : Str)) = false := by decide)
    (he : starEach (e :: es) X.env = (false, eval e X.env) :: starEach es X.env := by rfl) (hpl : (backTo pos (starEach es X.env)).any (·.1) = false := by rfl) : XE X K cls W (.Call (.Name x p) (e :: es) [] pos) (tCallS (spT K cls n g) (WE W) t) (dCall g as) := by
  cases ha.k
  obtain ⟨f, fd, ps, h1, h2, h3, h4, h5⟩ := F.ex
  refine ⟨⟨fun pins s σ H Q I hq => wpAny_Call_Name_kw (ld_glob I hg h2 ?_ hdb)⟩, se_callS ha.s hl, rfl⟩
  refine PySem.W.callWith_K (h₀ := X.base) I.ok.mod.kin h3 (thn (ha.p.run pos pins s σ H _ I hq) fun us s1 ⟨vs, H1, I1, r, q⟩ => ⟨I1.kIn, ?_⟩) he hpl
  have n1 := h5.num _ _ _ _ q
  have bd := h4 s1 us I1.kIn (by rw [List.append_nil, ← r.length]; exact n1)
  rw [List.append_nil] at bd
  refine wpAny_call (codeAny_mono (h5.runs X.A X.stack s1 H1 ⟨us, []⟩ us vs Q _ hr I1.env0 bd r q) fun rr s2 hq2 => ?_)
  rcases rr with e2 | fl
  · exact passAt tk σ pins H1 s1 e2 s2 I1 hq2
  · cases fl with
    | ret u => exact I1.after hq2
    | next => exact False.elim hq2
    | brk => exact False.elim hq2
    | cont => exact False.elim hq2
/-! stores -/
theorem sapp {o : Expr} {to : TE} {dx : EM} {apos : Pos} (ho : XE X K cls W o to dx) (he : XE X K cls W e te d)
    (hbase : attributeBase o "append" X.env (eval o X.env) = eval o X.env := by rfl)
    (hfew : ((backTo p2 (starEach [e] X.env)).all (fun x => !x.1) && (backToKw p2 (keywordEach [] X.env)).all (fun x => x.1.isSome)
      && decide ([e].length + ([] : List Keyword).length + (if ([] : List Keyword).isEmpty then 0 else 1) < 30)) = true := by rfl)
    (hline : (apos.endLine == p2.line) = true := by rfl) (hs : starEach [e] X.env = (false, eval e X.env) :: starEach [] X.env := by rfl) (hplain : (backTo p2 (starEach [] X.env)).any (·.1) = false := by rfl)
    (hsw : swapsWith (.Call (.Attribute o "append" apos) [e] [] p2) none pos.line X.env = pure false := by rfl) :
    XS X K cls W (.Expr (.Call (.Attribute o "append" apos) [e] [] p2) pos) (tDrop (tBM K "list" rAppend to (tCons te tNil))) (dApp dx d) := by
  cases ho.k
  exact ⟨ps_expr (pe_bm PySem.F.plainAttrs_list PySem.F.slot_list_append PySem.F.type_list_append mt_append ho.p (pa_cons he.p pa_nil hs) hbase hfew hline hs hplain) hsw, ss_app ho.s he.s, rfl⟩
/-- o[b] = e -/
theorem ssetI {o : Expr} {to : TE} {dx : EM} {tpos : Pos} (ho : XE X K cls W o to dx) (he : XE X K cls W e te d) (hb : XE X K cls W b tb db)
    (ha : ∀ v, assign (.Subscript o b tpos) X.env v = (do
      let ov ← holding [v] (eval o X.env)
      let iv ← holding [v, ov] (eval b X.env)
      standAt tpos
      holding [v, ov, iv] (setItem ov iv v)
      release [v, ov, iv] []) := by intro _; rfl)
    (hs : swapsWithSole [.Subscript o b tpos] e pos.line X.env = pure false := by rfl) (hw : swappedStores [.Subscript o b tpos] e X.env = pure none := by rfl) :
    XS X K cls W (.Assign [.Subscript o b tpos] e pos) (tAsg te (gSub to tb rSetL)) (dSet dx db d) := by
  cases ho.k
  exact ⟨ps_asg he.p (pg_sub ho.p hb.p set_list ha) hs hw, ss_set ho.s he.s hb.s, rfl⟩
/-- x, y = a, b -/
theorem spar (i j : Nat) {x y : Str} {px py pt : Pos} {kt k2 : Nat} {pt2 : Pos} (hc : X.calm = true) (hN : X.N.Nodup) (ha : XE X K cls W a ta da) (hb : XE X K cls W b tb db) (hi : X.N[i]? = some x := by rfl) (hj : X.N[j]? = some y := by rfl) (hij : i ≠ j := by decide)
    (hx : X.env.scope.names.lookup x = some .local := by rfl) (hy : X.env.scope.names.lookup y = some .local := by rfl)
    (hw : swappedStores [.Tuple [.Name x px, .Name y py] kt pt] (.Tuple [a, b] k2 pt2) X.env = pure (some [x, y]) := by rfl)
    (hs : swapsWithSole [.Tuple [.Name x px, .Name y py] kt pt] (.Tuple [a, b] k2 pt2) pos.line X.env = pure false := by rfl)
    (h1 : starEach [a, b] X.env = (false, eval a X.env) :: starEach [b] X.env := by rfl) (h2 : starEach [b] X.env = (false, eval b X.env) :: starEach [] X.env := by rfl) :
    XS X K cls W (.Assign [.Tuple [.Name x px, .Name y py] kt pt] (.Tuple [a, b] k2 pt2) pos) (tPar i j (tCons ta (tCons tb tNil))) (dPar i j da db) := by
  cases ha.k
  exact ⟨ps_par hc hN hi hj hij hx hy (pa_cons ha.p (pa_cons hb.p pa_nil h2) h1) hw hs, ss_par ha.s hb.s, rfl⟩
/-! f-strings, raise -/
theorem xfmt (ha : XE X K cls W a ta da) : XE X K cls W (.FormattedValue a (-1) none pos) (tFmt ta) (dFmt da) := by
  cases ha.k
  exact ⟨pe_fmt ha.p, se_fmt ha.s, rfl⟩
structure XJ (X : Cx) (K : PySem.W.Frag) (cls : Nat → Value) (W : WX) (es : List Expr) (ts : List TE) (ds : List EM) : Prop where
  p : PJ X es ts
  s : SJ ⟨K, cls, W⟩ ts ds
  k : X.K = K
theorem jnil (hk : X.K = K := by rfl) : XJ X K cls W [] [] [] := by
  cases hk
  exact ⟨.nil, .nil, rfl⟩
theorem jcons {ts : List TE} {ds : List EM} (h : XE X K cls W e te d) (r : XJ X K cls W es ts ds) : XJ X K cls W (e :: es) (te :: ts) (d :: ds) := by
  cases h.k
  exact ⟨.cons h.p r.p, .cons h.s r.s, rfl⟩
theorem xjoin {v1 v2 : Expr} {rest : List Expr} {ts : List TE} {ds : List EM} (h : XJ X K cls W (v1 :: v2 :: rest) ts ds) : XE X K cls W (.JoinedStr (v1 :: v2 :: rest) pos) (fun σ H Q => tJs ts Str.empty σ H fun out H1 => Q (.str out) H1) (dJoin ds) := by
  cases h.k
  exact ⟨pe_joined h.p, se_join h.s, rfl⟩
/-- a class of errors of one's own -/
structure ExK (K : PySem.W.Frag) (mg : Str → Option Value) (cls : Nat → Value) (x : Str) (c : Nat) (C : Addr) : Prop where
  cl : cls c = .ref C
  mgx : mg x = some (.ref C)
  ex : PySem.W.excIn K C [.type "ValueError", .type "Exception", .type "BaseException", .type "object"] "ValueError.__new__" = true
  kp : PySem.W.keepIn K (.ref C) = true
  sb : PySem.W.subIn K (.ref C) (.type "BaseException") = some true
  ty : PySem.W.typeIn K (.ref C) = some (.type "type")
theorem sraise {x : Str} {k : Nat} {C : Addr} (E : ExK X.K X.mg cls x k C) (hc : X.calm = true) (tk : Takes X W) (he : XE X K cls W e te d) (hg : Gl X x := by rfl) (hs : starEach [e] X.env = (false, eval e X.env) :: starEach [] X.env := by rfl) (hdb : (x == ("__debug__" : Str)) = false := by decide) :
    XS X K cls W (.Raise (some (.Call (.Name x p) [e] [] p2)) none pos) (fun _ σ H => (fun (σ : L2.St) (H : Hp) (Q : XK) => te σ H fun _ H1 => Q (.ref C) none H1) σ H fun c d H' => W c d σ H') (dRaise k d) := by
  cases he.k
  exact ⟨ps_raise hc tk (SkE.pmk_own1 PySem.F.excBase_ValueError E.ex E.mgx E.kp (raises_own E.sb E.ty) hg he.p hs hdb), ss_raise E.cl he.s, rfl⟩
/-! try -/
/-- a context in which nothing can stand -/
def noPins : List (Addr × Obj) := [(0, { cls := .none, data := .fields #[] }), (0, { cls := .bool true, data := .fields #[] })]
theorem takesBad {W' : WX} : Takes (X.tr noPins fun _ _ => False) W' := fun u s' x => by
  obtain ⟨a, B, sI, pins, σ, H, cls, d, e, I, _⟩ := x
  have h1 := (I.pin (0, { cls := .none, data := .fields #[] }) (List.mem_append_left _ (by simp [noPins]))).1
  have h2 := (I.pin (0, { cls := .bool true, data := .fields #[] }) (List.mem_append_left _ (by simp [noPins]))).1
  rw [h1] at h2
  cases h2
/-- a class named in an except clause -/
structure HdK (K : PySem.W.Frag) (mg : Str → Option Value) (cls : Nat → Value) (rc : List Nat) (x : Str) (c : Nat) (C : Addr) : Prop where
  mgx : mg x = some (.ref C)
  ex : ∀ c' b, sbE rc c' c = some b → PySem.W.exmOne K (cls c') (.ref C) = some b
theorem ss_ite {C : Ct} {p : Prop} {t u : TS} {d : SM} [Decidable p] (hp : p) (h : SS C t d) : SS C (if p then t else u) d := by
  rw [if_pos hp]
  exact h
theorem stryA {rc : List Nat} (i c : Nat) {x n : Str} {C : Addr} {body suite : List Stmt} {b₀ : Stmt} {np pos' : Pos} {tb : WX → TS} {t : Addr → Value → Option Addr → TS} {db : SM} {ds : Addr → Nat → SM} (hk : HdK X.K X.mg cls rc x c C) (tk : Takes X W)
    (hb : ∀ (W : WX) (pn : List (Addr × Obj)) (xe : Value → Shared → Prop), Takes (X.tr pn xe) W → PassesOwn (model X.prog X.w) X.A X.env xe → XSs (X.tr pn xe) K cls W body (tb W) db)
    (hsu : ∀ (a : Addr) (oe : Obj) (v : Value) (d : Option Addr) (pn : List (Addr × Obj)) (c' : Nat), Zc v d oe → (∃ vs, oe.data = .fields vs) → v = cls c' → d = none → c' ∈ rc → XSs (X.suite a ((a, oe) :: pn)) K cls W0 (b₀ :: suite) (t a v d) (ds a c'))
    (hs : X.stack = X.env :: X.outer := by rfl) (hf : X.env.frame = some X.env.locals := by rfl) (hN : X.N.Nodup) (hi : X.N[i]? = some n := by rfl) (hln : X.env.kindOf n = some .local := by rfl) (hg : Gl X x := by rfl) (hd : (x == ("__debug__" : Str)) = false := by decide) (hKK : X.K = K := by rfl) :
    XS X K cls W (.Try body [.ExceptHandler (some (.Name x np)) (some n) (b₀ :: suite) pos'] [] [] pos)
      (fun D σ H => tb (wAs K (.ref C) i (fun a v d => @ite _ (∃ c', c' ∈ rc ∧ v = cls c' ∧ d = none) (Classical.propDecidable _) (t a v d) fun _ _ _ => False) W D) D σ H) (dTryA rc i c db ds) := by
  cases hKK
  refine ⟨ps_try_as hs hf hN hi hln ⟨hg, hd, .inl hk.mgx⟩ tk (fun W pn xe tk po => (hb W pn xe tk po).p) fun a oe v d pn hz hf => ?_, ss_tryA (fun W => (hb W noPins (fun _ _ => False) takesBad PassesOwn.never).s) (fun a c' hc => ?_) hk.ex, rfl⟩
  · by_cases h : ∃ c', c' ∈ rc ∧ v = cls c' ∧ d = none
    · rw [if_pos h]
      obtain ⟨c', h1, h2, h3⟩ := h
      exact (hsu a oe v d pn c' hz hf h2 h3 h1).p
    · rw [if_neg h]
      exact ⟨fun _ _ _ _ _ _ h => h.elim⟩
  · exact @ss_ite _ _ _ _ _ (Classical.propDecidable _) ⟨c', hc, rfl, rfl⟩ (hsu a { cls := cls c', data := .fields #[] } (cls c') none [] c' ⟨rfl, rfl⟩ ⟨_, rfl⟩ rfl rfl hc).s
theorem stryO {rc : List Nat} (c : Nat) {x : Str} {C : Addr} {body suite : List Stmt} {b₀ : Stmt} {np pos' : Pos} {tb : WX → TS} {t : TS} {db ds : SM} (hk : HdK X.K X.mg cls rc x c C) (tk : Takes X W)
    (hb : ∀ (W : WX) (pn : List (Addr × Obj)) (xe : Value → Shared → Prop), Takes (X.tr pn xe) W → PassesOwn (model X.prog X.w) X.A X.env xe → XSs (X.tr pn xe) K cls W body (tb W) db)
    (hsu : ∀ (a : Addr) (oe : Obj) (pn : List (Addr × Obj)), (∃ vs, oe.data = .fields vs) → XSs (X.suite a ((a, oe) :: pn)) K cls W0 (b₀ :: suite) t ds)
    (hs : X.stack = X.env :: X.outer := by rfl) (hf : X.env.frame = some X.env.locals := by rfl) (hg : Gl X x := by rfl) (hd : (x == ("__debug__" : Str)) = false := by decide) (hKK : X.K = K := by rfl) :
    XS X K cls W (.Try body [.ExceptHandler (some (.Name x np)) none (b₀ :: suite) pos'] [] [] pos)
      (fun D σ H => tb (wOnly K (.ref C) (fun _ _ _ => t) W D) D σ H) (dTryO rc c db ds) := by
  cases hKK
  exact ⟨ps_try_only hs hf ⟨hg, hd, .inl hk.mgx⟩ tk (fun W pn xe tk po => (hb W pn xe tk po).p) fun a oe v d pn hz hf => (hsu a oe pn hf).p, ss_tryO (fun W => (hb W noPins (fun _ _ => False) takesBad PassesOwn.never).s) (fun a v d => (hsu a { cls := .none, data := .fields #[] } [] ⟨_, rfl⟩).s) hk.ex, rfl⟩
/-- a class named in isinstance -/
structure ClK (K : PySem.W.Frag) (mg : Str → Option Value) (cls : Nat → Value) (rc : List Nat) (x : Str) (j : Nat) (v : V) (u : Value) : Prop where
  at' : ClsAt K cls rc j v u
  nm : (mg x = some u ∧ RelV v u) ∨ (mg x = none ∧ bootBuiltins x = some u ∧ RelV v u ∧ x ≠ "__name__")
theorem pe_cl {rc : List Nat} {x : Str} {j : Nat} {v : V} {u : Value} (k : ClK X.K X.mg cls rc x j v u) (hg : Gl X x) (hd : (x == ("__debug__" : Str)) = false) : PE X (.Name x p) (tC v) := by
  rcases k.nm with ⟨h1, h2⟩ | ⟨h1, h2, h3, h4⟩
  · exact pe_glob hg h1 h2 hd
  · exact pe_bltn hg h1 h2 h3 h4 hd
theorem xisX {rc : List Nat} (i j c' : Nat) {a : Addr} {oe : Obj} {w : Value} {dd : Option Addr} {pn : List (Addr × Obj)} {x cn : Str} {v : V} {u : Value} {q1 q2 : Pos} (hz : Zc w dd oe) (hf : ∃ vs, oe.data = .fields vs) (hw : w = cls c') (hdd : dd = none) (k : ClK X.K X.mg cls rc cn j v u) (hm : X.mg "isinstance" = none)
    (hN : X.N[i]? = some x := by rfl) (hv : Vis X.env.scope x := by first | exact Or.inl rfl | exact Or.inr (Or.inl rfl) | exact Or.inr (Or.inr rfl)) (hd : (x == ("__debug__" : Str)) = false := by decide) (hcd : (x == ("__classdict__" : Str)) = false := by decide)
    (hg : Gl X "isinstance" := by rfl) (hgt : Gl X cn := by rfl) (hdt : (cn == ("__debug__" : Str)) = false := by decide)
    (he : starEach [.Name x q1, .Name cn q2] X.env = (false, eval (.Name x q1) X.env) :: starEach [.Name cn q2] X.env := by rfl) (hs2 : starEach [.Name cn q2] X.env = (false, eval (.Name cn q2) X.env) :: starEach [] X.env := by rfl) (hpl : (backTo pos (starEach [.Name cn q2] X.env)).any (·.1) = false := by rfl) (hb : bootBuiltins "isinstance" = some (.builtin "isinstance") := by decide +kernel) (hKK : X.K = K := by rfl) :
    XE (X.suite a ((a, oe) :: pn)) K cls W0 (.Call (.Name "isinstance" p) [.Name x q1, .Name cn q2] [] pos) (tCB (rIsX K w dd a) (tCons (tVar i) (tCons (tC v) tNil))) (dIsX rc i a c' j) := by
  cases hKK
  subst hw hdd
  exact ⟨pe_callB (X := X.suite a ((a, oe) :: pn)) (call_isX hz hf) hg hm hb (pa_cons (pe_var hN hv hd hcd) (pa_cons (pe_cl (X := X.suite a ((a, oe) :: pn)) (cls := cls) k hgt hdt) pa_nil hs2) he) (by decide) (by decide) he hpl, se_isX k.at', rfl⟩
structure XC (X : Cx) (cls : Nat → Value) (rc : List Nat) (es : List Expr) (js : List Nat) (vs : List V) (us : List Value) : Prop where
  p : PA X es (tCs vs)
  s : ClsAts X.K cls rc js vs us
theorem cnil {rc : List Nat} : XC X cls rc [] [] [] [] := ⟨pa_nil, .nil⟩
theorem ccons {rc : List Nat} {cn : Str} {j : Nat} {v : V} {u : Value} {q1 : Pos} {js : List Nat} {vs : List V} {us : List Value} (k : ClK X.K X.mg cls rc cn j v u) (r : XC X cls rc es js vs us) (hgt : Gl X cn := by rfl) (hdt : (cn == ("__debug__" : Str)) = false := by decide)
    (hs : starEach (.Name cn q1 :: es) X.env = (false, eval (.Name cn q1) X.env) :: starEach es X.env := by rfl) : XC X cls rc (.Name cn q1 :: es) (j :: js) (v :: vs) (u :: us) := ⟨pa_cons (pe_cl k hgt hdt) r.p hs, .cons k.at' r.s⟩
theorem xisXT {rc : List Nat} (i c' : Nat) {js : List Nat} {a : Addr} {oe : Obj} {w : Value} {dd : Option Addr} {pn : List (Addr × Obj)} {x : Str} {vs : List V} {us : List Value} {q1 q2 : Pos} {kk : Nat} (hz : Zc w dd oe) (hf : ∃ vs, oe.data = .fields vs) (hw : w = cls c') (hdd : dd = none) (k : XC (X.suite a ((a, oe) :: pn)) cls rc es js vs us) (hm : X.mg "isinstance" = none)
    (hne : js ≠ [] := by decide) (hl : js.length ≤ 1000 := by decide)
    (hN : X.N[i]? = some x := by rfl) (hv : Vis X.env.scope x := by first | exact Or.inl rfl | exact Or.inr (Or.inl rfl) | exact Or.inr (Or.inr rfl)) (hd : (x == ("__debug__" : Str)) = false := by decide) (hcd : (x == ("__classdict__" : Str)) = false := by decide)
    (hg : Gl X "isinstance" := by rfl)
    (he : starEach [.Name x q1, .Tuple es kk q2] X.env = (false, eval (.Name x q1) X.env) :: starEach [.Tuple es kk q2] X.env := by rfl) (hs2 : starEach [.Tuple es kk q2] X.env = (false, eval (.Tuple es kk q2) X.env) :: starEach [] X.env := by rfl) (hpl : (backTo pos (starEach [.Tuple es kk q2] X.env)).any (·.1) = false := by rfl) (hb : bootBuiltins "isinstance" = some (.builtin "isinstance") := by decide +kernel) (hKK : X.K = K := by rfl) :
    XE (X.suite a ((a, oe) :: pn)) K cls W0 (.Call (.Name "isinstance" p) [.Name x q1, .Tuple es kk q2] [] pos) (tCB (rIsXT K w dd a) (tCons (tVar i) (tCons (tTup (tCs vs)) tNil))) (dIsXT rc i a c' js) := by
  cases hKK
  subst hw hdd
  exact ⟨pe_callB (X := X.suite a ((a, oe) :: pn)) (call_isXT hz hf) hg hm hb (pa_cons (pe_var hN hv hd hcd) (pa_cons (pe_tup k.p) pa_nil hs2) he) (by decide) (by decide) he hpl, se_isXT hne k.s hl, rfl⟩
end
/-- a def by what its body does, where no text of data is under way -/
theorem fn_by {P : Program} {w : World} {K : PySem.W.Frag} {mg : Str → Option Value} {base : Heap} {x qual : Str} {st : Stmt} {f : Addr} {fd : FuncData} {N ps : List Str} {k : Nat} {sp : Sp} (F : Fun K x qual st f fd) (S : FnScope N ps (defScope st)) (num : ∀ vs H Q E, sp vs H Q E → vs.length = ps.length)
    (hbody : ∀ (cdv : Value) (A : Around) (outer : List Env) (s : Shared) (H : Hp) (vs : List V) (Q : VK) (E : XK), RmG k (A.deeper (envOfC qual (defScope st) s.heap.objs.size f cdv)) → sp vs H Q E →
      ∃ t, PSs (cxOf (L2.CX P w) P w K mg base N qual (defScope st) f cdv A outer s H E) (defBody st) t ∧ t { nx := fun _ H' => Q .non H', rt := Q } (start N vs) H) : FnG P w K mg base (k + 1) f fd ps sp := by
  obtain ⟨oc, od, kV, doc, pm, an, cdv, ct, osl, e1, lk, hc⟩ := F.ex
  subst e1
  refine { num := num, runs := fun A outer s H args us vs Q E hr e0 hb r hsp => ?_ }
  have kp : ∀ b o, base.get? b = some o → s.heap.get? b = some o := fun b o e => (e0.bs b o e).1
  have KX := e0.mod.kin.keeps kp
  refine codeAny_call_function hr.depth (KX _ _ lk) rfl S.co S.gen rfl (PySem.W.codeRec_of KX hc) (hb _ _ _ _ ?_)
  refine wpAny_newFunctionEnv_cells S.kind (fun y hy => ?_) fun env he s1 ic => ?_
  · rcases S.par y.1 (List.of_mem_zip (show (y.1, y.2) ∈ _ from hy)).1 with q | q
    · exact .inl q
    · exact .inr ⟨q, PySem.W.cellsFrom_some _ _ _ (.inl q)⟩
  · subst he
    obtain ⟨t, ht, hq⟩ := hbody cdv A outer s H vs Q E (hr.deeper _) hsp
    have I := inv_start (CX := L2.CX P w) (E := E) S hr.hd e0 (num _ _ _ _ hsp) r ic
    refine ⟨(e0.mod.nolimit.keeps kp).keeps ic.toInCall.keep, codeAny_func (wpAny_mono (ht.run [] s1 (start N vs) H _ I hq) (fun fl s2 h2 => ?_) fun e s2 h2 => h2)⟩
    cases fl with
    | next =>
      obtain ⟨_, H2, J, q⟩ := h2
      exact ⟨.non, H2, J.os, J.bare, J.base, J.hok, rfl, q⟩
    | ret u =>
      obtain ⟨v, _, H2, J, rv, q⟩ := h2
      exact ⟨v, H2, J.os, J.bare, J.base, J.hok, rv, q⟩
    | brk => exact False.elim h2.choose_spec.choose_spec.2
    | cont => exact False.elim h2.choose_spec.choose_spec.2
/-- THE RULE for a def -/
theorem fn_okR {P : Program} {w : World} {K : PySem.W.Frag} {mg : Str → Option Value} {base : Heap} {cls : Nat → Value} {x qual : Str} {st : Stmt} {f : Addr} {fd : FuncData} {N ps : List Str} {k : Nat} {d : SM} (F : Fun K x qual st f fd) (S : FnScope N ps (defScope st))
    (hbody : ∀ (cdv : Value) (A : Around) (outer : List Env) (s : Shared) (H : Hp) (E : XK), RmG k (A.deeper (envOfC qual (defScope st) s.heap.objs.size f cdv)) →
      Takes (cxOf (L2.CX P w) P w K mg base N qual (defScope st) f cdv A outer s H E) (fun c d _ H => E c d H) →
      (let X := cxOf (L2.CX P w) P w K mg base N qual (defScope st) f cdv A outer s H E; PassesOwn (model X.prog X.w) X.A X.env X.xe) →
      ∃ t, XSs (cxOf (L2.CX P w) P w K mg base N qual (defScope st) f cdv A outer s H E) K cls (fun c d _ H => E c d H) (defBody st) t d) : FnG P w K mg base (k + 1) f fd ps (spT K cls ps.length (dFnR N.length d)) := by
  refine fn_by F S (fun vs H Q E h => by rw [spT_len h]) fun cdv A outer s H vs Q E hr h => ?_
  obtain ⟨t, hx⟩ := hbody cdv A outer s H E hr (takes_of rfl rfl rfl rfl) (passes_of rfl)
  refine ⟨t, hx.p, ?_⟩
  obtain ⟨N0, F0, φ, s0, ts, x, r, e, q⟩ := h
  refine hx.s N0 F0 H φ (ini N.length ts) s0 (L2.start N vs) (rl_start x r) _ ?_
  unfold dFnR at q
  cases hd : d (ini N.length ts) s0 with
  | bad =>
    rw [hd] at q
    exact q.elim
  | ex c e' s' =>
    rw [hd] at q
    exact fun F' φ' H' σ' r' u' => q F' φ' H' r'.hr u'
  | ok fl e' s' =>
    rw [hd] at q
    cases fl with
    | nx => exact fun F' φ' H' σ' r' u' => q .non F' φ' H' r'.hr u' .non
    | rt t => exact fun v F' φ' H' r' u' rp => q v F' φ' H' r' u' rp
    | bk => exact q.elim
    | ct => exact q.elim
theorem fn_ok {P : Program} {w : World} {K : PySem.W.Frag} {mg : Str → Option Value} {base : Heap} {cls : Nat → Value} {x qual : Str} {st : Stmt} {f : Addr} {fd : FuncData} {N ps : List Str} {k : Nat} {d : SM} (F : Fun K x qual st f fd) (S : FnScope N ps (defScope st))
    (hbody : ∀ (cdv : Value) (A : Around) (outer : List Env) (s : Shared) (H : Hp) (E : XK), RmG k (A.deeper (envOfC qual (defScope st) s.heap.objs.size f cdv)) →
      Takes (cxOf (L2.CX P w) P w K mg base N qual (defScope st) f cdv A outer s H E) (fun c d _ H => E c d H) →
      (let X := cxOf (L2.CX P w) P w K mg base N qual (defScope st) f cdv A outer s H E; PassesOwn (model X.prog X.w) X.A X.env X.xe) →
      ∃ t, XSs (cxOf (L2.CX P w) P w K mg base N qual (defScope st) f cdv A outer s H E) K cls (fun c d _ H => E c d H) (defBody st) t d) : FnG P w K mg base (k + 1) f fd ps (spT K cls ps.length (dFn N.length d)) := by
  refine fn_by F S (fun vs H Q E h => by rw [spT_len h]) fun cdv A outer s H vs Q E hr h => ?_
  obtain ⟨t, hx⟩ := hbody cdv A outer s H E hr (takes_of rfl rfl rfl rfl) (passes_of rfl)
  refine ⟨t, hx.p, ?_⟩
  obtain ⟨N0, F0, φ, s0, ts, x, r, e, q⟩ := h
  refine hx.s N0 F0 H φ (ini N.length ts) s0 (L2.start N vs) (rl_start x r) _ ?_
  unfold dFn at q
  cases hd : d (ini N.length ts) s0 with
  | bad =>
    rw [hd] at q
    exact q.elim
  | ex c e' s' =>
    rw [hd] at q
    exact fun F' φ' H' σ' r' u' => PoF.finX x r'.hr u' q
  | ok fl e' s' =>
    rw [hd] at q
    cases fl with
    | nx => exact fun F' φ' H' σ' r' u' => PoF.finP x r'.hr u' (.non (φ := φ')) q
    | rt t => exact fun v F' φ' H' r' u' rp => PoF.finP x r' u' rp q
    | bk => exact q.elim
    | ct => exact q.elim
theorem Fk.mk' {P : Program} {w : World} {K : PySem.W.Frag} {mg : Str → Option Value} {base : Heap} {cls : Nat → Value} {x : Str} {f : Addr} {fd : FuncData} {ps : List Str} {k n : Nat} {g : Gf} (hm : mg x = some (.ref f)) (kp : PySem.W.keepIn K (.ref f) = true) (hb : Binds K fd ps []) (hn : ps.length = n)
    (h : FnG P w K mg base k f fd ps (spT K cls ps.length g)) : Fk P w K mg base cls x k n g := by
  subst hn
  exact ⟨f, fd, ps, rfl, hm, kp, hb, h⟩
/-- the law's promise -/
def spL (K : PySem.W.Frag) (g : Gf) : Sp := spT K (clsOf K) 1 g
theorem law_sp {K : PySem.W.Frag} {g : Gf} {H : Hp} {a : Addr} {ns : List Int} (h : SqL K H a (ns.map V.int)) (q : g [.scr ns] [] = .ok (.bl true) []) : spL K g [.ref a] H (fun v _ => v = .bl true) fun _ _ _ => False := by
  have hr : Hr K (clsOf K) (fun _ => none) H H [] [] := Hr.mk (fun _ _ z => by cases z) (Ex.refl H) (fun _ z => absurd rfl z) rfl (fun i c p hc => by simp at hc) (fun i p hp => by simp at hp) (fun i j p hi => by simp at hi)
  refine ⟨fun _ => none, H, [], [], [.scr ns], hr, .cons (.scr h) .nil, rfl, ?_⟩
  rw [q]
  intro v F' φ' H' _ _ rp
  cases rp
  rfl
theorem cx_no {P : Program} {w : World} {H : Hp} {s : Shared} {e : Value} {s' : Shared} (h : L2.CX P w [] H s (fun _ _ _ => False) e s') : False := by
  obtain ⟨_, _, _, _, _, _, _, _, _, _, _, _, z⟩ := h
  exact z
end Sr

namespace Sr
open PySem PySem.Spec PyProof.Rows L2
/-! ### what runs come to -/
theorem bind_ok {α β : Type} {m : M α} {f : α → M β} {e e' : En} {s s' : Sto} {a : α} (h : m e s = .ok a e' s') : M.bind m f e s = f a e' s' := by
  unfold M.bind
  rw [h]
theorem seq_nx {a b : SM} {e e' : En} {s s' : Sto} (h : a e s = .ok .nx e' s') : dSeq a b e s = b e' s' := by
  unfold dSeq M.bind
  rw [h]
theorem seq_rt {a b : SM} {e e' : En} {s s' : Sto} {r : T} (h : a e s = .ok (.rt r) e' s') : dSeq a b e s = .ok (.rt r) e' s' := by
  unfold dSeq M.bind
  rw [h]
  rfl
theorem seq_ex {a b : SM} {e e' : En} {s s' : Sto} {c : Nat} (h : a e s = .ex c e' s') : dSeq a b e s = .ex c e' s' := by
  unfold dSeq M.bind
  rw [h]
theorem finP_ok {s s' : Sto} {t t' : T} (h : s <+: s') (hr : rs 9 s.length s' t = some t') : finP s t s' = .ok t' s := by
  unfold finP
  rw [if_pos h, hr]
theorem finX_ok {s s' : Sto} {c : Nat} (h : s <+: s') : finX s c s' = .ex c s := by
  unfold finX
  rw [if_pos h]
theorem dFn_rt {n : Nat} {d : SM} {ts : List T} {s l : Sto} {r r' : T} (h : ∃ e : En, d (ini n ts) s = .ok (.rt r) e (s ++ l)) (hr : rs 9 s.length (s ++ l) r = some r') : dFn n d ts s = .ok r' s := by
  obtain ⟨e, h⟩ := h
  unfold dFn
  rw [h]
  exact finP_ok (List.prefix_append ..) hr
theorem dFn_rt0 {n : Nat} {d : SM} {ts : List T} {s : Sto} {r : T} (h : ∃ e : En, d (ini n ts) s = .ok (.rt r) e s) (hr : rs 9 s.length s r = some r) : dFn n d ts s = .ok r s := by
  obtain ⟨e, h⟩ := h
  unfold dFn
  rw [h]
  exact finP_ok (List.prefix_refl ..) hr
theorem dFn_nx {n : Nat} {d : SM} {ts : List T} {s l : Sto} (h : ∃ e : En, d (ini n ts) s = .ok .nx e (s ++ l)) : dFn n d ts s = .ok .non s := by
  obtain ⟨e, h⟩ := h
  unfold dFn
  rw [h]
  exact finP_ok (List.prefix_append ..) rfl
theorem dFn_ex {n : Nat} {d : SM} {ts : List T} {s l : Sto} {c : Nat} (h : ∃ e : En, d (ini n ts) s = .ex c e (s ++ l)) : dFn n d ts s = .ex c s := by
  obtain ⟨e, h⟩ := h
  unfold dFn
  rw [h]
  exact finX_ok (List.prefix_append ..)
theorem dFnR_rt {n : Nat} {d : SM} {ts : List T} {s s' : Sto} {r : T} (h : ∃ e : En, d (ini n ts) s = .ok (.rt r) e s') : dFnR n d ts s = .ok r s' := by
  obtain ⟨e, h⟩ := h
  unfold dFnR
  rw [h]
/-! stores -/
@[simp] theorem sto_at (s : Sto) (x : Cell) (l : List Cell) : (s ++ x :: l)[s.length]? = some x := by
  rw [List.getElem?_append_right (Nat.le_refl _), Nat.sub_self]
  rfl
@[simp] theorem sto_at' (s : Sto) (l : List Cell) (k : Nat) : (s ++ l)[s.length + k]? = l[k]? := by
  rw [List.getElem?_append_right (Nat.le_add_right _ _), Nat.add_sub_cancel_left]
@[simp] theorem sto_set (s : Sto) (x y : Cell) (l : List Cell) : (s ++ x :: l).set s.length y = s ++ y :: l := by
  rw [List.set_append_right _ _ (Nat.le_refl _), Nat.sub_self]
  rfl
@[simp] theorem sto_set' (s : Sto) (y : Cell) (l : List Cell) (k : Nat) : (s ++ l).set (s.length + k) y = s ++ l.set k y := by
  rw [List.set_append_right _ _ (Nat.le_add_right _ _), Nat.add_sub_cancel_left]
/-! ### equality -/
@[simp] theorem dRs_int (f : T → T → Option O) (i j : Int) (e : En) (s : Sto) : dRs f (.int i) (.int j) e s = lift false (f (.int i) (.int j)) e s := rfl
theorem mapO_id {α : Type} {f : α → Option α} : ∀ {xs : List α}, (∀ x ∈ xs, f x = some x) → mapO f xs = some xs
  | [], _ => rfl
  | x :: xs, h => by
    unfold mapO
    rw [h x (List.mem_cons_self ..), mapO_id fun y hy => h y (List.mem_cons_of_mem _ hy)]
theorem mapO_map {α β γ : Type} {f : α → Option β} {g : γ → α} {k : γ → β} : ∀ {xs : List γ}, (∀ x ∈ xs, f (g x) = some (k x)) → mapO f (xs.map g) = some (xs.map k)
  | [], _ => rfl
  | x :: xs, h => by
    rw [List.map_cons]
    unfold mapO
    rw [h x (List.mem_cons_self ..), mapO_map fun y hy => h y (List.mem_cons_of_mem _ hy)]
    rfl
@[simp] theorem rs_int (n b : Nat) (s : Sto) (i : Int) : rs (n + 1) b s (.int i) = some (.int i) := by simp [rs]
@[simp] theorem rs_bl (n b : Nat) (s : Sto) (i : Bool) : rs (n + 1) b s (.bl i) = some (.bl i) := by simp [rs]
@[simp] theorem rs_non (n b : Nat) (s : Sto) : rs (n + 1) b s .non = some .non := by simp [rs]
@[simp] theorem rs_str (n b : Nat) (s : Sto) (x : Str) : rs (n + 1) b s (.str x) = some (.str x) := by simp [rs]
@[simp] theorem rs_scr (n b : Nat) (s : Sto) (x : List Int) : rs (n + 1) b s (.scr x) = some (.scr x) := by simp [rs]
/-- a row of numbers, rows of numbers -/
abbrev eL (ns : List Int) : T := .lst (ns.map .int)
abbrev eM (rs : List (List Int)) : T := .lst (rs.map eL)
@[simp] theorem rs_ints (n b : Nat) (s : Sto) (xs : List Int) : rs (n + 2) b s (.lst (xs.map .int)) = some (.lst (xs.map .int)) := by
  show (mapO (rs (n + 1) b s) (xs.map .int)).map T.lst = _
  rw [mapO_map (k := T.int) fun x _ => rs_int n b s x]
  rfl
@[simp] theorem rs_rows (n b : Nat) (s : Sto) (xs : List (List Int)) : rs (n + 3) b s (.lst (xs.map eL)) = some (.lst (xs.map eL)) := by
  show (mapO (rs (n + 2) b s) (xs.map eL)).map T.lst = _
  rw [mapO_map (k := eL) fun x _ => rs_ints n b s x]
  rfl
theorem rs_tup (n b : Nat) (s : Sto) (xs : List T) : rs (n + 1) b s (.tup xs) = (mapO (rs n b s) xs).map .tup := by simp [rs]
theorem rs_lst (n b : Nat) (s : Sto) (xs : List T) : rs (n + 1) b s (.lst xs) = (mapO (rs n b s) xs).map .lst := by simp [rs]
theorem rs_ref {n b i : Nat} {s : Sto} (h : i < b) : rs (n + 1) b s (.ref i) = some (.ref i) := by simp [rs, h]
theorem rs_cell {n b i : Nat} {s : Sto} {xs : List T} (h : b ≤ i) (hs : s[i]? = some (.l xs)) : rs (n + 1) b s (.ref i) = (mapO (rs n b s) xs).map .lst := by
  simp only [rs, hs]
  rw [if_neg (by omega)]
theorem rs_cell_ints {n b i : Nat} {s : Sto} {xs : List Int} (h : b ≤ i) (hs : s[i]? = some (.l (xs.map .int))) : rs (n + 2) b s (.ref i) = some (eL xs) := by
  rw [rs_cell h hs, mapO_map (k := T.int) fun x _ => rs_int n b s x]
  rfl
@[simp] theorem mapO_nil {α β : Type} (f : α → Option β) : mapO f [] = some [] := rfl
theorem mapO_cons {α β : Type} (f : α → Option β) (x : α) (xs : List α) : mapO f (x :: xs) = (match f x, mapO f xs with
  | some y, some ys => some (y :: ys)
  | _, _ => none) := rfl
theorem toDs_map (xs : List T) : toDs xs = xs.map toD := by
  induction xs with
  | nil => rfl
  | cons x xs ih =>
    show toD x :: toDs xs = _
    rw [ih]
    rfl
theorem clos_all (xs : List T) : clos xs = xs.all clo := by
  induction xs with
  | nil => rfl
  | cons x xs ih =>
    show (clo x && clos xs) = _
    rw [ih]
    rfl
theorem canLayAll_all (xs : List PyData) : PyData.canLayAll0 xs = xs.all PyData.canLay0 := by
  induction xs with
  | nil => simp [PyData.canLayAll0]
  | cons x xs ih => simp [PyData.canLayAll0, ih]
theorem depthAll_le {n : Nat} : ∀ {xs : List PyData}, (∀ x ∈ xs, x.depth ≤ n) → PyData.depthAll xs ≤ n
  | [], _ => by simp [PyData.depthAll]
  | x :: xs, h => by
    have h1 := h x (List.mem_cons_self ..)
    have h2 := depthAll_le (xs := xs) fun y hy => h y (List.mem_cons_of_mem _ hy)
    simp only [PyData.depthAll]
    omega
/-- data of depth at most n -/
def okN (n : Nat) (x : T) : Prop := clo x = true ∧ (toD x).canLay0 = true ∧ (toD x).depth ≤ n
theorem okN.ok {n : Nat} {x : T} (h : okN n x) (hn : n ≤ 64) : okD x = true := by
  unfold okD SeqAt.shaped
  rw [h.1, h.2.1, decide_eq_true (Nat.le_trans h.2.2 hn)]
  rfl
theorem okN_int (n : Nat) (i : Int) : okN (n + 1) (.int i) := ⟨rfl, by simp [toD, PyData.canLay0], by simp [toD, PyData.depth]⟩
theorem okN_bl (n : Nat) (i : Bool) : okN (n + 1) (.bl i) := ⟨rfl, by simp [toD, PyData.canLay0], by simp [toD, PyData.depth]⟩
theorem okN_non (n : Nat) : okN (n + 1) .non := ⟨rfl, by simp [toD, PyData.canLay0], by simp [toD, PyData.depth]⟩
theorem okN_lst {n : Nat} {xs : List T} (h : ∀ x ∈ xs, okN n x) : okN (n + 1) (.lst xs) := by
  refine ⟨?_, ?_, ?_⟩
  · show clos xs = true
    rw [clos_all, List.all_eq_true]
    exact fun x hx => (h x hx).1
  · show PyData.canLay0 (.list (toDs xs)) = true
    simp only [PyData.canLay0]
    rw [toDs_map, canLayAll_all, List.all_map, List.all_eq_true]
    exact fun x hx => (h x hx).2.1
  · show PyData.depth (.list (toDs xs)) ≤ n + 1
    simp only [PyData.depth]
    have := depthAll_le (n := n) (xs := toDs xs) fun y hy => by
      rw [toDs_map] at hy
      obtain ⟨x, hx, rfl⟩ := List.mem_map.mp hy
      exact (h x hx).2.2
    omega
theorem okN_tup {n : Nat} {xs : List T} (h : ∀ x ∈ xs, okN n x) : okN (n + 1) (.tup xs) := by
  refine ⟨?_, ?_, ?_⟩
  · show clos xs = true
    rw [clos_all, List.all_eq_true]
    exact fun x hx => (h x hx).1
  · show PyData.canLay0 (.tuple (toDs xs)) = true
    simp only [PyData.canLay0]
    rw [toDs_map, canLayAll_all, List.all_map, List.all_eq_true]
    exact fun x hx => (h x hx).2.1
  · show PyData.depth (.tuple (toDs xs)) ≤ n + 1
    simp only [PyData.depth]
    have := depthAll_le (n := n) (xs := toDs xs) fun y hy => by
      rw [toDs_map] at hy
      obtain ⟨x, hx, rfl⟩ := List.mem_map.mp hy
      exact (h x hx).2.2
    omega
theorem okN_ints (n : Nat) (xs : List Int) : okN (n + 2) (eL xs) := okN_lst fun x hx => by
  obtain ⟨i, _, rfl⟩ := List.mem_map.mp hx
  exact okN_int n i
theorem okN_rows (n : Nat) (xs : List (List Int)) : okN (n + 3) (eM xs) := okN_lst fun x hx => by
  obtain ⟨i, _, rfl⟩ := List.mem_map.mp hx
  exact okN_ints n i
/-! numbers, lists and tuples of such are equal where they are one -/
mutual
def itr : T → Bool
  | .int _ => true
  | .lst xs => itrs xs
  | .tup xs => itrs xs
  | _ => false
def itrs : List T → Bool
  | [] => true
  | x :: xs => itr x && itrs xs
end
mutual
theorem itr_eq : ∀ {x y : T}, itr x = true → itr y = true → (PyData.eqv (toD x) (toD y) = true ↔ x = y)
  | .int i, .int j, _, _ => by
    show ((i == j) = true) ↔ _
    simp
  | .int i, .lst ys, _, _ => ⟨fun h => by simp [toD, PyData.eqv] at h, fun h => by cases h⟩
  | .int i, .tup ys, _, _ => ⟨fun h => by simp [toD, PyData.eqv] at h, fun h => by cases h⟩
  | .lst xs, .int j, _, _ => ⟨fun h => by simp [toD, PyData.eqv] at h, fun h => by cases h⟩
  | .tup xs, .int j, _, _ => ⟨fun h => by simp [toD, PyData.eqv] at h, fun h => by cases h⟩
  | .lst xs, .tup ys, _, _ => ⟨fun h => by simp [toD, PyData.eqv] at h, fun h => by cases h⟩
  | .tup xs, .lst ys, _, _ => ⟨fun h => by simp [toD, PyData.eqv] at h, fun h => by cases h⟩
  | .lst xs, .lst ys, hx, hy => by
    have h := itrs_eq (xs := xs) (ys := ys) hx hy
    simp only [toD, PyData.eqv, T.lst.injEq]
    exact h
  | .tup xs, .tup ys, hx, hy => by
    have h := itrs_eq (xs := xs) (ys := ys) hx hy
    simp only [toD, PyData.eqv, T.tup.injEq]
    exact h
theorem itrs_eq : ∀ {xs ys : List T}, itrs xs = true → itrs ys = true → (PyData.eqvAll (toDs xs) (toDs ys) = true ↔ xs = ys)
  | [], [], _, _ => by simp [toDs, PyData.eqvAll]
  | [], _ :: _, _, _ => by simp [toDs, PyData.eqvAll]
  | _ :: _, [], _, _ => by simp [toDs, PyData.eqvAll]
  | x :: xs, y :: ys, hx, hy => by
    unfold itrs at hx hy
    rw [Bool.and_eq_true] at hx hy
    have h1 := itr_eq hx.1 hy.1
    have h2 := itrs_eq hx.2 hy.2
    simp only [toDs, PyData.eqvAll, Bool.and_eq_true, List.cons.injEq]
    rw [h1, h2]
end
theorem itrs_of : ∀ {xs : List T}, (∀ x ∈ xs, itr x = true) → itrs xs = true
  | [], _ => rfl
  | x :: xs, h => by
    unfold itrs
    rw [h x (List.mem_cons_self ..), itrs_of fun y hy => h y (List.mem_cons_of_mem _ hy)]
    rfl
theorem itr_ints (xs : List Int) : itr (eL xs) = true := itrs_of fun x hx => by
  obtain ⟨i, _, rfl⟩ := List.mem_map.mp hx
  rfl
theorem itr_rows (xs : List (List Int)) : itr (eM xs) = true := itrs_of fun x hx => by
  obtain ⟨i, _, rfl⟩ := List.mem_map.mp hx
  exact itr_ints i
theorem tEq_of {x y : T} {b : Bool} (hx : okD x = true) (hy : okD y = true) (ix : itr x = true) (iy : itr y = true) (h : b = true ↔ x = y) : tEq x y = some (.v (.bl b)) := by
  unfold tEq
  rw [if_pos ⟨hx, hy⟩]
  have e : PyData.eqv (toD x) (toD y) = b := by
    rw [Bool.eq_iff_iff, itr_eq ix iy, h]
  rw [e]
theorem tNe_of {x y : T} {b : Bool} (hx : okD x = true) (hy : okD y = true) (ix : itr x = true) (iy : itr y = true) (h : b = true ↔ x = y) : tNe x y = some (.v (.bl (!b))) := by
  unfold tNe
  rw [if_pos ⟨hx, hy⟩]
  have e : PyData.eqv (toD x) (toD y) = b := by
    rw [Bool.eq_iff_iff, itr_eq ix iy, h]
  rw [e]
theorem mapInt_inj {a b : List Int} : a.map T.int = b.map T.int ↔ a = b := by
  constructor
  · intro h
    have := List.map_inj_right (f := T.int) (fun x y e => by cases e; rfl) |>.mp h
    exact this
  · rintro rfl
    rfl
theorem mapRow_inj {a b : List (List Int)} : a.map eL = b.map eL ↔ a = b := by
  constructor
  · intro h
    have := List.map_inj_right (f := eL) (fun x y e => mapInt_inj.mp (T.lst.inj e)) |>.mp h
    exact this
  · rintro rfl
    rfl
@[simp] theorem tEq_ints (a b : List Int) : tEq (.lst (a.map .int)) (.lst (b.map .int)) = some (.v (.bl (decide (a = b)))) :=
  tEq_of ((okN_ints 0 a).ok (by omega)) ((okN_ints 0 b).ok (by omega)) (itr_ints a) (itr_ints b) (by rw [decide_eq_true_iff, T.lst.injEq, mapInt_inj])
@[simp] theorem tNe_ints (a b : List Int) : tNe (.lst (a.map .int)) (.lst (b.map .int)) = some (.v (.bl (!decide (a = b)))) :=
  tNe_of ((okN_ints 0 a).ok (by omega)) ((okN_ints 0 b).ok (by omega)) (itr_ints a) (itr_ints b) (by rw [decide_eq_true_iff, T.lst.injEq, mapInt_inj])
@[simp] theorem tEq_rows (a b : List (List Int)) : tEq (.lst (a.map eL)) (.lst (b.map eL)) = some (.v (.bl (decide (a = b)))) :=
  tEq_of ((okN_rows 0 a).ok (by omega)) ((okN_rows 0 b).ok (by omega)) (itr_rows a) (itr_rows b) (by rw [decide_eq_true_iff, T.lst.injEq, mapRow_inj])
@[simp] theorem tNe_rows (a b : List (List Int)) : tNe (.lst (a.map eL)) (.lst (b.map eL)) = some (.v (.bl (!decide (a = b)))) :=
  tNe_of ((okN_rows 0 a).ok (by omega)) ((okN_rows 0 b).ok (by omega)) (itr_rows a) (itr_rows b) (by rw [decide_eq_true_iff, T.lst.injEq, mapRow_inj])
@[simp] theorem dRs_ints (f : T → T → Option O) (a b : List Int) (e : En) (s : Sto) : dRs f (.lst (a.map .int)) (.lst (b.map .int)) e s = lift false (f (.lst (a.map .int)) (.lst (b.map .int))) e s := by
  unfold dRs
  rw [rs_ints, rs_ints]
@[simp] theorem dRs_rows (f : T → T → Option O) (a b : List (List Int)) (e : En) (s : Sto) : dRs f (.lst (a.map eL)) (.lst (b.map eL)) e s = lift false (f (.lst (a.map eL)) (.lst (b.map eL))) e s := by
  unfold dRs
  rw [rs_rows, rs_rows]
theorem dRs_of {f : T → T → Option O} {x y x' y' : T} {e : En} {s : Sto} (hx : rs 9 0 s x = some x') (hy : rs 9 0 s y = some y') : dRs f x y e s = lift false (f x' y') e s := by
  unfold dRs
  rw [hx, hy]
@[simp] theorem tEq_int (i j : Int) : tEq (.int i) (.int j) = some (.v (.bl (decide (i = j)))) := tEq_of ((okN_int 0 i).ok (by omega)) ((okN_int 0 j).ok (by omega)) rfl rfl (by rw [decide_eq_true_iff, T.int.injEq])
@[simp] theorem tNe_int (i j : Int) : tNe (.int i) (.int j) = some (.v (.bl (!decide (i = j)))) := tNe_of ((okN_int 0 i).ok (by omega)) ((okN_int 0 j).ok (by omega)) rfl rfl (by rw [decide_eq_true_iff, T.int.injEq])
@[simp] theorem tAdd_int (i j : Int) : tAdd (.int i) (.int j) = some (.v (.int (i + j))) := rfl
@[simp] theorem tSub_int (i j : Int) : tSub (.int i) (.int j) = some (.v (.int (i - j))) := rfl
@[simp] theorem tLt_int (i j : Int) : tLt (.int i) (.int j) = some (.v (.bl (decide (i < j)))) := rfl
@[simp] theorem tLe_int (i j : Int) : tLe (.int i) (.int j) = some (.v (.bl (decide (i ≤ j)))) := rfl
@[simp] theorem tGt_int (i j : Int) : tGt (.int i) (.int j) = some (.v (.bl (decide (j < i)))) := rfl
@[simp] theorem tGe_int (i j : Int) : tGe (.int i) (.int j) = some (.v (.bl (decide (j ≤ i)))) := rfl
@[simp] theorem tNeg_int (i : Int) : tNegI (.int i) = some (.v (.int (-i))) := rfl
@[simp] theorem tMod_int {i j : Int} (h : 0 < j) : tMod (.int i) (.int j) = some (.v (.int (i % j))) := by
  show (if j ≠ 0 then some (T.int (i.fmod j)) else none).map O.v = _
  rw [if_pos (by omega), Int.fmod_eq_emod_of_nonneg i (by omega)]
  rfl
theorem tFdiv_int {i j : Int} (h : 0 < j) (hj : j.natAbs.log2 < 900000) : tFdiv (.int i) (.int j) = some (.v (.int (i / j))) := by
  show (if divOk j = true then some (T.int (i.fdiv j)) else none).map O.v = _
  rw [if_pos (divOk_nz (by omega)), Int.fdiv_eq_ediv_of_nonneg i (by omega)]
  rfl
theorem log2_small {j : Int} (h : j.natAbs < 2 ^ 64) : j.natAbs.log2 < 64 := by
  rcases Nat.eq_zero_or_pos j.natAbs with h0 | h0
  · rw [h0]
    decide
  · exact (Nat.log2_lt (by omega)).mpr h
@[simp] theorem tFdiv_lit {i j : Int} (h : 0 < j) (h2 : j < 18446744073709551616) : tFdiv (.int i) (.int j) = some (.v (.int (i / j))) := tFdiv_int h (by have := log2_small (j := j) (by omega); omega)
@[simp] theorem tMul_int {i j : Int} (h : mulOk i j = true) : tMul (.int i) (.int j) = some (.v (.int (i * j))) := by
  show (if mulOk i j = true then _ else _) = _
  rw [if_pos h]
@[simp] theorem isInt_int (i : Int) : isB "int" (.int i) = some (.v (.bl true)) := by
  simp only [isB, tyN, show kitB "int" "int" = some true by decide +kernel, Option.map_some]
@[simp] theorem isBool_int (i : Int) : isB "bool" (.int i) = some (.v (.bl false)) := by
  simp only [isB, tyN, show kitB "int" "bool" = some false by decide +kernel, Option.map_some]
@[simp] theorem isList_lst (xs : List T) : isB "list" (.lst xs) = some (.v (.bl true)) := by
  simp only [isB, tyN, show kitB "list" "list" = some true by decide +kernel, Option.map_some]
@[simp] theorem isTuple_tup (xs : List T) : isB "tuple" (.tup xs) = some (.v (.bl true)) := by
  simp only [isB, tyN, show kitB "tuple" "tuple" = some true by decide +kernel, Option.map_some]
theorem log2_lt {j : Int} {n : Nat} (h0 : 0 < n) (h : j.natAbs < 2 ^ n) : j.natAbs.log2 < n := by
  rcases Nat.eq_zero_or_pos j.natAbs with h1 | h1
  · rw [h1]
    simpa using h0
  · exact (Nat.log2_lt (by omega)).mpr h
theorem mulOk_pow {i j : Int} {a b : Nat} (ha : i.natAbs < 2 ^ a) (hb : j.natAbs < 2 ^ b) (h0 : 0 < a) (h1 : 0 < b) (h : a + b ≤ 1000000) : mulOk i j = true := by
  have x := log2_lt h0 ha
  have y := log2_lt h1 hb
  exact mulOk_mk (by omega)
theorem divOk_pow {j : Int} {n : Nat} (h : j ≠ 0) (h1 : j.natAbs < 2 ^ n) (h0 : 0 < n) (h2 : n ≤ 900000) : divOk j = true := divOk_nz h
/-- ten to the sixtieth, never opened -/
def E60 : Int := 10 ^ 60
theorem E60_pos : 0 < E60 := by decide +kernel
theorem E60_eq : (1000000000000000000000000000000000000000000000000000000000000 : Int) = E60 := by decide +kernel
@[simp] theorem pow60 : tPow (.int 10) (.int 60) = some (.v (.int E60)) := by
  have h : tPow (.int 10) (.int 60) = some (.v (.int (10 ^ 60))) := rfl
  rw [h]
  rfl
@[simp] theorem mul60 : tMul (.int 2) (.int E60) = some (.v (.int (2 * E60))) := tMul_int (mulOk_mk (by decide +kernel))
@[simp] theorem mod60 (c : Int) : tMod (.int c) (.int (2 * E60 + 1)) = some (.v (.int (c % (2 * E60 + 1)))) := tMod_int (by have := E60_pos; omega)
@[simp] theorem mod60' (c : Int) : tMod (.int c) (.int E60) = some (.v (.int (c % E60))) := tMod_int E60_pos
theorem atI_natE {α : Type} (xs : List α) (k : Nat) : L2.atI xs ((k : Nat) : Int) = xs[k]? := by
  unfold L2.atI ixN
  by_cases h : k < xs.length
  · rw [if_pos (by omega), if_pos (by omega)]
    simp
  · rw [if_pos (by omega), if_neg (by omega), List.getElem?_eq_none (by omega)]
    rfl
theorem cut_take {α : Type} (xs : List α) (n : Nat) : cut xs none (some (n : Int)) = xs.take n := by
  unfold cut
  rw [HT.sIx_nat, HT.sIx_none, List.drop_zero, Nat.sub_zero]
  rcases Nat.le_total n xs.length with h | h
  · rw [Nat.min_eq_left h]
  · rw [Nat.min_eq_right h, List.take_of_length_le h, List.take_of_length_le (Nat.le_refl _)]
theorem cut_drop {α : Type} (xs : List α) (n : Nat) : cut xs (some (n : Int)) none = xs.drop n := by
  unfold cut
  rw [HT.sIx_nat, HT.sIx_none]
  rcases Nat.le_total n xs.length with h | h
  · rw [Nat.min_eq_left h, List.take_of_length_le (by rw [List.length_drop]; omega)]
  · rw [Nat.min_eq_right h, List.drop_of_length_le h, List.drop_of_length_le (Nat.le_refl _)]
    simp
theorem cut_both {α : Type} (xs : List α) (n m : Nat) (h : n ≤ m) : cut xs (some (n : Int)) (some (m : Int)) = (xs.drop n).take (m - n) := by
  unfold cut
  rw [HT.sIx_nat, HT.sIx_nat]
  apply List.ext_getElem?
  intro i
  simp only [List.getElem?_take, List.getElem?_drop]
  by_cases hn : n ≤ xs.length
  · rw [Nat.min_eq_left hn]
    by_cases hm : m ≤ xs.length
    · rw [Nat.min_eq_left hm]
    · rw [Nat.min_eq_right (by omega)]
      by_cases hi : i < xs.length - n
      · rw [if_pos hi, if_pos (by omega)]
      · rw [if_neg hi]
        by_cases hj : i < m - n
        · rw [if_pos hj, List.getElem?_eq_none (by omega)]
        · rw [if_neg hj]
  · rw [Nat.min_eq_right (by omega : xs.length ≤ n), Nat.min_eq_right (by omega : xs.length ≤ m)]
    rw [if_neg (by omega)]
    by_cases hj : i < m - n
    · rw [if_pos hj, List.getElem?_eq_none (by omega)]
    · rw [if_neg hj]
def natsT (n : Nat) : List T := (List.range n).map fun (k : Nat) => T.int (k : Int)
theorem rngL_nat (n : Nat) : rngL 0 n = natsT n := by
  unfold rngL natsT
  simp only [Int.zero_add]
theorem rng1_nat {n : Nat} (h : n ≤ 1000000) (s : Sto) : rng1 s [.int (n : Int)] = some (natsT n, []) := by
  simp only [rng1]
  rw [if_pos (rngOk_mk (by omega) (by omega) (by omega) (by omega)), Int.toNat_natCast, rngL_nat]


theorem clsOf_of {K : PySem.W.Frag} {n : Nat} {x : Str} {v : Value} (h : clsNames[n]? = some x) (a : PySem.W.nsIn K mainGlobals x = some (some v)) : clsOf K n = v := by
  unfold clsOf
  rw [h]
  dsimp only
  rw [a]
theorem hdk_mk {K : PySem.W.Frag} {mg : Str → Option Value} {cls : Nat → Value} {rc : List Nat} {x : Str} {c : Nat} {C : Addr} (hm : mg x = some (.ref C)) (h : ∀ c' ∈ rc, PySem.W.exmOne K (cls c') (.ref C) = some (c == 0 || c == c')) : HdK K mg cls rc x c C := ⟨hm, fun c' b hb => by
  unfold sbE at hb
  split at hb
  · rename_i hc
    rw [h c' hc, hb]
  · cases hb⟩
theorem clk_b {K : PySem.W.Frag} {mg : Str → Option Value} {cls : Nat → Value} {rc : List Nat} {x : Str} {j : Nat} {v : V} {u : Value} (k : ClsV v u) (hm : (mg x = some u ∧ RelV v u) ∨ (mg x = none ∧ bootBuiltins x = some u ∧ RelV v u ∧ x ≠ "__name__"))
    (h : ∀ c' ∈ rc, ∃ D, cls c' = .ref D ∧ ExcC K D ∧ PySem.W.kitOne K (.ref D) u = some (j == 0 || j == c' || j == 12)) : ClK K mg cls rc x j v u := ⟨⟨k, fun c' b hb => by
  unfold kbE at hb
  split at hb
  · rename_i hc
    obtain ⟨D, h1, h2, h3⟩ := h c' hc
    rw [hb] at h3
    exact ⟨D, h1, h2, h3⟩
  · cases hb⟩, hm⟩
end Sr

namespace Sr
open PySem PySem.Spec PyProof.Rows L2
/-! ### is True, is False -/
def tIsB : T → T → Option O
  | .bl a, .bl b => some (.v (.bl (decide (a = b))))
  | _, _ => none
def tIsnB : T → T → Option O
  | .bl a, .bl b => some (.v (.bl (!decide (a = b))))
  | _, _ => none
@[simp] theorem tIsB_bl (a b : Bool) : tIsB (.bl a) (.bl b) = some (.v (.bl (decide (a = b)))) := rfl
@[simp] theorem tIsnB_bl (a b : Bool) : tIsnB (.bl a) (.bl b) = some (.v (.bl (!decide (a = b)))) := rfl
section
variable {C : Ct}
theorem os_is : OpS C (fun x y H Q => ∃ a b, x = .bl a ∧ y = .bl b ∧ Q (.bl (decide (a = b))) H) tIsB := by
  intro F H φ vx x vy y z Q ex rx ry hz q
  unfold tIsB at hz
  split at hz
  · cases hz
    rcases rx with rx | ⟨_, _, _, _, h, _⟩
    · rcases ry with ry | ⟨_, _, _, _, h, _⟩
      · cases rx
        cases ry
        exact ⟨_, _, rfl, rfl, q _ .bl⟩
      · cases h
    · cases h
  · cases hz
theorem os_isn : OpS C (fun x y H Q => ∃ a b, x = .bl a ∧ y = .bl b ∧ Q (.bl (!decide (a = b))) H) tIsnB := by
  intro F H φ vx x vy y z Q ex rx ry hz q
  unfold tIsnB at hz
  split at hz
  · cases hz
    rcases rx with rx | ⟨_, _, _, _, h, _⟩
    · rcases ry with ry | ⟨_, _, _, _, h, _⟩
      · cases rx
        cases ry
        exact ⟨_, _, rfl, rfl, q _ .bl⟩
      · cases h
    · cases h
  · cases hz
end
section
variable {X : Cx} {K : PySem.W.Frag} {cls : Nat → Value} {W : WX} {a b c e : Expr} {ta tb : TE} {da db : EM} {pos : Pos}
theorem xisB (ha : XE X K cls W a ta da) (hb : XE X K cls W b tb db) : XE X K cls W (.Compare a [.Is] [b] pos) (tOp (fun x y H Q => ∃ a b, x = .bl a ∧ y = .bl b ∧ Q (.bl (decide (a = b))) H) ta tb) (dOp false tIsB da db) := by
  cases ha.k
  exact ⟨pe_cmpR op_is_bl ha.p hb.p (nomark _), se_op os_is ha.s hb.s, rfl⟩
theorem xisnB (ha : XE X K cls W a ta da) (hb : XE X K cls W b tb db) : XE X K cls W (.Compare a [.IsNot] [b] pos) (tOp (fun x y H Q => ∃ a b, x = .bl a ∧ y = .bl b ∧ Q (.bl (!decide (a = b))) H) ta tb) (dOp false tIsnB da db) := by
  cases ha.k
  exact ⟨pe_cmpR op_isnot_bl ha.p hb.p (nomark _), se_op os_isn ha.s hb.s, rfl⟩
theorem yisB (ha : XE X K cls W a ta da) (hb : XE X K cls W b tb db) : XT X K cls W (.Compare a [.Is] [b] pos) (tTest (tOp (fun x y H Q => ∃ a b, x = .bl a ∧ y = .bl b ∧ Q (.bl (decide (a = b))) H) ta tb)) (dTest (dOp false tIsB da db)) := by
  cases ha.k
  exact ⟨pt_cmpR op_is_bl ha.p hb.p (nomark _), st_test (se_op os_is ha.s hb.s), rfl⟩
theorem yisnB (ha : XE X K cls W a ta da) (hb : XE X K cls W b tb db) : XT X K cls W (.Compare a [.IsNot] [b] pos) (tTest (tOp (fun x y H Q => ∃ a b, x = .bl a ∧ y = .bl b ∧ Q (.bl (!decide (a = b))) H) ta tb)) (dTest (dOp false tIsnB da db)) := by
  cases ha.k
  exact ⟨pt_cmpR op_isnot_bl ha.p hb.p (nomark _), st_test (se_op os_isn ha.s hb.s), rfl⟩
end
end Sr
namespace Sr
open PySem PySem.Spec PyProof.Rows L2
/-! ### a < b < c -/
def chB (o : Option O) (k : EM) : EM := fun e s => match o with
  | some (.v (.bl true)) => k e s
  | some (.v (.bl false)) => .ok (.bl false) e s
  | _ => .bad
@[simp] theorem chB_bl (b : Bool) (k : EM) (e : En) (s : Sto) : chB (some (.v (.bl b))) k e s = if b = true then k e s else .ok (.bl false) e s := by cases b <;> rfl
@[simp] def dChain (f g : T → T → Option O) (a b c : EM) : EM := fun e s => (M.bind a fun x => M.bind b fun y => fun e s => chB (f (vw s x) (vw s y)) (M.bind c fun w => fun e s => lift false (g (vw s y) (vw s w)) e s) e s) e s
section
variable {C : Ct}
theorem se_chain {r r' : R2} {f g : T → T → Option O} {ta tb tc : TE} {a b c : EM} (hr : OpS C r f) (hr' : OpS C r' g) (ha : SE C ta a) (hb : SE C tb b) (hc : SE C tc c) : SE C (tChain r r' ta tb tc) (dChain f g a b c) := fun N F H φ e s σ rl Q q => by
  refine ha.go rl Po.pk q fun v x F1 φ1 H1 e1 s1 r1 u1 rp q1 => ?_
  refine hb.go r1 Po.pk q1 fun w y F2 φ2 H2 e2 s2 r2 u2 rp2 q2 => ?_
  unfold chB at q2
  split at q2
  · rename_i hf
    refine hr F2 H2 φ2 v _ w _ _ _ r2.hr.sub (r2.hr.view (rp.mono u2)) (r2.hr.view rp2) hf ?_
    intro z hz
    cases hz
    refine ⟨true, rfl, ?_⟩
    rw [if_pos rfl]
    refine hc.go r2 Po.pk q2 fun w' c F3 φ3 H3 e3 s3 r3 u3 rp3 q3 => ?_
    obtain ⟨z, hz, p⟩ := lift_of r3 q3
    exact hr' F3 H3 φ3 w _ w' _ z Q r3.hr.sub (r3.hr.view (rp2.mono u3)) (r3.hr.view rp3) hz p
  · rename_i hf
    refine hr F2 H2 φ2 v _ w _ _ _ r2.hr.sub (r2.hr.view (rp.mono u2)) (r2.hr.view rp2) hf ?_
    intro z hz
    cases hz
    refine ⟨false, rfl, ?_⟩
    rw [if_neg Bool.false_ne_true]
    exact q2 (.bl false) F2 φ2 H2 r2 (Up.refl _ _) .bl
  · exact q2.elim
end
section
variable {X : Cx} {K : PySem.W.Frag} {cls : Nat → Value} {W : WX} {a b c : Expr} {ta tb tc : TE} {da db dc : EM} {pos : Pos}
/-- the four orders, as operations with their readings -/
structure XOp (X : Cx) (K : PySem.W.Frag) (cls : Nat → Value) (W : WX) (op : CmpOp) (r : R2) (f : T → T → Option O) : Prop where
  p : OpR X (compareOp op) r
  s : OpS ⟨K, cls, W⟩ r f
theorem olt : XOp X K cls W .Lt (rI0 fun i j => .bl (decide (i < j))) tLt := ⟨op_lt, os_lt⟩
theorem ole : XOp X K cls W .LtE (rI0 fun i j => .bl (decide (i ≤ j))) tLe := ⟨op_le, os_le⟩
theorem ogt : XOp X K cls W .Gt (rI0 fun i j => .bl (decide (i > j))) tGt := ⟨op_gt, os_gt⟩
theorem oge : XOp X K cls W .GtE (rI0 fun i j => .bl (decide (i ≥ j))) tGe := ⟨op_ge, os_ge⟩
theorem xchain {op op' : CmpOp} {r r' : R2} {f g : T → T → Option O} (o1 : XOp X K cls W op r f) (o2 : XOp X K cls W op' r' g) (ha : XE X K cls W a ta da) (hb : XE X K cls W b tb db) (hc : XE X K cls W c tc dc) (hm : lastMarks [op, op'] [b, c] = false := by with_unfolding_all rfl) :
    XE X K cls W (.Compare a [op, op'] [b, c] pos) (tChain r r' ta tb tc) (dChain f g da db dc) := by
  cases ha.k
  exact ⟨pe_chain o1.p o2.p ha.p hb.p hc.p hm, se_chain o1.s o2.s ha.s hb.s hc.s, rfl⟩
theorem ychain {op op' : CmpOp} {r r' : R2} {f g : T → T → Option O} (o1 : XOp X K cls W op r f) (o2 : XOp X K cls W op' r' g) (ha : XE X K cls W a ta da) (hb : XE X K cls W b tb db) (hc : XE X K cls W c tc dc) (hm : lastMarks [op, op'] [b, c] = false := by with_unfolding_all rfl) :
    XT X K cls W (.Compare a [op, op'] [b, c] pos) (tTest (tChain r r' ta tb tc)) (dTest (dChain f g da db dc)) := by
  cases ha.k
  exact ⟨pt_chain o1.p o2.p ha.p hb.p hc.p hm, st_test (se_chain o1.s o2.s ha.s hb.s hc.s), rfl⟩
end
end Sr
namespace Sr
open PySem PySem.Spec PyProof.Rows L2
/-! ### x[i], y[j] = a, b -/
def nx0 : R Fl → R Unit
  | .ok .nx e s => .ok () e s
  | _ => .bad
@[simp] theorem nx0_nx (e : En) (s : Sto) : nx0 (.ok .nx e s) = .ok () e s := rfl
@[simp] def gSet (dx di : EM) : GM := fun t e s => nx0 ((M.bind dx fun x => M.bind di fun y => putIx x y t) e s)
section
variable {C : Ct}
theorem sg_sub {to ti : TE} {dx di : EM} (hx : SE C to dx) (hi : SE C ti di) : SG C (gSub to ti rSetL) (gSet dx di) := fun N F H φ e s σ v t rl rp Q q => by
  have q0 : PoS C N { nx := Q, bk := fun _ _ => True, ct := fun _ _ => True, rt := fun _ _ => True } F φ ((M.bind dx fun x => M.bind di fun y => putIx x y t) e s) := by
    unfold gSet at q
    cases hr : (M.bind dx fun x => M.bind di fun y => putIx x y t) e s with
    | ok f e1 s1 =>
      rw [hr] at q
      cases f with
      | nx => exact q
      | _ => exact q.elim
    | ex c e1 s1 => rw [hr] at q; exact q.elim
    | bad => rw [hr] at q; exact q.elim
  refine hx.go (Q := fun o H1 => ti σ H1 fun i H2 => rSetL o i v H2 fun H3 => Q σ H3) rl PoS.pk q0 fun ov o F2 φ2 H2 e2 s2 r2 u2 rp2 q2 => ?_
  refine hi.go (Q := fun i H2 => rSetL ov i v H2 fun H3 => Q σ H3) r2 PoS.pk q2 fun iv y F3 φ3 H3 e3 s3 r3 u3 rp3 q3 => ?_
  cases o with
  | ref i =>
    cases y with
    | int k =>
      simp only [putIx] at q3
      cases hs : s3[i]? with
      | none =>
        rw [hs] at q3
        exact q3.elim
      | some c =>
        rw [hs] at q3
        cases c with
        | o _ _ => exact q3.elim
        | x _ => exact q3.elim
        | l ts =>
          dsimp only at q3
          cases hk : ixN ts.length k with
          | none =>
            rw [hk] at q3
            exact q3.elim
          | some j =>
            rw [hk] at q3
            obtain ⟨p, vs, rfl, hp, h1, h2⟩ := cell_of r3.hr (rp2.mono u3) hs
            cases rp3
            exact ⟨p, vs, k, j, rfl, rfl, h1, by rw [h2.length]; exact hk, q3 F3 φ3 _ σ (r3.mut hp (h2.set j (rp.mono (u2.trans u3)))) (Up.refl _ _)⟩
    | _ => exact q3.elim
  | _ => exact q3.elim
end
end Sr
namespace Sr
open PySem PySem.Spec PyProof.Rows L2
theorem gSet_noex (dx di : EM) (t : T) (e : En) (s : Sto) (c : Nat) (e' : En) (s' : Sto) : gSet dx di t e s ≠ .ex c e' s' := by
  unfold gSet nx0
  intro h
  split at h <;> cases h
section
variable {X : Cx} {K : PySem.W.Frag} {cls : Nat → Value} {W : WX} {a b o : Expr} {es : List Expr} {tb to : TE} {db dx : EM} {pos : Pos}
theorem gsub (ho : XE X K cls W o to dx) (hb : XE X K cls W b tb db)
    (ha : ∀ v, assign (.Subscript o b pos) X.env v = (do
      let ov ← holding [v] (eval o X.env)
      let iv ← holding [v, ov] (eval b X.env)
      standAt pos
      holding [v, ov, iv] (setItem ov iv v)
      release [v, ov, iv] []) := by intro _; rfl) : XG X K cls W (.Subscript o b pos) (gSub to tb rSetL) (gSet dx db) := by
  cases ho.k
  exact ⟨pg_sub ho.p hb.p set_list ha, sg_sub ho.s hb.s, rfl⟩
theorem gsconsS {r : TGs} {dr : List T → M Unit} (ha : XG X K cls W a (gSub to tb rSetL) (gSet dx db)) (hr : XGs X K cls W es r dr)
    (hs : (assignEach (a :: es) X.env).map (fun z => z.2) = assign a X.env :: (assignEach es X.env).map (fun z => z.2) := by rfl) : XGs X K cls W (a :: es) (gCons (gSub to tb rSetL) r) (gCon (gSet dx db) dr) := by
  cases ha.k
  exact ⟨pgs_cons ha.p hr.p hs, sgs_cons ha.s hr.s fun t e s c e' s' => gSet_noex dx db t e s c e' s', rfl⟩
end
end Sr

namespace Sr
open PySem PySem.Spec PyProof.Rows L2
/-! ### ranges as values -/
def rRng1 : List V → Hp → VK → Prop := fun vs H Q => ∃ j, vs = [V.int j] ∧ ∀ p, H p = none → Q (.ref p) (upd H p (.rng 0 j))
theorem cr_range1 {X : Cx} : CallR X (.type "range") rRng1 := fun pins s σ H xs us Q inv vals ⟨j, hx, hQ⟩ => by
  subst hx
  cases vals with
  | cons h r =>
    cases r
    obtain ⟨t, rfl⟩ := h
    refine PySem.call_range_1 ?_
    refine ⟨.ref s.heap.objs.size, upd H s.heap.objs.size (.rng 0 j), ?_, rfl, hQ _ inv.fresh⟩
    refine inv.laid (fun b u h => ?_) (Nat.le_refl _) ?_
    · exact Heap.get?_push_of_some _ h
    · exact ⟨_, _, _, Heap.get?_push_size _ rfl⟩
end Sr
namespace Sr
open PySem PySem.Spec PyProof.Rows L2
section
variable {C : Ct}
noncomputable def dRngV (a : EM) : EM := fun e s => (M.bind a fun x => match x with
  | .int n => M.pure (T.rng 0 n)
  | _ => M.bad) e s
theorem se_rngv {ta : TE} {a : EM} (ha : SE C ta a) : SE C (tCB rRng1 (tCons ta tNil)) (dRngV a) := fun N F H φ e s σ rl Q q => by
  refine ha.go rl Po.pk q fun v x F1 φ1 H1 e1 s1 r1 u1 rp q1 => ?_
  cases rp with
  | int =>
    rename_i n
    refine ⟨n, rfl, fun p hp => ?_⟩
    obtain ⟨r2, u2⟩ := r1.addF (o := .rng 0 n) hp
    exact q1 (.ref p) _ φ1 _ r2 u2 (.rng upd_same)
  | _ => exact q1.elim
noncomputable def rngv : Sto → List T → Option (List T × Ks)
  | _, [.rng lo hi] => if rngOk lo hi = true then some (rngL lo (hi - lo).toNat, []) else none
  | _, _ => none
@[simp] theorem rngv_i (s : Sto) (lo hi : Int) : rngv s [.rng lo hi] = if rngOk lo hi = true then some (rngL lo (hi - lo).toNat, []) else none := rfl
def iRngV (ta : TA) : TI := fun σ H R => ta σ H fun vs H1 => ∃ (p : Addr) (lo hi : Int), vs = [.ref p] ∧ H1 p = some (.rng lo hi) ∧ (-2 ^ 62 ≤ lo ∧ lo < 2 ^ 62 ∧ -2 ^ 62 ≤ hi ∧ hi < 2 ^ 62) ∧ R (Itr lo (hi - lo).toNat) H1
theorem si_rngv {ta : TA} {as : List EM} (ha : SA C ta (dArgs as)) : SI C (iRngV ta) (dItA rngv as) := si_args rfl ha fun N F H φ s vs xs ts ks Q r rs hf k => by
  unfold rngv at hf
  split at hf
  · split at hf
    · rename_i hn
      have hn := rngOk_of hn
      cases hf
      obtain ⟨v, rfl, rp⟩ := rs.one
      cases rp with
      | rng hF => exact ⟨_, _, _, rfl, r.sub _ _ hF, ⟨by omega, by omega, by omega, by omega⟩, k _ wk_rng⟩
    · cases hf
  · cases hf
end
theorem rsz {lo hi : Int} : Builtin.Range.rangeSize lo hi 1 = ((hi - lo).toNat : Nat) := by
  unfold Builtin.Range.rangeSize
  rw [if_pos (by decide)]
  split <;> simp <;> omega
theorem rsmall {lo hi : Int} (h1 : -2 ^ 62 ≤ lo) (h2 : lo < 2 ^ 62) (h3 : -2 ^ 62 ≤ hi) (h4 : hi < 2 ^ 62) : Builtin.Range.small lo hi 1 = true := by
  unfold Builtin.Range.small Builtin.Range.rangeFitsLong
  rw [rsz]
  simp
  omega
theorem pi_rngv {X : Cx} {tg e : Expr} {te : TE} (h : PE X e te) : PI X tg e (iRngV (tCons te tNil)) := ⟨fun pins s σ H R inv w => by
  refine wpAny_mono (h.run pins s σ H _ inv w) (fun v s1 he => ?_) (fun _ _ h => h)
  obtain ⟨x, H1, inv1, rv, p, lo, hi, hx, hp, ⟨b1, b2, b3, b4⟩, hR⟩ := he
  cases hx
  have rv : v = Value.ref p := rv
  subst rv
  obtain ⟨t, u, w', ho⟩ : ∃ t u v, PySem.IsRange s1.heap p lo hi 1 t u v := inv1.hok p _ hp
  refine wpAny_pyIter_range ho (rsmall b1 b2 b3 b4) ?_
  have hsz : s1.heap.objs.size ≤ s1.heap.objs.size := Nat.le_refl _
  have fp := inv1.fpOk (H' := H1) hsz inv1.fresh
  refine ⟨s1.heap.objs.size, [s1.heap.objs.size], _, Itr lo (hi - lo).toNat, H1, rfl, ?_, turn_range _ lo _, ?_, ?_, hR⟩
  · obtain ⟨f1, f2, f3, f4, f5, f6⟩ := fp
    exact inv1.turned (it := s1.heap.objs.size) (fun b o hb hg => Heap.get?_push_of_some _ hg) f1 f2 f4 f5 f6
  · show PySem.IsRangeIter _ _ _ _ _
    refine (Heap.get?_push_size _ rfl).trans ?_
    rw [rsz]
    simp
  · intro b hb
    rw [List.mem_singleton.mp hb]
    exact fp⟩
/-! ### math.gcd -/
def tGcd : List T → Option O
  | [.int i, .int j] => some (.v (.int ((Nat.gcd i.natAbs j.natAbs : Nat) : Int)))
  | _ => none
@[simp] theorem tGcd_int (i j : Int) : tGcd [.int i, .int j] = some (.v (.int ((Nat.gcd i.natAbs j.natAbs : Nat) : Int))) := rfl
section
variable {C : Ct}
theorem bs_gcd : BS C rGcd tGcd := fun F H φ vs xs z Q ex r h q => by
  unfold tGcd at h
  split at h
  · cases h
    cases r with
    | cons a r =>
      cases r with
      | cons b r =>
        cases r
        rcases a with a | ⟨p, us, ts, _, h1, _⟩
        · rcases b with b | ⟨p, us, ts, _, h2, _⟩
          · cases a
            cases b
            exact ⟨_, _, rfl, q _ .int⟩
          · cases h2
        · cases h1
  · cases h
end
section
variable {X : Cx} {K : PySem.W.Frag} {cls : Nat → Value} {W : WX} {a e : Expr} {es : List Expr} {p pos : Pos} {da : EM} {ta : TE}
theorem xrngv (hm : X.mg "range" = none) (ha : XE X K cls W a ta da) (hg : Gl X "range" := by rfl) (hn : ("range" : Str) ≠ "__name__" := by decide) (hd : (("range" : Str) == "__debug__") = false := by decide)
    (he : starEach [a] X.env = [(false, eval a X.env)] := by rfl) (hpl : (backTo pos (starEach [] X.env)).any (·.1) = false := by rfl) : XE X K cls W (.Call (.Name "range" p) [a] [] pos) (tCB rRng1 (tCons ta tNil)) (dRngV da) := by
  cases ha.k
  exact ⟨pe_callTy cr_range1 hg hm (by decide +kernel) (pa_cons ha.p pa_nil he) hn hd he hpl, se_rngv ha.s, rfl⟩
theorem irngv {tg : Expr} (ha : XE X K cls W a ta da) : XI X K cls W tg a (iRngV (tCons ta tNil)) (dItA rngv [da]) := by
  cases ha.k
  exact ⟨pi_rngv ha.p, si_rngv (sa_cons ha.s sa_nil), rfl⟩
theorem xbG {m : Bool} {x : Str} {id : String} {r : List V → Hp → VK → Prop} {f : List T → Option O} {t : TA} {as : List EM} (hc : CallR X (.builtin id) r) (hf : BS ⟨K, cls, W⟩ r f) (hm : X.mg x = some (.builtin id)) (ha : XA X K cls W (e :: es) t as) (hg : Gl X x := by rfl) (hdb : (x == ("__debug__" : Str)) = false := by decide)
    (he : starEach (e :: es) X.env = (false, eval e X.env) :: starEach es X.env := by rfl) (hpl : (backTo pos (starEach es X.env)).any (·.1) = false := by rfl) : XE X K cls W (.Call (.Name x p) (e :: es) [] pos) (tCB r t) (dB m f as) := by
  cases ha.k
  exact ⟨pe_callBfun hc hg hm ha.p hdb he hpl, se_b hf ha.s, rfl⟩
end
end Sr
namespace Sr
open PySem PySem.Spec PyProof.Rows L2
/-! ### xs[i] += e, xs[i] -= e -/
theorem paired_get {α β : Type} {F : α → β → Prop} : ∀ {xs : List α} {ys : List β} {i : Nat} {x : α}, Paired F xs ys → xs[i]? = some x → ∃ y, ys[i]? = some y ∧ F x y
  | _, _, _, _, .nil, h => by simp at h
  | _, _, 0, _, .cons a _, h => by
    cases h
    exact ⟨_, rfl, a⟩
  | _, _, i + 1, _, .cons _ r, h => paired_get (i := i) r h
def rGetL : V → V → Hp → VK → Prop := fun o i H Q => ∃ (p : Addr) (xs : List V) (k : Int) (x : V), o = .ref p ∧ i = .int k ∧ H p = some (.lst xs) ∧ 0 ≤ k ∧ k < 2 ^ 63 ∧ xs[k.toNat]? = some x ∧ Q x H
theorem get_list {X : Cx} : PGet X rGetL := fun pins s σ H o i ov iv Q inv ro ri ⟨p, xs, k, x, ho, hi, hp, h0, h1, hx, q⟩ => by
  subst ho
  subst hi
  have ro : ov = Value.ref p := ro
  obtain ⟨t, rfl⟩ := ri
  subst ro
  obtain ⟨_, its, n, hv, hg⟩ : xs.length ≤ sizeLine ∧ ∃ its n, Vals xs its ∧ s.heap.get? p = some { cls := Value.type "list", data := Data.seq its.toArray n } := inv.hok p _ hp
  obtain ⟨y, hy, rxy⟩ := paired_get hv hx
  exact wpAny_getItem_list (items := its.toArray) ⟨_, hg, rfl, n, rfl⟩ h0 h1 (by simpa using hy) ⟨x, H, inv, rxy, q⟩
section
variable {C : Ct}
noncomputable def ixS (k : Int) : Bool := @decide _ (Classical.propDecidable (0 ≤ k ∧ k < 2 ^ 63))
theorem ixS_mk {k : Nat} (h : k < 1000000) : ixS (k : Nat) = true := @decide_eq_true _ (Classical.propDecidable _) ⟨by omega, by omega⟩
theorem ixS_of {k : Int} (h : ixS k = true) : 0 ≤ k ∧ k < 2 ^ 63 := @of_decide_eq_true _ (Classical.propDecidable _) h
noncomputable def augP (f : Int → Int → Int) (x y : T) (d : EM) : SM := fun e s => match x, y with
  | .ref i, .int k => if ixS k = true then match s[i]? with
    | some (.l ts) => match ts[k.toNat]? with
      | some (.int a) => (M.bind d fun z => match z with
        | .int b => putIx (.ref i) (.int k) (.int (f a b))
        | _ => M.bad) e s
      | _ => .bad
    | _ => .bad else .bad
  | _, _ => .bad
@[simp] noncomputable def dAugS (f : Int → Int → Int) (dx di d : EM) : SM := fun e s => (M.bind dx fun x => M.bind di fun y => augP f x y d) e s
theorem ss_augS {f : Int → Int → Int} {to ti te : TE} {dx di d : EM} (hx : SE C to dx) (hi : SE C ti di) (h : SE C te d) : SS C (tAugS to ti te rGetL (ipI f) rSetL) (dAugS f dx di d) := fun N F H φ e s σ rl D q => by
  refine hx.go (Q := fun o H1 => ti σ H1 fun i H2 => rGetL o i H2 fun x H3 => te σ H3 fun y H4 => ipI f x y H4 fun z H5 => rSetL o i z H5 fun H6 => D.nx σ H6) rl PoS.pk q fun ov o F1 φ1 H1 e1 s1 r1 u1 rp1 q1 => ?_
  refine hi.go (Q := fun i H2 => rGetL ov i H2 fun x H3 => te σ H3 fun y H4 => ipI f x y H4 fun z H5 => rSetL ov i z H5 fun H6 => D.nx σ H6) r1 PoS.pk q1 fun iv y F2 φ2 H2 e2 s2 r2 u2 rp2 q2 => ?_
  unfold augP at q2
  split at q2
  · rename_i i k
    split at q2
    · rename_i hk
      obtain ⟨k0, k1⟩ := ixS_of hk
      split at q2
      · rename_i ts hs
        split at q2
        · rename_i a ha
          obtain ⟨p, vs, rfl, hp, h1, h2⟩ := cell_of r2.hr (rp1.mono u2) hs
          cases rp2
          obtain ⟨v, hv1, hv2⟩ := h2.get ha
          cases hv2
          refine ⟨p, vs, k, .int a, rfl, rfl, h1, k0, k1, hv1, ?_⟩
          refine h.go (Q := fun y H4 => ipI f (.int a) y H4 fun z H5 => rSetL (.ref p) (.int k) z H5 fun H6 => D.nx σ H6) r2 PoS.pk q2 fun bv z F3 φ3 H3 e3 s3 r3 u3 rp3 q3 => ?_
          cases z with
          | int b =>
            cases rp3
            refine ⟨a, b, rfl, rfl, ?_⟩
            simp only [putIx] at q3
            cases hs3 : s3[i]? with
            | none =>
              rw [hs3] at q3
              exact q3.elim
            | some c =>
              rw [hs3] at q3
              cases c with
              | o _ _ => exact q3.elim
              | x _ => exact q3.elim
              | l ts3 =>
                dsimp only at q3
                cases hk3 : ixN ts3.length k with
                | none =>
                  rw [hk3] at q3
                  exact q3.elim
                | some j =>
                  rw [hk3] at q3
                  obtain ⟨p', vs3, e', hp3, g1, g2⟩ := cell_of r3.hr ((rp1.mono u2).mono u3) hs3
                  cases e'
                  exact ⟨p, vs3, k, j, rfl, rfl, g1, by rw [g2.length]; exact hk3, q3 F3 φ3 _ σ (r3.mut hp3 (g2.set j .int)) (Up.refl _ _)⟩
          | _ => exact q3.elim
        · exact q2.elim
      · exact q2.elim
    · exact q2.elim
  · exact q2.elim
end
section
variable {X : Cx} {K : PySem.W.Frag} {cls : Nat → Value} {W : WX} {a b e : Expr} {p pos : Pos} {da db d : EM} {ta tb te : TE}
theorem saugS_sub {tpos : Pos} (ho : XE X K cls W a ta da) (hi : XE X K cls W b tb db) (he : XE X K cls W e te d)
    (hs : ∀ (ov iv new : Value), augStore b ov iv new = (do
      holding [new, ov, iv] (setItem ov iv new)
      release [new, ov, iv] []
      pure Flow.next) := by intro _ _ _; rfl) : XS X K cls W (.AugAssign (.Subscript a b tpos) .Sub e pos) (tAugS ta tb te rGetL (ipI fun i j => i - j) rSetL) (dAugS (fun i j => i - j) da db d) := by
  cases ho.k
  exact ⟨ps_augS ho.p hi.p get_list he.p ip_sub set_list hs, ss_augS ho.s hi.s he.s, rfl⟩
theorem saugS_add {tpos : Pos} (ho : XE X K cls W a ta da) (hi : XE X K cls W b tb db) (he : XE X K cls W e te d)
    (hs : ∀ (ov iv new : Value), augStore b ov iv new = (do
      holding [new, ov, iv] (setItem ov iv new)
      release [new, ov, iv] []
      pure Flow.next) := by intro _ _ _; rfl) : XS X K cls W (.AugAssign (.Subscript a b tpos) .Add e pos) (tAugS ta tb te rGetL (ipI fun i j => i + j) rSetL) (dAugS (fun i j => i + j) da db d) := by
  cases ho.k
  exact ⟨ps_augS ho.p hi.p get_list he.p ip_add set_list hs, ss_augS ho.s hi.s he.s, rfl⟩
end
end Sr
namespace Sr
open PySem PySem.Spec PyProof.Rows L2
/-! ### int(b), max(xs), min(xs), str(i) -/
def tInt1 : List T → Option O
  | [.int i] => some (.v (.int i))
  | [.bl b] => some (.v (.int (if b then 1 else 0)))
  | _ => none
@[simp] theorem tInt1_int (i : Int) : tInt1 [.int i] = some (.v (.int i)) := rfl
@[simp] theorem tInt1_bl (b : Bool) : tInt1 [.bl b] = some (.v (.int (if b then 1 else 0))) := rfl
def maxI : List Int → Int
  | [] => 0
  | [x] => x
  | x :: xs => if maxI xs > x then maxI xs else x
def minI : List Int → Int
  | [] => 0
  | [x] => x
  | x :: xs => if minI xs < x then minI xs else x
theorem maxI_mem : ∀ {xs : List Int}, xs ≠ [] → maxI xs ∈ xs ∧ ∀ y ∈ xs, y ≤ maxI xs
  | [], h => absurd rfl h
  | [x], _ => ⟨List.mem_cons_self .., fun y hy => by rw [List.mem_singleton.mp hy]; exact Int.le_refl _⟩
  | x :: y :: xs, _ => by
    obtain ⟨h1, h2⟩ := maxI_mem (xs := y :: xs) (by simp)
    rw [maxI]
    · split
      · exact ⟨List.mem_cons_of_mem _ h1, fun z hz => by
          rcases List.mem_cons.mp hz with rfl | hz
          · omega
          · exact h2 z hz⟩
      · exact ⟨List.mem_cons_self .., fun z hz => by
          rcases List.mem_cons.mp hz with rfl | hz
          · exact Int.le_refl _
          · have := h2 z hz
            omega⟩
    · simp
theorem minI_mem : ∀ {xs : List Int}, xs ≠ [] → minI xs ∈ xs ∧ ∀ y ∈ xs, minI xs ≤ y
  | [], h => absurd rfl h
  | [x], _ => ⟨List.mem_cons_self .., fun y hy => by rw [List.mem_singleton.mp hy]; exact Int.le_refl _⟩
  | x :: y :: xs, _ => by
    obtain ⟨h1, h2⟩ := minI_mem (xs := y :: xs) (by simp)
    rw [minI]
    · split
      · exact ⟨List.mem_cons_of_mem _ h1, fun z hz => by
          rcases List.mem_cons.mp hz with rfl | hz
          · omega
          · exact h2 z hz⟩
      · exact ⟨List.mem_cons_self .., fun z hz => by
          rcases List.mem_cons.mp hz with rfl | hz
          · exact Int.le_refl _
          · have := h2 z hz
            omega⟩
    · simp
def tMaxL : List T → Option O
  | [.lst xs] => match allInts xs with
    | some (x :: ns) => some (.v (.int (maxI (x :: ns))))
    | _ => none
  | _ => none
def tMinL : List T → Option O
  | [.lst xs] => match allInts xs with
    | some (x :: ns) => some (.v (.int (minI (x :: ns))))
    | _ => none
  | _ => none
section
variable {C : Ct}
theorem bs_int1 : BS C (fun xs H Q => (∃ i, xs = [.int i] ∧ Q (.int i) H) ∨ ∃ k, xs = [.bl k] ∧ Q (.int (if k then 1 else 0)) H) tInt1 := by
  intro F H φ vs xs z Q ex rs h q
  unfold tInt1 at h
  split at h
  · cases h
    obtain ⟨v, rfl, rx⟩ := rs.one
    rw [rx.int]
    exact .inl ⟨_, rfl, q _ .int⟩
  · cases h
    obtain ⟨v, rfl, rx⟩ := rs.one
    rcases rx with rx | ⟨p, vs, ts, _, e, _⟩
    · cases rx
      exact .inr ⟨_, rfl, q _ .int⟩
    · cases e
  · cases h
theorem bs_maxL : BS C (rMax C.K) tMaxL := by
  intro F H φ vs xs z Q ex rs h q
  unfold tMaxL at h
  split at h
  · rename_i ts
    split at h
    · rename_i x ns ha
      cases h
      rw [allInts_eq ha] at rs
      obtain ⟨v, rfl, rx⟩ := rs.one
      obtain ⟨p, ws, rfl, hp, r⟩ := rx.lst ex
      refine ⟨_, x :: ns, rfl, .inl (.inl ?_), by simp, fun m hm hle => ?_⟩
      · rw [← r.ints]
        exact hp
      · obtain ⟨h1, h2⟩ := maxI_mem (xs := x :: ns) (by simp)
        have : m = maxI (x :: ns) := by have := hle _ h1; have := h2 _ hm; omega
        rw [this]
        exact q _ .int
    · cases h
  · cases h
theorem bs_minL : BS C (rMin C.K) tMinL := by
  intro F H φ vs xs z Q ex rs h q
  unfold tMinL at h
  split at h
  · rename_i ts
    split at h
    · rename_i x ns ha
      cases h
      rw [allInts_eq ha] at rs
      obtain ⟨v, rfl, rx⟩ := rs.one
      obtain ⟨p, ws, rfl, hp, r⟩ := rx.lst ex
      refine ⟨_, x :: ns, rfl, .inl (.inl ?_), by simp, fun m hm hle => ?_⟩
      · rw [← r.ints]
        exact hp
      · obtain ⟨h1, h2⟩ := minI_mem (xs := x :: ns) (by simp)
        have : m = minI (x :: ns) := by have := hle _ h1; have := h2 _ hm; omega
        rw [this]
        exact q _ .int
    · cases h
  · cases h
end
end Sr

namespace Sr
open PySem PySem.Spec PyProof.Rows L2
/-! ### divisions of numbers of any size: the modules that are looked for stand as they were laid -/
structure Sy (P : Program) (base : Heap) : Prop where
  tree : P.given.tree = none
  seer : base.NoSeer
  lim : base.NoLimit
theorem pyl_of {P : Program} {w : World} {K : PySem.W.Frag} {mg : Str → Option Value} {base : Heap} {N : List Str} {qual : Str} {sc : Scope} {f : Addr} {cd : Value} {A : Around} {outer : List Env} {s : Shared} {H : Hp} {E : XK} {k : Nat} (sy : Sy P base) (hr : RmG k (A.deeper (envOfC qual sc s.heap.objs.size f cd))) (hk : 34 ≤ k) (hg : sc.isGenerator = false) (hc : sc.isCoroutine = false) : Pyl (cxOf (L2.CX P w) P w K mg base N qual sc f cd A outer s H E) := by
  intro s' hb hfr
  have hd := hr.dp
  exact PySem.PylongRoom.of (sy.lim.keeps hb) (by show (A.deeper (envOfC qual sc s.heap.objs.size f cd)).depth + 100 < _; omega) (PySem.SeerAt.of (sy.seer.keeps hb) sy.tree hfr hg hc rfl rfl)
theorem ns_at {h h' : Heap} {a : Addr} {m : Str → Option Value} (x : h.Ns a m) (k : ∀ o, h.get? a = some o → h'.get? a = some o) : h'.Ns a m := by
  obtain ⟨o, es, ep, h1, h2, h3, h4⟩ := x
  exact ⟨o, es, ep, k o h1, h2, h3, h4⟩
/-- the head, with the modules that are looked for, and no text of data under way -/
theorem walkN {l : PySem.W.OpenLaw} {n k : Nat} {q : Program} {loose : List Str} {XP : (Str → Option Value) → Heap → Prop} {YP : World → Heap → Prop} {d : DefRec} {K : Params → PySem.W.Frag} {g : Gf} {x : Str}
    (hn : l.most = some n) (hn2 : n ≤ sizeLine) (hdf : d.params.defaults = []) (hr : Room k callerA) (htree : l.prog.given.tree = none) (himp : importsNone q = true)
    (hY : ∀ (w : World) (h : Heap), YP w h → (K w.params).In h)
    (F : ∀ (w : World) (mg : Str → Option Value) (fa : Addr) (h : Heap), (K w.params).In h → h.Ns mainGlobals mg → mg d.name = some (.ref fa) →
      ∃ fd : FuncData, (∀ (s : Shared) (u : Value), BindsTo s fd ⟨[u], []⟩ [(x, u)]) ∧
        ∀ base : Heap, Sy l.prog base → (K w.params).In base → base.Ns mainGlobals mg → FnG l.prog w (K w.params) mg base k fa fd [x] (spL (K w.params) g))
    (hg : ∀ ns : List Int, ns.length ≤ n → g [.scr ns] [] = .ok (.bl true) []) :
    PySem.W.WalkO q loose XP YP l.row.toRowW d [] (fun f vs => PySem.call f vs) := by
  refine Att.attach_call hn hdf ?_
  intro w _ t mg mb fa _ _ _ _ a vs ns G Y _ _ _ hmg hobj hints hlen hgen
  have KX := hY w _ Y
  obtain ⟨fd, hb, hF⟩ := F w mg fa _ KX G.T.g hmg
  have rv := vals_ints hints
  have main : ∀ H : Hp, (∀ b, H b ≠ none → b = a) → (∀ o, (K w.params).lookup a = some o → H a = none) → (∀ u, H a = some u → ∃ ob xs, u = .frz ob (.lst xs)) → SqL (K w.params) H a (ns.map V.int) → HOk l.prog w H t.heap →
      codeAny (model l.prog w) callerA (.call (.ref fa) ⟨[.ref a], []⟩) (fun r s' => r = .ok (.ret (.bool true)) ∧ OldK t.heap s'.heap ∧ s'.os = t.os ∧ AllBare s'.gens) t := by
    intro H h1 h2 h3 hS hok
    have free : ∀ {b : Addr} {o : Obj}, t.heap.get? b = some o → (b = a → False) → (hidT t.heap H).get? b = some o := fun {b o} e ne => hidT_get e (Classical.byContradiction fun z => ne (h1 b z))
    have nsH : ∀ {b : Addr} {m : Str → Option Value}, t.heap.Ns b m → (hidT t.heap H).Ns b m := fun {b m} hx => by
      obtain ⟨o, es, ep, u1, u2, u3, u4⟩ := hx
      refine ⟨o, es, ep, free u1 fun z => ?_, u2, u3, u4⟩
      subst z
      rw [hobj] at u1
      cases u1
      cases u2
    have hK : (K w.params).In (hidT t.heap H) := fun b o e => hidT_get (KX b o e) (by
      by_cases z : b = a
      · subst z
        exact h2 o e
      · exact Classical.byContradiction fun y => z (h1 b y))
    obtain ⟨mc, nc, c1, c2⟩ := (G.T.seer himp).statics
    obtain ⟨mm, nm, m1⟩ := (G.T.seer himp).mods
    obtain ⟨mi, ni, i1⟩ := (G.T.seer himp).imp
    obtain ⟨mg', bm, ob, ng, g1, g2, g3, g4⟩ := (G.T.seer himp).main
    obtain ⟨ml, nl, l1⟩ := G.T.nolimit
    obtain ⟨mb2, bb⟩ : ∃ m, t.heap.Ns builtinsNs m ∧ ∀ x : Str, x ≠ "__name__" → m x = bootBuiltins x := ⟨_, G.T.b, G.T.builtins⟩
    have nbm : bm = a → False := fun z => by
      subst z
      rw [hobj] at g2
      cases g2
      simp at g3
    have sy : Sy l.prog (hidT t.heap H) := { tree := htree, seer := { statics := ⟨mc, nsH nc, c1, c2⟩, mods := ⟨mm, nsH nm, m1⟩, imp := ⟨mi, nsH ni, i1⟩, main := ⟨mg', bm, ob, nsH ng, g1, free g2 nbm, g3, g4⟩ }, lim := ⟨ml, nsH nl, l1⟩ }
    have e0 : Env0 l.prog w (K w.params) mg (hidT t.heap H) callerA [] t H := { frames := rfl, mod := { kin := hK, glob := nsH G.T.g, blt := ⟨mb2, nsH bb.1, bb.2⟩, nolimit := ⟨ml, nsH nl, l1⟩ }, bs := fun b o e => of_hidT e, bsz := Nat.le_of_eq (hidT_size _ _), funs := trivial, frf := fun b z => absurd (show b ∈ ([] : List Addr) from z) (by simp), hok := hok, bare := .of_eq hgen }
    refine codeAny_mono ((hF _ sy hK (nsH G.T.g)).runs callerA [] t H ⟨[.ref a], []⟩ [.ref a] [.ref a] _ _ ⟨hr, rfl⟩ e0 (hb t (.ref a)) (.cons rfl .nil) (law_sp hS (hg ns hlen))) fun r s' hq => ?_
    rcases r with e | fl
    · exact (cx_no hq).elim
    cases fl with
    | next => exact False.elim hq
    | brk => exact False.elim hq
    | cont => exact False.elim hq
    | ret u =>
      obtain ⟨v, H', os, bare, un, hok', rvv, qv⟩ := hq
      have ev : v = .bl true := qv
      subst ev
      have eu : u = Value.bool true := rvv
      subst eu
      refine ⟨rfl, OldK.of_keep fun b o e => ?_, os, bare⟩
      by_cases z : H b = none
      · exact un.keep b o e z (fun y => absurd (show b ∈ ([] : List Addr) from y) (by simp)) (by simp)
      · have eb := h1 b z
        subst eb
        obtain ⟨u, hu⟩ := Option.ne_none_iff_exists'.mp z
        obtain ⟨ob, xs, rfl⟩ := h3 u hu
        have k1 := (hok _ _ hu).1
        have k2 := (hok' _ _ (un.frzs _ _ _ hu)).1
        rw [e] at k1
        cases k1
        exact k2
  cases hk : (K w.params).lookup a with
  | some o =>
    have e := KX a o hk
    rw [hobj] at e
    cases e
    exact main (fun _ => none) (fun b z => absurd rfl z) (fun _ _ => rfl) (fun u z => by cases z) (.inr ⟨_, vs.toArray, _, hk, rfl, rfl, rfl, by rw [List.size_toArray, hints.length]; exact Nat.le_trans hlen hn2, by simpa using rv⟩) (fun b u z => by cases z)
  | none =>
    have eH : ∀ b u, (if b = a then some (HO.frz { cls := .type "list", data := .seq vs.toArray } (.lst (ns.map V.int))) else none) = some u → b = a ∧ u = .frz { cls := .type "list", data := .seq vs.toArray } (.lst (ns.map V.int)) := fun b u z => by
      split at z
      · rename_i e
        cases z
        exact ⟨e, rfl⟩
      · cases z
    refine main (fun b => if b = a then some (.frz { cls := .type "list", data := .seq vs.toArray } (.lst (ns.map V.int))) else none) (fun b z => ?_) (fun o z => by rw [hk] at z; cases z) (fun u z => ⟨_, _, (eH a u z).2⟩) (.inl (.inr ⟨_, if_pos rfl⟩)) fun b u z => ?_
    · obtain ⟨u, hu⟩ := Option.ne_none_iff_exists'.mp z
      exact (eH b u hu).1
    · obtain ⟨rfl, rfl⟩ := eH b u z
      exact ⟨hobj, by rw [List.length_map]; exact Nat.le_trans hlen hn2, vs, _, rv, hobj⟩
end Sr

namespace Sr
open PySem PySem.Spec PyProof.Rows L2
/-! ### xs.index(m) of whole numbers -/
def tIdx : T → T → Option O
  | .lst ts, .int m => match allInts ts with
    | some xs => if m ∈ xs then some (.v (.int (xs.idxOf m : Nat))) else none
    | _ => none
  | _, _ => none
theorem idx_le {m : Int} : ∀ {xs : List Int} {j : Nat}, xs[j]? = some m → xs.idxOf m ≤ j
  | [], j, h => by simp at h
  | x :: xs, j, h => by
    rw [List.idxOf_cons]
    by_cases hx : x = m
    · subst hx
      simp
    · cases j with
      | zero =>
        cases h
        exact absurd rfl hx
      | succ j =>
        have ih := idx_le (xs := xs) (j := j) h
        have : (x == m) = false := by simpa using hx
        rw [this]
        simpa using ih
def isLs (x : T) : M Unit := fun e s => match vw s x with
  | .lst _ => .ok () e s
  | _ => .bad
@[simp] def dIndex (dx d : EM) : EM := fun e s => (M.bind dx fun x => M.bind (isLs x) fun _ => M.bind d fun y => fun e s => lift false (tIdx (vw s x) (vw s y)) e s) e s
@[simp] theorem isLs_of {x : T} {s : Sto} {ts : List T} (e : En) (h : vw s x = .lst ts) : isLs x e s = .ok () e s := by
  unfold isLs
  rw [h]
section
variable {C : Ct}
theorem se_index {to t : TE} {dx d : EM} (hx : SE C to dx) (h : SE C t d) : SE C (tBM C.K "list" (rIndex C.K) to (tCons t tNil)) (dIndex dx d) := fun N F H φ e s σ rl Q q => by
  refine hx.go (Q := fun x H1 => tyV C.K "list" x H1 ∧ tCons t tNil σ H1 fun xs H2 => rIndex C.K x xs H2 Q) rl Po.pk q fun v x F1 φ1 H1 e1 s1 r1 u1 rp q1 => ?_
  cases hs : vw s1 x with
  | lst ts =>
    have q1 : Po C (Rep C.K) N σ Q F1 φ1 ((M.bind d fun y => fun e s => lift false (tIdx (vw s x) (vw s y)) e s) e1 s1) := by
      have q1 := q1
      simp only [M.bind, isLs, hs] at q1
      exact q1
    have rv := r1.hr.view rp
    rw [hs] at rv
    obtain ⟨p, vs, rfl, h1, h2⟩ := rv.lst r1.hr.sub
    refine ⟨.inl ⟨rfl, vs, .inl (.inl h1)⟩, ?_⟩
    refine h.go (Q := fun y H2 => tNil σ H2 fun xs H3 => rIndex C.K (.ref p) (y :: xs) H3 Q) r1 Po.pk q1 fun w y F2 φ2 H2 e2 s2 r2 u2 rp2 q2 => ?_
    obtain ⟨z, hz, pv⟩ := lift_of r2 q2
    have rx := r2.hr.view (rp.mono u2)
    have ry := r2.hr.view rp2
    unfold tIdx at hz
    split at hz
    · rename_i us m e1 e2
      split at hz
      · rename_i xs hxs
        split at hz
        · rename_i hm
          cases hz
          rw [e1] at rx
          rw [e2] at ry
          obtain ⟨p', vs', e', g1, g2⟩ := rx.lst r2.hr.sub
          cases e'
          have hw : w = .int m := ry.int
          subst hw
          have e3 := allInts_eq hxs
          rw [e3] at g2
          have g3 := g2.ints
          subst g3
          have hlt := List.idxOf_lt_length_of_mem hm
          refine ⟨p, xs.map V.int, .int m, xs.idxOf m, .int m, rfl, rfl, .inl (.inl g1), rfl, ?_, ?_, ?_, ?_, pv _ .int⟩
          · rw [List.all_eq_true]
            intro y hy
            obtain ⟨i, _, rfl⟩ := List.mem_map.mp hy
            rfl
          · rw [List.getElem?_map, List.getElem?_eq_getElem hlt, List.getElem_idxOf]
            rfl
          · simp [eqV]
          · intro j z' hj hz'
            rw [List.getElem?_map, List.getElem?_eq_getElem (by omega)] at hz'
            cases hz'
            have hne : xs[j]'(by omega) ≠ m := fun z => by
              have := idx_le (xs := xs) (j := j) (m := m) (by rw [List.getElem?_eq_getElem (by omega), z])
              omega
            simp [eqV, hne]
        · cases hz
      · cases hz
    · cases hz
  | _ =>
    simp only [M.bind, isLs, hs] at q1
    exact q1.elim
end
section
variable {X : Cx} {K : PySem.W.Frag} {cls : Nat → Value} {W : WX} {o e : Expr} {to te : TE} {dx d : EM} {apos p2 : Pos}
theorem xindex (ho : XE X K cls W o to dx) (he : XE X K cls W e te d)
    (hbase : attributeBase o "index" X.env (eval o X.env) = eval o X.env := by rfl)
    (hfew : ((backTo p2 (starEach [e] X.env)).all (fun x => !x.1) && (backToKw p2 (keywordEach [] X.env)).all (fun x => x.1.isSome)
      && decide ([e].length + ([] : List Keyword).length + (if ([] : List Keyword).isEmpty then 0 else 1) < 30)) = true := by rfl)
    (hline : (apos.endLine == p2.line) = true := by rfl) (hs : starEach [e] X.env = (false, eval e X.env) :: starEach [] X.env := by rfl) (hplain : (backTo p2 (starEach [] X.env)).any (·.1) = false := by rfl) :
    XE X K cls W (.Call (.Attribute o "index" apos) [e] [] p2) (tBM K "list" (rIndex K) to (tCons te tNil)) (dIndex dx d) := by
  cases ho.k
  exact ⟨pe_bm PySem.F.plainAttrs_list PySem.F.slot_list_index PySem.F.type_list_index mt_index ho.p (pa_cons he.p pa_nil hs) hbase hfew hline hs hplain, se_index ho.s he.s, rfl⟩
end
end Sr

namespace Sr
open PySem PySem.Spec PyProof.Rows L2
/-! ### loops and comprehensions -/
/-- a comprehension whose turns leave the slots (own ones aside) and the store as they were -/
theorem lc_map {α : Type} {ks : Ks} {own : List Nat} {g : GM} {el : EM} {e0 : En} {s : Sto} {f k : α → T} (hk : kp ks s) : ∀ {xs : List α} {acc : List T}, acc.length + xs.length ≤ 16777216 →
    (∀ x ∈ xs, ∃ e1 e2, g (f x) e0 s = .ok () e1 s ∧ el e1 s = .ok (k x) e2 s ∧ wipeE e2 own = e0) → lcL ks own g dYes el (xs.map f) acc e0 s = .ok (acc ++ xs.map k) e0 s
  | [], acc, _, _ => by
    rw [List.map_nil, lcL_nilk hk, List.map_nil, List.append_nil]
  | x :: xs, acc, hl, h => by
    obtain ⟨e1, e2, h1, h2, h3⟩ := h x (List.mem_cons_self ..)
    rw [List.map_cons, lcL_consk hk, bind_ok h1]
    show (M.bind dYes _) e1 s = _
    rw [bind_ok (show dYes e1 s = .ok true e1 s from rfl)]
    rw [if_pos rfl, bind_ok h2]
    simp only [List.length_cons] at hl
    rw [if_pos (lenOk_mk (by omega)), h3]
    rw [lc_map hk (by rw [List.length_append, List.length_singleton]; omega) fun y hy => h y (List.mem_cons_of_mem _ hy), List.append_assoc]
    rfl
/-- .. with a test -/
theorem lc_filter {α : Type} {ks : Ks} {own : List Nat} {g : GM} {tt : M Bool} {el : EM} {e0 : En} {s : Sto} {f k : α → T} {p : α → Bool} (hk : kp ks s) : ∀ {xs : List α} {acc : List T}, acc.length + xs.length ≤ 16777216 →
    (∀ x ∈ xs, ∃ e1 e2, g (f x) e0 s = .ok () e1 s ∧ tt e1 s = .ok (p x) e2 s ∧ (p x = false → wipeE e2 own = e0) ∧ (p x = true → ∃ e3, el e2 s = .ok (k x) e3 s ∧ wipeE e3 own = e0)) →
    lcL ks own g tt el (xs.map f) acc e0 s = .ok (acc ++ (xs.filter p).map k) e0 s
  | [], acc, _, _ => by
    rw [List.map_nil, lcL_nilk hk, List.filter_nil, List.map_nil, List.append_nil]
  | x :: xs, acc, hl, h => by
    obtain ⟨e1, e2, h1, h2, h3, h4⟩ := h x (List.mem_cons_self ..)
    simp only [List.length_cons] at hl
    have hr := fun y hy => h y (List.mem_cons_of_mem _ hy)
    rw [List.map_cons, lcL_consk hk, bind_ok h1, bind_ok h2]
    cases hp : p x with
    | false =>
      rw [if_neg Bool.false_ne_true, h3 hp, lc_filter hk (by omega) hr, List.filter_cons_of_neg (by rw [hp]; exact Bool.false_ne_true)]
    | true =>
      obtain ⟨e3, h5, h6⟩ := h4 hp
      rw [if_pos rfl, bind_ok h5, if_pos (lenOk_mk (by omega)), h6, lc_filter hk (by rw [List.length_append, List.length_singleton]; omega) hr, List.filter_cons_of_pos hp, List.append_assoc]
      rfl
/-- a comprehension whose turns make new cells: what is made so far, by a fold -/
theorem lc_cells {α : Type} {ks : Ks} {own : List Nat} {g : GM} {el : EM} {e0 : En} {f : α → T} {c : α → Cell} : ∀ {xs : List α} {acc : List T} {s : Sto}, (∀ l, kp ks (s ++ l)) → acc.length + xs.length ≤ 16777216 →
    (∀ x ∈ xs, ∀ l, ∃ e1 e2, g (f x) e0 (s ++ l) = .ok () e1 (s ++ l) ∧ el e1 (s ++ l) = .ok (.ref (s ++ l).length) e2 (s ++ l ++ [c x]) ∧ wipeE e2 own = e0) →
    lcL ks own g dYes el (xs.map f) acc e0 s = .ok (acc ++ (List.range xs.length).map fun i => .ref (s.length + i)) e0 (s ++ xs.map c)
  | [], acc, s, hk, _, _ => by
    have hk0 := hk []
    rw [List.append_nil] at hk0
    rw [List.map_nil, lcL_nilk hk0]
    simp
  | x :: xs, acc, s, hk, hl, h => by
    have hk0 := hk []
    rw [List.append_nil] at hk0
    obtain ⟨e1, e2, h1, h2, h3⟩ := h x (List.mem_cons_self ..) []
    rw [List.append_nil] at h1 h2
    rw [List.map_cons, lcL_consk hk0, bind_ok h1]
    show (M.bind dYes _) e1 s = _
    rw [bind_ok (show dYes e1 s = .ok true e1 s from rfl)]
    rw [if_pos rfl, bind_ok h2]
    simp only [List.length_cons] at hl
    rw [if_pos (lenOk_mk (by omega)), h3]
    rw [lc_cells (s := s ++ [c x]) (fun l => by rw [List.append_assoc]; exact hk _) (by rw [List.length_append, List.length_singleton]; omega) fun y hy l => by
      rw [List.append_assoc]
      exact h y (List.mem_cons_of_mem _ hy) _]
    congr 1
    · rw [List.append_assoc, List.length_cons, List.range_succ_eq_map, List.map_cons, List.map_map]
      congr 1
      rw [List.singleton_append, List.length_append, List.length_singleton, Nat.add_zero]
      congr 1
      apply List.map_congr_left
      intro i _
      show T.ref (s.length + 1 + i) = T.ref (s.length + (i + 1))
      congr 1
      omega
    · rw [List.append_assoc]
      rfl
/-- a for loop whose turns go on -/
theorem forL_inv {ks : Ks} {g : GM} {b : SM} (I : Nat → En → Sto → Prop) : ∀ (xs : List T) (n : Nat) {e : En} {s : Sto}, I n e s → (∀ i e s, I i e s → kp ks s) →
    (∀ i x e s, xs[i]? = some x → I (n + i) e s → ∃ e1 s1, (M.bind (g x) fun _ => b) e s = .ok .nx e1 s1 ∧ I (n + i + 1) e1 s1) → ∃ e' s', forL ks g b xs e s = .ok .nx e' s' ∧ I (n + xs.length) e' s'
  | [], n, e, s, h0, hk, _ => ⟨e, s, forL_nilk (hk _ _ _ h0), h0⟩
  | x :: xs, n, e, s, h0, hk, hs => by
    obtain ⟨e1, s1, h1, h2⟩ := hs 0 x e s rfl h0
    obtain ⟨e2, s2, h3, h4⟩ := forL_inv I xs (n + 1) h2 hk fun i y e s hy hi => by
      have e1 : n + 1 + i = n + (i + 1) := by omega
      rw [e1] at hi ⊢
      exact hs (i + 1) y e s hy hi
    refine ⟨e2, s2, ?_, ?_⟩
    · rw [forL_consk (hk _ _ _ h0)]
      unfold M.bind at h1 ⊢
      cases hg : g x e s with
      | ok u e3 s3 =>
        rw [hg] at h1
        dsimp only at h1 ⊢
        rw [h1]
        exact h3
      | ex c e3 s3 => rw [hg] at h1; cases h1
      | bad => rw [hg] at h1; cases h1
    · rw [List.length_cons]
      have e1 : n + (xs.length + 1) = n + 1 + xs.length := by omega
      rw [e1]
      exact h4
/-- a for loop that looks for something: goes on to the end, or gives r out where the test first holds -/
theorem forL_find {ks : Ks} {g : GM} {b : SM} {r : T} {e0 : En} {s : Sto} {i : Nat} (p : T → Bool) (hk : kp ks s) : ∀ (xs : List T) (o : Option T),
    (∀ x ∈ xs, ∀ o, ∃ e1, (M.bind (g x) fun _ => b) (e0.set i o) s = .ok (if p x = true then .rt r else .nx) e1 s ∧ (p x = false → e1 = e0.set i (some x))) →
    ∃ e', forL ks g b xs (e0.set i o) s = .ok (if xs.any p = true then .rt r else .nx) e' s ∧ (xs.any p = false → ∃ o, e' = e0.set i o)
  | [], o, _ => ⟨_, by rw [forL_nilk hk]; rfl, fun _ => ⟨o, rfl⟩⟩
  | x :: xs, o, h => by
    obtain ⟨e1, h1, h2⟩ := h x (List.mem_cons_self ..) o
    rw [List.any_cons]
    rw [forL_consk hk]
    unfold M.bind at h1 ⊢
    cases hg : g x (e0.set i o) s with
    | ok u e3 s3 =>
      rw [hg] at h1
      dsimp only at h1 ⊢
      rw [h1]
      cases hp : p x with
      | true =>
        rw [if_pos rfl]
        exact ⟨e1, rfl, fun z => by cases z⟩
      | false =>
        rw [h2 hp]
        obtain ⟨e2, h3, h4⟩ := forL_find p hk xs (some x) fun y hy => h y (List.mem_cons_of_mem _ hy)
        exact ⟨e2, h3, h4⟩
    | ex c e3 s3 => rw [hg] at h1; cases h1
    | bad => rw [hg] at h1; cases h1
theorem whileF_stop {t : M Bool} {b : SM} {n : Nat} {e e1 : En} {s s1 : Sto} (h : t e s = .ok false e1 s1) : whileF t b (n + 1) e s = .ok .nx e1 s1 := by
  simp [whileF, h]
theorem whileF_go {t : M Bool} {b : SM} {n : Nat} {e e1 e2 : En} {s s1 s2 : Sto} (h : t e s = .ok true e1 s1) (hb : b e1 s1 = .ok .nx e2 s2) : whileF t b (n + 1) e s = whileF t b n e2 s2 := by
  simp [whileF, h, hb]
/-- a while loop by a measure -/
theorem whileF_inv {t : M Bool} {b : SM} (I : En → Sto → Prop) (μ : En → Sto → Nat) (hstep : ∀ e s, I e s → ∃ c, t e s = .ok c e s ∧ (c = true → ∃ e1 s1, b e s = .ok .nx e1 s1 ∧ I e1 s1 ∧ μ e1 s1 < μ e s)) : ∀ (n : Nat) (e : En) (s : Sto), I e s → μ e s < n → ∃ e' s', whileF t b n e s = .ok .nx e' s' ∧ I e' s' ∧ t e' s' = .ok false e' s'
  | 0, _, _, _, h => absurd h (Nat.not_lt_zero _)
  | n + 1, e, s, hi, hn => by
    obtain ⟨c, h1, h2⟩ := hstep e s hi
    cases c with
    | false => exact ⟨e, s, whileF_stop h1, hi, h1⟩
    | true =>
      obtain ⟨e1, s1, h3, h4, h5⟩ := h2 rfl
      obtain ⟨e2, s2, h6, h7⟩ := whileF_inv I μ hstep n e1 s1 h4 (by omega)
      exact ⟨e2, s2, by rw [whileF_go h1 h3]; exact h6, h7⟩
end Sr
namespace Sr
open PySem PySem.Spec PyProof.Rows L2
/-! ### rows of numbers, as they are read -/
/-- a reads as the row ns -/
structure Rw (s : Sto) (a : T) (ns : List Int) : Prop where
  vw : vw s a = eL ns
theorem Rw.lst (s : Sto) (ns : List Int) : Rw s (eL ns) ns := ⟨rfl⟩
theorem Rw.cell {s : Sto} {i : Nat} {ns : List Int} (h : s[i]? = some (.l (ns.map .int))) : Rw s (.ref i) ns := ⟨by simp [h]⟩
theorem Rw.cases {s : Sto} {a : T} {ns : List Int} (h : Rw s a ns) : a = eL ns ∨ ∃ i, a = .ref i ∧ s[i]? = some (.l (ns.map .int)) := by
  have h := h.vw
  cases a with
  | ref i =>
    refine .inr ⟨i, rfl, ?_⟩
    unfold Sr.vw at h
    dsimp only at h
    split at h
    · rename_i ts hs
      rw [hs]
      rw [T.lst.inj h]
    · cases h
  | _ => exact .inl h
theorem Rw.items {s : Sto} {a : T} {ns : List Int} (h : Rw s a ns) : ∃ ks, lItems s a = some (ns.map .int, ks) ∧ kp ks s := by
  rcases h.cases with rfl | ⟨i, rfl, hs⟩
  · exact ⟨[], rfl, trivial⟩
  · exact ⟨[(i, ns.map .int)], by simp [hs], hs, trivial⟩
theorem Rw.itms {s : Sto} {a : T} {ns : List Int} (h : Rw s a ns) : ∃ ks, Sr.itms s a = some (ns.map .int, ks) ∧ kp ks s := by
  rcases h.cases with rfl | ⟨i, rfl, hs⟩
  · exact ⟨[], rfl, trivial⟩
  · exact ⟨[(i, ns.map .int)], by simp [hs], hs, trivial⟩
theorem Rw.rs {s : Sto} {a : T} {ns : List Int} (h : Rw s a ns) (n : Nat) : rs (n + 2) 0 s a = some (eL ns) := by
  rcases h.cases with rfl | ⟨i, rfl, hs⟩
  · exact rs_ints n 0 s ns
  · exact rs_cell_ints (Nat.zero_le _) hs
theorem Rw.up {s : Sto} {a : T} {ns : List Int} (h : Rw s a ns) (l : Sto) : Rw (s ++ l) a ns := by
  rcases h.cases with rfl | ⟨i, rfl, hs⟩
  · exact .lst _ _
  · refine .cell ?_
    rw [List.getElem?_append_left]
    · exact hs
    · rcases Nat.lt_or_ge i s.length with q | q
      · exact q
      · rw [List.getElem?_eq_none q] at hs
        cases hs
theorem zipT_ints : ∀ (xs ys : List Int), zipT (xs.map .int) (ys.map .int) = (List.zip xs ys).map fun p => .tup [.int p.1, .int p.2]
  | [], _ => by simp [zipT]
  | _ :: _, [] => by simp [zipT]
  | x :: xs, y :: ys => by
    simp only [List.map_cons, zipT, List.zip_cons_cons]
    rw [zipT_ints xs ys]
theorem kp_and {k1 k2 : Ks} {s : Sto} (h1 : kp k1 s) (h2 : kp k2 s) : kp (k1 ++ k2) s := by
  induction k1 with
  | nil => exact h2
  | cons x k ih =>
    obtain ⟨i, ts⟩ := x
    exact ⟨h1.1, ih h1.2⟩
theorem map_zip {α β γ : Type} (f : α → β → γ) : ∀ (xs : List α) (ys : List β), (List.zip xs ys).map (fun p => f p.1 p.2) = List.zipWith f xs ys
  | [], _ => by simp
  | _ :: _, [] => by simp
  | x :: xs, y :: ys => by
    rw [List.zip_cons_cons, List.map_cons, map_zip f xs ys, List.zipWith_cons_cons]
theorem map_zipI (f : Int → Int → Int) (xs ys : List Int) : (List.zip xs ys).map (fun p => T.int (f p.1 p.2)) = (List.zipWith f xs ys).map T.int := by
  rw [← map_zip f xs ys, List.map_map]
  rfl
/-! numbers from 0 on -/
theorem nat_log2 {b : Nat} (h : b ≤ 1000000000000) : ((b : Nat) : Int).natAbs.log2 < 9000 := by
  have := log2_small (j := (b : Int)) (by omega)
  omega
theorem tFdiv_nat {a b : Nat} (h : 0 < b) (h2 : b ≤ 1000000000000) : tFdiv (.int (a : Nat)) (.int (b : Nat)) = some (.v (.int ((a / b : Nat) : Int))) := by
  rw [tFdiv_int (by omega) (by have := nat_log2 h2; omega)]
  rfl
theorem tMod_nat {a b : Nat} (h : 0 < b) : tMod (.int (a : Nat)) (.int (b : Nat)) = some (.v (.int ((a % b : Nat) : Int))) := by
  rw [tMod_int (by omega)]
  rfl
theorem tMul_nat {a b : Nat} (h : a ≤ 1000000000000) (h2 : b ≤ 1000000000000) : tMul (.int (a : Nat)) (.int (b : Nat)) = some (.v (.int ((a * b : Nat) : Int))) := by
  have h1 := nat_log2 h
  have h3 := nat_log2 h2
  rw [tMul_int (mulOk_mk (by omega))]
  rfl
@[simp] theorem rng1_i (s : Sto) (n : Int) : rng1 s [.int n] = if rngOk n 0 = true then some (rngL 0 n.toNat, []) else none := rfl
@[simp] theorem rng2_i (s : Sto) (n m : Int) : rng2 s [.int n, .int m] = if rngOk n m = true then some (rngL n (m - n).toNat, []) else none := rfl
theorem rngOk_nat {n : Nat} (h : n ≤ 1000000) : rngOk (n : Int) 0 = true := rngOk_mk (by omega) (by omega) (by omega) (by omega)
theorem atI_map_range {α : Type} (f : Nat → α) {n j : Nat} (h : j < n) : L2.atI ((List.range n).map f) ((j : Nat) : Int) = some (f j) := by
  rw [atI_natE, List.getElem?_map, List.getElem?_range h]
  rfl
theorem atI_mapI {ns : List Int} {j : Nat} {i : Int} (h : ns[j]? = some i) : L2.atI (ns.map T.int) ((j : Nat) : Int) = some (.int i) := by
  rw [atI_natE, List.getElem?_map, h]
  rfl
theorem atI_mapL {ns : List (List Int)} {j : Nat} {i : List Int} (h : ns[j]? = some i) : L2.atI (ns.map eL) ((j : Nat) : Int) = some (eL i) := by
  rw [atI_natE, List.getElem?_map, h]
  rfl
theorem natsT_at {n i : Nat} {x : T} (h : (natsT n)[i]? = some x) : i < n ∧ x = .int (i : Nat) := by
  unfold natsT at h
  rcases Nat.lt_or_ge i n with q | q
  · rw [List.getElem?_map, List.getElem?_range q] at h
    exact ⟨q, (Option.some.inj h).symm⟩
  · rw [List.getElem?_eq_none (by rw [List.length_map, List.length_range]; exact q)] at h
    cases h
theorem natsT_len (n : Nat) : (natsT n).length = n := by
  unfold natsT
  rw [List.length_map, List.length_range]
theorem ixN_nat {n j : Nat} (h : j < n) : ixN n ((j : Nat) : Int) = some j := by
  unfold ixN
  rw [if_pos (by omega), if_pos (by omega)]
  simp
/-- a row's cell -/
abbrev cR (r : List Int) : Cell := .l (r.map .int)
/-- the rows that stand in the cells behind s -/
theorem rs_refs (n b : Nat) (s : Sto) (R : List (List Int)) (hb : b ≤ s.length) : rs (n + 3) b (s ++ R.map cR) (.lst ((List.range R.length).map fun i => .ref (s.length + i))) = some (eM R) := by
  rw [rs_lst]
  have h : mapO (rs (n + 2) b (s ++ R.map cR)) ((List.range R.length).map fun i => .ref (s.length + i)) = some ((List.range R.length).map fun i => eL (R.getD i [])) := mapO_map fun i hi => by
    have hi := List.mem_range.mp hi
    refine rs_cell_ints (by omega) ?_
    rw [sto_at', List.getElem?_map, List.getElem?_eq_getElem hi]
    simp [cR, List.getD_eq_getElem?_getD, List.getElem?_eq_getElem hi]
  rw [h]
  have e : ((List.range R.length).map fun i => eL (R.getD i [])) = R.map eL := by
    apply List.ext_getElem?
    intro i
    rw [List.getElem?_map, List.getElem?_map]
    rcases Nat.lt_or_ge i R.length with q | q
    · rw [List.getElem?_range q, List.getElem?_eq_getElem q]
      simp [List.getD_eq_getElem?_getD, List.getElem?_eq_getElem q]
    · rw [List.getElem?_eq_none (by rw [List.length_range]; exact q), List.getElem?_eq_none q]
      rfl
  rw [e]
  rfl
theorem set_self {α : Type} {s : List α} {i : Nat} {x : α} (h : s[i]? = some x) : s.set i x = s := by
  apply List.ext_getElem?
  intro j
  by_cases q : j = i
  · subst q
    have : j < s.length := by
      rcases Nat.lt_or_ge j s.length with q | q
      · exact q
      · rw [List.getElem?_eq_none q] at h
        cases h
    rw [List.getElem?_set_self this, h]
  · rw [List.getElem?_set_ne (Ne.symm q)]
theorem zipWith_range {α β γ : Type} (f : α → β → γ) {xs : List α} {ys : List β} {k : Nat} (hx : xs.length = k) (hy : ys.length = k) (F : Nat → γ) (h : ∀ i x y, xs[i]? = some x → ys[i]? = some y → F i = f x y) : (List.range k).map F = List.zipWith f xs ys := by
  apply List.ext_getElem?
  intro i
  rw [List.getElem?_map, List.getElem?_zipWith]
  rcases Nat.lt_or_ge i k with q | q
  · rw [List.getElem?_range q, List.getElem?_eq_getElem (show i < xs.length by omega), List.getElem?_eq_getElem (show i < ys.length by omega)]
    show some (F i) = some _
    rw [h i _ _ (List.getElem?_eq_getElem _) (List.getElem?_eq_getElem _)]
  · rw [List.getElem?_eq_none (by rw [List.length_range]; exact q), List.getElem?_eq_none (show xs.length ≤ i by omega)]
    rfl
theorem map_range {α γ : Type} (f : α → γ) {xs : List α} {k : Nat} (hx : xs.length = k) (F : Nat → γ) (h : ∀ i x, xs[i]? = some x → F i = f x) : (List.range k).map F = xs.map f := by
  apply List.ext_getElem?
  intro i
  rw [List.getElem?_map, List.getElem?_map]
  rcases Nat.lt_or_ge i k with q | q
  · rw [List.getElem?_range q, List.getElem?_eq_getElem (show i < xs.length by omega)]
    show some (F i) = some _
    rw [h i _ (List.getElem?_eq_getElem _)]
  · rw [List.getElem?_eq_none (by rw [List.length_range]; exact q), List.getElem?_eq_none (show xs.length ≤ i by omega)]
    rfl
/-- the law's end: True -/
theorem law_end {n : Nat} {d : SM} {ts : List T} (h : ∃ (e : En) (s : Sto), d (ini n ts) [] = .ok (.rt (.bl true)) e s) : dFn n d ts [] = .ok (.bl true) [] := by
  obtain ⟨e, s, h⟩ := h
  unfold dFn
  rw [h]
  exact finP_ok (List.nil_prefix) rfl
/-! rows of rows, as they are read -/
structure Rws (s : Sto) (a : T) (ts : List T) (rows : List (List Int)) : Prop where
  vw : vw s a = .lst ts
  len : ts.length = rows.length
  at' : ∀ (i : Nat) (t : T) (r : List Int), ts[i]? = some t → rows[i]? = some r → Rw s t r
theorem Rws.lst (s : Sto) (rows : List (List Int)) : Rws s (eM rows) (rows.map eL) rows := ⟨rfl, List.length_map _, fun i t r h1 h2 => by
  rw [List.getElem?_map, h2] at h1
  cases h1
  exact .lst s r⟩
theorem vw_items {s : Sto} {a : T} {ts : List T} (h : Sr.vw s a = .lst ts) : ∃ ks, lItems s a = some (ts, ks) ∧ Sr.itms s a = some (ts, ks) ∧ kp ks s := by
  cases a with
  | ref i =>
    unfold Sr.vw at h
    dsimp only at h
    split at h
    · rename_i us hs
      cases h
      exact ⟨[(i, ts)], by simp [hs], by simp [hs], hs, trivial⟩
    · cases h
  | lst us => cases h; exact ⟨[], rfl, rfl, trivial⟩
  | _ => cases h
theorem zipT_get? (xs : List Int) : ∀ (n : Nat) (ts : List T) (i : Nat) (x : T), (zipT (xs.map .int) ts)[i]? = some x → ∃ c t, xs[i]? = some c ∧ ts[i]? = some t ∧ x = .tup [.int c, t] := by
  intro _ ts
  induction xs generalizing ts with
  | nil =>
    intro i x h
    simp [zipT] at h
  | cons c xs ih =>
    cases ts with
    | nil =>
      intro i x h
      simp [zipT] at h
    | cons t ts =>
      intro i x h
      cases i with
      | zero =>
        cases h
        exact ⟨c, t, rfl, rfl, rfl⟩
      | succ i => exact ih ts i x h
end Sr

/-! rows of numbers: sums, products, mixing -/
namespace Mx
abbrev Row := List Int
def add (a b : Row) : Row := List.zipWith (· + ·) a b
def sub (a b : Row) : Row := List.zipWith (· - ·) a b
def smul (m : Int) (a : Row) : Row := a.map (m * ·)
def zer (k : Nat) : Row := List.replicate k 0
def dot (a b : Row) : Int := (List.zipWith (· * ·) a b).sum
/-- the sum of all rows, each so often -/
def mix (k : Nat) : List Int → List Row → Row
  | c :: cs, r :: rs => add (smul c r) (mix k cs rs)
  | _, _ => zer k
theorem add_len {a b : Row} {k : Nat} (ha : a.length = k) (hb : b.length = k) : (add a b).length = k := by
  unfold add
  rw [List.length_zipWith]
  omega
theorem sub_len {a b : Row} {k : Nat} (ha : a.length = k) (hb : b.length = k) : (sub a b).length = k := by
  unfold sub
  rw [List.length_zipWith]
  omega
theorem smul_len (m : Int) (a : Row) : (smul m a).length = a.length := List.length_map _
theorem zer_len (k : Nat) : (zer k).length = k := List.length_replicate
theorem mix_len {k : Nat} : ∀ {cs : List Int} {rs : List Row}, (∀ r ∈ rs, r.length = k) → (mix k cs rs).length = k
  | [], _, _ => by simp [mix, zer]
  | _ :: _, [], _ => by simp [mix, zer]
  | c :: cs, r :: rs, h => add_len (by rw [smul_len]; exact h r (List.mem_cons_self ..)) (mix_len fun x hx => h x (List.mem_cons_of_mem _ hx))
/-- entry by entry -/
theorem ext_row {a b : Row} {k : Nat} (ha : a.length = k) (hb : b.length = k) (h : ∀ i, i < k → a.getD i 0 = b.getD i 0) : a = b := by
  apply List.ext_getElem?
  intro i
  rcases Nat.lt_or_ge i k with q | q
  · have := h i q
    rw [List.getD_eq_getElem?_getD, List.getD_eq_getElem?_getD] at this
    rw [List.getElem?_eq_getElem (by omega), List.getElem?_eq_getElem (by omega)] at this ⊢
    exact congrArg some this
  · rw [List.getElem?_eq_none (by omega), List.getElem?_eq_none (by omega)]
theorem getD_eq {a : Row} {i : Nat} (h : i < a.length) : a[i]? = some (a.getD i 0) := by
  rw [List.getD_eq_getElem?_getD, List.getElem?_eq_getElem h]
  rfl
theorem add_at {a b : Row} {k i : Nat} (ha : a.length = k) (hb : b.length = k) : (add a b).getD i 0 = a.getD i 0 + b.getD i 0 := by
  unfold add
  rw [List.getD_eq_getElem?_getD, List.getElem?_zipWith, List.getD_eq_getElem?_getD, List.getD_eq_getElem?_getD]
  rcases Nat.lt_or_ge i k with q | q
  · rw [List.getElem?_eq_getElem (show i < a.length by omega), List.getElem?_eq_getElem (show i < b.length by omega)]
    rfl
  · rw [List.getElem?_eq_none (show a.length ≤ i by omega), List.getElem?_eq_none (show b.length ≤ i by omega)]
    rfl
theorem sub_at {a b : Row} {k i : Nat} (ha : a.length = k) (hb : b.length = k) : (sub a b).getD i 0 = a.getD i 0 - b.getD i 0 := by
  unfold sub
  rw [List.getD_eq_getElem?_getD, List.getElem?_zipWith, List.getD_eq_getElem?_getD, List.getD_eq_getElem?_getD]
  rcases Nat.lt_or_ge i k with q | q
  · rw [List.getElem?_eq_getElem (show i < a.length by omega), List.getElem?_eq_getElem (show i < b.length by omega)]
    rfl
  · rw [List.getElem?_eq_none (show a.length ≤ i by omega), List.getElem?_eq_none (show b.length ≤ i by omega)]
    rfl
theorem smul_at (m : Int) (a : Row) (i : Nat) : (smul m a).getD i 0 = m * a.getD i 0 := by
  unfold smul
  rw [List.getD_eq_getElem?_getD, List.getElem?_map, List.getD_eq_getElem?_getD]
  cases a[i]? with
  | none => show (0 : Int) = m * 0; rw [Int.mul_zero]
  | some x => rfl
theorem zer_at (k i : Nat) : (zer k).getD i 0 = 0 := by
  unfold zer
  rw [List.getD_eq_getElem?_getD, List.getElem?_replicate]
  split <;> rfl
theorem mix_at {k i : Nat} : ∀ {cs : List Int} {rs : List Row}, (∀ r ∈ rs, r.length = k) → (mix k cs rs).getD i 0 = (List.zipWith (fun c r => c * r.getD i 0) cs rs).sum
  | [], _, _ => by rw [mix, zer_at] <;> simp
  | _ :: _, [], _ => by rw [mix, zer_at] <;> simp
  | c :: cs, r :: rs, h => by
    have hr := fun x hx => h x (List.mem_cons_of_mem _ hx)
    rw [mix, add_at (k := k) (by rw [smul_len]; exact h r (List.mem_cons_self ..)) (mix_len hr), smul_at, mix_at hr, List.zipWith_cons_cons, List.sum_cons]
theorem add_comm (a b : Row) : add a b = add b a := by
  unfold add
  rw [List.zipWith_comm]
  congr 1
  funext x y
  exact Int.add_comm _ _
theorem add_assoc {a b c : Row} {k : Nat} (ha : a.length = k) (hb : b.length = k) (hc : c.length = k) : add (add a b) c = add a (add b c) :=
  ext_row (add_len (add_len ha hb) hc) (add_len ha (add_len hb hc)) fun i _ => by
    rw [add_at (add_len ha hb) hc, add_at ha hb, add_at ha (add_len hb hc), add_at hb hc, Int.add_assoc]
theorem zer_add {a : Row} {k : Nat} (ha : a.length = k) : add (zer k) a = a := ext_row (add_len (zer_len k) ha) ha fun i _ => by rw [add_at (zer_len k) ha, zer_at, Int.zero_add]
theorem add_zer {a : Row} {k : Nat} (ha : a.length = k) : add a (zer k) = a := by rw [add_comm, zer_add ha]
/-- summed from the left -/
theorem mix_fold {k : Nat} : ∀ {cs : List Int} {rs : List Row} {t : Row}, t.length = k → (∀ r ∈ rs, r.length = k) → (List.zip cs rs).foldl (fun t p => add t (smul p.1 p.2)) t = add t (mix k cs rs)
  | [], _, t, ht, _ => by simp [mix, add_zer ht]
  | _ :: _, [], t, ht, _ => by simp [mix, add_zer ht]
  | c :: cs, r :: rs, t, ht, h => by
    have hr := fun x hx => h x (List.mem_cons_of_mem _ hx)
    have hl : (smul c r).length = k := by rw [smul_len]; exact h r (List.mem_cons_self ..)
    rw [List.zip_cons_cons, List.foldl_cons, mix_fold (add_len ht hl) hr, mix, add_assoc ht hl (mix_len hr)]
/-! weighing -/
theorem dot_cons (x y : Int) (a b : Row) : dot (x :: a) (y :: b) = x * y + dot a b := by
  unfold dot
  rw [List.zipWith_cons_cons, List.sum_cons]
theorem dot_add : ∀ {a b w : Row}, a.length = w.length → b.length = w.length → dot (add a b) w = dot a w + dot b w
  | [], [], w, _, _ => by simp [dot, add]
  | [], _ :: _, w, h1, h2 => by simp at h1 h2; omega
  | _ :: _, [], w, h1, h2 => by simp at h1 h2; omega
  | x :: a, y :: b, [], h1, _ => by simp at h1
  | x :: a, y :: b, z :: w, h1, h2 => by
    have ih := dot_add (a := a) (b := b) (w := w) (by simpa using h1) (by simpa using h2)
    show dot ((x + y) :: add a b) (z :: w) = _
    rw [dot_cons, dot_cons, dot_cons, ih, Int.add_mul]
    omega
theorem dot_smul (m : Int) : ∀ (a w : Row), dot (smul m a) w = m * dot a w
  | [], w => by simp [dot, smul]
  | x :: a, [] => by simp [dot, smul]
  | x :: a, z :: w => by
    show dot ((m * x) :: smul m a) (z :: w) = _
    rw [dot_cons, dot_cons, dot_smul m a w, Int.mul_add, Int.mul_assoc]
theorem dot_zer : ∀ (k : Nat) (w : Row), dot (zer k) w = 0
  | 0, w => by simp [dot, zer]
  | k + 1, [] => by simp [dot]
  | k + 1, z :: w => by
    show dot (0 :: zer k) (z :: w) = 0
    rw [dot_cons, dot_zer k w]
    omega
theorem dot_mix {k : Nat} {w : Row} (hw : w.length = k) : ∀ {cs : List Int} {rs : List Row}, (∀ r ∈ rs, r.length = k) → dot (mix k cs rs) w = (List.zipWith (fun c r => c * dot r w) cs rs).sum
  | [], _, _ => by simp [mix, dot_zer]
  | _ :: _, [], _ => by simp [mix, dot_zer]
  | c :: cs, r :: rs, h => by
    have hr := fun x hx => h x (List.mem_cons_of_mem _ hx)
    have hl : (smul c r).length = k := by rw [smul_len]; exact h r (List.mem_cons_self ..)
    rw [mix, dot_add (by rw [hl, hw]) (by rw [mix_len hr, hw]), dot_smul, dot_mix hw hr, List.zipWith_cons_cons, List.sum_cons]
theorem dot_comm (a b : Row) : dot a b = dot b a := by
  unfold dot
  rw [List.zipWith_comm]
  congr 2
  funext x y
  exact Int.mul_comm _ _
/-! sizes -/
theorem abs_sum {b : Nat} : ∀ {xs : List Int}, (∀ x ∈ xs, x.natAbs ≤ b) → xs.sum.natAbs ≤ xs.length * b
  | [], _ => by simp
  | x :: xs, h => by
    have h1 := h x (List.mem_cons_self ..)
    have h2 := abs_sum (xs := xs) fun y hy => h y (List.mem_cons_of_mem _ hy)
    rw [List.sum_cons, List.length_cons, Nat.add_mul, Nat.one_mul]
    have := Int.natAbs_add_le x xs.sum
    omega
end Mx

/-! stairs: the place of a row, rows led down rungs -/
namespace Hn
open Mx
/-- where a row's first number but 0 stands -/
def place : Row → Nat
  | [] => 0
  | x :: xs => if x = 0 then place xs + 1 else 0
abbrev ld (r : Row) : Int := r.getD (place r) 0
theorem place_cons0 (xs : Row) : place (0 :: xs) = place xs + 1 := by
  show (if (0 : Int) = 0 then place xs + 1 else 0) = _
  rw [if_pos rfl]
theorem place_cons1 {x : Int} (xs : Row) (h : x ≠ 0) : place (x :: xs) = 0 := by
  show (if x = 0 then place xs + 1 else 0) = _
  rw [if_neg h]
theorem place_le : ∀ r : Row, place r ≤ r.length
  | [] => Nat.le_refl _
  | x :: xs => by
    have := place_le xs
    unfold place
    rw [List.length_cons]
    split <;> omega
theorem ahead0 : ∀ {r : Row} {i : Nat}, i < place r → r.getD i 0 = 0
  | [], _, h => by simp
  | x :: xs, 0, h => by
    unfold place at h
    split at h
    · rename_i hx
      simpa using hx
    · omega
  | x :: xs, i + 1, h => by
    unfold place at h
    split at h
    · have := ahead0 (r := xs) (i := i) (by omega)
      simpa using this
    · omega
theorem ld_ne : ∀ {r : Row}, place r < r.length → ld r ≠ 0
  | [], h => by simp at h
  | x :: xs, h => by
    unfold ld
    unfold place at h ⊢
    split
    · rename_i hx
      rw [if_pos hx, List.length_cons] at h
      have := ld_ne (r := xs) (by omega)
      simpa using this
    · rename_i hx
      simpa using hx
theorem place_of {r : Row} {p : Nat} (h0 : ∀ i, i < p → r.getD i 0 = 0) (h1 : r.getD p 0 ≠ 0) : place r = p := by
  have h2 : p < r.length := by
    rcases Nat.lt_or_ge p r.length with q | q
    · exact q
    · rw [List.getD_eq_getElem?_getD, List.getElem?_eq_none q] at h1
      exact absurd rfl h1
  rcases Nat.lt_trichotomy (place r) p with q | q | q
  · exact absurd (h0 _ q) (ld_ne (by omega))
  · exact q
  · exact absurd (ahead0 q) h1
theorem place_zer (k : Nat) : place (zer k) = k := by
  induction k with
  | zero => rfl
  | succ k ih =>
    show place (0 :: zer k) = _
    unfold place
    rw [if_pos rfl, ih]
theorem eq_zer {r : Row} (h : place r = r.length) : r = zer r.length := by
  refine ext_row rfl (zer_len _) fun i hi => ?_
  rw [ahead0 (by omega)]
  unfold zer
  rw [List.getD_eq_getElem?_getD, List.getElem?_replicate]
  split <;> rfl
theorem zer_at (k i : Nat) : (zer k).getD i 0 = 0 := by
  unfold zer
  rw [List.getD_eq_getElem?_getD, List.getElem?_replicate]
  split <;> rfl
theorem smul_at (m : Int) (r : Row) (i : Nat) : (smul m r).getD i 0 = m * r.getD i 0 := by
  unfold smul
  rw [List.getD_eq_getElem?_getD, List.getElem?_map, List.getD_eq_getElem?_getD]
  cases r[i]? with
  | none => simp
  | some x => rfl
/-- rows whose places rise, of k numbers, their first ones above 0 -/
structure Up (k : Nat) (rs : List Row) : Prop where
  len : ∀ r ∈ rs, r.length = k
  plc : ∀ r ∈ rs, place r < k
  pos : ∀ r ∈ rs, 0 < ld r
  ris : rs.Pairwise fun a b => place a < place b
theorem Up.tail {k : Nat} {r : Row} {rs : List Row} (h : Up k (r :: rs)) : Up k rs :=
  ⟨fun x hx => h.len x (List.mem_cons_of_mem _ hx), fun x hx => h.plc x (List.mem_cons_of_mem _ hx), fun x hx => h.pos x (List.mem_cons_of_mem _ hx), (List.pairwise_cons.mp h.ris).2⟩
theorem Up.head {k : Nat} {r : Row} {rs : List Row} (h : Up k (r :: rs)) : ∀ x ∈ rs, place r < place x := (List.pairwise_cons.mp h.ris).1
/-- a purse led down rungs -/
def led : List Row → Row → List Int × Row
  | [], x => ([], x)
  | r :: rs, x => (x.getD (place r) 0 / ld r :: (led rs (sub x (smul (x.getD (place r) 0 / ld r) r))).1, (led rs (sub x (smul (x.getD (place r) 0 / ld r) r))).2)
theorem mix_at0 {k p : Nat} : ∀ {cs : List Int} {rs : List Row}, (∀ r ∈ rs, r.length = k) → (∀ r ∈ rs, p < place r) → (mix k cs rs).getD p 0 = 0
  | [], _, _, _ => by simp only [mix]; exact zer_at _ _
  | _ :: _, [], _, _ => by simp only [mix]; exact zer_at _ _
  | c :: cs, r :: rs, h, hp => by
    have hr := fun x hx => h x (List.mem_cons_of_mem _ hx)
    rw [mix, add_at (k := k) (by rw [smul_len]; exact h r (List.mem_cons_self ..)) (mix_len hr), smul_at, ahead0 (hp r (List.mem_cons_self ..)), mix_at0 hr fun x hx => hp x (List.mem_cons_of_mem _ hx)]
    omega
theorem sub_head {k : Nat} {a b c : Row} (ha : a.length = k) (hb : b.length = k) (hc : c.length = k) : sub (add (add a b) c) a = add b c := by
  refine ext_row (k := k) (sub_len (add_len (add_len ha hb) hc) ha) (add_len hb hc) fun i _ => ?_
  rw [sub_at (add_len (add_len ha hb) hc) ha, add_at (add_len ha hb) hc, add_at ha hb, add_at hb hc]
  omega
theorem led_mix {k : Nat} : ∀ {rs : List Row} {cs : List Int} {w : Row}, Up k rs → cs.length = rs.length → w.length = k → (∀ r ∈ rs, 0 ≤ w.getD (place r) 0 ∧ w.getD (place r) 0 < ld r) → led rs (add (mix k cs rs) w) = (cs, w)
  | [], [], w, _, _, hw, _ => by
    simp only [mix, led]
    rw [zer_add hw]
  | [], _ :: _, _, _, h, _, _ => by simp at h
  | _ :: _, [], _, _, h, _, _ => by simp at h
  | r :: rs, c :: cs, w, hu, hl, hw, hr => by
    have h0 := hu.len r (List.mem_cons_self ..)
    have hm := mix_len (cs := cs) hu.tail.len
    have h1 : (add (mix k (c :: cs) (r :: rs)) w).getD (place r) 0 = c * ld r + w.getD (place r) 0 := by
      rw [mix, add_at (add_len (by rw [smul_len]; exact h0) hm) hw, add_at (k := k) (by rw [smul_len]; exact h0) hm, smul_at, mix_at0 hu.tail.len hu.head, Int.add_zero]
    have hp := hu.pos r (List.mem_cons_self ..)
    have h2 : (c * ld r + w.getD (place r) 0) / ld r = c := by
      rw [Int.mul_comm, Int.mul_add_ediv_left _ _ (by omega), Int.ediv_eq_zero_of_lt (hr r (List.mem_cons_self ..)).1 (hr r (List.mem_cons_self ..)).2]
      omega
    have ih := led_mix (rs := rs) (cs := cs) (w := w) hu.tail (by simpa using hl) hw fun x hx => hr x (List.mem_cons_of_mem _ hx)
    unfold led
    rw [h1, h2, mix, sub_head (by rw [smul_len]; exact h0) hm hw, ih]
end Hn
namespace Hn
open Mx
theorem set_at (r : Row) (p : Nat) (x : Int) (i : Nat) (h : p < r.length) : (r.set p x).getD i 0 = if i = p then x else r.getD i 0 := by
  rw [List.getD_eq_getElem?_getD, List.getElem?_set, List.getD_eq_getElem?_getD]
  by_cases q : p = i
  · subst q
    rw [if_pos rfl, if_pos h, if_pos rfl]
    rfl
  · rw [if_neg q, if_neg (Ne.symm q)]
/-- two rows of a stair stand at places of their own -/
theorem Up.inj {k : Nat} {rs : List Row} (h : Up k rs) {i j : Nat} {a b : Row} (hi : rs[i]? = some a) (hj : rs[j]? = some b) (hij : i < j) : place a < place b := by
  have h1 := List.pairwise_iff_getElem.mp h.ris
  have hi' : i < rs.length := by
    rcases Nat.lt_or_ge i rs.length with q | q
    · exact q
    · rw [List.getElem?_eq_none q] at hi; cases hi
  have hj' : j < rs.length := by
    rcases Nat.lt_or_ge j rs.length with q | q
    · exact q
    · rw [List.getElem?_eq_none q] at hj; cases hj
  have := h1 i j hi' hj' hij
  rw [List.getElem?_eq_getElem hi'] at hi
  rw [List.getElem?_eq_getElem hj'] at hj
  cases hi
  cases hj
  exact this
end Hn
namespace Hn
open Mx
/-- what stands above a lead is less than it -/
def Red (rs : List Row) : Prop := ∀ (i j : Nat) (a b : Row), rs[i]? = some a → rs[j]? = some b → i < j → 0 ≤ a.getD (place b) 0 ∧ a.getD (place b) 0 < ld b
/-- rows by their places -/
structure UpAt (k : Nat) (ps : List Nat) (rs : List Row) : Prop where
  n : rs.length = ps.length
  len : ∀ r ∈ rs, r.length = k
  ris : ps.Pairwise (· < ·)
  plt : ∀ p ∈ ps, p < k
  at0 : ∀ (i p : Nat) (r : Row), ps[i]? = some p → rs[i]? = some r → (∀ q, q < p → r.getD q 0 = 0) ∧ 0 < r.getD p 0
theorem UpAt.get {k : Nat} {ps : List Nat} {rs : List Row} (h : UpAt k ps rs) {i : Nat} {r : Row} (hr : rs[i]? = some r) : ∃ p, ps[i]? = some p ∧ place r = p ∧ p < k ∧ 0 < ld r := by
  have hi : i < rs.length := by
    rcases Nat.lt_or_ge i rs.length with q | q
    · exact q
    · rw [List.getElem?_eq_none q] at hr; cases hr
  have hp : ps[i]? = some (ps[i]'(by rw [← h.n]; exact hi)) := List.getElem?_eq_getElem _
  generalize ps[i]'(by rw [← h.n]; exact hi) = p at hp
  obtain ⟨h1, h2⟩ := h.at0 i p r hp hr
  have e := place_of h1 (show r.getD p 0 ≠ 0 by omega)
  exact ⟨p, hp, e, h.plt p (List.mem_of_getElem? hp), by unfold ld; rw [e]; exact h2⟩
theorem UpAt.up {k : Nat} {ps : List Nat} {rs : List Row} (h : UpAt k ps rs) : Up k rs := by
  refine ⟨h.len, fun r hr => ?_, fun r hr => ?_, List.pairwise_iff_getElem.mpr fun i j hi hj hij => ?_⟩
  · obtain ⟨i, hi⟩ := List.getElem?_of_mem hr
    obtain ⟨p, h1, h2, h3, h4⟩ := h.get hi
    omega
  · obtain ⟨i, hi⟩ := List.getElem?_of_mem hr
    obtain ⟨p, h1, h2, h3, h4⟩ := h.get hi
    exact h4
  · obtain ⟨p, h1, h2, _⟩ := h.get (List.getElem?_eq_getElem hi)
    obtain ⟨q, h3, h4, _⟩ := h.get (List.getElem?_eq_getElem hj)
    have hip : i < ps.length := by rw [← h.n]; exact hi
    have hjp : j < ps.length := by rw [← h.n]; exact hj
    have := List.pairwise_iff_getElem.mp h.ris i j hip hjp hij
    rw [List.getElem?_eq_getElem hip] at h1
    rw [List.getElem?_eq_getElem hjp] at h3
    cases h1
    cases h3
    omega
end Hn
namespace Hn
open Mx
def ent (R : List Row) (i q : Nat) : Int := (R.getD i []).getD q 0
theorem getD_some {α : Type} {R : List α} {i : Nat} {d r : α} (h : R[i]? = some r) : R.getD i d = r := by
  rw [List.getD_eq_getElem?_getD, h]
  rfl
theorem getD_row {R : List Row} {i : Nat} (h : i < R.length) : R[i]? = some (R.getD i []) := by
  rw [List.getD_eq_getElem?_getD, List.getElem?_eq_getElem h]
  rfl
theorem ent_of {R : List Row} {i q : Nat} {r : Row} (h : R[i]? = some r) : ent R i q = r.getD q 0 := by
  unfold ent
  rw [getD_some h]
theorem ent_set {R : List Row} {i p : Nat} {y : Int} {r : Row} (h : R[i]? = some r) (hp : p < r.length) (a q : Nat) : ent (R.set i (r.set p y)) a q = if a = i ∧ q = p then y else ent R a q := by
  have hi : i < R.length := by
    rcases Nat.lt_or_ge i R.length with q | q
    · exact q
    · rw [List.getElem?_eq_none q] at h; cases h
  unfold ent
  by_cases ha : i = a
  · subst ha
    have e : (R.set i (r.set p y)).getD i [] = r.set p y := getD_some (List.getElem?_set_self hi)
    rw [e, set_at _ _ _ _ hp, getD_some h]
    by_cases hq : q = p
    · rw [if_pos hq, if_pos ⟨rfl, hq⟩]
    · rw [if_neg hq, if_neg fun z => hq z.2]
  · have e : (R.set i (r.set p y)).getD a [] = R.getD a [] := by
      rw [List.getD_eq_getElem?_getD, List.getElem?_set_ne ha, ← List.getD_eq_getElem?_getD]
    rw [if_neg fun z => ha z.1.symm, e]
/-- rows with noughts ahead of their places -/
structure Bs (k m B : Nat) (P : Nat → Nat) (R : List Row) : Prop where
  n : R.length = m
  len : ∀ r ∈ R, r.length = k
  bd : ∀ r ∈ R, ∀ x ∈ r, x.natAbs ≤ B
  z : ∀ i q, i < m → q < P i → ent R i q = 0
  ps : ∀ i, i < m → 0 < ent R i (P i)
/-- reduced so far -/
def Rd (m j n : Nat) (P : Nat → Nat) (R : List Row) : Prop := ∀ i' j', i' < j' → j' < m → (j' < j ∨ (j' = j ∧ i' < n)) → 0 ≤ ent R i' (P j') ∧ ent R i' (P j') < ent R j' (P j')
theorem Bs.step {k m B : Nat} {P : Nat → Nat} {R : List Row} (h : Bs k m B P R) {i j : Nat} (hij : i < j) (hj : j < m) (hP : ∀ a b, a < b → b < m → P a < P b) (hk : P j < k) (hr : Rd m j i P R) {r : Row} (hri : R[i]? = some r) :
    Bs k m B P (R.set i (r.set (P j) (ent R i (P j) % ent R j (P j)))) ∧ Rd m j (i + 1) P (R.set i (r.set (P j) (ent R i (P j) % ent R j (P j)))) := by
  have hrl := h.len r (List.mem_of_getElem? hri)
  have es := fun y a q => ent_set (y := y) hri (show P j < r.length by omega) a q
  have hpj := h.ps j hj
  have b1 := Int.emod_nonneg (ent R i (P j)) (show ent R j (P j) ≠ 0 by omega)
  have b2 := Int.emod_lt_of_pos (ent R i (P j)) hpj
  have hjb : (ent R j (P j)).natAbs ≤ B := by
    have h1 := getD_row (R := R) (i := j) (by rw [h.n]; exact hj)
    have h2 := h.len _ (List.mem_of_getElem? h1)
    exact h.bd _ (List.mem_of_getElem? h1) _ (List.mem_of_getElem? (getD_eq (by omega)))
  refine ⟨⟨by rw [List.length_set]; exact h.n, fun r' hr' => ?_, fun r' hr' x hx => ?_, fun a q ha hq => ?_, fun a ha => ?_⟩, fun a b hab hb hc => ?_⟩
  · rcases List.mem_or_eq_of_mem_set hr' with q | rfl
    · exact h.len r' q
    · rw [List.length_set]
      exact hrl
  · rcases List.mem_or_eq_of_mem_set hr' with q | rfl
    · exact h.bd r' q x hx
    · rcases List.mem_or_eq_of_mem_set hx with q | rfl
      · exact h.bd r (List.mem_of_getElem? hri) x q
      · omega
  · rw [es, if_neg]
    · exact h.z a q ha hq
    · rintro ⟨rfl, rfl⟩
      have := hP a j hij hj
      omega
  · rw [es, if_neg]
    · exact h.ps a ha
    · rintro ⟨rfl, e⟩
      have := hP a j hij hj
      omega
  · have hne : ∀ c, c < m → ¬ (c = i ∧ P c = P j) := by
      rintro c hc ⟨rfl, e⟩
      have := hP c j hij hj
      omega
    rw [es, es (a := b), if_neg (hne b hb)]
    by_cases hq : a = i ∧ P b = P j
    · rw [if_pos hq]
      have : b = j := by
        rcases Nat.lt_trichotomy b j with q | q | q
        · have := hP b j q hj; omega
        · exact q
        · have := hP j b q hb; omega
      subst this
      exact ⟨b1, b2⟩
    · rw [if_neg hq]
      refine hr a b hab hb ?_
      rcases hc with hc | ⟨rfl, hc⟩
      · exact .inl hc
      · refine .inr ⟨rfl, ?_⟩
        have : a ≠ i := fun z => hq ⟨z, rfl⟩
        omega
theorem Bs.upAt {k m B : Nat} {ps : List Nat} {R : List Row} (h : Bs k m B (fun i => ps.getD i 0) R) (hm : ps.length = m) (hr : ps.Pairwise (· < ·)) (hk : ∀ p ∈ ps, p < k) : UpAt k ps R := by
  refine ⟨by rw [h.n, hm], h.len, hr, hk, fun i p r hp hri => ?_⟩
  have hi : i < m := by
    rw [← h.n]
    rcases Nat.lt_or_ge i R.length with q | q
    · exact q
    · rw [List.getElem?_eq_none q] at hri; cases hri
  have e : ps.getD i 0 = p := by rw [List.getD_eq_getElem?_getD, hp]; rfl
  have h1 := fun q hq => h.z i q hi (by show q < ps.getD i 0; rw [e]; exact hq)
  have h2 : 0 < ent R i (ps.getD i 0) := h.ps i hi
  rw [e, ent_of hri] at h2
  exact ⟨fun q hq => by rw [← ent_of hri]; exact h1 q hq, h2⟩
theorem Bs.red {k m B : Nat} {ps : List Nat} {R : List Row} (h : Bs k m B (fun i => ps.getD i 0) R) (hm : ps.length = m) (hr : ps.Pairwise (· < ·)) (hk : ∀ p ∈ ps, p < k) (hd : Rd m m 0 (fun i => ps.getD i 0) R) : Red R := by
  have hu := h.upAt hm hr hk
  intro i j a b hi hj hij
  obtain ⟨p, h1, h2, h3, h4⟩ := hu.get hj
  have hjm : j < m := by
    rw [← h.n]
    rcases Nat.lt_or_ge j R.length with q | q
    · exact q
    · rw [List.getElem?_eq_none q] at hj; cases hj
  have := hd i j hij hjm (.inl hjm)
  have this : 0 ≤ ent R i (ps.getD j 0) ∧ ent R i (ps.getD j 0) < ent R j (ps.getD j 0) := this
  have e : ps.getD j 0 = p := by rw [List.getD_eq_getElem?_getD, h1]; rfl
  rw [e, ent_of hi, ent_of hj] at this
  unfold ld
  rw [h2]
  exact this
end Hn

/-! what is made of rows; led down, settled -/
namespace Hn
open Mx
/-- made of rows -/
inductive Lat (k : Nat) (rs : List Row) : Row → Prop
  | zer : Lat k rs (zer k)
  | row {r : Row} : r ∈ rs → Lat k rs r
  | add {a b : Row} : Lat k rs a → Lat k rs b → Lat k rs (add a b)
  | smul {a : Row} (m : Int) : Lat k rs a → Lat k rs (smul m a)
theorem Lat.len {k : Nat} {rs : List Row} (h : ∀ r ∈ rs, r.length = k) {v : Row} (l : Lat k rs v) : v.length = k := by
  induction l with
  | zer => exact zer_len k
  | row hr => exact h _ hr
  | add _ _ h1 h2 => exact add_len h1 h2
  | smul m _ h1 => rw [smul_len]; exact h1
theorem Lat.of {k : Nat} {rs ss : List Row} (h : ∀ r ∈ rs, Lat k ss r) {v : Row} (l : Lat k rs v) : Lat k ss v := by
  induction l with
  | zer => exact .zer
  | row hr => exact h _ hr
  | add _ _ h1 h2 => exact .add h1 h2
  | smul m _ h1 => exact .smul m h1
theorem Lat.mono {k : Nat} {rs ss : List Row} (h : ∀ r ∈ rs, r ∈ ss) {v : Row} (l : Lat k rs v) : Lat k ss v := l.of fun r hr => .row (h r hr)
theorem sub_eq {a b : Row} {k : Nat} (ha : a.length = k) (hb : b.length = k) : sub a b = add a (smul (-1) b) :=
  ext_row (sub_len ha hb) (add_len ha (by rw [smul_len]; exact hb)) fun i _ => by
    rw [sub_at ha hb, add_at ha (by rw [smul_len]; exact hb), smul_at]
    omega
theorem Lat.sub {k : Nat} {rs : List Row} (h : ∀ r ∈ rs, r.length = k) {a b : Row} (ha : Lat k rs a) (hb : Lat k rs b) : Lat k rs (sub a b) := by
  rw [sub_eq (ha.len h) (hb.len h)]
  exact .add ha (.smul _ hb)
theorem add_sub_cancel {a b : Row} {k : Nat} (ha : a.length = k) (hb : b.length = k) : add (sub a b) b = a :=
  ext_row (add_len (sub_len ha hb) hb) ha fun i _ => by
    rw [add_at (sub_len ha hb) hb, sub_at ha hb]
    omega
/-- the same is made -/
def Eqv (k : Nat) (rs ss : List Row) : Prop := ∀ v, Lat k rs v ↔ Lat k ss v
theorem Eqv.refl (k : Nat) (rs : List Row) : Eqv k rs rs := fun _ => Iff.rfl
theorem Eqv.symm {k : Nat} {rs ss : List Row} (h : Eqv k rs ss) : Eqv k ss rs := fun v => (h v).symm
theorem Eqv.trans {k : Nat} {rs ss ts : List Row} (h : Eqv k rs ss) (h2 : Eqv k ss ts) : Eqv k rs ts := fun v => (h v).trans (h2 v)
theorem eqv_of {k : Nat} {rs ss : List Row} (h : ∀ r ∈ rs, Lat k ss r) (h2 : ∀ r ∈ ss, Lat k rs r) : Eqv k rs ss := fun _ => ⟨fun l => l.of h, fun l => l.of h2⟩
theorem Eqv.app {k : Nat} {rs ss ts us : List Row} (h : Eqv k rs ss) (h2 : Eqv k ts us) : Eqv k (rs ++ ts) (ss ++ us) := by
  refine eqv_of (fun r hr => ?_) fun r hr => ?_
  · rcases List.mem_append.mp hr with q | q
    · exact ((h r).mp (.row q)).mono fun x hx => List.mem_append_left _ hx
    · exact ((h2 r).mp (.row q)).mono fun x hx => List.mem_append_right _ hx
  · rcases List.mem_append.mp hr with q | q
    · exact ((h r).mpr (.row q)).mono fun x hx => List.mem_append_left _ hx
    · exact ((h2 r).mpr (.row q)).mono fun x hx => List.mem_append_right _ hx
theorem Eqv.cons {k : Nat} (r : Row) {ts us : List Row} (h : Eqv k ts us) : Eqv k (r :: ts) (r :: us) := Eqv.app (rs := [r]) (ss := [r]) (.refl _ _) h
theorem eqv_mem {k : Nat} {rs ss : List Row} (h : ∀ r, r ∈ rs ↔ r ∈ ss) : Eqv k rs ss := eqv_of (fun r hr => .row ((h r).mp hr)) fun r hr => .row ((h r).mpr hr)
/-! led down -/
theorem led_len {k : Nat} : ∀ {rows : List Row} {x : Row}, (∀ r ∈ rows, r.length = k) → x.length = k → (led rows x).1.length = rows.length ∧ (led rows x).2.length = k
  | [], x, _, hx => ⟨rfl, hx⟩
  | r :: rows, x, h, hx => by
    have ih := led_len (rows := rows) (x := sub x (smul (x.getD (place r) 0 / ld r) r)) (fun y hy => h y (List.mem_cons_of_mem _ hy)) (sub_len hx (by rw [smul_len]; exact h r (List.mem_cons_self ..)))
    unfold led
    exact ⟨by rw [List.length_cons, ih.1, List.length_cons], ih.2⟩
theorem led_at {k p : Nat} : ∀ {rows : List Row} {x : Row}, (∀ r ∈ rows, r.length = k) → x.length = k → (∀ r ∈ rows, p < place r) → (led rows x).2.getD p 0 = x.getD p 0
  | [], x, _, _, _ => rfl
  | r :: rows, x, h, hx, hp => by
    have hr := h r (List.mem_cons_self ..)
    unfold led
    dsimp only
    rw [led_at (fun y hy => h y (List.mem_cons_of_mem _ hy)) (sub_len hx (by rw [smul_len]; exact hr)) (fun y hy => hp y (List.mem_cons_of_mem _ hy)), sub_at hx (by rw [smul_len]; exact hr), smul_at, ahead0 (hp r (List.mem_cons_self ..))]
    omega
theorem led_red {k : Nat} : ∀ {rows : List Row} {x : Row}, Up k rows → x.length = k → ∀ r ∈ rows, 0 ≤ (led rows x).2.getD (place r) 0 ∧ (led rows x).2.getD (place r) 0 < ld r
  | [], x, _, _, r, hr => by simp at hr
  | q :: rows, x, hu, hx, r, hr => by
    have hq := hu.len q (List.mem_cons_self ..)
    have hs : (sub x (smul (x.getD (place q) 0 / ld q) q)).length = k := sub_len hx (by rw [smul_len]; exact hq)
    unfold led
    dsimp only
    rcases List.mem_cons.mp hr with rfl | hr
    · have hp := hu.pos r (List.mem_cons_self ..)
      rw [led_at hu.tail.len hs hu.head, sub_at hx (by rw [smul_len]; exact hq), smul_at]
      show 0 ≤ x.getD (place r) 0 - x.getD (place r) 0 / ld r * ld r ∧ x.getD (place r) 0 - x.getD (place r) 0 / ld r * ld r < ld r
      have h1 := Int.emod_nonneg (x.getD (place r) 0) (show ld r ≠ 0 by omega)
      have h2 := Int.emod_lt_of_pos (x.getD (place r) 0) hp
      have h3 := Int.emod_def (x.getD (place r) 0) (ld r)
      rw [Int.mul_comm] at h3
      omega
    · exact led_red hu.tail hs r hr
theorem led_lat {k : Nat} : ∀ {rows : List Row} {x : Row}, (∀ r ∈ rows, r.length = k) → x.length = k → Eqv k (x :: rows) ((led rows x).2 :: rows)
  | [], x, _, _ => .refl _ _
  | r :: rows, x, h, hx => by
    have hr := h r (List.mem_cons_self ..)
    have hs : (sub x (smul (x.getD (place r) 0 / ld r) r)).length = k := sub_len hx (by rw [smul_len]; exact hr)
    have ih := led_lat (rows := rows) (x := sub x (smul (x.getD (place r) 0 / ld r) r)) (fun y hy => h y (List.mem_cons_of_mem _ hy)) hs
    unfold led
    dsimp only
    generalize x.getD (place r) 0 / ld r = m at *
    have hl : ∀ y ∈ sub x (smul m r) :: r :: rows, y.length = k := fun y hy => by
      rcases List.mem_cons.mp hy with rfl | hy
      · exact hs
      · exact h y hy
    have hl2 : ∀ y ∈ x :: r :: rows, y.length = k := fun y hy => by
      rcases List.mem_cons.mp hy with rfl | hy
      · exact hx
      · exact h y hy
    have e1 : Eqv k (x :: r :: rows) (sub x (smul m r) :: r :: rows) := by
      refine eqv_of (fun y hy => ?_) fun y hy => ?_
      · rcases List.mem_cons.mp hy with rfl | hy
        · have := Lat.add (Lat.row (k := k) (rs := sub y (smul m r) :: r :: rows) (List.mem_cons_self ..)) (.smul m (.row (r := r) (List.mem_cons_of_mem _ (List.mem_cons_self ..))))
          rw [add_sub_cancel hx (by rw [smul_len]; exact hr)] at this
          exact this
        · exact .row (List.mem_cons_of_mem _ hy)
      · rcases List.mem_cons.mp hy with rfl | hy
        · exact .sub hl2 (.row (List.mem_cons_self ..)) (.smul m (.row (List.mem_cons_of_mem _ (List.mem_cons_self ..))))
        · exact .row (List.mem_cons_of_mem _ hy)
    have p1 : ∀ a : Row, Eqv k (a :: r :: rows) (r :: a :: rows) := fun a => eqv_mem fun y => by
      simp only [List.mem_cons]
      constructor
      · rintro (h | h | h)
        · exact .inr (.inl h)
        · exact .inl h
        · exact .inr (.inr h)
      · rintro (h | h | h)
        · exact .inr (.inl h)
        · exact .inl h
        · exact .inr (.inr h)
    exact e1.trans ((p1 _).trans ((Eqv.cons r ih).trans (p1 _).symm))
/-! settled -/
def settle : List Row → List Row → List Row
  | [], bs => bs
  | a :: as, bs => (led (settle as bs) a).2 :: settle as bs
theorem place_led {k : Nat} {rows : List Row} {a : Row} (hl : ∀ r ∈ rows, r.length = k) (ha : a.length = k) (hp : place a < k) (h : ∀ r ∈ rows, place a < place r) : place (led rows a).2 = place a ∧ ld (led rows a).2 = ld a := by
  have h1 : ∀ q, q ≤ place a → (led rows a).2.getD q 0 = a.getD q 0 := fun q hq => led_at hl ha fun r hr => by have := h r hr; omega
  have h2 : place (led rows a).2 = place a := place_of (fun q hq => by rw [h1 q (by omega)]; exact ahead0 hq) (by rw [h1 _ (Nat.le_refl _)]; exact ld_ne (by omega))
  refine ⟨h2, ?_⟩
  unfold ld
  rw [h2, h1 _ (Nat.le_refl _)]
theorem up_cons {k : Nat} {a : Row} {rs : List Row} (ha : a.length = k) (hp : place a < k) (h0 : 0 < ld a) (hu : Up k rs) (h : ∀ r ∈ rs, place a < place r) : Up k (a :: rs) := by
  refine ⟨fun r hr => ?_, fun r hr => ?_, fun r hr => ?_, List.pairwise_cons.mpr ⟨h, hu.ris⟩⟩ <;> rcases List.mem_cons.mp hr with rfl | hr
  · exact ha
  · exact hu.len r hr
  · exact hp
  · exact hu.plc r hr
  · exact h0
  · exact hu.pos r hr
theorem red_cons {a : Row} {rs : List Row} (h : ∀ r ∈ rs, 0 ≤ a.getD (place r) 0 ∧ a.getD (place r) 0 < ld r) (hr : Red rs) : Red (a :: rs) := by
  intro i j x y hx hy hij
  cases j with
  | zero => omega
  | succ j =>
    cases i with
    | zero =>
      cases hx
      exact h y (List.mem_of_getElem? hy)
    | succ i => exact hr i j x y hx hy (by omega)
theorem Red.tail {a : Row} {rs : List Row} (h : Red (a :: rs)) : Red rs := fun i j x y hx hy hij => h (i + 1) (j + 1) x y hx hy (by omega)
theorem settle_ok {k : Nat} : ∀ {as bs : List Row}, Up k (as ++ bs) → Red bs → Up k (settle as bs) ∧ Red (settle as bs) ∧ Eqv k (settle as bs) (as ++ bs) ∧ (settle as bs).map place = (as ++ bs).map place
  | [], bs, hu, hr => ⟨hu, hr, .refl _ _, rfl⟩
  | a :: as, bs, hu, hr => by
    obtain ⟨h1, h2, h3, h4⟩ := settle_ok (as := as) (bs := bs) hu.tail hr
    have ha := hu.len a (List.mem_cons_self ..)
    have hp := hu.plc a (List.mem_cons_self ..)
    have h0 := hu.pos a (List.mem_cons_self ..)
    have hh : ∀ r ∈ settle as bs, place a < place r := fun r hr => by
      have : place r ∈ (as ++ bs).map place := by rw [← h4]; exact List.mem_map_of_mem hr
      obtain ⟨q, hq, e⟩ := List.mem_map.mp this
      rw [← e]
      exact hu.head q hq
    obtain ⟨p1, p2⟩ := place_led h1.len ha hp hh
    unfold settle
    refine ⟨up_cons (led_len h1.len ha).2 (by rw [p1]; exact hp) (by rw [p2]; exact h0) h1 (by rw [p1]; exact hh), red_cons (led_red h1 ha) h2, ?_, ?_⟩
    · refine (led_lat h1.len ha).symm.trans ?_
      exact Eqv.cons a h3
    · rw [List.map_cons, h4, p1]
      rfl
/-! sizes -/
def Bd (n : Nat) (r : Row) : Prop := ∀ x ∈ r, x.natAbs < 2 ^ n
theorem Bd.at {n : Nat} {r : Row} (h : Bd n r) (i : Nat) : (r.getD i 0).natAbs < 2 ^ n := by
  rcases Nat.lt_or_ge i r.length with q | q
  · exact h _ (List.mem_of_getElem? (getD_eq q))
  · rw [List.getD_eq_getElem?_getD, List.getElem?_eq_none q]
    exact Nat.pow_pos (by omega)
theorem Bd.of {n k : Nat} {r : Row} (hr : r.length = k) (h : ∀ i, i < k → (r.getD i 0).natAbs < 2 ^ n) : Bd n r := fun x hx => by
  obtain ⟨i, hi⟩ := List.getElem?_of_mem hx
  have e : r.getD i 0 = x := getD_some hi
  rw [← e]
  refine h i ?_
  rcases Nat.lt_or_ge i r.length with q | q
  · omega
  · rw [List.getElem?_eq_none q] at hi; cases hi
theorem Bd.le {n m : Nat} {r : Row} (h : Bd n r) (hm : n ≤ m) : Bd m r := fun x hx => Nat.lt_of_lt_of_le (h x hx) (Nat.pow_le_pow_right (by omega) hm)
theorem abs_ediv {x l : Int} (h : 0 < l) : (x / l).natAbs ≤ x.natAbs := by
  have h1 := Int.emod_nonneg x (show l ≠ 0 by omega)
  have h2 := Int.emod_lt_of_pos x h
  have h3 := Int.emod_add_mul_ediv x l
  rcases Int.lt_or_le (x / l) 0 with q | q
  · -- below 0
    have : l * (x / l) ≤ x := by omega
    have h4 : l * (x / l + 1) > x := by rw [Int.mul_add, Int.mul_one]; omega
    have h5 : x < 0 := by
      rcases Int.lt_or_le x 0 with z | z
      · exact z
      · have := Int.ediv_nonneg z (show 0 ≤ l by omega)
        omega
    have h6 : x / l + 1 ≤ 0 := by omega
    have h7 : l * (x / l + 1) ≤ 1 * (x / l + 1) := Int.mul_le_mul_of_nonpos_right (by omega) h6
    omega
  · have h4 : 1 * (x / l) ≤ l * (x / l) := Int.mul_le_mul_of_nonneg_right (by omega) q
    omega
theorem bd_comb {n m : Nat} {a b x y : Int} (ha : a.natAbs < 2 ^ n) (hx : x.natAbs < 2 ^ m) (hb : b.natAbs < 2 ^ n) (hy : y.natAbs < 2 ^ m) : (a * x + b * y).natAbs < 2 ^ (n + m + 1) := by
  have h1 : (a * x).natAbs < 2 ^ (n + m) := by
    rw [Int.natAbs_mul, Nat.pow_add]
    exact Nat.mul_lt_mul'' ha hx
  have h2 : (b * y).natAbs < 2 ^ (n + m) := by
    rw [Int.natAbs_mul, Nat.pow_add]
    exact Nat.mul_lt_mul'' hb hy
  have h3 := Int.natAbs_add_le (a * x) (b * y)
  rw [Nat.pow_succ]
  omega
theorem bd_sub {n m : Nat} {x q y : Int} (hx : x.natAbs < 2 ^ n) (hq : q.natAbs < 2 ^ n) (hy : y.natAbs < 2 ^ m) : (x - q * y).natAbs < 2 ^ (n + m + 1) := by
  have h2 : (q * y).natAbs < 2 ^ (n + m) := by
    rw [Int.natAbs_mul, Nat.pow_add]
    exact Nat.mul_lt_mul'' hq hy
  have h4 : (2 : Nat) ^ n ≤ 2 ^ (n + m) := Nat.pow_le_pow_right (by omega) (by omega)
  have h3 : (x - q * y).natAbs ≤ x.natAbs + (q * y).natAbs := by omega
  rw [Nat.pow_succ]
  omega
theorem led_bd {k B : Nat} : ∀ {rows : List Row} {x : Row} {X : Nat}, Up k rows → x.length = k → Bd X x → (∀ r ∈ rows, Bd B r) → Bd (X + rows.length * (B + 1)) (led rows x).2
  | [], x, X, _, _, hb, _ => by simpa [led] using hb
  | r :: rows, x, X, hu, hx, hb, hr => by
    have hl := hu.len r (List.mem_cons_self ..)
    have hs : (sub x (smul (x.getD (place r) 0 / ld r) r)).length = k := sub_len hx (by rw [smul_len]; exact hl)
    have h1 : Bd (X + B + 1) (sub x (smul (x.getD (place r) 0 / ld r) r)) := Bd.of hs fun i hi => by
      rw [sub_at hx (by rw [smul_len]; exact hl), smul_at]
      exact bd_sub (hb.at i) (Nat.lt_of_le_of_lt (abs_ediv (hu.pos r (List.mem_cons_self ..))) (hb.at _)) ((hr r (List.mem_cons_self ..)).at i)
    have ih := led_bd (X := X + B + 1) hu.tail hs h1 fun y hy => hr y (List.mem_cons_of_mem _ hy)
    unfold led
    refine ih.le ?_
    rw [List.length_cons, Nat.add_mul]
    omega
end Hn
namespace Hn
open Mx
theorem Up.len_le {k : Nat} : ∀ {rs : List Row} {p : Nat}, Up k rs → (∀ r ∈ rs, p ≤ place r) → p ≤ k → rs.length ≤ k - p
  | [], p, _, _, _ => Nat.zero_le _
  | r :: rs, p, hu, hp, hk => by
    have h1 := hu.plc r (List.mem_cons_self ..)
    have h2 := hp r (List.mem_cons_self ..)
    have ih := Up.len_le (p := place r + 1) hu.tail (fun x hx => hu.head x hx) (by omega)
    rw [List.length_cons]
    omega
theorem comb_at {k : Nat} {a b : Int} {x y : Row} (hx : x.length = k) (hy : y.length = k) (i : Nat) : (add (smul a x) (smul b y)).getD i 0 = a * x.getD i 0 + b * y.getD i 0 := by
  rw [add_at (k := k) (by rw [smul_len]; exact hx) (by rw [smul_len]; exact hy), smul_at, smul_at]
theorem comb_len {k : Nat} {a b : Int} {x y : Row} (hx : x.length = k) (hy : y.length = k) : (add (smul a x) (smul b y)).length = k := add_len (by rw [smul_len]; exact hx) (by rw [smul_len]; exact hy)
theorem cross_up {k : Nat} {r x : Row} {a b c d : Int} (hr : r.length = k) (hx : x.length = k) (hp : place r < k) (he : place x = place r) (h1 : 0 < a * ld r + b * ld x) (h2 : c * ld r + d * ld x = 0) :
    place (add (smul a r) (smul b x)) = place r ∧ ld (add (smul a r) (smul b x)) = a * ld r + b * ld x ∧ ∀ q, q ≤ place r → (add (smul c r) (smul d x)).getD q 0 = 0 := by
  have hz : ∀ (a b : Int) q, q < place r → (add (smul a r) (smul b x)).getD q 0 = 0 := fun a b q hq => by
    rw [comb_at hr hx, ahead0 hq, ahead0 (by omega)]
    omega
  have hl : (add (smul a r) (smul b x)).getD (place r) 0 = a * ld r + b * ld x := by
    rw [comb_at hr hx]
    unfold ld
    rw [he]
  have hpl : place (add (smul a r) (smul b x)) = place r := place_of (hz a b) (by rw [hl]; omega)
  refine ⟨hpl, by unfold ld at hl ⊢; rw [hpl]; exact hl, fun q hq => ?_⟩
  rcases Nat.lt_or_ge q (place r) with h | h
  · exact hz c d q h
  · have : q = place r := by omega
    subst this
    rw [comb_at hr hx]
    unfold ld at h2
    rw [he] at h2
    exact h2
theorem cross_eqv {k : Nat} {r x : Row} {a b c d : Int} (hr : r.length = k) (hx : x.length = k) (h : a * d - b * c = 1) (R : List Row) :
    Eqv k (r :: x :: R) (add (smul a r) (smul b x) :: add (smul c r) (smul d x) :: R) := by
  have m1 : Lat k (r :: x :: R) r := .row (List.mem_cons_self ..)
  have m2 : Lat k (r :: x :: R) x := .row (List.mem_cons_of_mem _ (List.mem_cons_self ..))
  generalize hu : add (smul a r) (smul b x) = u
  generalize hv : add (smul c r) (smul d x) = v
  have n1 : Lat k (u :: v :: R) u := .row (List.mem_cons_self ..)
  have n2 : Lat k (u :: v :: R) v := .row (List.mem_cons_of_mem _ (List.mem_cons_self ..))
  have lu : u.length = k := by rw [← hu]; exact comb_len hr hx
  have lv : v.length = k := by rw [← hv]; exact comb_len hr hx
  have e1 : add (smul d u) (smul (-b) v) = r := by
    refine ext_row (comb_len lu lv) hr fun i _ => ?_
    rw [comb_at lu lv, ← hu, ← hv, comb_at hr hx, comb_at hr hx]
    generalize r.getD i 0 = p
    generalize x.getD i 0 = q
    have hh : d * (a * p + b * q) + -b * (c * p + d * q) = (a * d - b * c) * p := by
      simp only [Int.mul_add, Int.sub_mul, Int.neg_mul]
      simp only [Int.mul_assoc, Int.mul_comm, Int.mul_left_comm]
      omega
    rw [hh, h, Int.one_mul]
  have e2 : add (smul (-c) u) (smul a v) = x := by
    refine ext_row (comb_len lu lv) hx fun i _ => ?_
    rw [comb_at lu lv, ← hu, ← hv, comb_at hr hx, comb_at hr hx]
    generalize r.getD i 0 = p
    generalize x.getD i 0 = q
    have hh : -c * (a * p + b * q) + a * (c * p + d * q) = (a * d - b * c) * q := by
      simp only [Int.mul_add, Int.sub_mul, Int.neg_mul]
      simp only [Int.mul_assoc, Int.mul_comm, Int.mul_left_comm]
      omega
    rw [hh, h, Int.one_mul]
  refine eqv_of (fun y hy => ?_) fun y hy => ?_
  · rcases List.mem_cons.mp hy with rfl | hy
    · rw [← e1]
      exact .add (.smul _ n1) (.smul _ n2)
    · rcases List.mem_cons.mp hy with rfl | hy
      · rw [← e2]
        exact .add (.smul _ n1) (.smul _ n2)
      · exact .row (List.mem_cons_of_mem _ (List.mem_cons_of_mem _ hy))
  · rcases List.mem_cons.mp hy with rfl | hy
    · rw [← hu]
      exact .add (.smul _ m1) (.smul _ m2)
    · rcases List.mem_cons.mp hy with rfl | hy
      · rw [← hv]
        exact .add (.smul _ m1) (.smul _ m2)
      · exact .row (List.mem_cons_of_mem _ (List.mem_cons_of_mem _ hy))
theorem up_len {k : Nat} {x : Row} {m : Int} (hm : m = 1 ∨ m = -1) (hx : x.length = k) (R : List Row) : Eqv k (x :: R) (smul m x :: R) := by
  refine eqv_of (fun y hy => ?_) fun y hy => ?_
  · rcases List.mem_cons.mp hy with rfl | hy
    · have e : smul m (smul m y) = y := ext_row (k := k) (by rw [smul_len, smul_len]; exact hx) hx fun i _ => by
        rw [smul_at, smul_at, ← Int.mul_assoc]
        rcases hm with rfl | rfl <;> omega
      have : Lat k (smul m y :: R) (smul m (smul m y)) := .smul m (.row (List.mem_cons_self ..))
      rw [e] at this
      exact this
    · exact .row (List.mem_cons_of_mem _ hy)
  · rcases List.mem_cons.mp hy with rfl | hy
    · exact .smul m (.row (List.mem_cons_self ..))
    · exact .row (List.mem_cons_of_mem _ hy)
end Hn
namespace Hn
open Mx
theorem up_app {k : Nat} {A B : List Row} : Up k (A ++ B) ↔ Up k A ∧ Up k B ∧ ∀ a ∈ A, ∀ b ∈ B, place a < place b := by
  constructor
  · intro h
    have hp := List.pairwise_append.mp h.ris
    exact ⟨⟨fun r hr => h.len r (List.mem_append_left _ hr), fun r hr => h.plc r (List.mem_append_left _ hr), fun r hr => h.pos r (List.mem_append_left _ hr), hp.1⟩,
      ⟨fun r hr => h.len r (List.mem_append_right _ hr), fun r hr => h.plc r (List.mem_append_right _ hr), fun r hr => h.pos r (List.mem_append_right _ hr), hp.2.1⟩, hp.2.2⟩
  · rintro ⟨h1, h2, h3⟩
    refine ⟨fun r hr => ?_, fun r hr => ?_, fun r hr => ?_, List.pairwise_append.mpr ⟨h1.ris, h2.ris, h3⟩⟩ <;> rcases List.mem_append.mp hr with q | q
    · exact h1.len r q
    · exact h2.len r q
    · exact h1.plc r q
    · exact h2.plc r q
    · exact h1.pos r q
    · exact h2.pos r q
theorem up_one {k : Nat} {r : Row} (h1 : r.length = k) (h2 : place r < k) (h3 : 0 < ld r) : Up k [r] :=
  ⟨fun x hx => by rw [List.mem_singleton.mp hx]; exact h1, fun x hx => by rw [List.mem_singleton.mp hx]; exact h2, fun x hx => by rw [List.mem_singleton.mp hx]; exact h3, List.pairwise_singleton ..⟩
theorem Red.right {A B : List Row} (h : Red (A ++ B)) : Red B := by
  induction A with
  | nil => exact h
  | cons a A ih => exact ih h.tail
/-- on the way up -/
structure Inv (k B X : Nat) (ahead behind : List Row) (left : Row) (base : List Row) : Prop where
  up : Up k (ahead ++ behind)
  red : Red behind
  bb : ∀ r ∈ behind, Bd B r
  ba : ∀ r ∈ ahead, Bd X r
  len : left.length = k
  bl : Bd X left
  ahd : ∀ r ∈ ahead, place r < place left
  lr : ∀ r ∈ behind, 0 ≤ left.getD (place r) 0 ∧ left.getD (place r) 0 < ld r
  eqv : Eqv k (ahead ++ left :: behind) base
theorem place_gt {k p : Nat} {x : Row} (hx : x.length = k) (hp : p < k) (h : ∀ q, q ≤ p → x.getD q 0 = 0) : p < place x := by
  rcases Nat.lt_or_ge p (place x) with q | q
  · exact q
  · exact absurd (h _ q) (ld_ne (by omega))
/-- what comes of a step, put together -/
theorem Inv.next {k B X X' : Nat} {ahead sk rest ts : List Row} {left rung l2 : Row} {base : List Row} (h : Inv k B X ahead (sk ++ rest) left base) (hp : place left < k) (hX : X ≤ X') (hB : B ≤ X) (hsk : ∀ r ∈ sk, place r < place left)
    (hts : ∀ r ∈ ts, r ∈ rest ∧ place left < place r) (hut : Up k ts) (hrt : Red ts) (r1 : rung.length = k) (r2 : place rung = place left) (r3 : 0 < ld rung) (r4 : Bd X' rung) (l1 : l2.length = k) (l3 : ∀ q, q ≤ place left → l2.getD q 0 = 0)
    (l4 : Bd X' (led ts l2).2) (he : Eqv k (left :: rest) (rung :: l2 :: ts)) : Inv k B X' (ahead ++ sk ++ [rung]) ts (led ts l2).2 base ∧ place left < place (led ts l2).2 := by
  obtain ⟨u1, u2, u3⟩ := up_app.mp h.up
  obtain ⟨u4, u5, u6⟩ := up_app.mp u2
  have hlen := (led_len hut.len l1).2
  have hpl : place left < place (led ts l2).2 := place_gt hlen hp fun q hq => by
    rw [led_at hut.len l1 fun r hr => by have := (hts r hr).2; omega]
    exact l3 q hq
  refine ⟨⟨?_, hrt, fun r hr => h.bb r (List.mem_append_right _ (hts r hr).1), fun r hr => ?_, hlen, l4, fun r hr => ?_, led_red hut l1, ?_⟩, hpl⟩
  · refine up_app.mpr ⟨up_app.mpr ⟨up_app.mpr ⟨u1, u4, fun a ha b hb => u3 a ha b (List.mem_append_left _ hb)⟩, up_one r1 (by omega) r3, fun a ha b hb => ?_⟩, hut, fun a ha b hb => ?_⟩
    · rw [List.mem_singleton.mp hb, r2]
      rcases List.mem_append.mp ha with q | q
      · exact h.ahd a q
      · exact hsk a q
    · have hb2 := (hts b hb).2
      rcases List.mem_append.mp ha with q | q
      · rcases List.mem_append.mp q with q | q
        · have := h.ahd a q; omega
        · have := hsk a q; omega
      · rw [List.mem_singleton.mp q]
        omega
  · rcases List.mem_append.mp hr with q | q
    · rcases List.mem_append.mp q with q | q
      · exact (h.ba r q).le hX
      · exact (h.bb r (List.mem_append_left _ q)).le (by omega)
    · rw [List.mem_singleton.mp q]
      exact r4
  · rcases List.mem_append.mp hr with q | q
    · rcases List.mem_append.mp q with q | q
      · have := h.ahd r q; omega
      · have := hsk r q; omega
    · rw [List.mem_singleton.mp q]
      omega
  · refine Eqv.trans ?_ h.eqv
    have e1 : Eqv k (rung :: (led ts l2).2 :: ts) (left :: rest) := (Eqv.cons rung (led_lat hut.len l1).symm).trans he.symm
    have e2 : Eqv k ((ahead ++ sk) ++ rung :: (led ts l2).2 :: ts) ((ahead ++ sk) ++ left :: rest) := Eqv.app (.refl _ _) e1
    refine Eqv.trans (eqv_mem fun r => ?_) (e2.trans (eqv_mem fun r => ?_))
    · simp only [List.mem_append, List.mem_cons, List.mem_singleton, or_assoc]
      simp
    · simp only [List.mem_append, List.mem_cons]
      constructor
      · rintro ((q | q) | q | q)
        · exact .inl q
        · exact .inr (.inr (.inl q))
        · exact .inr (.inl q)
        · exact .inr (.inr (.inr q))
      · rintro (q | q | q | q)
        · exact .inl (.inl q)
        · exact .inr (.inl q)
        · exact .inl (.inr q)
        · exact .inr (.inr q)
theorem Inv.cross {k B X m : Nat} {ahead sk ts : List Row} {left r : Row} {base : List Row} {a b c d : Int} (hmt : ts.length ≤ m) (h : Inv k B X ahead (sk ++ r :: ts) left base) (hp : place left < k) (hB : B ≤ X) (hsk : ∀ x ∈ sk, place x < place left) (hr : place r = place left)
    (h1 : 0 < a * ld r + b * ld left) (h2 : c * ld r + d * ld left = 0) (h3 : a * d - b * c = 1) (ha : a.natAbs < 2 ^ (B + 1)) (hb : b.natAbs < 2 ^ (B + 1)) (hc : c.natAbs < 2 ^ (B + 1)) (hd : d.natAbs < 2 ^ (B + 1)) :
    Inv k B (X + (m + 1) * (B + 2)) (ahead ++ sk ++ [add (smul a r) (smul b left)]) ts (led ts (add (smul c r) (smul d left))).2 base ∧ place left < place (led ts (add (smul c r) (smul d left))).2 ∧
      Bd (X + B + 2) (add (smul c r) (smul d left)) := by
  obtain ⟨u1, u2, u3⟩ := up_app.mp h.up
  obtain ⟨u4, u5, u6⟩ := up_app.mp u2
  have hrl := u5.len r (List.mem_cons_self ..)
  have hrb : Bd X r := (h.bb r (List.mem_append_right _ (List.mem_cons_self ..))).le hB
  obtain ⟨c1, c2, c3⟩ := cross_up hrl h.len (by omega) hr.symm h1 h2
  have bd : ∀ a b : Int, a.natAbs < 2 ^ (B + 1) → b.natAbs < 2 ^ (B + 1) → Bd (X + B + 2) (add (smul a r) (smul b left)) := fun a b ha hb => Bd.of (comb_len hrl h.len) fun i _ => by
    rw [comb_at hrl h.len]
    have := bd_comb ha (hrb.at i) hb (h.bl.at i)
    rw [show B + 1 + X + 1 = X + B + 2 by omega] at this
    exact this
  have hm : ts.length * (B + 1) ≤ m * (B + 2) := Nat.mul_le_mul hmt (by omega)
  have hk : (m + 1) * (B + 2) = m * (B + 2) + (B + 2) := by rw [Nat.add_mul, Nat.one_mul]
  have hlb := led_bd (X := X + B + 2) u5.tail (comb_len hrl h.len) (bd c d hc hd) fun x hx => h.bb x (List.mem_append_right _ (List.mem_cons_of_mem _ hx))
  have := h.next (X' := X + (m + 1) * (B + 2)) (ts := ts) (rung := add (smul a r) (smul b left)) (l2 := add (smul c r) (smul d left)) hp (by omega) hB hsk (fun x hx => ⟨List.mem_cons_of_mem _ hx, by rw [← hr]; exact u5.head x hx⟩) u5.tail h.red.right.tail
    (comb_len hrl h.len) (by rw [c1, hr]) (by rw [c2]; exact h1) ((bd a b ha hb).le (by omega)) (comb_len hrl h.len) (by rw [← hr]; exact c3) (hlb.le (by omega))
    ((eqv_mem fun y => by simp only [List.mem_cons]; constructor <;> (rintro (q | q | q); exact .inr (.inl q); exact .inl q; exact .inr (.inr q))).trans (cross_eqv hrl h.len h3 ts))
  exact ⟨this.1, this.2, bd c d hc hd⟩
theorem Inv.upright {k B X mm : Nat} {ahead sk rest : List Row} {left : Row} {base : List Row} (hmt : rest.length ≤ mm) (h : Inv k B X ahead (sk ++ rest) left base) (hp : place left < k) (hB : B ≤ X) (hsk : ∀ x ∈ sk, place x < place left) (hr : ∀ x ∈ rest, place left < place x) :
    Inv k B (X + (mm + 1) * (B + 2)) (ahead ++ sk ++ [smul (if 0 < ld left then 1 else -1) left]) rest (led rest (zer k)).2 base ∧ place left < place (led rest (zer k)).2 := by
  obtain ⟨u1, u2, u3⟩ := up_app.mp h.up
  obtain ⟨u4, u5, u6⟩ := up_app.mp u2
  have hne := ld_ne (r := left) (by rw [h.len]; exact hp)
  generalize hm : (if 0 < ld left then (1 : Int) else -1) = m
  have hm1 : m = 1 ∨ m = -1 := by rw [← hm]; split <;> simp
  have hml : 0 < m * ld left := by
    rw [← hm]
    split <;> omega
  have pl : place (smul m left) = place left := place_of (fun q hq => by rw [smul_at, ahead0 hq, Int.mul_zero]) (by rw [smul_at]; unfold ld at hml; omega)
  have hmm : rest.length * (B + 1) ≤ mm * (B + 2) := Nat.mul_le_mul hmt (by omega)
  have hk : (mm + 1) * (B + 2) = mm * (B + 2) + (B + 2) := by rw [Nat.add_mul, Nat.one_mul]
  have hzb : Bd X (zer k) := fun x hx => by rw [List.eq_of_mem_replicate hx]; exact Nat.pow_pos (by omega)
  have hlb := led_bd (X := X) u5 (zer_len k) hzb fun x hx => h.bb x (List.mem_append_right _ hx)
  refine h.next (X' := X + (mm + 1) * (B + 2)) (ts := rest) (rung := smul m left) (l2 := zer k) hp (by omega) hB hsk (fun x hx => ⟨hx, hr x hx⟩) u5 h.red.right (by rw [smul_len]; exact h.len) pl (by unfold ld; rw [pl, smul_at]; exact hml) (fun x hx => ?_) (zer_len k) (fun q _ => zer_at k q) (hlb.le (by omega)) ?_
  · obtain ⟨y, hy, rfl⟩ := List.mem_map.mp hx
    have := (h.bl.le (show X ≤ X + (mm + 1) * (B + 2) by omega)) y hy
    rcases hm1 with rfl | rfl <;> omega
  · refine (up_len hm1 h.len rest).trans (Eqv.cons _ (eqv_of (fun y hy => .row (List.mem_cons_of_mem _ hy)) fun y hy => ?_))
    rcases List.mem_cons.mp hy with rfl | hy
    · exact .zer
    · exact .row hy
end Hn
namespace Hn
theorem Inv.le {k B X X' : Nat} {ahead behind : List Mx.Row} {left : Mx.Row} {base : List Mx.Row} (h : Inv k B X ahead behind left base) (hX : X ≤ X') : Inv k B X' ahead behind left base :=
  ⟨h.up, h.red, h.bb, fun r hr => (h.ba r hr).le hX, h.len, h.bl.le hX, h.ahd, h.lr, h.eqv⟩
end Hn

/-! how great a stair's numbers are -/
namespace Hn
open Mx
theorem lat_nil {k : Nat} {v : Row} (h : Lat k [] v) : v = Mx.zer k := by
  induction h with
  | zer => rfl
  | row hr => simp at hr
  | add _ _ h1 h2 => rw [h1, h2]; exact zer_add (zer_len k)
  | smul m _ h1 =>
    rw [h1]
    refine ext_row (k := k) (by rw [smul_len]; exact zer_len k) (zer_len k) fun i _ => ?_
    rw [Hn.smul_at, Hn.zer_at, Int.mul_zero]
/-- a linear property holds of all that is made -/
theorem lat_at0 {k q : Nat} {rs : List Row} (hl : ∀ r ∈ rs, r.length = k) (h : ∀ r ∈ rs, r.getD q 0 = 0) {v : Row} (l : Lat k rs v) : v.getD q 0 = 0 := by
  induction l with
  | zer => exact Hn.zer_at k q
  | row hr => exact h _ hr
  | add l1 l2 h1 h2 => rw [add_at (l1.len hl) (l2.len hl), h1, h2]; rfl
  | smul m _ h1 => rw [Hn.smul_at, h1, Int.mul_zero]
theorem lat_cons {k : Nat} {r : Row} {rs : List Row} (hl : ∀ x ∈ r :: rs, x.length = k) {v : Row} (l : Lat k (r :: rs) v) : ∃ c w, Lat k rs w ∧ v = Mx.add (Mx.smul c r) w := by
  have hr := hl r (List.mem_cons_self ..)
  have hrs := fun x hx => hl x (List.mem_cons_of_mem _ hx)
  induction l with
  | zer => exact ⟨0, Mx.zer k, .zer, ext_row (k := k) (zer_len k) (add_len (by rw [smul_len]; exact hr) (zer_len k)) fun i _ => by
      rw [add_at (k := k) (by rw [smul_len]; exact hr) (zer_len k), Hn.smul_at, Hn.zer_at]
      omega⟩
  | row hx =>
    rename_i x
    rcases List.mem_cons.mp hx with rfl | hx
    · exact ⟨1, Mx.zer k, .zer, ext_row (k := k) hr (add_len (by rw [smul_len]; exact hr) (zer_len k)) fun i _ => by
        rw [add_at (k := k) (by rw [smul_len]; exact hr) (zer_len k), Hn.smul_at, Hn.zer_at]
        omega⟩
    · exact ⟨0, x, .row hx, ext_row (k := k) (hrs x hx) (add_len (by rw [smul_len]; exact hr) (hrs x hx)) fun i _ => by
        rw [add_at (k := k) (by rw [smul_len]; exact hr) (hrs x hx), Hn.smul_at]
        omega⟩
  | add l1 l2 h1 h2 =>
    obtain ⟨c1, w1, k1, e1⟩ := h1
    obtain ⟨c2, w2, k2, e2⟩ := h2
    have n1 := k1.len hrs
    have n2 := k2.len hrs
    have s1 : ∀ c, (Mx.smul c r).length = k := fun c => by rw [smul_len]; exact hr
    refine ⟨c1 + c2, Mx.add w1 w2, .add k1 k2, ?_⟩
    rw [e1, e2]
    refine ext_row (k := k) (add_len (add_len (s1 _) n1) (add_len (s1 _) n2)) (add_len (s1 _) (add_len n1 n2)) fun i _ => ?_
    rw [add_at (add_len (s1 _) n1) (add_len (s1 _) n2), add_at (s1 _) n1, add_at (s1 _) n2, add_at (s1 _) (add_len n1 n2), add_at n1 n2, Hn.smul_at, Hn.smul_at, Hn.smul_at, Int.add_mul]
    omega
  | smul m l1 h1 =>
    obtain ⟨c1, w1, k1, e1⟩ := h1
    have n1 := k1.len hrs
    have s1 : ∀ c, (Mx.smul c r).length = k := fun c => by rw [smul_len]; exact hr
    refine ⟨m * c1, Mx.smul m w1, .smul m k1, ?_⟩
    rw [e1]
    refine ext_row (k := k) (by rw [smul_len]; exact add_len (s1 _) n1) (add_len (s1 _) (by rw [smul_len]; exact n1)) fun i _ => ?_
    rw [Hn.smul_at, add_at (s1 _) n1, add_at (k := k) (s1 _) (by rw [smul_len]; exact n1), Hn.smul_at, Hn.smul_at, Hn.smul_at, Int.mul_add, Int.mul_assoc]
theorem Up.head_at {k : Nat} {r : Row} {F : List Row} (h : Up k (r :: F)) {v : Row} (l : Lat k (r :: F) v) : ∃ c, v.getD (place r) 0 = c * ld r ∧ (v.getD (place r) 0 = 0 → Lat k F v) := by
  obtain ⟨c, w, h1, h2⟩ := lat_cons h.len l
  have hr := h.len r (List.mem_cons_self ..)
  have hw := h1.len h.tail.len
  have h0 := lat_at0 (q := place r) h.tail.len (fun x hx => ahead0 (h.head x hx)) h1
  have hpos := h.pos r (List.mem_cons_self ..)
  have e : v.getD (place r) 0 = c * ld r := by
    rw [h2, add_at (k := k) (by rw [smul_len]; exact hr) hw, Hn.smul_at, h0, Int.add_zero]
  refine ⟨c, e, fun hz => ?_⟩
  have hc : c = 0 := by
    rw [e] at hz
    rcases Int.mul_eq_zero.mp hz with q | q
    · exact q
    · omega
  subst hc
  have : v = w := by
    rw [h2]
    refine ext_row (k := k) (add_len (by rw [smul_len]; exact hr) hw) hw fun i _ => ?_
    rw [add_at (k := k) (by rw [smul_len]; exact hr) hw, Hn.smul_at]
    omega
  rw [this]
  exact h1
/-- the place of the i-th row -/
def pl (F : List Row) (i : Nat) : Nat := place (F.getD i [])
theorem Up.pl_lt {k : Nat} {F : List Row} (h : Up k F) {i j : Nat} (hij : i < j) (hj : j < F.length) : pl F i < pl F j :=
  h.inj (getD_row (by omega)) (getD_row hj) hij
/-- what has noughts at the first i places: the next number is divided by the lead -/
theorem Up.dvd_at {k : Nat} : ∀ {F : List Row} {i : Nat} {v : Row}, Up k F → Lat k F v → i < F.length → (∀ j, j < i → v.getD (pl F j) 0 = 0) → ld (F.getD i []) ∣ v.getD (pl F i) 0
  | [], _, _, _, _, h, _ => by simp at h
  | r :: F, 0, v, hu, l, _, _ => by
    obtain ⟨c, h1, _⟩ := hu.head_at l
    exact ⟨c, by rw [Int.mul_comm]; exact h1⟩
  | r :: F, i + 1, v, hu, l, h, hz => by
    obtain ⟨c, _, h2⟩ := hu.head_at l
    have l2 := h2 (hz 0 (by omega))
    exact Up.dvd_at (F := F) (i := i) hu.tail l2 (by simpa using h) fun j hj => hz (j + 1) (by omega)
/-- noughts at all places: noughts -/
theorem Up.zer_of {k : Nat} : ∀ {F : List Row} {v : Row}, Up k F → Lat k F v → (∀ j, j < F.length → v.getD (pl F j) 0 = 0) → v = Mx.zer k
  | [], v, _, l, _ => lat_nil l
  | r :: F, v, hu, l, hz => by
    obtain ⟨c, _, h2⟩ := hu.head_at l
    exact Up.zer_of hu.tail (h2 (hz 0 (by simp))) fun j hj => hz (j + 1) (by simpa using hj)
/-- sizes that are reached -/
def eb (b : Nat) : Nat → Nat
  | 0 => b
  | m + 1 => 2 * eb b m + 1
theorem eb_le (b : Nat) : ∀ {m n : Nat}, m ≤ n → eb b m ≤ eb b n
  | m, 0, h => by
    have : m = 0 := by omega
    rw [this]
    exact Nat.le_refl _
  | m, n + 1, h => by
    rcases Nat.lt_or_ge n m with q | q
    · have : m = n + 1 := by omega
      rw [this]
      exact Nat.le_refl _
    · have := eb_le b q
      show eb b m ≤ 2 * eb b n + 1
      omega
/-- v with w's place c made 0 -/
def wipe (c : Nat) (w v : Row) : Row := Mx.add (Mx.smul (w.getD c 0) v) (Mx.smul (-(v.getD c 0)) w)
theorem wipe_at {k c : Nat} {w v : Row} (hw : w.length = k) (hv : v.length = k) (i : Nat) : (wipe c w v).getD i 0 = w.getD c 0 * v.getD i 0 - v.getD c 0 * w.getD i 0 := by
  unfold wipe
  rw [comb_at hv hw, Int.neg_mul]
  omega
theorem wipe_len {k c : Nat} {w v : Row} (hw : w.length = k) (hv : v.length = k) : (wipe c w v).length = k := comb_len hv hw
theorem wipe_bd {k c e : Nat} {w v : Row} (hw : w.length = k) (hv : v.length = k) (bw : Bd e w) (bv : Bd e v) : Bd (2 * e + 1) (wipe c w v) := Bd.of (wipe_len hw hv) fun i _ => by
  unfold wipe
  rw [comb_at hv hw]
  have := bd_comb (bw.at c) (bv.at i) (show (-(v.getD c 0)).natAbs < 2 ^ e by rw [Int.natAbs_neg]; exact bv.at c) (bw.at i)
  rw [show 2 * e + 1 = e + e + 1 by omega]
  exact this
theorem wipe_lat {k c : Nat} {F : List Row} {w v : Row} (lw : Lat k F w) (lv : Lat k F v) : Lat k F (wipe c w v) := .add (.smul _ lv) (.smul _ lw)
theorem wipe_all {k c : Nat} {W : List Row} {w v : Row} (hw : w.length = k) (hW : ∀ x ∈ W, x.length = k) (l : Lat k W v) : Lat k (W.map (wipe c w)) (wipe c w v) := by
  induction l with
  | zer =>
    have : wipe c w (Mx.zer k) = Mx.zer k := ext_row (wipe_len hw (zer_len k)) (zer_len k) fun i _ => by
      rw [wipe_at hw (zer_len k), Hn.zer_at, Hn.zer_at, Int.mul_zero, Int.zero_mul]
      rfl
    rw [this]
    exact .zer
  | row hr => exact .row (List.mem_map_of_mem hr)
  | add l1 l2 h1 h2 =>
    rename_i a b
    have n1 := l1.len hW
    have n2 := l2.len hW
    have : wipe c w (Mx.add a b) = Mx.add (wipe c w a) (wipe c w b) := ext_row (wipe_len hw (add_len n1 n2)) (add_len (wipe_len hw n1) (wipe_len hw n2)) fun i _ => by
      rw [wipe_at hw (add_len n1 n2), add_at (wipe_len hw n1) (wipe_len hw n2), wipe_at hw n1, wipe_at hw n2, add_at n1 n2, add_at n1 n2, Int.mul_add, Int.add_mul]
      omega
    rw [this]
    exact .add h1 h2
  | smul m l1 h1 =>
    rename_i a
    have n1 := l1.len hW
    have : wipe c w (Mx.smul m a) = Mx.smul m (wipe c w a) := ext_row (k := k) (wipe_len hw (by rw [smul_len]; exact n1)) (by rw [smul_len]; exact wipe_len hw n1) fun i _ => by
      rw [wipe_at (k := k) hw (by rw [smul_len]; exact n1), Hn.smul_at, Hn.smul_at, Hn.smul_at, wipe_at hw n1, Int.mul_sub, Int.mul_left_comm, Int.mul_assoc]
    rw [this]
    exact .smul m h1
/-- rows with noughts at all places but one -/
theorem wiped {k b : Nat} {F R : List Row} (hu : Up k F) (he : Eqv k F R) (hR : ∀ r ∈ R, r.length = k) (hb : ∀ r ∈ R, Bd b r) : ∀ m, m ≤ F.length → ∃ (U : Nat → Row) (W : List Row),
    (∀ i, i < m → (U i).length = k ∧ Lat k F (U i) ∧ Bd (eb b m) (U i) ∧ (U i).getD (pl F i) 0 ≠ 0 ∧ ∀ j, j < m → i ≠ j → (U i).getD (pl F j) 0 = 0) ∧
    (∀ w ∈ W, w.length = k ∧ Lat k F w ∧ Bd (eb b m) w ∧ ∀ j, j < m → w.getD (pl F j) 0 = 0) ∧
    ∀ x, Lat k F x → (∀ j, j < m → x.getD (pl F j) 0 = 0) → ∃ N : Int, N ≠ 0 ∧ Lat k W (Mx.smul N x)
  | 0, _ => ⟨fun _ => [], R, fun i hi => by omega, fun w hw => ⟨hR w hw, (he w).mpr (.row hw), hb w hw, fun j hj => by omega⟩, fun x hx _ => ⟨1, by omega, by
      have e : Mx.smul 1 x = x := ext_row (k := k) (by rw [smul_len]; exact hx.len hu.len) (hx.len hu.len) fun i _ => by rw [Hn.smul_at, Int.one_mul]
      rw [e]
      exact (he x).mp hx⟩⟩
  | m + 1, hm => by
    obtain ⟨U, W, h1, h2, h3⟩ := wiped hu he hR hb m (by omega)
    have hWl : ∀ x ∈ W, x.length = k := fun x hx => (h2 x hx).1
    have hg := getD_row (R := F) (i := m) (by omega)
    have hFm := List.mem_of_getElem? hg
    -- a row that has not 0 there
    obtain ⟨w, hw, hwc⟩ : ∃ w ∈ W, w.getD (pl F m) 0 ≠ 0 := by
      refine Classical.byContradiction fun hn => ?_
      have hall : ∀ w ∈ W, w.getD (pl F m) 0 = 0 := fun w hw => Classical.byContradiction fun h => hn ⟨w, hw, h⟩
      obtain ⟨N, hN, l⟩ := h3 (F.getD m []) (.row hFm) fun j hj => ahead0 (hu.pl_lt hj (by omega))
      have := lat_at0 (q := pl F m) hWl hall l
      rw [Hn.smul_at] at this
      have hp := hu.pos _ hFm
      rcases Int.mul_eq_zero.mp this with q | q
      · exact hN q
      · have : ld (F.getD m []) = 0 := q
        omega
    obtain ⟨w1, w2, w3, w4⟩ := h2 w hw
    refine ⟨fun i => if i = m then w else wipe (pl F m) w (U i), W.map (wipe (pl F m) w), fun i hi => ?_, fun x hx => ?_, fun x hx hz => ?_⟩
    · by_cases e : i = m
      · subst e
        dsimp only
        rw [if_pos rfl]
        refine ⟨w1, w2, w3.le (eb_le b (by omega)), hwc, fun j hj hne => w4 j (by omega)⟩
      · dsimp only
        rw [if_neg e]
        obtain ⟨u1, u2, u3, u4, u5⟩ := h1 i (by omega)
        refine ⟨wipe_len w1 u1, wipe_lat w2 u2, wipe_bd w1 u1 w3 u3, ?_, fun j hj hne => ?_⟩
        · rw [wipe_at w1 u1, w4 i (by omega), Int.mul_zero, Int.sub_zero]
          exact Int.mul_ne_zero hwc u4
        · rw [wipe_at w1 u1]
          by_cases ej : j = m
          · subst ej
            rw [Int.mul_comm]
            omega
          · rw [u5 j (by omega) hne, w4 j (by omega), Int.mul_zero, Int.mul_zero]
            rfl
    · obtain ⟨y, hy, rfl⟩ := List.mem_map.mp hx
      obtain ⟨y1, y2, y3, y4⟩ := h2 y hy
      refine ⟨wipe_len w1 y1, wipe_lat w2 y2, wipe_bd w1 y1 w3 y3, fun j hj => ?_⟩
      rw [wipe_at w1 y1]
      by_cases ej : j = m
      · subst ej
        rw [Int.mul_comm]
        omega
      · rw [y4 j (by omega), w4 j (by omega), Int.mul_zero, Int.mul_zero]
        rfl
    · obtain ⟨N, hN, l⟩ := h3 x hx fun j hj => hz j (by omega)
      have l2 := wipe_all (c := pl F m) w1 hWl l
      have hxl := hx.len hu.len
      have e : wipe (pl F m) w (Mx.smul N x) = Mx.smul (w.getD (pl F m) 0 * N) x := ext_row (k := k) (wipe_len w1 (by rw [smul_len]; exact hxl)) (by rw [smul_len]; exact hxl) fun i _ => by
        rw [wipe_at (k := k) w1 (by rw [smul_len]; exact hxl), Hn.smul_at, Hn.smul_at, Hn.smul_at, hz m (by omega), Int.mul_zero, Int.zero_mul, Int.mul_assoc]
        omega
      rw [e] at l2
      exact ⟨_, Int.mul_ne_zero hwc hN, l2⟩
end Hn
namespace Hn
open Mx
def sA (F : List Row) : Nat → Row → Nat
  | 0, _ => 0
  | m + 1, x => sA F m x + (x.getD (pl F m) 0).natAbs
theorem sA_le (F : List Row) {x : Row} {M : Nat} : ∀ {m : Nat}, (∀ j, j < m → (x.getD (pl F j) 0).natAbs ≤ M) → sA F m x ≤ m * M
  | 0, _ => Nat.zero_le _
  | m + 1, h => by
    have ih := sA_le F (x := x) (M := M) (m := m) fun j hj => h j (by omega)
    have := h m (by omega)
    show sA F m x + _ ≤ _
    rw [Nat.add_mul, Nat.one_mul]
    omega
theorem sA_mul (F : List Row) {x y : Row} {d : Int} : ∀ {m : Nat}, (∀ j, j < m → y.getD (pl F j) 0 = d * x.getD (pl F j) 0) → sA F m y = d.natAbs * sA F m x
  | 0, _ => by simp [sA]
  | m + 1, h => by
    have ih := sA_mul F (x := x) (y := y) (d := d) (m := m) fun j hj => h j (by omega)
    show sA F m y + _ = d.natAbs * (sA F m x + _)
    rw [ih, h m (by omega), Int.natAbs_mul, Nat.mul_add]
/-- how great a stair's numbers are -/
theorem canon_bd {k b : Nat} {F R : List Row} (hu : Up k F) (hr : Red F) (he : Eqv k F R) (hR : ∀ r ∈ R, r.length = k) (hb : ∀ r ∈ R, Bd b r) : ∀ r ∈ F, Bd (2 * eb b F.length + F.length) r := by
  obtain ⟨U, W, h1, _, _⟩ := wiped hu he hR hb F.length (Nat.le_refl _)
  generalize hE : eb b F.length = E at *
  have hlead : ∀ i, i < F.length → (ld (F.getD i [])).natAbs ≤ 2 ^ E := fun i hi => by
    obtain ⟨u1, u2, u3, u4, u5⟩ := h1 i hi
    have hd := hu.dvd_at u2 hi fun j hj => u5 j (by omega) (by omega)
    have h2 := Nat.le_of_dvd (by omega) (Int.natAbs_dvd_natAbs.mpr hd)
    have := u3.at (pl F i)
    omega
  have claim : ∀ m, m ≤ F.length → ∀ x, Lat k F x → (∀ j, m ≤ j → j < F.length → x.getD (pl F j) 0 = 0) → ∀ q, (x.getD q 0).natAbs ≤ sA F m x * 2 ^ E := by
    intro m
    induction m with
    | zero =>
      intro _ x hx hz q
      rw [hu.zer_of hx fun j hj => hz j (Nat.zero_le _) hj, Hn.zer_at]
      simp
    | succ m ih =>
      intro hm x hx hz q
      obtain ⟨u1, u2, u3, u4, u5⟩ := h1 m (by omega)
      have hxl := hx.len hu.len
      have y1 := wipe_lat (c := pl F m) u2 hx
      have hy := ih (by omega) (wipe (pl F m) (U m) x) y1 (fun j hj hj2 => by
        rw [wipe_at u1 hxl]
        by_cases e : j = m
        · subst e
          rw [Int.mul_comm]
          omega
        · rw [hz j (by omega) hj2, u5 j hj2 (by omega), Int.mul_zero, Int.mul_zero]
          rfl) q
      rw [sA_mul F (x := x) (d := (U m).getD (pl F m) 0) (fun j hj => by
        rw [wipe_at u1 hxl, u5 j (by omega) (by omega), Int.mul_zero, Int.sub_zero]), wipe_at u1 hxl] at hy
      have hq := u3.at q
      show _ ≤ (sA F m x + (x.getD (pl F m) 0).natAbs) * 2 ^ E
      generalize (U m).getD (pl F m) 0 = d at *
      generalize (U m).getD q 0 = u at *
      generalize x.getD (pl F m) 0 = t at *
      generalize x.getD q 0 = z at *
      generalize sA F m x = S at *
      have hd : 1 ≤ d.natAbs := by omega
      have e1 : (d * z).natAbs ≤ (d * z - t * u).natAbs + (t * u).natAbs := by omega
      rw [Int.natAbs_mul, Int.natAbs_mul t u] at e1
      have e2 : t.natAbs * u.natAbs ≤ t.natAbs * 2 ^ E := Nat.mul_le_mul_left _ (by omega)
      have e3 : 1 * (t.natAbs * 2 ^ E) ≤ d.natAbs * (t.natAbs * 2 ^ E) := Nat.mul_le_mul_right _ hd
      have e4 : d.natAbs * z.natAbs ≤ d.natAbs * ((S + t.natAbs) * 2 ^ E) := by
        rw [Nat.add_mul, Nat.mul_add, ← Nat.mul_assoc]
        omega
      exact Nat.le_of_mul_le_mul_left e4 (by omega)
  intro r hrm
  obtain ⟨i, hi⟩ := List.getElem?_of_mem hrm
  have hil : i < F.length := by
    rcases Nat.lt_or_ge i F.length with q | q
    · exact q
    · rw [List.getElem?_eq_none q] at hi; cases hi
  have hpls : ∀ j, j < F.length → (r.getD (pl F j) 0).natAbs ≤ 2 ^ E := fun j hj => by
    have hg := getD_row (R := F) (i := j) hj
    have hei : F.getD i [] = r := getD_some hi
    rcases Nat.lt_trichotomy j i with q | q | q
    · have : r.getD (pl F j) 0 = 0 := by
        refine ahead0 ?_
        have := hu.pl_lt q hil
        unfold pl at this
        rw [hei] at this
        exact this
      rw [this]
      exact Nat.zero_le _
    · subst q
      have := hlead j hj
      unfold pl
      rw [hei] at this ⊢
      exact this
    · have h2 := hr i j r _ hi hg q
      have h3 := hlead j hj
      unfold pl
      omega
  have hlen := hu.len r hrm
  refine Bd.of hlen fun q _ => ?_
  have h2 := claim F.length (Nat.le_refl _) r (.row hrm) (fun j hj hj2 => by omega) q
  have h3 := sA_le F (x := r) (M := 2 ^ E) (m := F.length) hpls
  have h4 : sA F F.length r * 2 ^ E ≤ F.length * 2 ^ E * 2 ^ E := Nat.mul_le_mul_right _ h3
  have h5 : F.length * 2 ^ E * 2 ^ E < 2 ^ F.length * (2 ^ E * 2 ^ E) := by
    rw [Nat.mul_assoc]
    exact Nat.mul_lt_mul_of_pos_right Nat.lt_two_pow_self (Nat.mul_pos (Nat.pow_pos (by omega)) (Nat.pow_pos (by omega)))
  have h6 : (2 : Nat) ^ (2 * E + F.length) = 2 ^ F.length * (2 ^ E * 2 ^ E) := by
    rw [← Nat.pow_add, ← Nat.pow_add]
    congr 1
    omega
  omega
end Hn
namespace Hn
open Mx
/-- made, and less than the leads: noughts -/
theorem Up.small {k : Nat} : ∀ {F : List Row} {v : Row}, Up k F → Lat k F v → (∀ r ∈ F, (v.getD (place r) 0).natAbs < (ld r).natAbs) → v = Mx.zer k
  | [], v, _, l, _ => lat_nil l
  | r :: F, v, hu, l, h => by
    obtain ⟨c, h1, h2⟩ := hu.head_at l
    have h3 := h r (List.mem_cons_self ..)
    have h4 : v.getD (place r) 0 = 0 := by
      rw [h1, Int.natAbs_mul] at h3
      have : c.natAbs = 0 := by
        rcases Nat.eq_zero_or_pos c.natAbs with q | q
        · exact q
        · have := Nat.mul_le_mul_right (ld r).natAbs q
          omega
      have : c = 0 := by omega
      rw [h1, this, Int.zero_mul]
    exact Up.small hu.tail (h2 h4) fun x hx => h x (List.mem_cons_of_mem _ hx)
theorem led_zer {k : Nat} {F : List Row} {v : Row} (hu : Up k F) (hv : v.length = k) : (led F v).2 = Mx.zer k ↔ Lat k F v := by
  have he := led_lat hu.len hv
  constructor
  · intro h
    rw [h] at he
    refine ((he v).mp (.row (List.mem_cons_self ..))).of fun r hr => ?_
    rcases List.mem_cons.mp hr with rfl | hr
    · exact .zer
    · exact .row hr
  · intro h
    refine hu.small ?_ fun r hr => ?_
    · refine ((he _).mpr (.row (List.mem_cons_self ..))).of fun r hr => ?_
      rcases List.mem_cons.mp hr with rfl | hr
      · exact h
      · exact .row hr
    · have := led_red hu hv r hr
      omega
/-- what is made by a stair: it has noughts ahead of the first place -/
theorem Up.first {k : Nat} {r : Row} {F : List Row} (h : Up k (r :: F)) {v : Row} (l : Lat k (r :: F) v) {q : Nat} (hq : q < place r) : v.getD q 0 = 0 :=
  lat_at0 h.len (fun x hx => by
    rcases List.mem_cons.mp hx with rfl | hx
    · exact ahead0 hq
    · exact ahead0 (Nat.lt_trans hq (h.head x hx))) l
/-- of rows there is one stair -/
theorem canon_one {k : Nat} : ∀ {F G : List Row}, Up k F → Red F → Up k G → Red G → Eqv k F G → F = G
  | [], [], _, _, _, _, _ => rfl
  | [], s :: G, _, _, hg, _, he => by
    have := lat_nil ((he s).mpr (.row (List.mem_cons_self ..)))
    have hp := hg.plc s (List.mem_cons_self ..)
    rw [this, place_zer] at hp
    omega
  | r :: F, [], hf, _, _, _, he => by
    have := lat_nil ((he r).mp (.row (List.mem_cons_self ..)))
    have hp := hf.plc r (List.mem_cons_self ..)
    rw [this, place_zer] at hp
    omega
  | r :: F, s :: G, hf, rf, hg, rg, he => by
    have lr := (he r).mp (.row (List.mem_cons_self ..))
    have ls := (he s).mpr (.row (List.mem_cons_self ..))
    have pr := hf.pos r (List.mem_cons_self ..)
    have ps := hg.pos s (List.mem_cons_self ..)
    have hrl := hf.len r (List.mem_cons_self ..)
    have hsl := hg.len s (List.mem_cons_self ..)
    have hp : place r = place s := by
      rcases Nat.lt_trichotomy (place r) (place s) with q | q | q
      · have : ld r = 0 := hg.first lr q
        omega
      · exact q
      · have : ld s = 0 := hf.first ls q
        omega
    obtain ⟨c, c1, c2⟩ := hg.head_at lr
    obtain ⟨d, d1, d2⟩ := hf.head_at ls
    have hl : ld r = ld s := by
      have e1 : ld r = c * ld s := by rw [← c1, ← hp]
      have e2 : ld s = d * ld r := by rw [← d1, hp]
      have h1 : ld s ∣ ld r := ⟨c, by rw [e1, Int.mul_comm]⟩
      have h2 : ld r ∣ ld s := ⟨d, by rw [Int.mul_comm]; exact e2⟩
      exact Int.dvd_antisymm (by omega) (by omega) h2 h1
    have he2 : Eqv k F G := fun v => by
      constructor
      · intro l
        have h0 := lat_at0 (q := place r) hf.tail.len (fun x hx => ahead0 (hf.head x hx)) l
        obtain ⟨_, _, h2⟩ := hg.head_at ((he v).mp (l.mono fun x hx => List.mem_cons_of_mem _ hx))
        exact h2 (by rw [← hp]; exact h0)
      · intro l
        have h0 := lat_at0 (q := place s) hg.tail.len (fun x hx => ahead0 (hg.head x hx)) l
        obtain ⟨_, _, h2⟩ := hf.head_at ((he v).mpr (l.mono fun x hx => List.mem_cons_of_mem _ hx))
        exact h2 (by rw [hp]; exact h0)
    have hFG := canon_one hf.tail rf.tail hg.tail rg.tail he2
    subst hFG
    have hrs : Mx.sub r s = Mx.zer k := by
      refine hf.tail.small ?_ fun x hx => ?_
      · have l1 : Lat k (r :: F) (Mx.sub r s) := .sub hf.len (.row (List.mem_cons_self ..)) ls
        obtain ⟨_, _, h2⟩ := hf.head_at l1
        refine h2 ?_
        rw [sub_at hrl hsl]
        have e3 : s.getD (place r) 0 = ld s := by rw [hp]
        have e4 : r.getD (place r) 0 = ld r := rfl
        rw [e3, e4, hl]
        omega
      · obtain ⟨i, hi⟩ := List.getElem?_of_mem hx
        have h1 := rf 0 (i + 1) r x rfl hi (by omega)
        have h2 := rg 0 (i + 1) s x rfl hi (by omega)
        rw [sub_at hrl hsl]
        omega
    have : r = s := ext_row hrl hsl fun i _ => by
      have h1 : (Mx.sub r s).getD i 0 = 0 := by rw [hrs, Hn.zer_at]
      rw [sub_at hrl hsl] at h1
      omega
    rw [this]
end Hn
namespace Hn
open Mx
theorem led_sub {k : Nat} : ∀ {F : List Row} {v : Row}, Up k F → v.length = k → Lat k F (Mx.sub v (led F v).2)
  | [], v, _, hv => by
    have e : Mx.sub v (led [] v).2 = Mx.zer k := ext_row (sub_len hv hv) (zer_len k) fun i _ => by
      show (Mx.sub v v).getD i 0 = _
      rw [sub_at hv hv, Hn.zer_at]
      omega
    rw [e]
    exact .zer
  | r :: F, v, hu, hv => by
    have hr := hu.len r (List.mem_cons_self ..)
    have hs : (Mx.sub v (Mx.smul (v.getD (place r) 0 / ld r) r)).length = k := sub_len hv (by rw [smul_len]; exact hr)
    have ih := (led_sub hu.tail hs).mono (ss := r :: F) fun x hx => List.mem_cons_of_mem _ hx
    have hl := (led_len hu.tail.len hs).2
    unfold led
    dsimp only
    generalize v.getD (place r) 0 / ld r = m at *
    generalize (led F (Mx.sub v (Mx.smul m r))).2 = w at *
    have e : Mx.sub v w = Mx.add (Mx.smul m r) (Mx.sub (Mx.sub v (Mx.smul m r)) w) := ext_row (k := k) (sub_len hv hl) (add_len (by rw [smul_len]; exact hr) (sub_len hs hl)) fun i _ => by
      rw [sub_at hv hl, add_at (k := k) (by rw [smul_len]; exact hr) (sub_len hs hl), sub_at hs hl, sub_at hv (by rw [smul_len]; exact hr)]
      omega
    rw [e]
    exact .add (.smul m (.row (List.mem_cons_self ..))) ih
theorem led_one_rest {k : Nat} {F : List Row} {v w : Row} (hu : Up k F) (hv : v.length = k) (hw : w.length = k) (h : Lat k F (Mx.sub v w)) (hr : ∀ r ∈ F, 0 ≤ w.getD (place r) 0 ∧ w.getD (place r) 0 < ld r) : (led F v).2 = w := by
  have he := led_lat hu.len hv
  have hl := (led_len hu.len hv).2
  have h1 : Lat k F (Mx.sub v (led F v).2) := led_sub hu hv
  have h2 : Mx.sub (led F v).2 w = Mx.zer k := by
    refine hu.small ?_ fun r hr' => ?_
    · have e : Mx.sub (led F v).2 w = Mx.sub (Mx.sub v w) (Mx.sub v (led F v).2) := ext_row (sub_len hl hw) (sub_len (sub_len hv hw) (sub_len hv hl)) fun i _ => by
        rw [sub_at hl hw, sub_at (sub_len hv hw) (sub_len hv hl), sub_at hv hw, sub_at hv hl]
        omega
      rw [e]
      exact .sub hu.len h h1
    · have a := led_red hu hv r hr'
      have b := hr r hr'
      rw [sub_at hl hw]
      omega
  refine ext_row hl hw fun i _ => ?_
  have h3 : (Mx.sub (led F v).2 w).getD i 0 = 0 := by rw [h2, Hn.zer_at]
  rw [sub_at hl hw] at h3
  omega
end Hn

namespace Sr
open PySem PySem.Spec PyProof.Rows L2
/-! ### cells of cells: in cell o stand n cells of rows of k numbers, all behind s -/
structure Rr (s S : Sto) (k o n : Nat) (ts : List T) : Prop where
  pre : s <+: S
  ge : s.length ≤ o
  cell : S[o]? = some (.l ts)
  len : ts.length = n
  row : ∀ t ∈ ts, ∃ i r, t = .ref i ∧ s.length ≤ i ∧ i ≠ o ∧ S[i]? = some (cR r) ∧ r.length = k
theorem mapO_ex {α β : Type} {f : α → Option β} {Q : β → Prop} : ∀ {xs : List α}, (∀ x ∈ xs, ∃ y, f x = some y ∧ Q y) → ∃ ys, mapO f xs = some ys ∧ ys.length = xs.length ∧ ∀ y ∈ ys, Q y
  | [], _ => ⟨[], rfl, rfl, fun y h => by simp at h⟩
  | x :: xs, h => by
    obtain ⟨y, h1, h2⟩ := h x (List.mem_cons_self ..)
    obtain ⟨ys, h3, h4, h5⟩ := mapO_ex (xs := xs) fun z hz => h z (List.mem_cons_of_mem _ hz)
    refine ⟨y :: ys, by rw [mapO_cons, h1, h3], by rw [List.length_cons, List.length_cons, h4], fun z hz => ?_⟩
    rcases List.mem_cons.mp hz with rfl | hz
    · exact h2
    · exact h5 z hz
theorem rows_of {Q : List Int → Prop} : ∀ {ys : List T}, (∀ y ∈ ys, ∃ r : List Int, y = eL r ∧ Q r) → ∃ R : List (List Int), ys = R.map eL ∧ ∀ r ∈ R, Q r
  | [], _ => ⟨[], rfl, fun r h => by simp at h⟩
  | y :: ys, h => by
    obtain ⟨r, h1, h2⟩ := h y (List.mem_cons_self ..)
    obtain ⟨R, h3, h4⟩ := rows_of (ys := ys) fun z hz => h z (List.mem_cons_of_mem _ hz)
    refine ⟨r :: R, by rw [h1, h3]; rfl, fun z hz => ?_⟩
    rcases List.mem_cons.mp hz with rfl | hz
    · exact h2
    · exact h4 z hz
theorem Rr.ret {s S : Sto} {k o n : Nat} {ts : List T} (h : Rr s S k o n ts) : ∃ R : List (List Int), rs 9 s.length S (.ref o) = some (eM R) ∧ R.length = n ∧ ∀ r ∈ R, r.length = k := by
  obtain ⟨ys, h1, h2, h3⟩ := mapO_ex (f := rs 8 s.length S) (Q := fun y => ∃ r : List Int, y = eL r ∧ r.length = k) (xs := ts) fun t ht => by
    obtain ⟨i, r, rfl, hi, _, hs, hr⟩ := h.row t ht
    exact ⟨eL r, rs_cell_ints hi hs, r, rfl, hr⟩
  obtain ⟨R, rfl, h4⟩ := rows_of h3
  refine ⟨R, ?_, by rw [← h.len, ← h2, List.length_map], h4⟩
  rw [rs_cell h.ge h.cell, h1]
  rfl
theorem pre_set {s S : Sto} {i : Nat} {c : Cell} (h : s <+: S) (hi : s.length ≤ i) : s <+: S.set i c := by
  obtain ⟨l, rfl⟩ := h
  rw [List.set_append_right _ _ hi]
  exact List.prefix_append ..
theorem pre_app {s S : Sto} (h : s <+: S) (l : Sto) : s <+: S ++ l := by
  obtain ⟨m, rfl⟩ := h
  rw [List.append_assoc]
  exact List.prefix_append ..
theorem get_set {α : Type} {S : List α} {i j : Nat} {c d : α} (h : S[j]? = some c) : (S.set i d)[j]? = some (if i = j then d else c) := by
  rw [List.getElem?_set]
  have hj : j < S.length := by
    rcases Nat.lt_or_ge j S.length with q | q
    · exact q
    · rw [List.getElem?_eq_none q] at h; cases h
  split
  · rename_i e; subst e; simp [hj]
  · exact h
theorem get_app {α : Type} {S : List α} {j : Nat} {c : α} (h : S[j]? = some c) (l : List α) : (S ++ l)[j]? = some c := by
  have hj : j < S.length := by
    rcases Nat.lt_or_ge j S.length with q | q
    · exact q
    · rw [List.getElem?_eq_none q] at h; cases h
  rw [List.getElem?_append_left hj, h]
theorem get_lt {α : Type} {S : List α} {j : Nat} {c : α} (h : S[j]? = some c) : j < S.length := by
  rcases Nat.lt_or_ge j S.length with q | q
  · exact q
  · rw [List.getElem?_eq_none q] at h; cases h
/-- a row's cell anew -/
theorem Rr.setrow {s S : Sto} {k o n i : Nat} {ts : List T} {r : List Int} (h : Rr s S k o n ts) (hi : s.length ≤ i) (ho : i ≠ o) (hr : r.length = k) : Rr s (S.set i (cR r)) k o n ts := by
  refine ⟨pre_set h.pre hi, h.ge, ?_, h.len, fun t ht => ?_⟩
  · rw [get_set h.cell, if_neg ho]
  · obtain ⟨j, q, h1, h2, h3, h4, h5⟩ := h.row t ht
    by_cases e : i = j
    · subst e
      exact ⟨_, r, h1, h2, h3, by rw [get_set h4, if_pos rfl], hr⟩
    · exact ⟨j, q, h1, h2, h3, by rw [get_set h4, if_neg e], h5⟩
/-- the outer cell anew, of the same rows -/
theorem Rr.setout {s S : Sto} {k o n m : Nat} {ts us : List T} (h : Rr s S k o n ts) (hu : ∀ t ∈ us, t ∈ ts) (hm : us.length = m) : Rr s (S.set o (.l us)) k o m us := by
  refine ⟨pre_set h.pre h.ge, h.ge, ?_, hm, fun t ht => ?_⟩
  · rw [get_set h.cell, if_pos rfl]
  · obtain ⟨j, q, h1, h2, h3, h4, h5⟩ := h.row t (hu t ht)
    exact ⟨j, q, h1, h2, h3, by rw [get_set h4, if_neg (Ne.symm h3)], h5⟩
/-- a new row's cell, then a new outer cell -/
theorem Rr.more {s S : Sto} {k o n m : Nat} {ts us : List T} {r : List Int} (h : Rr s S k o n ts) (hr : r.length = k) (hu : ∀ t ∈ us, t ∈ ts ∨ t = .ref S.length) (hm : us.length = m) : Rr s (S ++ [cR r] ++ [.l us]) k (S.length + 1) m us := by
  have hle : s.length ≤ S.length := h.pre.length_le
  refine ⟨pre_app (pre_app h.pre _) _, by omega, ?_, hm, fun t ht => ?_⟩
  · rw [List.getElem?_append_right (by simp)]
    simp
  · rcases hu t ht with q | rfl
    · obtain ⟨j, q, h1, h2, h3, h4, h5⟩ := h.row t q
      exact ⟨j, q, h1, h2, by have := get_lt h4; omega, get_app (get_app h4 _) _, h5⟩
    · refine ⟨S.length, r, rfl, hle, by omega, ?_, hr⟩
      rw [List.append_assoc, List.getElem?_append_right (Nat.le_refl _), Nat.sub_self]
      rfl
theorem Rr.at' {s S : Sto} {k o n a : Nat} {ts : List T} (h : Rr s S k o n ts) (ha : a < n) : ∃ i r, L2.atI ts ((a : Nat) : Int) = some (.ref i) ∧ s.length ≤ i ∧ i ≠ o ∧ S[i]? = some (cR r) ∧ r.length = k := by
  have e := List.getElem?_eq_getElem (l := ts) (i := a) (by rw [h.len]; exact ha)
  obtain ⟨i, r, h1, h2⟩ := h.row _ (List.getElem_mem (by rw [h.len]; exact ha))
  rw [h1] at e
  exact ⟨i, r, by rw [atI_natE, e], h2⟩
theorem atI_last {α : Type} {xs : List α} (h : xs ≠ []) : ∃ x ∈ xs, L2.atI xs (-1) = some x := by
  have hl : 0 < xs.length := List.length_pos_iff.mpr h
  refine ⟨xs[xs.length - 1]'(by omega), List.getElem_mem _, ?_⟩
  unfold L2.atI ixN
  rw [if_neg (by omega), if_pos (by omega)]
  show xs[((-1 : Int) + (xs.length : Nat)).toNat]? = _
  rw [show ((-1 : Int) + (xs.length : Nat)).toNat = xs.length - 1 by omega]
  exact List.getElem?_eq_getElem _
end Sr

namespace Hn
open Mx
/-! ### pigeons -/
theorem pigeon : ∀ (m n : Nat) (f : Nat → Nat), (∀ i, i < n → f i < m) → m < n → ∃ i j, i < j ∧ j < n ∧ f i = f j
  | 0, n, f, h, hn => absurd (h 0 hn) (Nat.not_lt_zero _)
  | m + 1, n, f, h, hn => by
    by_cases hex : ∃ i, i < n ∧ f i = m
    · obtain ⟨i, hi, hfi⟩ := hex
      by_cases h2 : ∃ j, j < n ∧ j ≠ i ∧ f j = m
      · obtain ⟨j, hj, hne, hfj⟩ := h2
        rcases Nat.lt_or_gt_of_ne hne with q | q
        · exact ⟨j, i, q, hi, by omega⟩
        · exact ⟨i, j, q, hj, by omega⟩
      · obtain ⟨a, b, hab, hb, hf⟩ := pigeon m (n - 1) (fun j => f (if j < i then j else j + 1)) (fun j hj => by
          have e : (if j < i then j else j + 1) < n := by split <;> omega
          have e2 : (if j < i then j else j + 1) ≠ i := by split <;> omega
          have h3 := h _ e
          have h4 : f (if j < i then j else j + 1) ≠ m := fun h5 => h2 ⟨_, e, e2, h5⟩
          show f (if j < i then j else j + 1) < m
          omega) (by omega)
        refine ⟨_, _, ?_, ?_, hf⟩
        · split <;> split <;> omega
        · split <;> omega
    · obtain ⟨a, b, hab, hb, hf⟩ := pigeon m n f (fun j hj => by
        have h3 := h j hj
        have h4 : f j ≠ m := fun h5 => hex ⟨j, hj, h5⟩
        omega) (by omega)
      exact ⟨a, b, hab, hb, hf⟩
/-- the figures of a number -/
def dig (B : Nat) : Nat → Nat → List Int
  | 0, _ => []
  | n + 1, t => ((t % B : Nat) : Int) :: dig B n (t / B)
theorem dig_len (B : Nat) : ∀ n t, (dig B n t).length = n
  | 0, _ => rfl
  | n + 1, t => by
    show (dig B n (t / B)).length + 1 = _
    rw [dig_len]
theorem dig_bd {B : Nat} (hB : 0 < B) : ∀ n t, ∀ x ∈ dig B n t, 0 ≤ x ∧ x < B
  | 0, _, x, h => by simp [dig] at h
  | n + 1, t, x, h => by
    rcases List.mem_cons.mp h with rfl | h
    · have := Nat.mod_lt t hB
      omega
    · exact dig_bd hB n _ x h
theorem dig_inj {B : Nat} (hB : 0 < B) : ∀ n t u, t < B ^ n → u < B ^ n → dig B n t = dig B n u → t = u
  | 0, t, u, ht, hu, _ => by simp at ht hu; omega
  | n + 1, t, u, ht, hu, h => by
    have h1 := (List.cons.inj h).1
    have h2 := (List.cons.inj h).2
    have e := dig_inj hB n (t / B) (u / B) (by rw [Nat.div_lt_iff_lt_mul hB, ← Nat.pow_succ]; exact ht) (by rw [Nat.div_lt_iff_lt_mul hB, ← Nat.pow_succ]; exact hu) h2
    have a := Nat.div_add_mod t B
    have b := Nat.div_add_mod u B
    have c : t % B = u % B := by omega
    rw [e, c] at a
    omega
/-- numbers from -Y to Y as one -/
def enc (Y : Nat) : List Int → Nat
  | [] => 0
  | v :: vs => (v + Y).toNat + (2 * Y + 1) * enc Y vs
theorem enc_lt (Y : Nat) : ∀ vs : List Int, (∀ v ∈ vs, v.natAbs ≤ Y) → enc Y vs < (2 * Y + 1) ^ vs.length
  | [], _ => by simp [enc]
  | v :: vs, h => by
    have h1 := h v (List.mem_cons_self ..)
    have h2 := enc_lt Y vs fun x hx => h x (List.mem_cons_of_mem _ hx)
    show (v + Y).toNat + (2 * Y + 1) * enc Y vs < (2 * Y + 1) ^ (vs.length + 1)
    have h3 : (2 * Y + 1) * (enc Y vs + 1) ≤ (2 * Y + 1) * (2 * Y + 1) ^ vs.length := Nat.mul_le_mul_left _ h2
    rw [Nat.mul_add, Nat.mul_one] at h3
    rw [Nat.pow_succ, Nat.mul_comm ((2 * Y + 1) ^ vs.length)]
    omega
theorem enc_inj (Y : Nat) : ∀ vs us : List Int, vs.length = us.length → (∀ v ∈ vs, v.natAbs ≤ Y) → (∀ v ∈ us, v.natAbs ≤ Y) → enc Y vs = enc Y us → vs = us
  | [], [], _, _, _, _ => rfl
  | [], _ :: _, h, _, _, _ => by simp at h
  | _ :: _, [], h, _, _, _ => by simp at h
  | v :: vs, u :: us, hl, h, g, e => by
    have h1 := h v (List.mem_cons_self ..)
    have g1 := g u (List.mem_cons_self ..)
    have e : (v + Y).toNat + (2 * Y + 1) * enc Y vs = (u + Y).toNat + (2 * Y + 1) * enc Y us := e
    have m1 : ((v + Y).toNat + (2 * Y + 1) * enc Y vs) % (2 * Y + 1) = (v + Y).toNat := by
      rw [Nat.add_mul_mod_self_left, Nat.mod_eq_of_lt (by omega)]
    have m2 : ((u + Y).toNat + (2 * Y + 1) * enc Y us) % (2 * Y + 1) = (u + Y).toNat := by
      rw [Nat.add_mul_mod_self_left, Nat.mod_eq_of_lt (by omega)]
    rw [e, m2] at m1
    have e2 : enc Y vs = enc Y us := by
      have : (2 * Y + 1) * enc Y vs = (2 * Y + 1) * enc Y us := by omega
      exact Nat.eq_of_mul_eq_mul_left (by omega) this
    rw [enc_inj Y vs us (by simpa using hl) (fun x hx => h x (List.mem_cons_of_mem _ hx)) (fun x hx => g x (List.mem_cons_of_mem _ hx)) e2, show v = u by omega]
/-! ### sums of rows -/
theorem mix_abs {k H A : Nat} : ∀ {cs : List Int} {W : List Row}, (∀ r ∈ W, r.length = k) → (∀ c ∈ cs, c.natAbs ≤ H) → (∀ r ∈ W, ∀ x ∈ r, x.natAbs ≤ A) → ∀ i, ((mix k cs W).getD i 0).natAbs ≤ W.length * (H * A)
  | [], W, _, _, _, i => by
    simp only [mix]
    rw [Hn.zer_at]
    exact Nat.zero_le _
  | _ :: _, [], _, _, _, i => by
    simp only [mix]
    rw [Hn.zer_at]
    exact Nat.zero_le _
  | c :: cs, r :: W, hl, hc, hr, i => by
    have hl' := fun x hx => hl x (List.mem_cons_of_mem _ hx)
    have ih := mix_abs (cs := cs) (W := W) hl' (fun x hx => hc x (List.mem_cons_of_mem _ hx)) (fun x hx => hr x (List.mem_cons_of_mem _ hx)) i
    have hrl := hl r (List.mem_cons_self ..)
    rw [mix, add_at (k := k) (by rw [smul_len]; exact hrl) (mix_len hl'), Hn.smul_at, List.length_cons, Nat.add_mul, Nat.one_mul]
    have h1 := hc c (List.mem_cons_self ..)
    have h2 : (r.getD i 0).natAbs ≤ A := by
      rcases Nat.lt_or_ge i r.length with q | q
      · exact hr r (List.mem_cons_self ..) _ (List.mem_of_getElem? (getD_eq q))
      · rw [List.getD_eq_getElem?_getD, List.getElem?_eq_none q]
        exact Nat.zero_le _
    have h3 : (c * r.getD i 0).natAbs ≤ H * A := by
      rw [Int.natAbs_mul]
      exact Nat.mul_le_mul h1 h2
    omega
/-- counts, the ones less the others -/
def csub (c d : List Int) : List Int := List.zipWith (· - ·) c d
theorem mix_csub {k : Nat} : ∀ {c d : List Int} {W : List Row}, c.length = W.length → d.length = W.length → (∀ r ∈ W, r.length = k) → ∀ i, (mix k (csub c d) W).getD i 0 = (mix k c W).getD i 0 - (mix k d W).getD i 0
  | [], [], W, _, _, _, i => by
    simp only [mix, csub, List.zipWith_nil_left]
    rw [Hn.zer_at]
    rfl
  | [], _ :: _, [], _, h, _, _ => by simp at h
  | [], _ :: _, _ :: _, h, _, _, _ => by simp at h
  | _ :: _, [], [], h, _, _, _ => by simp at h
  | _ :: _, [], _ :: _, _, h, _, _ => by simp at h
  | _ :: _, _ :: _, [], h, _, _, _ => by simp at h
  | c :: cs, d :: ds, r :: W, hc, hd, hl, i => by
    have hl' := fun x hx => hl x (List.mem_cons_of_mem _ hx)
    have hrl := hl r (List.mem_cons_self ..)
    have ih := mix_csub (c := cs) (d := ds) (W := W) (by simpa using hc) (by simpa using hd) hl' i
    show (mix k ((c - d) :: csub cs ds) (r :: W)).getD i 0 = _
    rw [mix, mix, mix, add_at (k := k) (by rw [smul_len]; exact hrl) (mix_len hl'), add_at (k := k) (by rw [smul_len]; exact hrl) (mix_len hl'), add_at (k := k) (by rw [smul_len]; exact hrl) (mix_len hl'), ih, Hn.smul_at, Hn.smul_at, Hn.smul_at, Int.sub_mul]
    omega
theorem csub_len {c d : List Int} {n : Nat} (hc : c.length = n) (hd : d.length = n) : (csub c d).length = n := by
  unfold csub
  rw [List.length_zipWith, hc, hd, Nat.min_self]
theorem csub_bd {H : Nat} : ∀ {c d : List Int}, (∀ x ∈ c, 0 ≤ x ∧ x < (H + 1 : Nat)) → (∀ x ∈ d, 0 ≤ x ∧ x < (H + 1 : Nat)) → ∀ x ∈ csub c d, x.natAbs ≤ H
  | [], _, _, _, x, h => by simp [csub] at h
  | _ :: _, [], _, _, x, h => by simp [csub] at h
  | c :: cs, d :: ds, h1, h2, x, h => by
    rcases List.mem_cons.mp h with rfl | h
    · have a := h1 c (List.mem_cons_self ..)
      have b := h2 d (List.mem_cons_self ..)
      show (c - d).natAbs ≤ H
      omega
    · exact csub_bd (fun y hy => h1 y (List.mem_cons_of_mem _ hy)) (fun y hy => h2 y (List.mem_cons_of_mem _ hy)) x h
theorem csub_ne : ∀ {c d : List Int}, c.length = d.length → c ≠ d → ∃ x ∈ csub c d, x ≠ 0
  | [], [], _, h => absurd rfl h
  | [], _ :: _, h, _ => by simp at h
  | _ :: _, [], h, _ => by simp at h
  | c :: cs, d :: ds, hl, h => by
    by_cases e : c = d
    · subst e
      obtain ⟨x, h1, h2⟩ := csub_ne (c := cs) (d := ds) (by simpa using hl) fun e => h (by rw [e])
      exact ⟨x, List.mem_cons_of_mem _ h1, h2⟩
    · exact ⟨c - d, List.mem_cons_self .., by omega⟩
/-- of more rows than places: counts, none too great, by which noughts come there -/
theorem siegel {k A H : Nat} {W : List Row} {P : List Nat} (hl : ∀ r ∈ W, r.length = k) (hA : ∀ r ∈ W, ∀ x ∈ r, x.natAbs ≤ A) (hP : P.length < W.length) (hH : H = (2 * W.length * A) ^ P.length) (hQ : 0 < 2 * W.length * A) :
    ∃ c : List Int, c.length = W.length ∧ (∃ x ∈ c, x ≠ 0) ∧ (∀ x ∈ c, x.natAbs ≤ H) ∧ ∀ p ∈ P, (mix k c W).getD p 0 = 0 := by
  generalize hn : W.length = n at *
  have hB : 0 < H + 1 := by omega
  let vals : Nat → List Int := fun t => P.map fun p => (mix k (dig (H + 1) n t) W).getD p 0
  have hv : ∀ t, ∀ v ∈ vals t, v.natAbs ≤ n * (H * A) := fun t v h => by
    obtain ⟨p, _, rfl⟩ := List.mem_map.mp h
    have := mix_abs (k := k) (H := H) (A := A) (cs := dig (H + 1) n t) hl (fun c hc => by have := dig_bd hB n t c hc; omega) hA p
    rw [hn] at this
    exact this
  have hvl : ∀ t, (vals t).length = P.length := fun t => List.length_map _
  obtain ⟨t, u, htu, hu, he⟩ := pigeon ((2 * (n * (H * A)) + 1) ^ P.length) ((H + 1) ^ n) (fun t => enc (n * (H * A)) (vals t)) (fun t _ => by
      have := enc_lt _ _ (hv t)
      rw [hvl] at this
      exact this) (by
    have e1 : 2 * (n * (H * A)) + 1 ≤ (2 * n * A) * (H + 1) := by
      have : 2 * (n * (H * A)) = 2 * n * A * H := by
        simp only [Nat.mul_assoc, Nat.mul_comm H, Nat.mul_left_comm]
      rw [Nat.mul_add, Nat.mul_one]
      omega
    have e2 : (2 * (n * (H * A)) + 1) ^ P.length ≤ ((2 * n * A) * (H + 1)) ^ P.length := Nat.pow_le_pow_left e1 _
    rw [Nat.mul_pow, ← hH] at e2
    have e3 : H * (H + 1) ^ P.length < (H + 1) * (H + 1) ^ P.length := Nat.mul_lt_mul_of_pos_right (by omega) (Nat.pow_pos hB)
    have e4 : (H + 1) * (H + 1) ^ P.length ≤ (H + 1) ^ n := by
      rw [Nat.mul_comm, ← Nat.pow_succ]
      exact Nat.pow_le_pow_right hB (by omega)
    omega)
  have hvals := enc_inj _ _ _ (by rw [hvl, hvl]) (hv t) (hv u) he
  refine ⟨csub (dig (H + 1) n t) (dig (H + 1) n u), csub_len (dig_len ..) (dig_len ..), csub_ne (by rw [dig_len, dig_len]) fun e => by
    have := dig_inj hB n t u (by omega) hu e
    omega, csub_bd (dig_bd hB n t) (dig_bd hB n u), fun p hp => ?_⟩
  rw [mix_csub (by rw [dig_len, hn]) (by rw [dig_len, hn]) hl]
  have : (mix k (dig (H + 1) n t) W).getD p 0 = (mix k (dig (H + 1) n u) W).getD p 0 := by
    obtain ⟨i, hi⟩ := List.getElem?_of_mem hp
    have h1 : (vals t)[i]? = some ((mix k (dig (H + 1) n t) W).getD p 0) := by
      show (P.map _)[i]? = _
      rw [List.getElem?_map, hi]
      rfl
    have h2 : (vals u)[i]? = some ((mix k (dig (H + 1) n u) W).getD p 0) := by
      show (P.map _)[i]? = _
      rw [List.getElem?_map, hi]
      rfl
    rw [hvals, h2] at h1
    exact (Option.some.inj h1).symm
  omega
/-! ### rows none of which comes of the others -/
theorem lat_mix {k : Nat} : ∀ {cs : List Int} {W : List Row}, Lat k W (mix k cs W)
  | [], _ => by simp only [mix]; exact .zer
  | _ :: _, [] => by simp only [mix]; exact .zer
  | c :: cs, r :: W => by
    rw [mix]
    exact .add (.smul c (.row (List.mem_cons_self ..))) ((lat_mix (cs := cs) (W := W)).mono fun x hx => List.mem_cons_of_mem _ hx)
theorem lat_counts {k : Nat} : ∀ {W : List Row} {v : Row}, (∀ r ∈ W, r.length = k) → Lat k W v → ∃ c : List Int, c.length = W.length ∧ v = mix k c W
  | [], v, _, l => ⟨[], rfl, lat_nil l⟩
  | r :: W, v, hl, l => by
    obtain ⟨c, w, h1, h2⟩ := lat_cons hl l
    obtain ⟨cs, h3, h4⟩ := lat_counts (W := W) (fun x hx => hl x (List.mem_cons_of_mem _ hx)) h1
    exact ⟨c :: cs, by rw [List.length_cons, List.length_cons, h3], by rw [h2, h4]; rfl⟩
def Free (k : Nat) (W : List Row) : Prop := ∀ c : List Int, c.length = W.length → mix k c W = Mx.zer k → ∀ x ∈ c, x = 0
theorem smul_smul (a b : Int) (r : Row) : Mx.smul a (Mx.smul b r) = Mx.smul (a * b) r := by
  refine ext_row (k := r.length) (by rw [smul_len, smul_len]) (by rw [smul_len]) fun i _ => ?_
  rw [Hn.smul_at, Hn.smul_at, Hn.smul_at, Int.mul_assoc]
theorem free_of {k : Nat} : ∀ {R : List Row}, (∀ r ∈ R, r.length = k) → ∃ W : List Row, (∀ w ∈ W, w ∈ R) ∧ W.length ≤ R.length ∧ Free k W ∧ ∀ x, Lat k R x → ∃ N : Int, N ≠ 0 ∧ Lat k W (Mx.smul N x)
  | [], _ => ⟨[], fun _ h => h, Nat.le_refl _, fun c hc _ x hx => by
      have : c = [] := List.length_eq_zero_iff.mp hc
      rw [this] at hx
      simp at hx, fun x hx => ⟨1, by omega, .smul 1 hx⟩⟩
  | r :: R, hl => by
    have hl' := fun x hx => hl x (List.mem_cons_of_mem r hx)
    have hr := hl r (List.mem_cons_self ..)
    obtain ⟨W, h1, h2, h3, h4⟩ := free_of (R := R) hl'
    have hWl : ∀ w ∈ W, w.length = k := fun w hw => hl' w (h1 w hw)
    by_cases hc : ∃ N : Int, N ≠ 0 ∧ Lat k W (Mx.smul N r)
    · obtain ⟨N, hN, hNr⟩ := hc
      refine ⟨W, fun w hw => List.mem_cons_of_mem _ (h1 w hw), by rw [List.length_cons]; omega, h3, fun x hx => ?_⟩
      obtain ⟨c, w, hw, he⟩ := lat_cons hl hx
      obtain ⟨M, hM, hMw⟩ := h4 w hw
      refine ⟨N * M, Int.mul_ne_zero hN hM, ?_⟩
      have e : Mx.smul (N * M) x = Mx.add (Mx.smul (M * c) (Mx.smul N r)) (Mx.smul N (Mx.smul M w)) := by
        have hwl := hw.len hl'
        rw [he]
        refine ext_row (k := k) (by rw [smul_len]; exact add_len (by rw [smul_len]; exact hr) hwl) (add_len (by rw [smul_len, smul_len]; exact hr) (by rw [smul_len, smul_len]; exact hwl)) fun i _ => ?_
        rw [Hn.smul_at, add_at (k := k) (by rw [smul_len]; exact hr) hwl, add_at (k := k) (by rw [smul_len, smul_len]; exact hr) (by rw [smul_len, smul_len]; exact hwl), Hn.smul_at, Hn.smul_at, Hn.smul_at, Hn.smul_at, Hn.smul_at, Int.mul_add]
        congr 1
        · simp only [Int.mul_assoc, Int.mul_comm, Int.mul_left_comm]
        · rw [Int.mul_assoc]
      rw [e]
      exact .add (.smul _ hNr) (.smul _ hMw)
    · refine ⟨r :: W, fun w hw => ?_, by rw [List.length_cons, List.length_cons]; omega, ?_, fun x hx => ?_⟩
      · rcases List.mem_cons.mp hw with rfl | hw
        · exact List.mem_cons_self ..
        · exact List.mem_cons_of_mem _ (h1 w hw)
      · intro cs hcs he x hx
        cases cs with
        | nil => simp at hcs
        | cons c cs =>
          have hm := mix_len (k := k) (cs := cs) hWl
          rw [mix] at he
          have hc0 : c = 0 := Classical.byContradiction fun hne => hc ⟨c, hne, by
            have e : Mx.smul c r = Mx.smul (-1) (mix k cs W) := ext_row (k := k) (by rw [smul_len]; exact hr) (by rw [smul_len]; exact hm) fun i hi => by
              have := congrArg (fun z : Row => z.getD i 0) he
              have this : (Mx.add (Mx.smul c r) (mix k cs W)).getD i 0 = (Mx.zer k).getD i 0 := this
              rw [add_at (k := k) (by rw [smul_len]; exact hr) hm, Hn.zer_at] at this
              rw [Hn.smul_at (-1)]
              omega
            rw [e]
            exact .smul _ lat_mix⟩
          have he2 : mix k cs W = Mx.zer k := by
            rw [← he]
            refine (ext_row (k := k) (add_len (by rw [smul_len]; exact hr) hm) hm fun i _ => ?_).symm
            rw [add_at (k := k) (by rw [smul_len]; exact hr) hm, Hn.smul_at, hc0]
            omega
          rcases List.mem_cons.mp hx with rfl | hx
          · exact hc0
          · exact h3 cs (by simpa using hcs) he2 x hx
      · obtain ⟨c, w, hw, he⟩ := lat_cons hl hx
        obtain ⟨M, hM, hMw⟩ := h4 w hw
        refine ⟨M, hM, ?_⟩
        have e : Mx.smul M x = Mx.add (Mx.smul (M * c) r) (Mx.smul M w) := by
          have hwl := hw.len hl'
          rw [he]
          refine ext_row (k := k) (by rw [smul_len]; exact add_len (by rw [smul_len]; exact hr) hwl) (add_len (by rw [smul_len]; exact hr) (by rw [smul_len]; exact hwl)) fun i _ => ?_
          rw [Hn.smul_at, add_at (k := k) (by rw [smul_len]; exact hr) hwl, add_at (k := k) (by rw [smul_len]; exact hr) (by rw [smul_len]; exact hwl), Hn.smul_at, Hn.smul_at, Hn.smul_at, Int.mul_add, Int.mul_assoc]
        rw [e]
        exact .add (.smul _ (.row (List.mem_cons_self ..))) (hMw.mono fun y hy => List.mem_cons_of_mem _ hy)
theorem mix_smul {k : Nat} (m : Int) : ∀ {c : List Int} {W : List Row}, (∀ r ∈ W, r.length = k) → mix k (Mx.smul m c) W = Mx.smul m (mix k c W)
  | [], W, _ => by
    have e : Mx.smul m (Mx.zer k) = Mx.zer k := ext_row (k := k) (by rw [smul_len]; exact zer_len k) (zer_len k) fun i _ => by rw [Hn.smul_at, Hn.zer_at, Int.mul_zero]
    simp only [Mx.smul, List.map_nil, mix] at e ⊢
    exact e.symm
  | _ :: _, [], _ => by
    have e : Mx.smul m (Mx.zer k) = Mx.zer k := ext_row (k := k) (by rw [smul_len]; exact zer_len k) (zer_len k) fun i _ => by rw [Hn.smul_at, Hn.zer_at, Int.mul_zero]
    simp only [Mx.smul, List.map_cons, mix] at e ⊢
    exact e.symm
  | c :: cs, r :: W, hl => by
    have hl' := fun x hx => hl x (List.mem_cons_of_mem _ hx)
    have hrl := hl r (List.mem_cons_self ..)
    have hm := mix_len (k := k) (cs := cs) hl'
    show mix k ((m * c) :: Mx.smul m cs) (r :: W) = _
    rw [mix, mix, mix_smul m hl']
    refine ext_row (k := k) (add_len (by rw [smul_len]; exact hrl) (by rw [smul_len]; exact hm)) (by rw [smul_len]; exact add_len (by rw [smul_len]; exact hrl) hm) fun i _ => ?_
    rw [Hn.smul_at m, add_at (k := k) (by rw [smul_len]; exact hrl) (by rw [smul_len]; exact hm), add_at (k := k) (by rw [smul_len]; exact hrl) hm, Hn.smul_at, Hn.smul_at, Hn.smul_at, Int.mul_add, Int.mul_assoc]
theorem mix_add {k : Nat} : ∀ {c d : List Int} {W : List Row}, c.length = W.length → d.length = W.length → (∀ r ∈ W, r.length = k) → mix k (Mx.add c d) W = Mx.add (mix k c W) (mix k d W)
  | [], [], W, _, _, _ => by
    simp only [mix, Mx.add, List.zipWith_nil_left]
    exact (Mx.add_zer (zer_len k)).symm
  | [], _ :: _, [], _, h, _ => by simp at h
  | [], _ :: _, _ :: _, h, _, _ => by simp at h
  | _ :: _, [], [], h, _, _ => by simp at h
  | _ :: _, [], _ :: _, _, h, _ => by simp at h
  | _ :: _, _ :: _, [], h, _, _ => by simp at h
  | c :: cs, d :: ds, r :: W, hc, hd, hl => by
    have hl' := fun x hx => hl x (List.mem_cons_of_mem _ hx)
    have hrl := hl r (List.mem_cons_self ..)
    have m1 := mix_len (k := k) (cs := cs) hl'
    have m2 := mix_len (k := k) (cs := ds) hl'
    show mix k ((c + d) :: Mx.add cs ds) (r :: W) = _
    rw [mix, mix, mix, mix_add (by simpa using hc) (by simpa using hd) hl']
    have sl : ∀ z : Int, (Mx.smul z r).length = k := fun z => by rw [smul_len]; exact hrl
    refine ext_row (k := k) (add_len (sl _) (add_len m1 m2)) (add_len (add_len (sl _) m1) (add_len (sl _) m2)) fun i _ => ?_
    rw [add_at (sl _) (add_len m1 m2), add_at m1 m2, add_at (add_len (sl _) m1) (add_len (sl _) m2), add_at (sl _) m1, add_at (sl _) m2, Hn.smul_at, Hn.smul_at, Hn.smul_at, Int.add_mul]
    omega
theorem mix_zer {k : Nat} : ∀ {W : List Row} (n : Nat), (∀ r ∈ W, r.length = k) → mix k (Mx.zer n) W = Mx.zer k
  | [], n, _ => by cases n <;> simp [mix, Mx.zer, List.replicate_succ]
  | r :: W, 0, _ => by simp [mix, Mx.zer]
  | r :: W, n + 1, hl => by
    have hl' := fun x hx => hl x (List.mem_cons_of_mem _ hx)
    have hrl := hl r (List.mem_cons_self ..)
    show mix k ((0 : Int) :: Mx.zer n) (r :: W) = _
    rw [mix, mix_zer n hl']
    refine ext_row (k := k) (add_len (by rw [smul_len]; exact hrl) (zer_len k)) (zer_len k) fun i _ => ?_
    rw [add_at (k := k) (by rw [smul_len]; exact hrl) (zer_len k), Hn.smul_at, Hn.zer_at]
    omega
/-- rows of counts, mixed: what they make, mixed -/
theorem mix_mix {k n : Nat} {W : List Row} (hW : ∀ r ∈ W, r.length = k) (hn : W.length = n) : ∀ {c : List Int} {A : List Row}, (∀ a ∈ A, a.length = n) → mix k (mix n c A) W = mix k c (A.map fun a => mix k a W)
  | [], A, _ => by simp only [mix]; exact mix_zer n hW
  | _ :: _, [], _ => by simp only [mix, List.map_nil]; exact mix_zer n hW
  | c :: cs, a :: A, hA => by
    have hA' := fun x hx => hA x (List.mem_cons_of_mem _ hx)
    have ha := hA a (List.mem_cons_self ..)
    rw [List.map_cons, mix, mix, mix_add (by rw [smul_len, ha, hn]) (by rw [mix_len hA', hn]) hW, mix_smul c hW, mix_mix hW hn hA']
/-- a stair's rows are free -/
theorem Up.free {k : Nat} {F : List Row} (hu : Up k F) : Free k F := fun c hc he x hx => by
  have a := led_mix (cs := c) (w := Mx.zer k) hu hc (zer_len k) fun r hr => by
    rw [Hn.zer_at]
    exact ⟨Int.le_refl _, hu.pos r hr⟩
  have b := led_mix (cs := Mx.zer F.length) (w := Mx.zer k) hu (zer_len _) (zer_len k) fun r hr => by
    rw [Hn.zer_at]
    exact ⟨Int.le_refl _, hu.pos r hr⟩
  rw [mix_zer _ hu.len] at b
  rw [he, b] at a
  have e := (Prod.mk.inj a).1
  rw [← e] at hx
  exact List.eq_of_mem_replicate hx
theorem pick {α : Type} {β : Type} {Q : α → β → Prop} : ∀ {xs : List α}, (∀ x ∈ xs, ∃ y, Q x y) → ∃ ys : List β, ys.length = xs.length ∧ ∀ (i : Nat) x y, xs[i]? = some x → ys[i]? = some y → Q x y
  | [], _ => ⟨[], rfl, fun i x y h => by simp at h⟩
  | x :: xs, h => by
    obtain ⟨y, hy⟩ := h x (List.mem_cons_self ..)
    obtain ⟨ys, h1, h2⟩ := pick (xs := xs) fun z hz => h z (List.mem_cons_of_mem _ hz)
    refine ⟨y :: ys, by rw [List.length_cons, List.length_cons, h1], fun i a b ha hb => ?_⟩
    cases i with
    | zero => cases ha; cases hb; exact hy
    | succ i => exact h2 i a b ha hb
theorem bound_of : ∀ (A : List Row), ∃ M : Nat, 0 < M ∧ ∀ r ∈ A, ∀ x ∈ r, x.natAbs ≤ M
  | [] => ⟨1, by omega, fun r h => by simp at h⟩
  | a :: A => by
    obtain ⟨M, h0, h⟩ := bound_of A
    have hb : ∀ a : List Int, ∃ N, ∀ x ∈ a, x.natAbs ≤ N := fun a => by
      induction a with
      | nil => exact ⟨0, fun x hx => by simp at hx⟩
      | cons y a ih =>
        obtain ⟨N, hN⟩ := ih
        refine ⟨N + y.natAbs, fun x hx => ?_⟩
        rcases List.mem_cons.mp hx with rfl | hx
        · omega
        · have := hN x hx
          omega
    obtain ⟨N, hN⟩ := hb a
    refine ⟨M + N, by omega, fun r hr x hx => ?_⟩
    rcases List.mem_cons.mp hr with rfl | hr
    · have := hN x hx
      omega
    · have := h r hr x hx
      omega
/-- a stair has no more rows than rows of which it comes -/
theorem free_len {k : Nat} {F W : List Row} (hu : Up k F) (hW : ∀ w ∈ W, w.length = k) (h : ∀ r ∈ F, ∃ N : Int, N ≠ 0 ∧ Lat k W (Mx.smul N r)) : F.length ≤ W.length := by
  refine Classical.byContradiction fun hlt => ?_
  obtain ⟨A, hA1, hA2⟩ := pick (Q := fun (r : Row) (a : List Int × Int) => a.1.length = W.length ∧ a.2 ≠ 0 ∧ mix k a.1 W = Mx.smul a.2 r) (xs := F) fun r hr => by
    obtain ⟨N, hN, hl⟩ := h r hr
    obtain ⟨c, h1, h2⟩ := lat_counts hW hl
    exact ⟨(c, N), h1, hN, h2.symm⟩
  have hAm : ∀ a ∈ A, a.1.length = W.length ∧ a.2 ≠ 0 := fun a ha => by
    obtain ⟨i, hi⟩ := List.getElem?_of_mem ha
    have hil : i < A.length := by
      rcases Nat.lt_or_ge i A.length with q | q
      · exact q
      · rw [List.getElem?_eq_none q] at hi; cases hi
    have := hA2 i _ a (List.getElem?_eq_getElem (show i < F.length by omega)) hi
    exact ⟨this.1, this.2.1⟩
  have hAl : ∀ r ∈ A.map Prod.fst, r.length = W.length := fun r hr => by
    obtain ⟨a, ha, rfl⟩ := List.mem_map.mp hr
    exact (hAm a ha).1
  obtain ⟨M, hM0, hM⟩ := bound_of (A.map Prod.fst)
  have hlen : (A.map Prod.fst).length = F.length := by rw [List.length_map, hA1]
  obtain ⟨c, hc1, ⟨x, hx, hx0⟩, _, hc4⟩ := siegel (k := W.length) (W := A.map Prod.fst) (P := List.range W.length) (A := M) hAl hM (by rw [List.length_range, hlen]; omega) rfl (Nat.mul_pos (by rw [hlen]; omega) hM0)
  have hz : mix W.length c (A.map Prod.fst) = Mx.zer W.length := ext_row (mix_len hAl) (zer_len _) fun i hi => by
    rw [hc4 i (List.mem_range.mpr hi), Hn.zer_at]
  have hmm := mix_mix (k := k) (c := c) hW rfl hAl
  rw [hz, mix_zer _ hW] at hmm
  have e : ((A.map Prod.fst).map fun a => mix k a W) = List.zipWith (fun (a : List Int × Int) r => Mx.smul a.2 r) A F := by
    apply List.ext_getElem?
    intro i
    rw [List.getElem?_map, List.getElem?_map, List.getElem?_zipWith]
    rcases Nat.lt_or_ge i A.length with q | q
    · have ha := List.getElem?_eq_getElem q
      have hr := List.getElem?_eq_getElem (show i < F.length by omega)
      rw [ha, hr]
      have := (hA2 i _ _ hr ha).2.2
      simp [this]
    · rw [List.getElem?_eq_none q]
      rfl
  rw [e] at hmm
  have e2 : ∀ (c : List Int) (A : List (List Int × Int)) (F : List Row), c.length = A.length → A.length = F.length → mix k c (List.zipWith (fun (a : List Int × Int) r => Mx.smul a.2 r) A F) = mix k (List.zipWith (fun x (a : List Int × Int) => x * a.2) c A) F := by
    intro c
    induction c with
    | nil => intro A F h1 h2; cases A <;> simp [mix] at h1 ⊢
    | cons x c ih =>
      intro A F h1 h2
      cases A with
      | nil => simp at h1
      | cons a A =>
        cases F with
        | nil => simp at h2
        | cons r F =>
          simp only [List.zipWith_cons_cons, mix]
          rw [ih A F (by simpa using h1) (by simpa using h2), smul_smul]
  rw [e2 c A F (by rw [hc1, List.length_map]) hA1] at hmm
  have hf := hu.free _ (by rw [List.length_zipWith, hc1, List.length_map, hA1]; omega) hmm.symm
  obtain ⟨i, hi⟩ := List.getElem?_of_mem hx
  have hil : i < c.length := by
    rcases Nat.lt_or_ge i c.length with q | q
    · exact q
    · rw [List.getElem?_eq_none q] at hi; cases hi
  have ha := List.getElem?_eq_getElem (show i < A.length by rw [hc1, List.length_map] at hil; exact hil)
  have := hf (x * (A[i]'(by rw [hc1, List.length_map] at hil; exact hil)).2) (List.mem_of_getElem? (i := i) (by rw [List.getElem?_zipWith, hi, ha]))
  rcases Int.mul_eq_zero.mp this with q | q
  · exact hx0 q
  · exact (hAm _ (List.getElem_mem _)).2 q
/-- rows made, not too great, each with noughts at all places but one -/
theorem canon_u {k b g : Nat} {F R : List Row} (hu : Up k F) (he : Eqv k F R) (hR : ∀ r ∈ R, r.length = k) (hb : ∀ r ∈ R, Bd b r) (hg : R.length ≤ 2 ^ g) : ∀ i, i < F.length → ∃ U : Row,
    U.length = k ∧ Lat k F U ∧ Bd (F.length * (g + b + 1)) U ∧ U.getD (pl F i) 0 ≠ 0 ∧ ∀ j, j < F.length → i ≠ j → U.getD (pl F j) 0 = 0 := by
  intro i hi
  obtain ⟨W, w1, w2, w3, w4⟩ := free_of hR
  have hWl : ∀ w ∈ W, w.length = k := fun w hw => hR w (w1 w hw)
  have hFW := free_len hu hWl fun r hr => w4 r ((he r).mp (.row hr))
  have hWF : ∀ {v}, Lat k W v → Lat k F v := fun l => (he _).mpr (l.of fun r hr => .row (w1 r hr))
  have hPl : (((List.range F.length).eraseIdx i).map (pl F)).length = F.length - 1 := by
    rw [List.length_map, List.length_eraseIdx, List.length_range, if_pos hi]
  obtain ⟨c, c1, ⟨x, hx, hx0⟩, c3, c4⟩ := siegel (k := k) (W := W) (P := ((List.range F.length).eraseIdx i).map (pl F)) (A := 2 ^ b) hWl (fun r hr x hx => by
    have := hb r (w1 r hr) x hx
    omega) (by rw [hPl]; omega) rfl (Nat.mul_pos (by omega) (Nat.pow_pos (by omega)))
  have hmem : ∀ j, j < F.length → i ≠ j → pl F j ∈ ((List.range F.length).eraseIdx i).map (pl F) := fun j hj hij => List.mem_map.mpr ⟨j, by
    rw [List.mem_eraseIdx_iff_getElem?]
    exact ⟨j, Ne.symm hij, List.getElem?_range hj⟩, rfl⟩
  have hml := mix_len (k := k) (cs := c) hWl
  have hl := hWF (lat_mix (k := k) (cs := c) (W := W))
  refine ⟨mix k c W, hml, hl, Bd.of hml fun q _ => ?_, fun h0 => ?_, fun j hj hij => c4 _ (hmem j hj hij)⟩
  · have h := mix_abs (k := k) (H := (2 * W.length * 2 ^ b) ^ (F.length - 1)) (A := 2 ^ b) (cs := c) (W := W) hWl (by rw [hPl] at c3; exact c3) (fun r hr x hx => by
      have := hb r (w1 r hr) x hx
      omega) q
    have hQ : 2 * W.length * 2 ^ b ≤ 2 ^ (g + b + 1) := by
      have e : (2 : Nat) ^ (g + b + 1) = 2 * 2 ^ g * 2 ^ b := by
        rw [Nat.pow_succ, Nat.pow_add, Nat.mul_comm _ 2, Nat.mul_assoc]
      rw [e]
      exact Nat.mul_le_mul_right _ (by omega)
    have hH : (2 * W.length * 2 ^ b) ^ (F.length - 1) ≤ (2 ^ (g + b + 1)) ^ (F.length - 1) := Nat.pow_le_pow_left hQ _
    have e1 : F.length * (g + b + 1) = (g + b + 1) * (F.length - 1) + (g + b + 1) := by
      have : F.length = (F.length - 1) + 1 := by omega
      rw [Nat.mul_comm]
      conv => lhs; rw [this, Nat.mul_add, Nat.mul_one]
    have e2 : (2 : Nat) ^ (F.length * (g + b + 1)) = (2 ^ (g + b + 1)) ^ (F.length - 1) * 2 ^ (g + b + 1) := by
      rw [e1, Nat.pow_add, Nat.pow_mul]
    generalize (2 * W.length * 2 ^ b) ^ (F.length - 1) = H at *
    rw [e2]
    have h5 : W.length * (H * 2 ^ b) ≤ (2 ^ (g + b + 1)) ^ (F.length - 1) * (W.length * 2 ^ b) := by
      rw [Nat.mul_left_comm]
      exact Nat.mul_le_mul_right _ hH
    have h6 : (2 ^ (g + b + 1)) ^ (F.length - 1) * (W.length * 2 ^ b) < (2 ^ (g + b + 1)) ^ (F.length - 1) * 2 ^ (g + b + 1) := by
      refine Nat.mul_lt_mul_of_pos_left ?_ (Nat.pow_pos (Nat.pow_pos (by omega)))
      have : 0 < W.length * 2 ^ b := Nat.mul_pos (by omega) (Nat.pow_pos (by omega))
      have : 2 * W.length * 2 ^ b = 2 * (W.length * 2 ^ b) := Nat.mul_assoc ..
      omega
    omega
  · have hz := hu.zer_of hl fun j hj => by
      by_cases e : i = j
      · subst e; exact h0
      · exact c4 _ (hmem j hj e)
    exact hx0 (w3 c c1 hz x hx)
/-- how great a stair's numbers are -/
theorem canon_bd2 {k b g : Nat} {F R : List Row} (hu : Up k F) (hr : Red F) (he : Eqv k F R) (hR : ∀ r ∈ R, r.length = k) (hb : ∀ r ∈ R, Bd b r) (hg : R.length ≤ 2 ^ g) : ∀ r ∈ F, Bd (2 * (F.length * (g + b + 1)) + F.length) r := by
  have hU := canon_u hu he hR hb hg
  generalize hE : F.length * (g + b + 1) = E at *
  obtain ⟨U, h1⟩ : ∃ U : Nat → Row, ∀ i, i < F.length → (U i).length = k ∧ Lat k F (U i) ∧ Bd E (U i) ∧ (U i).getD (pl F i) 0 ≠ 0 ∧ ∀ j, j < F.length → i ≠ j → (U i).getD (pl F j) 0 = 0 :=
    ⟨fun i => if h : i < F.length then Classical.choose (hU i h) else [], fun i hi => by
      dsimp only
      rw [dif_pos hi]
      exact Classical.choose_spec (hU i hi)⟩
  have hlead : ∀ i, i < F.length → (ld (F.getD i [])).natAbs ≤ 2 ^ E := fun i hi => by
    obtain ⟨u1, u2, u3, u4, u5⟩ := h1 i hi
    have hd := hu.dvd_at u2 hi fun j hj => u5 j (by omega) (by omega)
    have h2 := Nat.le_of_dvd (by omega) (Int.natAbs_dvd_natAbs.mpr hd)
    have := u3.at (pl F i)
    omega
  have claim : ∀ m, m ≤ F.length → ∀ x, Lat k F x → (∀ j, m ≤ j → j < F.length → x.getD (pl F j) 0 = 0) → ∀ q, (x.getD q 0).natAbs ≤ sA F m x * 2 ^ E := by
    intro m
    induction m with
    | zero =>
      intro _ x hx hz q
      rw [hu.zer_of hx fun j hj => hz j (Nat.zero_le _) hj, Hn.zer_at]
      simp
    | succ m ih =>
      intro hm x hx hz q
      obtain ⟨u1, u2, u3, u4, u5⟩ := h1 m (by omega)
      have hxl := hx.len hu.len
      have y1 := wipe_lat (c := pl F m) u2 hx
      have hy := ih (by omega) (wipe (pl F m) (U m) x) y1 (fun j hj hj2 => by
        rw [wipe_at u1 hxl]
        by_cases e : j = m
        · subst e
          rw [Int.mul_comm]
          omega
        · rw [hz j (by omega) hj2, u5 j hj2 (by omega), Int.mul_zero, Int.mul_zero]
          rfl) q
      rw [sA_mul F (x := x) (d := (U m).getD (pl F m) 0) (fun j hj => by
        rw [wipe_at u1 hxl, u5 j (by omega) (by omega), Int.mul_zero, Int.sub_zero]), wipe_at u1 hxl] at hy
      have hq := u3.at q
      show _ ≤ (sA F m x + (x.getD (pl F m) 0).natAbs) * 2 ^ E
      generalize (U m).getD (pl F m) 0 = d at *
      generalize (U m).getD q 0 = u at *
      generalize x.getD (pl F m) 0 = t at *
      generalize x.getD q 0 = z at *
      generalize sA F m x = S at *
      have hd : 1 ≤ d.natAbs := by omega
      have e1 : (d * z).natAbs ≤ (d * z - t * u).natAbs + (t * u).natAbs := by omega
      rw [Int.natAbs_mul, Int.natAbs_mul t u] at e1
      have e2 : t.natAbs * u.natAbs ≤ t.natAbs * 2 ^ E := Nat.mul_le_mul_left _ (by omega)
      have e3 : 1 * (t.natAbs * 2 ^ E) ≤ d.natAbs * (t.natAbs * 2 ^ E) := Nat.mul_le_mul_right _ hd
      have e4 : d.natAbs * z.natAbs ≤ d.natAbs * ((S + t.natAbs) * 2 ^ E) := by
        rw [Nat.add_mul, Nat.mul_add, ← Nat.mul_assoc]
        omega
      exact Nat.le_of_mul_le_mul_left e4 (by omega)
  intro r hrm
  obtain ⟨i, hi⟩ := List.getElem?_of_mem hrm
  have hil : i < F.length := by
    rcases Nat.lt_or_ge i F.length with q | q
    · exact q
    · rw [List.getElem?_eq_none q] at hi; cases hi
  have hpls : ∀ j, j < F.length → (r.getD (pl F j) 0).natAbs ≤ 2 ^ E := fun j hj => by
    have hg := getD_row (R := F) (i := j) hj
    have hei : F.getD i [] = r := getD_some hi
    rcases Nat.lt_trichotomy j i with q | q | q
    · have : r.getD (pl F j) 0 = 0 := by
        refine ahead0 ?_
        have := hu.pl_lt q hil
        unfold pl at this
        rw [hei] at this
        exact this
      rw [this]
      exact Nat.zero_le _
    · subst q
      have := hlead j hj
      unfold pl
      rw [hei] at this ⊢
      exact this
    · have h2 := hr i j r _ hi hg q
      have h3 := hlead j hj
      unfold pl
      omega
  have hlen := hu.len r hrm
  refine Bd.of hlen fun q _ => ?_
  have h2 := claim F.length (Nat.le_refl _) r (.row hrm) (fun j hj hj2 => by omega) q
  have h3 := sA_le F (x := r) (M := 2 ^ E) (m := F.length) hpls
  have h4 : sA F F.length r * 2 ^ E ≤ F.length * 2 ^ E * 2 ^ E := Nat.mul_le_mul_right _ h3
  have h5 : F.length * 2 ^ E * 2 ^ E < 2 ^ F.length * (2 ^ E * 2 ^ E) := by
    rw [Nat.mul_assoc]
    exact Nat.mul_lt_mul_of_pos_right Nat.lt_two_pow_self (Nat.mul_pos (Nat.pow_pos (by omega)) (Nat.pow_pos (by omega)))
  have h6 : (2 : Nat) ^ (2 * E + F.length) = 2 ^ F.length * (2 ^ E * 2 ^ E) := by
    rw [← Nat.pow_add, ← Nat.pow_add]
    congr 1
    omega
  omega
/-- how great, by how many columns, rows (2 ^ g) and how great these are -/
def cb (g b k : Nat) : Nat := 2 * (k * (g + b + 1)) + k
theorem canon_cb {k b g : Nat} {F R : List Row} (hu : Up k F) (hr : Red F) (he : Eqv k F R) (hR : ∀ r ∈ R, r.length = k) (hb : ∀ r ∈ R, Bd b r) (hg : R.length ≤ 2 ^ g) : ∀ r ∈ F, Bd (cb g b k) r := fun r hrm => by
  have h1 := canon_bd2 hu hr he hR hb hg r hrm
  have h2 : F.length ≤ k := Nat.le_trans (hu.len_le (p := 0) (fun _ _ => Nat.zero_le _) (Nat.zero_le _)) (by omega)
  have h3 : F.length * (g + b + 1) ≤ k * (g + b + 1) := Nat.mul_le_mul_right _ h2
  exact h1.le (by unfold cb; omega)
theorem cb_le {g b k m : Nat} (h : k ≤ m) : cb g b k ≤ cb g b m := by
  unfold cb
  have := Nat.mul_le_mul_right (g + b + 1) h
  omega
theorem canon_cbm {k b g m : Nat} {F R : List Row} (hm : F.length ≤ m) (hu : Up k F) (hr : Red F) (he : Eqv k F R) (hR : ∀ r ∈ R, r.length = k) (hb : ∀ r ∈ R, Bd b r) (hg : R.length ≤ 2 ^ g) : ∀ r ∈ F, Bd (cb g b m) r := fun r hrm => by
  have h1 := canon_bd2 hu hr he hR hb hg r hrm
  exact h1.le (cb_le (g := g) (b := b) hm)
/-- no more rungs than rows of which they come -/
theorem rungs_le {k : Nat} {F R : List Row} (hu : Up k F) (hR : ∀ r ∈ R, r.length = k) (h : ∀ r ∈ F, Lat k R r) : F.length ≤ R.length := free_len hu hR fun r hr => ⟨1, by omega, .smul 1 (h r hr)⟩
end Hn

namespace Hn
open Mx (Row)
/-! ### how great a stair's numbers are, sharply: m columns times the bits, not twice -/
theorem canon_sh {k b g : Nat} {F R : List Row} (hu : Up k F) (hr : Red F) (he : Eqv k F R) (hR : ∀ r ∈ R, r.length = k) (hb : ∀ r ∈ R, Bd b r) (hg : R.length ≤ 2 ^ g) : ∀ r ∈ F, Bd (F.length * (g + b + 1) + F.length) r := by
  have hU := canon_u hu he hR hb hg
  generalize hE : F.length * (g + b + 1) = E at *
  obtain ⟨U, h1⟩ : ∃ U : Nat → Row, ∀ i, i < F.length → (U i).length = k ∧ Lat k F (U i) ∧ Bd E (U i) ∧ (U i).getD (pl F i) 0 ≠ 0 ∧ ∀ j, j < F.length → i ≠ j → (U i).getD (pl F j) 0 = 0 :=
    ⟨fun i => if h : i < F.length then Classical.choose (hU i h) else [], fun i hi => by
      dsimp only
      rw [dif_pos hi]
      exact Classical.choose_spec (hU i hi)⟩
  have hlead : ∀ i, i < F.length → (ld (F.getD i [])).natAbs ≤ ((U i).getD (pl F i) 0).natAbs := fun i hi => by
    obtain ⟨u1, u2, u3, u4, u5⟩ := h1 i hi
    have hd := hu.dvd_at u2 hi fun j hj => u5 j (by omega) (by omega)
    exact Nat.le_of_dvd (by omega) (Int.natAbs_dvd_natAbs.mpr hd)
  have claim : ∀ m, m ≤ F.length → ∀ x, Lat k F x → (∀ j, m ≤ j → j < F.length → x.getD (pl F j) 0 = 0) → ∀ c : Nat, (∀ j, j < m → (x.getD (pl F j) 0).natAbs ≤ c * (ld (F.getD j [])).natAbs) → ∀ q, (x.getD q 0).natAbs ≤ m * (c * 2 ^ E) := by
    intro m
    induction m with
    | zero =>
      intro _ x hx hz c _ q
      rw [hu.zer_of hx fun j hj => hz j (Nat.zero_le _) hj, Hn.zer_at]
      simp
    | succ m ih =>
      intro hm x hx hz c hc q
      obtain ⟨u1, u2, u3, u4, u5⟩ := h1 m (by omega)
      have hxl := hx.len hu.len
      have y1 := wipe_lat (c := pl F m) u2 hx
      have ht := Nat.le_trans (hc m (by omega)) (Nat.mul_le_mul_left c (hlead m (by omega)))
      have hy := ih (by omega) (wipe (pl F m) (U m) x) y1 (fun j hj hj2 => by
        rw [wipe_at u1 hxl]
        by_cases e : j = m
        · subst e
          rw [Int.mul_comm]
          omega
        · rw [hz j (by omega) hj2, u5 j hj2 (by omega), Int.mul_zero, Int.mul_zero]
          rfl) (((U m).getD (pl F m) 0).natAbs * c) (fun j hj => by
        rw [wipe_at u1 hxl, u5 j (by omega) (by omega), Int.mul_zero, Int.sub_zero, Int.natAbs_mul, Nat.mul_assoc]
        exact Nat.mul_le_mul_left _ (hc j (by omega))) q
      rw [wipe_at u1 hxl] at hy
      have hq := u3.at q
      generalize (U m).getD (pl F m) 0 = d at *
      generalize (U m).getD q 0 = u at *
      generalize x.getD (pl F m) 0 = t at *
      generalize x.getD q 0 = z at *
      have hd : 1 ≤ d.natAbs := by omega
      have e1 : (d * z).natAbs ≤ (d * z - t * u).natAbs + (t * u).natAbs := by omega
      rw [Int.natAbs_mul, Int.natAbs_mul t u] at e1
      have e2 : t.natAbs * u.natAbs ≤ (c * d.natAbs) * 2 ^ E := Nat.mul_le_mul ht (by omega)
      have e4 : d.natAbs * z.natAbs ≤ d.natAbs * ((m + 1) * (c * 2 ^ E)) := by
        have a1 : d.natAbs * ((m + 1) * (c * 2 ^ E)) = m * (d.natAbs * c * 2 ^ E) + (c * d.natAbs) * 2 ^ E := by
          rw [Nat.succ_mul, Nat.mul_add, Nat.mul_left_comm, Nat.mul_assoc d.natAbs, Nat.mul_comm c d.natAbs, Nat.mul_assoc d.natAbs]
        omega
      exact Nat.le_of_mul_le_mul_left e4 (by omega)
  intro r hrm
  obtain ⟨i, hi⟩ := List.getElem?_of_mem hrm
  have hil : i < F.length := by
    rcases Nat.lt_or_ge i F.length with q | q
    · exact q
    · rw [List.getElem?_eq_none q] at hi; cases hi
  have hei : F.getD i [] = r := getD_some hi
  have hpls : ∀ j, j < F.length → (r.getD (pl F j) 0).natAbs ≤ 1 * (ld (F.getD j [])).natAbs := fun j hj => by
    have hg := getD_row (R := F) (i := j) hj
    rcases Nat.lt_trichotomy j i with q | q | q
    · have : r.getD (pl F j) 0 = 0 := by
        refine ahead0 ?_
        have := hu.pl_lt q hil
        unfold pl at this
        rw [hei] at this
        exact this
      rw [this]
      exact Nat.zero_le _
    · subst q
      unfold pl
      rw [hei, Nat.one_mul]
      exact Nat.le_refl _
    · have h2 := hr i j r _ hi hg q
      unfold pl
      omega
  have hlen := hu.len r hrm
  refine Bd.of hlen fun q _ => ?_
  have h2 := claim F.length (Nat.le_refl _) r (.row hrm) (fun j hj hj2 => by omega) 1 hpls q
  rw [Nat.one_mul] at h2
  have h5 : F.length * 2 ^ E < 2 ^ F.length * 2 ^ E := Nat.mul_lt_mul_of_pos_right Nat.lt_two_pow_self (Nat.pow_pos (by omega))
  have h6 : (2 : Nat) ^ (E + F.length) = 2 ^ F.length * 2 ^ E := by
    rw [← Nat.pow_add]
    congr 1
    omega
  omega
def ca (g b m : Nat) : Nat := m * (g + b + 1) + m
theorem ca_le {g b k m : Nat} (h : k ≤ m) : ca g b k ≤ ca g b m := by
  unfold ca
  have := Nat.mul_le_mul_right (g + b + 1) h
  omega
theorem canon_cam {k b g m : Nat} {F R : List Row} (hm : F.length ≤ m) (hu : Up k F) (hr : Red F) (he : Eqv k F R) (hR : ∀ r ∈ R, r.length = k) (hb : ∀ r ∈ R, Bd b r) (hg : R.length ≤ 2 ^ g) : ∀ r ∈ F, Bd (ca g b m) r := fun r hrm => (canon_sh hu hr he hR hb hg r hrm).le (ca_le (g := g) (b := b) hm)
theorem Up.le_k {k : Nat} {F : List Row} (hu : Up k F) : F.length ≤ k := Nat.le_trans (hu.len_le (p := 0) (fun _ _ => Nat.zero_le _) (Nat.zero_le _)) (by omega)
theorem canon_ca {k b g : Nat} {F R : List Row} (hu : Up k F) (hr : Red F) (he : Eqv k F R) (hR : ∀ r ∈ R, r.length = k) (hb : ∀ r ∈ R, Bd b r) (hg : R.length ≤ 2 ^ g) : ∀ r ∈ F, Bd (ca g b k) r := canon_cam hu.le_k hu hr he hR hb hg
end Hn

namespace Hn
open Mx
/-! ### rows with marks behind them -/
theorem take_add {k : Nat} (a b : Row) : (Mx.add a b).take k = Mx.add (a.take k) (b.take k) := by unfold Mx.add; exact List.take_zipWith
theorem drop_add {k : Nat} (a b : Row) : (Mx.add a b).drop k = Mx.add (a.drop k) (b.drop k) := by unfold Mx.add; exact List.drop_zipWith
theorem take_smul {k : Nat} (m : Int) (a : Row) : (Mx.smul m a).take k = Mx.smul m (a.take k) := by unfold Mx.smul; exact (List.map_take ..).symm
theorem drop_smul {k : Nat} (m : Int) (a : Row) : (Mx.smul m a).drop k = Mx.smul m (a.drop k) := by unfold Mx.smul; exact (List.map_drop ..).symm
theorem take_zer {k n : Nat} : (Mx.zer (k + n)).take k = Mx.zer k := by unfold Mx.zer; rw [List.take_replicate, Nat.min_eq_left (by omega)]
theorem drop_zer {k n : Nat} : (Mx.zer (k + n)).drop k = Mx.zer n := by unfold Mx.zer; rw [List.drop_replicate]; congr 1; omega
theorem take_len {k n : Nat} {v : Row} (h : v.length = k + n) : (v.take k).length = k := by rw [List.length_take]; omega
theorem drop_len {k n : Nat} {v : Row} (h : v.length = k + n) : (v.drop k).length = n := by rw [List.length_drop]; omega
theorem take_at {k : Nat} {v : Row} {i : Nat} (h : i < k) : (v.take k).getD i 0 = v.getD i 0 := by
  rw [List.getD_eq_getElem?_getD, List.getD_eq_getElem?_getD, List.getElem?_take, if_pos h]
/-- the marks tell of which rows the numbers come -/
def Fits (k : Nat) (R : List Row) (v : Row) : Prop := v.take k = mix k (v.drop k) R
theorem fits_lat {k n : Nat} {R ts : List Row} (hR : ∀ r ∈ R, r.length = k) (hn : R.length = n) (h : ∀ t ∈ ts, t.length = k + n ∧ Fits k R t) {v : Row} (l : Lat (k + n) ts v) : Fits k R v := by
  have hl : ∀ t ∈ ts, t.length = k + n := fun t ht => (h t ht).1
  induction l with
  | zer =>
    unfold Fits
    rw [take_zer, drop_zer, mix_zer _ hR]
  | row hr => exact (h _ hr).2
  | add l1 l2 h1 h2 =>
    unfold Fits at *
    rw [take_add, drop_add, h1, h2, mix_add (by rw [drop_len (l1.len hl), hn]) (by rw [drop_len (l2.len hl), hn]) hR]
  | smul m l1 h1 =>
    unfold Fits at *
    rw [take_smul, drop_smul, h1, mix_smul m hR]
def unit (n i : Nat) : Row := (List.range n).map fun j => if j = i then 1 else 0
theorem unit_len (n i : Nat) : (unit n i).length = n := by unfold unit; rw [List.length_map, List.length_range]
theorem unit_at {n i j : Nat} (h : j < n) : (unit n i).getD j 0 = if j = i then 1 else 0 := by
  unfold unit
  rw [List.getD_eq_getElem?_getD, List.getElem?_map, List.getElem?_range h]
  rfl
theorem unit_succ (n i : Nat) : unit (n + 1) (i + 1) = 0 :: unit n i := by
  unfold unit
  rw [List.range_succ_eq_map, List.map_cons, List.map_map]
  congr 1
  apply List.map_congr_left
  intro j _
  simp
theorem unit_zero (n : Nat) : unit (n + 1) 0 = 1 :: zer n := by
  unfold unit zer
  rw [List.range_succ_eq_map, List.map_cons, List.map_map]
  congr 1
  apply List.ext_getElem?
  intro j
  rw [List.getElem?_map]
  rcases Nat.lt_or_ge j n with q | q
  · rw [List.getElem?_range q, List.getElem?_replicate, if_pos q]
    simp
  · rw [List.getElem?_eq_none (by rw [List.length_range]; exact q), List.getElem?_replicate, if_neg (by omega)]
    rfl
theorem mix_unit {k : Nat} : ∀ {R : List Row} {i : Nat} {r : Row}, (∀ r ∈ R, r.length = k) → R[i]? = some r → mix k (unit R.length i) R = r
  | [], _, _, _, h => by simp at h
  | x :: R, 0, r, hl, h => by
    cases h
    have hx := hl x (List.mem_cons_self ..)
    rw [List.length_cons, unit_zero, mix, mix_zer _ fun y hy => hl y (List.mem_cons_of_mem _ hy)]
    refine ext_row (k := k) (add_len (by rw [smul_len]; exact hx) (zer_len k)) hx fun i _ => ?_
    rw [add_at (k := k) (by rw [smul_len]; exact hx) (zer_len k), Hn.smul_at, Hn.zer_at]
    omega
  | x :: R, i + 1, r, hl, h => by
    have hl' := fun y hy => hl y (List.mem_cons_of_mem x hy)
    have hx := hl x (List.mem_cons_self ..)
    have h' : R[i]? = some r := h
    have hr := hl' r (List.mem_of_getElem? h')
    rw [List.length_cons, unit_succ, mix, mix_unit hl' h']
    refine ext_row (k := k) (add_len (by rw [smul_len]; exact hx) hr) hr fun i _ => ?_
    rw [add_at (k := k) (by rw [smul_len]; exact hx) hr, Hn.smul_at]
    omega
theorem take_append {r u : Row} {k : Nat} (h : r.length = k) : (r ++ u).take k = r := by rw [← h]; exact List.take_left
theorem drop_append {r u : Row} {k : Nat} (h : r.length = k) : (r ++ u).drop k = u := by rw [← h]; exact List.drop_left
theorem fits_mark {k i : Nat} {R : List Row} {r : Row} (hR : ∀ r ∈ R, r.length = k) (h : R[i]? = some r) : (r ++ unit R.length i).length = k + R.length ∧ Fits k R (r ++ unit R.length i) := by
  have hr := hR r (List.mem_of_getElem? h)
  refine ⟨by rw [List.length_append, unit_len, hr], ?_⟩
  unfold Fits
  rw [take_append hr, drop_append hr, mix_unit hR h]
/-- heads of what is made -/
theorem lat_take {k n : Nat} {ts : List Row} {v : Row} (l : Lat (k + n) ts v) : Lat k (ts.map (List.take k)) (v.take k) := by
  induction l with
  | zer => rw [take_zer]; exact .zer
  | row hr => exact .row (List.mem_map_of_mem hr)
  | add _ _ h1 h2 => rw [take_add]; exact .add h1 h2
  | smul m _ h1 => rw [take_smul]; exact .smul m h1
theorem lat_head {k n : Nat} {ts : List Row} {w : Row} (l : Lat k (ts.map (List.take k)) w) : ∃ v, Lat (k + n) ts v ∧ v.take k = w := by
  induction l with
  | zer => exact ⟨_, .zer, take_zer⟩
  | row hr =>
    obtain ⟨t, ht, rfl⟩ := List.mem_map.mp hr
    exact ⟨t, .row ht, rfl⟩
  | add _ _ h1 h2 =>
    obtain ⟨a, ha, ea⟩ := h1
    obtain ⟨b, hb, eb⟩ := h2
    exact ⟨_, .add ha hb, by rw [take_add, ea, eb]⟩
  | smul m _ h1 =>
    obtain ⟨a, ha, ea⟩ := h1
    exact ⟨_, .smul m ha, by rw [take_smul, ea]⟩
theorem eqv_heads {k n : Nat} {ts us : List Row} (h : Eqv (k + n) ts us) : Eqv k (ts.map (List.take k)) (us.map (List.take k)) := fun w =>
  ⟨fun l => by obtain ⟨v, hv, rfl⟩ := lat_head (n := n) l; exact lat_take ((h v).mp hv), fun l => by obtain ⟨v, hv, rfl⟩ := lat_head (n := n) l; exact lat_take ((h v).mpr hv)⟩
/-! ### a stair's rows whose place is ahead -/
theorem red_pw {rs : List Row} : Red rs ↔ rs.Pairwise fun a b => 0 ≤ a.getD (place b) 0 ∧ a.getD (place b) 0 < ld b := by
  rw [List.pairwise_iff_getElem]
  constructor
  · intro h i j hi hj hij
    exact h i j _ _ (List.getElem?_eq_getElem hi) (List.getElem?_eq_getElem hj) hij
  · intro h i j a b ha hb hij
    have hi : i < rs.length := by
      rcases Nat.lt_or_ge i rs.length with q | q
      · exact q
      · rw [List.getElem?_eq_none q] at ha; cases ha
    have hj : j < rs.length := by
      rcases Nat.lt_or_ge j rs.length with q | q
      · exact q
      · rw [List.getElem?_eq_none q] at hb; cases hb
    have := h i j hi hj hij
    rw [List.getElem?_eq_getElem hi] at ha
    rw [List.getElem?_eq_getElem hj] at hb
    cases ha
    cases hb
    exact this
theorem place_take {k n : Nat} {v : Row} (hl : v.length = k + n) (h : place v < k) : place (v.take k) = place v ∧ ld (v.take k) = ld v := by
  have hp : place (v.take k) = place v := place_of (fun i hi => by rw [take_at (by omega)]; exact ahead0 hi) (by rw [take_at h]; exact ld_ne (by omega))
  refine ⟨hp, ?_⟩
  show (v.take k).getD (place (v.take k)) 0 = _
  rw [hp, take_at h]
/-- the upper part's heads -/
def uheads (k : Nat) (tall : List Row) : List Row := (tall.filter fun r => decide (place r < k)).map (List.take k)
theorem up_heads {k n : Nat} {tall : List Row} (hu : Up (k + n) tall) (hr : Red tall) : Up k (uheads k tall) ∧ Red (uheads k tall) ∧ Eqv k (uheads k tall) (tall.map (List.take k)) := by
  have hf : ∀ v ∈ tall.filter fun r => decide (place r < k), v ∈ tall ∧ place v < k := fun v hv => by
    have := List.mem_filter.mp hv
    exact ⟨this.1, of_decide_eq_true this.2⟩
  have hpt : ∀ v ∈ tall.filter fun r => decide (place r < k), place (v.take k) = place v ∧ ld (v.take k) = ld v := fun v hv => place_take (hu.len v (hf v hv).1) (hf v hv).2
  refine ⟨⟨fun r h => ?_, fun r h => ?_, fun r h => ?_, ?_⟩, ?_, ?_⟩
  · obtain ⟨v, hv, rfl⟩ := List.mem_map.mp h
    exact take_len (hu.len v (hf v hv).1)
  · obtain ⟨v, hv, rfl⟩ := List.mem_map.mp h
    rw [(hpt v hv).1]
    exact (hf v hv).2
  · obtain ⟨v, hv, rfl⟩ := List.mem_map.mp h
    rw [(hpt v hv).2]
    exact hu.pos v (hf v hv).1
  · unfold uheads
    rw [List.pairwise_map]
    exact List.Pairwise.imp_of_mem (fun {a b} ha hb h => by rw [(hpt a ha).1, (hpt b hb).1]; exact h) (hu.ris.filter _)
  · rw [red_pw]
    unfold uheads
    rw [List.pairwise_map]
    refine List.Pairwise.imp_of_mem (fun {a b} ha hb h => ?_) ((red_pw.mp hr).filter _)
    rw [(hpt b hb).1, (hpt b hb).2, take_at (hf b hb).2]
    exact h
  · refine eqv_of (fun r h => ?_) fun r h => ?_
    · obtain ⟨v, hv, rfl⟩ := List.mem_map.mp h
      exact .row (List.mem_map_of_mem (hf v hv).1)
    · obtain ⟨v, hv, rfl⟩ := List.mem_map.mp h
      by_cases hp : place v < k
      · exact .row (List.mem_map_of_mem (List.mem_filter.mpr ⟨hv, decide_eq_true hp⟩))
      · have hvl := hu.len v hv
        have : v.take k = zer k := ext_row (take_len hvl) (zer_len k) fun i hi => by
          rw [take_at hi, Hn.zer_at]
          exact ahead0 (by omega)
        rw [this]
        exact .zer
/-- what the stair of marked rows tells -/
structure Tall (k n B : Nat) (R tall : List Row) : Prop where
  up : Up (k + n) tall
  red : Red tall
  fits : ∀ {v}, Lat (k + n) tall v → Fits k R v
  heads : Eqv k (uheads k tall) R
  bd : ∀ r ∈ tall, Bd B r
theorem Tall.uh {k n B : Nat} {R tall : List Row} (h : Tall k n B R tall) : Up k (uheads k tall) ∧ Red (uheads k tall) := ⟨(up_heads h.up h.red).1, (up_heads h.up h.red).2.1⟩
/-- a purse beside noughts, led down it -/
theorem Tall.rest {k n B : Nat} {R tall : List Row} (h : Tall k n B R tall) (hR : ∀ r ∈ R, r.length = k) (hn : R.length = n) {w : Row} (hw : w.length = k) :
    let rest := (led tall (w ++ zer n)).2
    rest.length = k + n ∧ Lat k R (sub w (rest.take k)) ∧ (∀ r ∈ uheads k tall, 0 ≤ (rest.take k).getD (place r) 0 ∧ (rest.take k).getD (place r) 0 < ld r) ∧
      (rest.take k = zer k → w = mix k (smul (-1) (rest.drop k)) R) ∧ (Lat k R w → rest.take k = zer k) := by
  intro rest
  have hw0 : (w ++ zer n).length = k + n := by rw [List.length_append, hw, zer_len]
  have hl : rest.length = k + n := (led_len h.up.len hw0).2
  have hs := led_sub h.up hw0
  have hf := h.fits hs
  have e1 : (sub (w ++ zer n) rest).take k = sub w (rest.take k) := by
    unfold sub
    rw [List.take_zipWith, take_append hw]
  have e2 : (sub (w ++ zer n) rest).drop k = smul (-1) (rest.drop k) := by
    have hd := drop_len hl
    refine ext_row (k := n) (drop_len (sub_len hw0 hl)) (by rw [smul_len]; exact hd) fun i hi => ?_
    unfold sub
    rw [List.drop_zipWith, drop_append hw]
    show (sub (zer n) (rest.drop k)).getD i 0 = _
    rw [sub_at (zer_len n) hd, Hn.zer_at, Hn.smul_at]
    omega
  unfold Fits at hf
  have hf' : sub w (rest.take k) = mix k (smul (-1) (rest.drop k)) R := by rw [← e1, ← e2]; exact hf
  have ht := take_len hl
  have hred : ∀ r ∈ uheads k tall, 0 ≤ (rest.take k).getD (place r) 0 ∧ (rest.take k).getD (place r) 0 < ld r := fun r hr => by
    obtain ⟨v, hv, rfl⟩ := List.mem_map.mp hr
    have hm := List.mem_filter.mp hv
    have hp := of_decide_eq_true hm.2
    obtain ⟨p1, p2⟩ := place_take (h.up.len v hm.1) hp
    rw [p1, p2, take_at hp]
    exact led_red h.up hw0 v hm.1
  have hlat : Lat k R (sub w (rest.take k)) := by rw [hf']; exact lat_mix
  refine ⟨hl, hlat, hred, fun hz => ?_, fun hwl => ?_⟩
  · rw [← hf', hz]
    exact ext_row hw (sub_len hw (zer_len k)) fun i _ => by rw [sub_at hw (zer_len k), Hn.zer_at]; omega
  · have hrl : Lat k R (rest.take k) := by
      have e : rest.take k = sub w (sub w (rest.take k)) := ext_row ht (sub_len hw (sub_len hw ht)) fun i _ => by
        rw [sub_at hw (sub_len hw ht), sub_at hw ht]
        omega
      rw [e]
      exact .sub hR hwl hlat
    have hu := h.uh.1
    have hrF := (h.heads _).mpr hrl
    have z := (led_zer hu ht).mpr hrF
    have o := led_one_rest hu ht ht (by
      have : sub (rest.take k) (rest.take k) = zer k := ext_row (sub_len ht ht) (zer_len k) fun i _ => by rw [sub_at ht ht, Hn.zer_at]; omega
      rw [this]
      exact .zer) hred
    rw [← o, z]
end Hn

namespace Hn
open Mx
/-! ### dials that part -/
/-- brought round -/
def rb (x m : Int) : Int := if m = 0 then x else x % m
theorem rb_dvd (x m : Int) : m ∣ x - rb x m := by
  unfold rb
  split
  · rw [Int.sub_self]; exact ⟨0, by omega⟩
  · exact Int.dvd_self_sub_emod
theorem rb_self {m : Int} : rb m m = 0 := by
  unfold rb
  split
  · assumption
  · exact Int.emod_self
theorem rb_zero (m : Int) : rb 0 m = 0 := by
  unfold rb
  split
  · rfl
  · exact Int.zero_emod m
theorem rb_abs {x m : Int} {n : Nat} (hx : x.natAbs < n) (hm : m.natAbs < n) : (rb x m).natAbs < n := by
  unfold rb
  split
  · exact hx
  · rename_i h
    have h1 := Int.emod_nonneg x h
    have h2 := Int.emod_lt x h
    omega
theorem dot_at {a b : Row} (h : a.length = b.length) : dot a b = ((List.range a.length).map fun i => a.getD i 0 * b.getD i 0).sum := by
  unfold dot
  congr 1
  apply List.ext_getElem?
  intro i
  rw [List.getElem?_zipWith, List.getElem?_map]
  rcases Nat.lt_or_ge i a.length with q | q
  · rw [List.getElem?_range q, getD_eq q, getD_eq (show i < b.length by omega)]
    rfl
  · rw [List.getElem?_eq_none q, List.getElem?_eq_none (show b.length ≤ i by omega), List.getElem?_eq_none (by rw [List.length_range]; exact q)]
    rfl
theorem dot_set : ∀ {v w : Row} {p : Nat} (y : Int), v.length = w.length → p < w.length → dot v (w.set p y) = dot v w + v.getD p 0 * (y - w.getD p 0)
  | [], [], p, y, _, h => by simp at h
  | [], _ :: _, _, _, h, _ => by simp at h
  | _ :: _, [], _, _, h, _ => by simp at h
  | a :: v, b :: w, 0, y, h, _ => by
    rw [List.set_cons_zero, dot_cons, dot_cons]
    show a * y + dot v w = a * b + dot v w + a * (y - b)
    rw [Int.mul_sub]
    omega
  | a :: v, b :: w, p + 1, y, h, hp => by
    rw [List.set_cons_succ, dot_cons, dot_cons, dot_set y (by simpa using h) (by simpa using hp)]
    show _ = a * b + dot v w + v.getD p 0 * (y - w.getD p 0)
    omega
theorem dot_smul_r (m : Int) (v w : Row) : dot v (smul m w) = m * dot v w := by rw [dot_comm, dot_smul, dot_comm]
theorem sum_zero : ∀ {xs : List Int}, (∀ x ∈ xs, x = 0) → xs.sum = 0
  | [], _ => rfl
  | x :: xs, h => by
    rw [List.sum_cons, h x (List.mem_cons_self ..), sum_zero fun y hy => h y (List.mem_cons_of_mem _ hy)]
    rfl
theorem dot_none {k : Nat} {v w : Row} (hv : v.length = k) (hw : w.length = k) (h : ∀ q, q < k → v.getD q 0 * w.getD q 0 = 0) : dot v w = 0 := by
  rw [dot_at (by omega)]
  refine sum_zero fun x hx => ?_
  obtain ⟨i, hi, rfl⟩ := List.mem_map.mp hx
  have := List.mem_range.mp hi
  exact h i (by omega)
/-- but one place -/
theorem dot_one {k p : Nat} {v w : Row} (hv : v.length = k) (hw : w.length = k) (hp : p < k) (h : ∀ q, q < k → q ≠ p → v.getD q 0 * w.getD q 0 = 0) : dot v w = v.getD p 0 * w.getD p 0 := by
  have h1 := dot_set (v := v) (w := w) (p := p) 0 (by omega) (by omega)
  have h2 : dot v (w.set p 0) = 0 := dot_none hv (by rw [List.length_set]; exact hw) fun q hq => by
    rw [set_at w p 0 q (by omega)]
    split
    · omega
    · rename_i e; exact h q hq e
  rw [h2, Int.zero_sub, Int.mul_neg] at h1
  omega
theorem dot_abs {k a b : Nat} {v w : Row} (hv : v.length = k) (hk : k ≤ 100) (bv : Bd a v) (bw : Bd b w) : (dot v w).natAbs < 2 ^ (a + b + 7) := by
  have h : (dot v w).natAbs ≤ (List.zipWith (· * ·) v w).length * 2 ^ (a + b) := abs_sum fun z hz => by
    obtain ⟨i, hi⟩ := List.getElem?_of_mem hz
    rw [List.getElem?_zipWith] at hi
    cases h1 : v[i]? with
    | none => rw [h1] at hi; simp at hi
    | some x =>
      cases h2 : w[i]? with
      | none => rw [h1, h2] at hi; simp at hi
      | some y =>
        rw [h1, h2] at hi
        cases hi
        have p1 := bv x (List.mem_of_getElem? h1)
        have p2 := bw y (List.mem_of_getElem? h2)
        rw [Int.natAbs_mul, Nat.pow_add]
        exact Nat.mul_le_mul (by omega) (by omega)
  have hl : (List.zipWith (fun (x y : Int) => x * y) v w).length ≤ 100 := by rw [List.length_zipWith]; omega
  have h2 : (List.zipWith (fun (x y : Int) => x * y) v w).length * 2 ^ (a + b) ≤ 100 * 2 ^ (a + b) := Nat.mul_le_mul_right _ hl
  have e : (2 : Nat) ^ (a + b + 7) = 2 ^ (a + b) * 128 := by rw [Nat.pow_add]
  have h3 : 0 < 2 ^ (a + b) := Nat.pow_pos (by omega)
  omega
structure Dial (k c : Nat) (m0 : Int) (rest : Row) (done : List Row) (w : Row) (m D : Int) : Prop where
  len : w.length = k
  mod : m = m0 * D
  pos : 1 ≤ D
  atc : w.getD c 0 = D
  beh : ∀ q, c < q → w.getD q 0 = 0
  div : ∀ d ∈ done, m ∣ dot d w
  res : dot rest w = D * rest.getD c 0
theorem Dial.step {k c : Nat} {m0 : Int} {rest : Row} {done : List Row} {w r : Row} {m D : Int} (J : Dial k c m0 rest done w m D) (hck : c < k) (hr : r.length = k) (hrl : rest.length = k) (hp : place r < k) (hl : 0 < ld r)
    (hd : ∀ d ∈ done, d.length = k ∧ d.getD (place r) 0 = 0) (hc : place r = c → m0 = ld r) (hz : place r < c → rest.getD (place r) 0 = 0) :
    let over := rb (dot r w) m
    let often := ld r / ((Nat.gcd (ld r).natAbs over.natAbs : Nat) : Int)
    1 ≤ often ∧ often ≤ ld r ∧ Dial k c m0 rest (r :: done) ((smul often w).set (place r) (often * w.getD (place r) 0 - often * over / ld r)) (m * often) (often * D) := by
  intro over often
  have hg0 : 0 < Nat.gcd (ld r).natAbs over.natAbs := Nat.gcd_pos_of_pos_left _ (by omega)
  generalize hg : Nat.gcd (ld r).natAbs over.natAbs = g at *
  have hgl : (g : Int) ∣ ld r := by
    rw [← Int.natAbs_dvd_natAbs]
    have := Nat.gcd_dvd_left (ld r).natAbs over.natAbs
    rw [hg] at this
    simpa using this
  have hgo : (g : Int) ∣ over := by
    rw [← Int.natAbs_dvd_natAbs]
    have := Nat.gcd_dvd_right (ld r).natAbs over.natAbs
    rw [hg] at this
    simpa using this
  obtain ⟨a, ha⟩ := hgl
  obtain ⟨b, hb⟩ := hgo
  have hof : often = a := by
    show ld r / ((Nat.gcd (ld r).natAbs over.natAbs : Nat) : Int) = a
    rw [hg, ha]
    exact Int.mul_ediv_cancel_left a (by omega)
  have ha1 : 1 ≤ a := by
    rcases Int.lt_or_le a 1 with q | q
    · have : (g : Int) * a ≤ 0 := Int.mul_nonpos_of_nonneg_of_nonpos (by omega) (by omega)
      omega
    · exact q
  have hal : a ≤ ld r := by
    rw [ha]
    have : 1 * a ≤ (g : Int) * a := Int.mul_le_mul_of_nonneg_right (by omega) (by omega)
    omega
  have hx : ld r * (often * over / ld r) = often * over := by
    rw [hof]
    refine Int.mul_ediv_cancel' ?_
    rw [hb, ha]
    exact ⟨b, by simp only [Int.mul_assoc, Int.mul_comm, Int.mul_left_comm]⟩
  rw [hof] at hx ⊢
  generalize hxx : a * over / ld r = x at *
  have over0 : c ≤ place r → over = 0 := fun h => by
    rcases Nat.lt_or_ge c (place r) with q | q
    · have : dot r w = 0 := dot_none hr J.len fun i hi => by
        rcases Nat.lt_or_ge i (place r) with q2 | q2
        · rw [ahead0 q2, Int.zero_mul]
        · rw [J.beh i (by omega), Int.mul_zero]
      show rb (dot r w) m = 0
      rw [this, rb_zero]
    · have e : place r = c := by omega
      have : dot r w = m := by
        rw [dot_one (p := c) hr J.len hck fun i hi hne => by
          rcases Nat.lt_or_ge i c with q2 | q2
          · rw [ahead0 (by omega), Int.zero_mul]
          · rw [J.beh i (by omega), Int.mul_zero], J.atc, J.mod, hc e, ← e]
      show rb (dot r w) m = 0
      rw [this, rb_self]
  have x0 : c ≤ place r → x = 0 := fun h => by
    have := over0 h
    rw [this, Int.mul_zero] at hx
    rcases Int.mul_eq_zero.mp hx with q | q
    · omega
    · exact q
  have hsl : (smul a w).length = k := by rw [smul_len]; exact J.len
  have dset : ∀ v : Row, v.length = k → dot v ((smul a w).set (place r) (a * w.getD (place r) 0 - x)) = a * dot v w - v.getD (place r) 0 * x := fun v hv => by
    rw [dot_set _ (by omega) (by omega), dot_smul_r, Hn.smul_at, show a * w.getD (place r) 0 - x - a * w.getD (place r) 0 = -x by omega, Int.mul_neg]
    omega
  refine ⟨ha1, hal, ⟨by rw [List.length_set]; exact hsl, by rw [J.mod, Int.mul_assoc, Int.mul_comm D a], ?_, ?_, fun q hq => ?_, fun d hdm => ?_, ?_⟩⟩
  · have := Int.mul_le_mul ha1 J.pos (by omega) (by omega)
    omega
  · rw [set_at _ _ _ _ (by omega)]
    split
    · rename_i e
      rw [x0 (by omega), ← e, J.atc]
      omega
    · rw [Hn.smul_at, J.atc]
  · rw [set_at _ _ _ _ (by omega)]
    split
    · rename_i e
      rw [x0 (by omega), ← e, J.beh q hq, Int.mul_zero]
      rfl
    · rw [Hn.smul_at, J.beh q hq, Int.mul_zero]
  · rcases List.mem_cons.mp hdm with rfl | hdm
    · rw [dset _ hr, show d.getD (place d) 0 = ld d from rfl, hx, ← Int.mul_sub, Int.mul_comm m a]
      exact Int.mul_dvd_mul_left _ (rb_dvd _ _)
    · obtain ⟨h1, h2⟩ := hd d hdm
      rw [dset d h1, h2, Int.zero_mul, Int.sub_zero, Int.mul_comm m a]
      exact Int.mul_dvd_mul_left _ (J.div d hdm)
  · rw [dset rest hrl, J.res]
    have : rest.getD (place r) 0 * x = 0 := by
      rcases Nat.lt_or_ge (place r) c with q | q
      · rw [hz q, Int.zero_mul]
      · rw [x0 q, Int.mul_zero]
    rw [this, Int.mul_assoc]
    omega
theorem dial0 {k c : Nat} {m0 : Int} {rest : Row} (hck : c < k) (hrl : rest.length = k) : Dial k c m0 rest [] (unit k c) m0 1 := by
  refine ⟨unit_len k c, by omega, by omega, ?_, fun q hq => ?_, fun d hd => by simp at hd, ?_⟩
  · rw [unit_at hck, if_pos rfl]
  · rcases Nat.lt_or_ge q k with h | h
    · rw [unit_at h, if_neg (by omega)]
    · rw [List.getD_eq_getElem?_getD, List.getElem?_eq_none (by rw [unit_len]; exact h)]
      rfl
  · rw [dot_one (p := c) hrl (unit_len k c) hck fun q hq hne => by rw [unit_at hq, if_neg hne, Int.mul_zero], unit_at hck, if_pos rfl]
    omega
/-- the weights brought round: what is divided stays so -/
theorem dot_rb {m : Int} : ∀ {v w : Row}, v.length = w.length → m ∣ dot v w - dot v (w.map fun x => rb x m)
  | [], [], _ => ⟨0, by simp [dot]⟩
  | [], _ :: _, h => by simp at h
  | _ :: _, [], h => by simp at h
  | a :: v, b :: w, h => by
    have ih := dot_rb (m := m) (v := v) (w := w) (by simpa using h)
    rw [List.map_cons, dot_cons, dot_cons]
    have e : a * b + dot v w - (a * rb b m + dot v (w.map fun x => rb x m)) = a * (b - rb b m) + (dot v w - dot v (w.map fun x => rb x m)) := by
      rw [Int.mul_sub]
      omega
    rw [e]
    exact Int.dvd_add (Int.dvd_mul_of_dvd_right (rb_dvd b m)) ih
theorem dvd_rb {m : Int} {v w : Row} (h : v.length = w.length) : m ∣ dot v (w.map fun x => rb x m) ↔ m ∣ dot v w := by
  have e := dot_rb (m := m) h
  constructor
  · intro h1
    have := Int.dvd_add e h1
    rwa [Int.sub_add_cancel] at this
  · intro h1
    have := Int.dvd_sub h1 e
    rwa [show dot v w - (dot v w - dot v (w.map fun x => rb x m)) = dot v (w.map fun x => rb x m) by omega] at this
/-- what a dial does not divide -/
theorem Dial.parts {k c : Nat} {m0 : Int} {rest : Row} {done : List Row} {w : Row} {m D : Int} (J : Dial k c m0 rest done w m D) (h0 : 0 ≤ m0) (h : (m0 = 0 ∧ rest.getD c 0 ≠ 0) ∨ (0 < rest.getD c 0 ∧ rest.getD c 0 < m0)) : (m = 0 ∨ 2 ≤ m) ∧ ¬ m ∣ dot rest w := by
  have hp := J.pos
  rw [J.res, J.mod]
  rcases h with ⟨h1, h2⟩ | ⟨h1, h2⟩
  · subst h1
    rw [Int.zero_mul]
    refine ⟨.inl rfl, fun hd => ?_⟩
    have := Int.zero_dvd.mp hd
    rcases Int.mul_eq_zero.mp this with q | q
    · omega
    · exact h2 q
  · refine ⟨.inr ?_, fun hd => ?_⟩
    · have := Int.mul_le_mul (show (2 : Int) ≤ m0 by omega) hp (by omega) (by omega)
      omega
    · rw [Int.mul_comm m0 D] at hd
      have h3 := Int.dvd_of_mul_dvd_mul_left (by omega) hd
      have := Int.le_of_dvd h1 h3
      omega
theorem mix_bd {k a b n : Nat} {cs : List Int} {rows : List Row} (hl : ∀ r ∈ rows, r.length = k) (hn : rows.length < 2 ^ n) (hc : ∀ c ∈ cs, c.natAbs < 2 ^ a) (hr : ∀ r ∈ rows, Bd b r) : Bd (a + b + n) (mix k cs rows) := Bd.of (mix_len hl) fun i _ => by
  rw [mix_at hl]
  have hb : (List.zipWith (fun c r => c * List.getD r i 0) cs rows).sum.natAbs ≤ (List.zipWith (fun c r => c * List.getD r i 0) cs rows).length * 2 ^ (a + b) := Mx.abs_sum fun z hz => by
    obtain ⟨j, hj⟩ := List.getElem?_of_mem hz
    rw [List.getElem?_zipWith] at hj
    cases h5 : cs[j]? with
    | none => rw [h5] at hj; simp at hj
    | some c =>
      cases h6 : rows[j]? with
      | none => rw [h5, h6] at hj; simp at hj
      | some r =>
        rw [h5, h6] at hj
        cases hj
        have p1 := hc c (List.mem_of_getElem? h5)
        have p2 := (hr r (List.mem_of_getElem? h6)).at i
        rw [Int.natAbs_mul, Nat.pow_add]
        exact Nat.mul_le_mul (by omega) (by omega)
  have hlen : (List.zipWith (fun (c : Int) (r : List Int) => c * List.getD r i 0) cs rows).length < 2 ^ n := by rw [List.length_zipWith]; omega
  have h2 : (List.zipWith (fun (c : Int) (r : List Int) => c * List.getD r i 0) cs rows).length * 2 ^ (a + b) < 2 ^ n * 2 ^ (a + b) := Nat.mul_lt_mul_of_pos_right hlen (Nat.pow_pos (by omega))
  rw [show a + b + n = n + (a + b) by omega, Nat.pow_add 2 n]
  exact Nat.lt_of_le_of_lt hb h2
end Hn

/-! ### kinds turned: two tables that undo each other; swaps made of sizes -/
namespace Hn
open Mx
theorem mix_dot {k q : Nat} {cs : List Int} {rs : List Row} (h : ∀ r ∈ rs, r.length = k) : (mix k cs rs).getD q 0 = dot cs (rs.map fun r => r.getD q 0) := by
  rw [Mx.mix_at h]
  unfold dot
  rw [List.zipWith_map_right]
def colop (i j : Nat) (m : Int) (r : Row) : Row := r.set j (r.getD j 0 + m * r.getD i 0)
def rowop (i j : Nat) (m : Int) (D : List Row) : List Row := D.set i (sub (D.getD i []) (smul m (D.getD j [])))
theorem colop_len (i j : Nat) (m : Int) (r : Row) : (colop i j m r).length = r.length := by unfold colop; rw [List.length_set]
theorem colop_at {i j q : Nat} {m : Int} {r : Row} (hj : j < r.length) : (colop i j m r).getD q 0 = if q = j then r.getD j 0 + m * r.getD i 0 else r.getD q 0 := by
  unfold colop
  exact set_at _ _ _ _ hj
theorem colop_add {k i j : Nat} {m : Int} {a b : Row} (ha : a.length = k) (hb : b.length = k) (hj : j < k) : colop i j m (add a b) = add (colop i j m a) (colop i j m b) := by
  have hab := add_len ha hb
  have h1 : (colop i j m a).length = k := by rw [colop_len]; exact ha
  have h2 : (colop i j m b).length = k := by rw [colop_len]; exact hb
  refine ext_row (by rw [colop_len]; exact hab) (add_len h1 h2) fun q hq => ?_
  rw [colop_at (by omega), add_at h1 h2, colop_at (by omega), colop_at (by omega), add_at ha hb, add_at ha hb, add_at ha hb]
  split
  · rw [Int.mul_add]; omega
  · rfl
theorem colop_smul {k i j : Nat} {m c : Int} {a : Row} (ha : a.length = k) (hj : j < k) : colop i j m (smul c a) = smul c (colop i j m a) := by
  have h1 : (smul c a).length = k := by rw [smul_len]; exact ha
  refine ext_row (k := k) (by rw [colop_len]; exact h1) (by rw [smul_len, colop_len]; exact ha) fun q hq => ?_
  rw [colop_at (by omega), Mx.smul_at c (colop i j m a), colop_at (by omega), Mx.smul_at, Mx.smul_at, Mx.smul_at]
  split
  · rw [Int.mul_add, Int.mul_left_comm]
  · rfl
theorem colop_zer {k i j : Nat} {m : Int} (hj : j < k) : colop i j m (zer k) = zer k := by
  refine ext_row (k := k) (by rw [colop_len, zer_len]) (zer_len k) fun q hq => ?_
  rw [colop_at (by rw [zer_len]; exact hj), zer_at, zer_at, zer_at]
  split <;> simp
theorem mix_colop {k i j : Nat} {m : Int} (hj : j < k) : ∀ {cs : List Int} {R : List Row}, (∀ r ∈ R, r.length = k) → mix k cs (R.map (colop i j m)) = colop i j m (mix k cs R)
  | [], R, _ => by
    show mix k [] _ = _
    cases R <;> exact (colop_zer hj).symm
  | c :: cs, [], _ => (colop_zer hj).symm
  | c :: cs, r :: R, h => by
    have hr := h r (List.mem_cons_self ..)
    have hR := fun x hx => h x (List.mem_cons_of_mem _ hx)
    show add (smul c (colop i j m r)) (mix k cs (R.map (colop i j m))) = colop i j m (add (smul c r) (mix k cs R))
    rw [mix_colop hj hR, colop_add (k := k) (by rw [smul_len]; exact hr) (mix_len hR) hj, colop_smul hr hj]
/-- two tables that undo each other -/
structure Uni (k : Nat) (O D : List Row) : Prop where
  ol : O.length = k
  dl : D.length = k
  orw : ∀ r ∈ O, r.length = k
  drw : ∀ r ∈ D, r.length = k
  od : ∀ (i : Nat) (r : Row), O[i]? = some r → mix k r D = unit k i
  dd : ∀ (i : Nat) (r : Row), D[i]? = some r → mix k r O = unit k i
theorem uni_one (k : Nat) : Uni k ((List.range k).map (unit k)) ((List.range k).map (unit k)) := by
  have hr : ∀ r ∈ (List.range k).map (unit k), r.length = k := fun r hr => by
    obtain ⟨i, _, rfl⟩ := List.mem_map.mp hr
    exact unit_len k i
  have hl : ((List.range k).map (unit k)).length = k := by rw [List.length_map, List.length_range]
  have h : ∀ (i : Nat) (r : Row), ((List.range k).map (unit k))[i]? = some r → mix k r ((List.range k).map (unit k)) = unit k i := fun i r h => by
    have hi : i < k := by
      have := (List.getElem?_eq_some_iff.mp h).1
      omega
    have e : r = unit k i := by
      rw [List.getElem?_map, List.getElem?_range hi] at h
      exact (Option.some.inj h).symm
    have h2 := mix_unit (k := k) hr h
    rw [hl] at h2
    rw [e] at h2 ⊢
    exact h2
  exact ⟨hl, hl, hr, hr, h, h⟩
theorem Uni.turn {k i j : Nat} {O D : List Row} (h : Uni k O D) (m : Int) (hi : i < k) (hj : j < k) (hij : i ≠ j) : Uni k (O.map (colop i j m)) (rowop i j m D) := by
  have xi : D[i]? = some (D.getD i []) := getD_row (by rw [h.dl]; exact hi)
  have xj : D[j]? = some (D.getD j []) := getD_row (by rw [h.dl]; exact hj)
  have li := h.drw _ (List.mem_of_getElem? xi)
  have lj := h.drw _ (List.mem_of_getElem? xj)
  have di := h.dd i _ xi
  have dj := h.dd j _ xj
  unfold rowop
  generalize hDi : D.getD i [] = Di at *
  generalize hDj : D.getD j [] = Dj at *
  have lms : (smul m Dj).length = k := by rw [smul_len]; exact lj
  have lw := sub_len li lms
  have hset : ∀ r ∈ D.set i (sub Di (smul m Dj)), r.length = k := fun r hr => by
    rcases List.mem_or_eq_of_mem_set hr with q | rfl
    · exact h.drw r q
    · exact lw
  refine ⟨by rw [List.length_map]; exact h.ol, by rw [List.length_set]; exact h.dl, fun r hr => ?_, hset, fun c r hc => ?_, fun c r hc => ?_⟩
  · obtain ⟨q, hq, rfl⟩ := List.mem_map.mp hr
    rw [colop_len]
    exact h.orw q hq
  · rw [List.getElem?_map] at hc
    cases hh : O[c]? with
    | none => rw [hh] at hc; cases hc
    | some r0 =>
      rw [hh] at hc
      have hc := Option.some.inj hc
      subst hc
      have l0 := h.orw r0 (List.mem_of_getElem? hh)
      rw [← h.od c r0 hh]
      refine ext_row (mix_len hset) (mix_len h.drw) fun q hq => ?_
      rw [mix_dot hset, mix_dot h.drw, List.map_set, dot_set _ (by rw [colop_len, List.length_map, l0, h.dl]) (by rw [List.length_map, h.dl]; exact hi)]
      have a1 : (D.map fun r => r.getD q 0).getD i 0 = Di.getD q 0 := by
        rw [List.getD_eq_getElem?_getD, List.getElem?_map, xi]
        rfl
      have a2 : (D.map fun r => r.getD q 0).getD j 0 = Dj.getD q 0 := by
        rw [List.getD_eq_getElem?_getD, List.getElem?_map, xj]
        rfl
      have a3 : (colop i j m r0).getD i 0 = r0.getD i 0 := by
        rw [colop_at (by omega), if_neg hij]
      have a4 : dot (colop i j m r0) (D.map fun r => r.getD q 0) = dot r0 (D.map fun r => r.getD q 0) + Dj.getD q 0 * (m * r0.getD i 0) := by
        unfold colop
        rw [dot_comm, dot_set _ (by rw [List.length_map, h.dl, l0]) (by omega), dot_comm, a2]
        congr 2
        omega
      rw [a1, a3, a4, sub_at li lms, Mx.smul_at]
      generalize r0.getD i 0 = x
      generalize Dj.getD q 0 = y
      generalize Di.getD q 0 = z
      have e1 : x * (z - m * y - z) = - (y * (m * x)) := by
        rw [show z - m * y - z = - (m * y) by omega, Int.mul_neg, ← Int.mul_assoc, ← Int.mul_assoc, Int.mul_comm (x * m) y, Int.mul_comm x m, Int.mul_assoc y m x]
      omega
  · rw [mix_colop hj h.orw]
    have uat : ∀ p q, q < k → (unit k p).getD q 0 = if q = p then 1 else 0 := fun p q hq => unit_at hq
    by_cases hci : c = i
    · subst hci
      rw [List.getElem?_set_self (by rw [h.dl]; exact hi)] at hc
      have hc := Option.some.inj hc
      subst hc
      have e : mix k (sub Di (smul m Dj)) O = sub (unit k c) (smul m (unit k j)) := by
        rw [← di, ← dj, ← mix_smul m h.orw]
        refine ext_row (mix_len h.orw) (sub_len (mix_len h.orw) (mix_len h.orw)) fun q hq => ?_
        rw [sub_at (mix_len h.orw) (mix_len h.orw)]
        exact mix_csub (by rw [li, h.ol]) (by rw [lms, h.ol]) h.orw q
      rw [e]
      have lu := unit_len k c
      have lv : (smul m (unit k j)).length = k := by rw [smul_len, unit_len]
      have ls := sub_len lu lv
      refine ext_row (by rw [colop_len]; exact ls) lu fun q hq => ?_
      rw [colop_at (by omega), sub_at lu lv, sub_at lu lv, sub_at lu lv, Mx.smul_at, Mx.smul_at, Mx.smul_at, uat _ _ hj, uat _ _ hj, uat _ _ hi, uat _ _ hi, uat _ _ hq, uat _ _ hq]
      by_cases q1 : q = j
      · subst q1
        have q2 : ¬ q = c := fun h => hij h.symm
        simp [q2, hij]
        omega
      · simp [q1]
    · rw [List.getElem?_set_ne (by omega)] at hc
      rw [h.dd c r hc]
      refine ext_row (k := k) (by rw [colop_len, unit_len]) (unit_len k c) fun q hq => ?_
      rw [colop_at (by rw [unit_len]; exact hj), uat _ _ hj, uat _ _ hi, uat _ _ hq]
      have : ¬ i = c := fun h => hci h.symm
      by_cases q1 : q = j
      · subst q1
        simp [this]
      · simp [q1]
/-! the swaps made -/
/-- what the swaps make is what the sizes divide, seen through the dials -/
def Made (k : Nat) (S : List Int) (D W : List Row) : Prop := ∀ v : Row, v.length = k → (Lat k W v ↔ ∀ j, j < k → S.getD j 0 ∣ (mix k v D).getD j 0)
theorem lat_mix_of {k : Nat} {W : List Row} : ∀ {cs : List Int} {O : List Row}, (∀ (j : Nat) (c : Int) (r : Row), cs[j]? = some c → O[j]? = some r → Lat k W (smul c r)) → Lat k W (mix k cs O)
  | [], O, _ => by cases O <;> exact .zer
  | c :: cs, [], _ => .zer
  | c :: cs, r :: O, h => .add (h 0 c r rfl rfl) (lat_mix_of fun j c r hc hr => h (j + 1) c r hc hr)
theorem Uni.back {k : Nat} {O D : List Row} (h : Uni k O D) {v : Row} (hv : v.length = k) : mix k (mix k v D) O = v := by
  rw [mix_mix h.orw h.ol h.drw]
  have e : (D.map fun a => mix k a O) = (List.range k).map (unit k) := List.ext_getElem? fun i => by
    rw [List.getElem?_map, List.getElem?_map]
    cases hh : D[i]? with
    | none =>
      have : D.length ≤ i := List.getElem?_eq_none_iff.mp hh
      rw [List.getElem?_eq_none (by rw [List.length_range]; have := h.dl; omega)]
      rfl
    | some r =>
      have hi := (List.getElem?_eq_some_iff.mp hh).1
      rw [List.getElem?_range (by have := h.dl; omega)]
      exact congrArg some (h.dd i r hh)
  rw [e]
  refine ext_row (mix_len fun r hr => ?_) hv fun q hq => ?_
  · obtain ⟨i, _, rfl⟩ := List.mem_map.mp hr
    exact unit_len k i
  · rw [mix_dot fun r hr => by
      obtain ⟨i, _, rfl⟩ := List.mem_map.mp hr
      exact unit_len k i]
    have hl : (((List.range k).map (unit k)).map fun r => r.getD q 0).length = k := by rw [List.length_map, List.length_map, List.length_range]
    have at' : ∀ p, p < k → (((List.range k).map (unit k)).map fun r => r.getD q 0).getD p 0 = if q = p then 1 else 0 := fun p hp => by
      rw [List.getD_eq_getElem?_getD, List.getElem?_map, List.getElem?_map, List.getElem?_range hp]
      exact unit_at hq
    rw [dot_one hv hl hq fun p hp hpq => by
      rw [at' p hp, if_neg (fun h => hpq h.symm), Int.mul_zero], at' q hq, if_pos rfl, Int.mul_one]
/-- the swaps of the sizes above 0 -/
theorem Uni.made {k : Nat} {O D : List Row} (h : Uni k O D) {S : List Int} (hS : S.length = k) {W : List Row} (hW : ∀ w ∈ W, ∃ (j : Nat) (r : Row), O[j]? = some r ∧ w = smul (S.getD j 0) r) (hW2 : ∀ (j : Nat) (r : Row), O[j]? = some r → S.getD j 0 ≠ 0 → smul (S.getD j 0) r ∈ W) : Made k S D W := by
  intro v hv
  have hWl : ∀ w ∈ W, w.length = k := fun w hw => by
    obtain ⟨j, r, hr, rfl⟩ := hW w hw
    rw [smul_len]
    exact h.orw r (List.mem_of_getElem? hr)
  constructor
  · intro l
    clear hv
    induction l with
    | zer =>
      intro j hj
      have e : mix k (zer k) D = zer k := mix_zer k h.drw
      rw [e, zer_at]
      exact ⟨0, by omega⟩
    | row hr =>
      intro q hq
      obtain ⟨j, r, hjr, rfl⟩ := hW _ hr
      have hj : j < k := by
        have := (List.getElem?_eq_some_iff.mp hjr).1
        have := h.ol
        omega
      rw [mix_smul _ h.drw, h.od j r hjr, Mx.smul_at, unit_at hq]
      split
      · rename_i e
        rw [e, Int.mul_one]
        exact Int.dvd_refl _
      · exact ⟨0, by omega⟩
    | add l1 l2 h1 h2 =>
      intro q hq
      have a1 := l1.len hWl
      have a2 := l2.len hWl
      rw [mix_add (by rw [a1, h.dl]) (by rw [a2, h.dl]) h.drw, add_at (mix_len h.drw) (mix_len h.drw)]
      exact Int.dvd_add (h1 q hq) (h2 q hq)
    | smul c l1 h1 =>
      intro q hq
      rw [mix_smul _ h.drw, Mx.smul_at]
      exact Int.dvd_mul_of_dvd_right (h1 q hq)
  · intro hd
    rw [← h.back hv]
    have hcl := mix_len (cs := v) h.drw
    generalize mix k v D = cs at *
    refine lat_mix_of fun j c r hc hr => ?_
    have hj : j < k := by
      have := (List.getElem?_eq_some_iff.mp hc).1
      omega
    obtain ⟨t, ht⟩ := hd j hj
    have hcc : cs.getD j 0 = c := getD_some hc
    rw [hcc] at ht
    by_cases h0 : S.getD j 0 = 0
    · rw [h0, Int.zero_mul] at ht
      subst ht
      have e : smul 0 r = zer k := ext_row (by rw [smul_len]; exact h.orw r (List.mem_of_getElem? hr)) (zer_len k) fun i _ => by rw [Mx.smul_at, zer_at, Int.zero_mul]
      rw [e]
      exact .zer
    · have e : smul c r = smul t (smul (S.getD j 0) r) := by
        unfold smul
        rw [List.map_map, ht]
        apply List.map_congr_left
        intro x _
        show S.getD j 0 * t * x = t * (S.getD j 0 * x)
        rw [Int.mul_comm (S.getD j 0) t, Int.mul_assoc]
      rw [e]
      exact .smul t (.row (hW2 j r hr h0))
theorem Made.eqv {k : Nat} {S : List Int} {D W W' : List Row} (h : Made k S D W) (he : Eqv k W W') : Made k S D W' := fun v hv => (he v).symm.trans (h v hv)
/-- one row and some of another -/
theorem eqv_turn {k a b : Nat} {W : List Row} {m : Int} {x y : Row} (hl : ∀ r ∈ W, r.length = k) (ha : W[a]? = some x) (hb : W[b]? = some y) (hab : a ≠ b) : Eqv k W (W.set a (add x (smul m y))) := by
  have hal := (List.getElem?_eq_some_iff.mp ha).1
  have hx := hl x (List.mem_of_getElem? ha)
  have hy := hl y (List.mem_of_getElem? hb)
  have hys : (smul m y).length = k := by rw [smul_len]; exact hy
  have hb' : (W.set a (add x (smul m y)))[b]? = some y := by rw [List.getElem?_set_ne hab]; exact hb
  have ha' : (W.set a (add x (smul m y)))[a]? = some (add x (smul m y)) := by rw [List.getElem?_set_self hal]
  refine eqv_of (fun r hr => ?_) fun r hr => ?_
  · obtain ⟨i, hi⟩ := List.getElem?_of_mem hr
    by_cases h : i = a
    · subst h
      rw [ha] at hi
      cases hi
      have e : x = add (add x (smul m y)) (smul (-m) y) := ext_row hx (add_len (add_len hx hys) (by rw [smul_len]; exact hy)) fun q _ => by
        rw [add_at (add_len hx hys) (by rw [smul_len]; exact hy), add_at hx hys, Mx.smul_at, Mx.smul_at, Int.neg_mul]
        omega
      have l : Lat k (W.set i (add x (smul m y))) (add (add x (smul m y)) (smul (-m) y)) := .add (.row (List.mem_of_getElem? ha')) (.smul _ (.row (List.mem_of_getElem? hb')))
      rw [← e] at l
      exact l
    · exact .row (List.mem_of_getElem? (i := i) (by rw [List.getElem?_set_ne (fun q => h q.symm)]; exact hi))
  · rcases List.mem_or_eq_of_mem_set hr with q | rfl
    · exact .row q
    · exact .add (.row (List.mem_of_getElem? ha)) (.smul _ (.row (List.mem_of_getElem? hb)))
theorem eqv_more {k : Nat} {W Y : List Row} (h : ∀ y ∈ Y, Lat k W y) : Eqv k W (W ++ Y) := eqv_of (fun r hr => .row (List.mem_append.mpr (.inl hr))) fun r hr => by
  rcases List.mem_append.mp hr with q | q
  · exact .row q
  · exact h r q
/-- all swaps and all sizes so many times -/
theorem Made.by {k : Nat} {S : List Int} {D W : List Row} (h : Made k S D W) (hS : S.length = k) (hD : ∀ r ∈ D, r.length = k) (hDl : D.length = k) (hW : ∀ r ∈ W, r.length = k) (hu : ∀ v : Row, v.length = k → ∀ m : Int, m ≠ 0 → (∀ j, j < k → m ∣ (mix k v D).getD j 0) → ∃ u : Row, u.length = k ∧ v = smul m u) {m : Int} (hm : m ≠ 0) : Made k (S.map (m * ·)) D (W.map (smul m)) := by
  intro v hv
  have hWl : ∀ w ∈ W.map (smul m), w.length = k := fun w hw => by
    obtain ⟨r, hr, rfl⟩ := List.mem_map.mp hw
    rw [smul_len]
    exact hW r hr
  have hSat : ∀ j, j < k → (S.map (m * ·)).getD j 0 = m * S.getD j 0 := fun j _ => Mx.smul_at m S j
  have up : ∀ u, Lat k W u → Lat k (W.map (smul m)) (smul m u) := fun u l => by
    induction l with
    | zer =>
      have e : smul m (zer k) = zer k := ext_row (by rw [smul_len, zer_len]) (zer_len k) fun i _ => by rw [Mx.smul_at, zer_at, Int.mul_zero]
      rw [e]
      exact .zer
    | row hr => exact .row (List.mem_map_of_mem hr)
    | add l1 l2 h1 h2 =>
      rename_i a b
      have e : smul m (add a b) = add (smul m a) (smul m b) := ext_row (k := k) (by rw [smul_len]; exact add_len (l1.len hW) (l2.len hW)) (add_len (by rw [smul_len]; exact l1.len hW) (by rw [smul_len]; exact l2.len hW)) fun i _ => by
        rw [Mx.smul_at, add_at (k := k) (l1.len hW) (l2.len hW), add_at (k := k) (by rw [smul_len]; exact l1.len hW) (by rw [smul_len]; exact l2.len hW), Mx.smul_at, Mx.smul_at, Int.mul_add]
      rw [e]
      exact .add h1 h2
    | smul c l1 h1 =>
      rename_i a
      have e : smul m (smul c a) = smul c (smul m a) := by
        unfold smul
        rw [List.map_map, List.map_map]
        apply List.map_congr_left
        intro x _
        show m * (c * x) = c * (m * x)
        rw [Int.mul_left_comm]
      rw [e]
      exact .smul c h1
  have dn : ∀ u, Lat k (W.map (smul m)) u → ∃ w, Lat k W w ∧ u = smul m w := fun u l => by
    induction l with
    | zer => exact ⟨zer k, .zer, (ext_row (by rw [smul_len, zer_len]) (zer_len k) fun i _ => by rw [Mx.smul_at, zer_at, Int.mul_zero]).symm⟩
    | row hr =>
      obtain ⟨r, hr', rfl⟩ := List.mem_map.mp hr
      exact ⟨r, .row hr', rfl⟩
    | add l1 l2 h1 h2 =>
      obtain ⟨a, ha, rfl⟩ := h1
      obtain ⟨b, hb, rfl⟩ := h2
      refine ⟨add a b, .add ha hb, (ext_row (k := k) (by rw [smul_len]; exact add_len (ha.len hW) (hb.len hW)) (add_len (by rw [smul_len]; exact ha.len hW) (by rw [smul_len]; exact hb.len hW)) fun i _ => ?_).symm⟩
      rw [Mx.smul_at, add_at (k := k) (ha.len hW) (hb.len hW), add_at (k := k) (by rw [smul_len]; exact ha.len hW) (by rw [smul_len]; exact hb.len hW), Mx.smul_at, Mx.smul_at, Int.mul_add]
    | smul c l1 h1 =>
      obtain ⟨a, ha, rfl⟩ := h1
      refine ⟨smul c a, .smul c ha, ?_⟩
      unfold smul
      rw [List.map_map, List.map_map]
      apply List.map_congr_left
      intro x _
      show c * (m * x) = m * (c * x)
      rw [Int.mul_left_comm]
  constructor
  · intro l j hj
    obtain ⟨w, hw, rfl⟩ := dn v l
    rw [hSat j hj, mix_smul _ hD, Mx.smul_at]
    exact Int.mul_dvd_mul_left m ((h w (hw.len hW)).mp hw j hj)
  · intro hd
    obtain ⟨u, hul, rfl⟩ := hu v hv m hm fun j hj => by
      have := hd j hj
      rw [hSat j hj] at this
      exact Int.dvd_trans ⟨S.getD j 0, rfl⟩ this
    refine up u ((h u hul).mpr fun j hj => ?_)
    have := hd j hj
    rw [hSat j hj, mix_smul _ hD, Mx.smul_at] at this
    exact Int.dvd_of_mul_dvd_mul_left hm this
end Hn

namespace Sr
open PySem PySem.Spec PyProof.Rows L2
abbrev rqN : R2 := fun x y H Q => y = .non ∧ Q (.bl (decide (x = .non))) H
abbrev rqnN : R2 := fun x y H Q => y = .non ∧ Q (.bl (!decide (x = .non))) H
/-! ### is None, is not None -/
def isN : T → Bool
  | .non => true
  | _ => false
def tIsN : T → T → Option O
  | x, .non => some (.v (.bl (isN x)))
  | _, _ => none
def tIsnN : T → T → Option O
  | x, .non => some (.v (.bl (!isN x)))
  | _, _ => none
@[simp] theorem tIsN_non : tIsN .non .non = some (.v (.bl true)) := rfl
@[simp] theorem tIsN_int (i : Int) : tIsN (.int i) .non = some (.v (.bl false)) := rfl
@[simp] theorem tIsnN_non : tIsnN .non .non = some (.v (.bl false)) := rfl
@[simp] theorem tIsnN_int (i : Int) : tIsnN (.int i) .non = some (.v (.bl true)) := rfl
section
variable {C : Ct}
theorem isN_rep {F H : Hp} {φ : List Addr} {v : V} {x : T} (r : Rep1 C.K F H φ v x) : isN x = decide (v = .non) := by
  rcases r with r | ⟨_, _, _, _, h, h2⟩
  · cases r <;> simp [isN]
  · subst h
    rename_i hv
    subst hv
    simp [isN]
theorem os_isN : OpS C rqN tIsN := by
  intro F H φ vx x vy y z Q ex rx ry hz q
  unfold tIsN at hz
  split at hz
  · cases hz
    rcases ry with ry | ⟨_, _, _, _, h, _⟩
    · cases ry
      refine ⟨rfl, ?_⟩
      rw [← isN_rep rx]
      exact q _ .bl
    · cases h
  · cases hz
theorem os_isnN : OpS C rqnN tIsnN := by
  intro F H φ vx x vy y z Q ex rx ry hz q
  unfold tIsnN at hz
  split at hz
  · cases hz
    rcases ry with ry | ⟨_, _, _, _, h, _⟩
    · cases ry
      refine ⟨rfl, ?_⟩
      rw [← isN_rep rx]
      exact q _ .bl
    · cases h
  · cases hz
end
section
variable {X : Cx} {K : PySem.W.Frag} {cls : Nat → Value} {W : WX} {a b c e : Expr} {ta tb : TE} {da db : EM} {pos : Pos}
theorem xisN (ha : XE X K cls W a ta da) (hb : XE X K cls W b tb db) : XE X K cls W (.Compare a [.Is] [b] pos) (tOp rqN ta tb) (dOp false tIsN da db) := by
  cases ha.k
  exact ⟨pe_cmpR op_isN ha.p hb.p (nomark _), se_op os_isN ha.s hb.s, rfl⟩
theorem xisnN (ha : XE X K cls W a ta da) (hb : XE X K cls W b tb db) : XE X K cls W (.Compare a [.IsNot] [b] pos) (tOp rqnN ta tb) (dOp false tIsnN da db) := by
  cases ha.k
  exact ⟨pe_cmpR op_notN ha.p hb.p (nomark _), se_op os_isnN ha.s hb.s, rfl⟩
theorem yisN (ha : XE X K cls W a ta da) (hb : XE X K cls W b tb db) : XT X K cls W (.Compare a [.Is] [b] pos) (tTest (tOp rqN ta tb)) (dTest (dOp false tIsN da db)) := by
  cases ha.k
  exact ⟨pt_cmpR op_isN ha.p hb.p (nomark _), st_test (se_op os_isN ha.s hb.s), rfl⟩
theorem yisnN (ha : XE X K cls W a ta da) (hb : XE X K cls W b tb db) : XT X K cls W (.Compare a [.IsNot] [b] pos) (tTest (tOp rqnN ta tb)) (dTest (dOp false tIsnN da db)) := by
  cases ha.k
  exact ⟨pt_cmpR op_notN ha.p hb.p (nomark _), st_test (se_op os_isnN ha.s hb.s), rfl⟩
end
end Sr

namespace Sr
open PySem PySem.Spec PyProof.Rows L2
/-! ### texts and tuples compared -/
theorem okN_str (n : Nat) {x : Str} (h : PyData.strOk x = true) : okN (n + 1) (.str x) := ⟨rfl, by simp [toD, PyData.canLay0, h], by simp [toD, PyData.depth]⟩
theorem tEq_str {a b : Str} (ha : PyData.strOk a = true) (hb : PyData.strOk b = true) : tEq (.str a) (.str b) = some (.v (.bl (a == b))) := by
  unfold tEq
  rw [if_pos ⟨(okN_str 0 ha).ok (by omega), (okN_str 0 hb).ok (by omega)⟩]
  simp [toD, PyData.eqv]
theorem tNe_str {a b : Str} (ha : PyData.strOk a = true) (hb : PyData.strOk b = true) : tNe (.str a) (.str b) = some (.v (.bl (!(a == b)))) := by
  unfold tNe
  rw [if_pos ⟨(okN_str 0 ha).ok (by omega), (okN_str 0 hb).ok (by omega)⟩]
  simp [toD, PyData.eqv]
@[simp] theorem dRs_str (f : T → T → Option O) (a b : Str) (e : En) (s : Sto) : dRs f (.str a) (.str b) e s = lift false (f (.str a) (.str b)) e s := dRs_of (rs_str ..) (rs_str ..)
@[simp] theorem isStr_str (x : Str) : isB "str" (.str x) = some (.v (.bl true)) := by
  simp only [isB, tyN, show kitB "str" "str" = some true by decide +kernel, Option.map_some]
@[simp] theorem isBool_bl (b : Bool) : isB "bool" (.bl b) = some (.v (.bl true)) := by
  simp only [isB, tyN, show kitB "bool" "bool" = some true by decide +kernel, Option.map_some]
theorem tEq_bl (a b : Bool) : tEq (.bl a) (.bl b) = some (.v (.bl (a == b))) := by
  unfold tEq
  rw [if_pos ⟨(okN_bl 0 a).ok (by omega), (okN_bl 0 b).ok (by omega)⟩]
  cases a <;> cases b <;> rfl
@[simp] theorem dRs_bl (f : T → T → Option O) (a b : Bool) (e : En) (s : Sto) : dRs f (.bl a) (.bl b) e s = lift false (f (.bl a) (.bl b)) e s := dRs_of (rs_bl ..) (rs_bl ..)
/-- a mart -/
abbrev eK (k : Nat) (R : List (List Int)) : T := .tup [.int (k : Nat), eM R]
theorem okN_mart (n k : Nat) (R : List (List Int)) : okN (n + 4) (eK k R) := okN_tup fun x hx => by
  rcases List.mem_cons.mp hx with rfl | hx
  · exact okN_int _ _
  · rw [List.mem_singleton.mp hx]
    exact okN_rows n R
theorem itr_mart (k : Nat) (R : List (List Int)) : itr (eK k R) = true := itrs_of fun x hx => by
  rcases List.mem_cons.mp hx with rfl | hx
  · rfl
  · rw [List.mem_singleton.mp hx]
    exact itr_rows R
theorem rs_mart (n b k : Nat) (s : Sto) (R : List (List Int)) : rs (n + 4) b s (eK k R) = some (eK k R) := by
  rw [rs_tup, mapO_cons, rs_int, mapO_cons, rs_rows, mapO_nil]
  rfl
theorem tNe_mart (k : Nat) (R : List (List Int)) : tNe (eK k R) (eK k R) = some (.v (.bl false)) := tNe_of (b := true) ((okN_mart 0 k R).ok (by omega)) ((okN_mart 0 k R).ok (by omega)) (itr_mart k R) (itr_mart k R) (by simp)
theorem dNe_mart (k : Nat) (R : List (List Int)) (e : En) (s : Sto) : dRs tNe (eK k R) (eK k R) e s = .ok (.bl false) e s := by
  rw [dRs_of (rs_mart ..) (rs_mart ..), tNe_mart]
  rfl
end Sr

namespace Sr
open PySem PySem.Spec PyProof.Rows L2
/-! ### a block's runs step by step; loops that look for something -/
def seqK (b : SM) : R Fl → R Fl
  | .ok .nx e s => b e s
  | x => x
theorem seq_run {a b : SM} {e : En} {s : Sto} {x y : R Fl} (h : a e s = x) (k : seqK b x = y) : dSeq a b e s = y := by
  subst h
  rw [← k]
  unfold dSeq M.bind
  cases a e s with
  | ok f e1 s1 => cases f <;> rfl
  | ex c e1 s1 => rfl
  | bad => rfl
/-- what a law's body comes to -/
def Tru : R Fl → Prop
  | .ok (.rt (.bl true)) _ _ => True
  | _ => False
@[simp] theorem tru_bl (b : Bool) (e : En) (s : Sto) : Tru (.ok (.rt (.bl b)) e s) = (b = true) := by
  cases b
  · show False = _
    simp
  · show True = _
    simp
theorem tru_run {a b : SM} {e : En} {s : Sto} {x : R Fl} (h : a e s = x) (k : Tru (seqK b x)) : Tru (dSeq a b e s) := by
  rw [seq_run h rfl]
  exact k
def Gv (f : Fl) (s' : Sto) (x : R Fl) : Prop := ∃ e : En, x = .ok f e s'
theorem Gv.ok {f : Fl} {s' : Sto} (e : En) : Gv f s' (.ok f e s') := ⟨e, rfl⟩
theorem gv_run {a b : SM} {e : En} {s s' : Sto} {x : R Fl} {f : Fl} (h : a e s = x) (k : Gv f s' (seqK b x)) : Gv f s' (dSeq a b e s) := by
  rw [seq_run h rfl]
  exact k
def Nx (I : En → Sto → Prop) (x : R Fl) : Prop := ∃ (e : En) (s : Sto), x = .ok .nx e s ∧ I e s
theorem nx_run {a b : SM} {e : En} {s : Sto} {x : R Fl} {I : En → Sto → Prop} (h : a e s = x) (k : Nx I (seqK b x)) : Nx I (dSeq a b e s) := by
  rw [seq_run h rfl]
  exact k
theorem nx_last {a : SM} {e : En} {s : Sto} {x : R Fl} {I : En → Sto → Prop} (h : a e s = x) (k : Nx I x) : Nx I (a e s) := by
  rw [h]
  exact k
theorem law_tru {n : Nat} {d : SM} {ts : List T} (h : Tru (d (ini n ts) [])) : dFn n d ts [] = .ok (.bl true) [] := by
  refine law_end ?_
  unfold Tru at h
  split at h
  · rename_i e s hh
    exact ⟨e, s, hh⟩
  · exact h.elim
/-- a for loop whose turns go on, break, or give something out -/
theorem forL_srch {ks : Ks} {g : GM} {b : SM} (I : Nat → En → Sto → Prop) (J : En → Sto → Prop) (P : Nat → Prop) (Q : Nat → T → En → Sto → Prop) : ∀ (xs : List T) (n : Nat) {e : En} {s : Sto}, I n e s → (∀ i e s, I i e s → kp ks s) →
    (∀ i x e s, xs[i]? = some x → I (n + i) e s → (∃ e1 s1, (M.bind (g x) fun _ => b) e s = .ok .nx e1 s1 ∧ I (n + i + 1) e1 s1 ∧ P (n + i)) ∨ (∃ e1 s1, (M.bind (g x) fun _ => b) e s = .ok .bk e1 s1 ∧ J e1 s1) ∨ ∃ r e1 s1, (M.bind (g x) fun _ => b) e s = .ok (.rt r) e1 s1 ∧ Q (n + i) r e1 s1) →
    (∃ e' s', forL ks g b xs e s = .ok .nx e' s' ∧ I (n + xs.length) e' s' ∧ ∀ i, i < xs.length → P (n + i)) ∨ (∃ e' s', forL ks g b xs e s = .ok .nx e' s' ∧ J e' s') ∨ ∃ a r e' s', a < xs.length ∧ forL ks g b xs e s = .ok (.rt r) e' s' ∧ Q (n + a) r e' s' ∧ ∀ i, i < a → P (n + i)
  | [], n, e, s, h0, hk, _ => .inl ⟨e, s, forL_nilk (hk _ _ _ h0), h0, fun i hi => absurd hi (Nat.not_lt_zero _)⟩
  | x :: xs, n, e, s, h0, hk, hs => by
    have key : ∀ {f : Fl} {e1 : En} {s1 : Sto}, (M.bind (g x) fun _ => b) e s = .ok f e1 s1 → forL ks g b (x :: xs) e s = loopF (forL ks g b xs) f e1 s1 := fun {f e1 s1} h1 => by
      rw [forL_consk (hk _ _ _ h0)]
      unfold M.bind at h1 ⊢
      cases hg : g x e s with
      | ok u e3 s3 =>
        rw [hg] at h1
        dsimp only at h1 ⊢
        rw [h1]
      | ex c e3 s3 => rw [hg] at h1; cases h1
      | bad => rw [hg] at h1; cases h1
    rcases hs 0 x e s rfl h0 with ⟨e1, s1, h1, h2, h3⟩ | ⟨e1, s1, h1, h2⟩ | ⟨r, e1, s1, h1, h2⟩
    · rcases forL_srch I J P Q xs (n + 1) h2 hk (fun i y e s hy hi => by
        have e1 : n + 1 + i = n + (i + 1) := by omega
        rw [e1] at hi ⊢
        exact hs (i + 1) y e s hy hi) with ⟨e2, s2, g1, g2, g3⟩ | ⟨e2, s2, g1, g2⟩ | ⟨a, r, e2, s2, g0, g1, g2, g3⟩
      · refine .inl ⟨e2, s2, by rw [key h1]; exact g1, by rw [List.length_cons, show n + (xs.length + 1) = n + 1 + xs.length by omega]; exact g2, fun i hi => ?_⟩
        cases i with
        | zero => exact h3
        | succ i =>
          have := g3 i (by simpa using hi)
          rwa [show n + 1 + i = n + (i + 1) by omega] at this
      · exact .inr (.inl ⟨e2, s2, by rw [key h1]; exact g1, g2⟩)
      · refine .inr (.inr ⟨a + 1, r, e2, s2, by simpa using g0, by rw [key h1]; exact g1, by rw [show n + (a + 1) = n + 1 + a by omega]; exact g2, fun i hi => ?_⟩)
        cases i with
        | zero => exact h3
        | succ i =>
          have := g3 i (by omega)
          rwa [show n + 1 + i = n + (i + 1) by omega] at this
    · exact .inr (.inl ⟨e1, s1, by rw [key h1]; rfl, h2⟩)
    · exact .inr (.inr ⟨0, r, e1, s1, by simp, by rw [key h1]; rfl, h2, fun i hi => absurd hi (Nat.not_lt_zero _)⟩)
/-- a comprehension whose turns change the store -/
theorem lc_inv {ks : Ks} {own : List Nat} {g : GM} {el : EM} {e0 : En} (I : Nat → Sto → Prop) (Q : Nat → T → Prop) : ∀ (xs : List T) (n : Nat) {acc : List T} {s : Sto}, I n s → (∀ i s, I i s → kp ks s) → acc.length + xs.length ≤ 16777216 →
    (∀ i x s, xs[i]? = some x → I (n + i) s → ∃ y e1 e2 s', g x e0 s = .ok () e1 s ∧ el e1 s = .ok y e2 s' ∧ wipeE e2 own = e0 ∧ I (n + i + 1) s' ∧ Q (n + i) y) →
    ∃ ys s', lcL ks own g dYes el xs acc e0 s = .ok (acc ++ ys) e0 s' ∧ I (n + xs.length) s' ∧ ys.length = xs.length ∧ ∀ i y, ys[i]? = some y → Q (n + i) y
  | [], n, acc, s, h0, hk, _, _ => ⟨[], s, by rw [lcL_nilk (hk _ _ h0), List.append_nil], h0, rfl, fun i y h => by cases h⟩
  | x :: xs, n, acc, s, h0, hk, hl, h => by
    obtain ⟨y, e1, e2, s1, h1, h2, h3, h4, h5⟩ := h 0 x s rfl h0
    simp only [List.length_cons] at hl
    obtain ⟨ys, s', g1, g2, g3, g4⟩ := lc_inv I Q xs (n + 1) (acc := acc ++ [y]) h4 hk (by rw [List.length_append, List.length_singleton]; omega) fun i x s hx hi => by
      have e1 : n + 1 + i = n + (i + 1) := by omega
      rw [e1] at hi ⊢
      exact h (i + 1) x s hx hi
    refine ⟨y :: ys, s', ?_, by rw [List.length_cons, show n + (xs.length + 1) = n + 1 + xs.length by omega]; exact g2, by rw [List.length_cons, List.length_cons, g3], fun i z hz => ?_⟩
    · rw [lcL_consk (hk _ _ h0), bind_ok h1]
      show (M.bind dYes _) e1 s = _
      rw [bind_ok (show dYes e1 s = .ok true e1 s from rfl)]
      rw [if_pos rfl, bind_ok h2, if_pos (lenOk_mk (by omega)), h3, g1, List.append_assoc]
      rfl
    · cases i with
      | zero =>
        cases hz
        exact h5
      | succ i =>
        have := g4 i z hz
        rwa [show n + 1 + i = n + (i + 1) by omega] at this
/-- the ints that are told -/
theorem ints_of {P : Nat → Int → Prop} : ∀ {ys : List T} {n : Nat}, (∀ i y, ys[i]? = some y → ∃ a : Int, y = .int a ∧ P (n + i) a) → ∃ xs : List Int, ys = xs.map .int ∧ ∀ i a, xs[i]? = some a → P (n + i) a
  | [], n, _ => ⟨[], rfl, fun i a h => by cases h⟩
  | y :: ys, n, h => by
    obtain ⟨a, h1, h2⟩ := h 0 y rfl
    obtain ⟨xs, h3, h4⟩ := ints_of (ys := ys) (n := n + 1) fun i z hz => by
      obtain ⟨b, h5, h6⟩ := h (i + 1) z hz
      exact ⟨b, h5, by rwa [show n + 1 + i = n + (i + 1) by omega]⟩
    refine ⟨a :: xs, by rw [h1, h3]; rfl, fun i b hb => ?_⟩
    cases i with
    | zero =>
      cases hb
      exact h2
    | succ i =>
      have := h4 i b hb
      rwa [show n + 1 + i = n + (i + 1) by omega] at this
theorem rows_of' {P : Nat → Mx.Row → Prop} : ∀ {ys : List T} {n : Nat}, (∀ i y, ys[i]? = some y → ∃ a : Mx.Row, y = eL a ∧ P (n + i) a) → ∃ xs : List Mx.Row, ys = xs.map eL ∧ ∀ i a, xs[i]? = some a → P (n + i) a
  | [], n, _ => ⟨[], rfl, fun i a h => by cases h⟩
  | y :: ys, n, h => by
    obtain ⟨a, h1, h2⟩ := h 0 y rfl
    obtain ⟨xs, h3, h4⟩ := rows_of' (ys := ys) (n := n + 1) fun i z hz => by
      obtain ⟨b, h5, h6⟩ := h (i + 1) z hz
      exact ⟨b, h5, by rwa [show n + 1 + i = n + (i + 1) by omega]⟩
    refine ⟨a :: xs, by rw [h1, h3]; rfl, fun i b hb => ?_⟩
    cases i with
    | zero =>
      cases hb
      exact h2
    | succ i =>
      have := h4 i b hb
      rwa [show n + 1 + i = n + (i + 1) by omega] at this
/-! ### a store that grows, but for one cell -/
structure Gr (o : Nat) (S S' : Sto) : Prop where
  le : S.length ≤ S'.length
  at' : ∀ (j : Nat) (c : Cell), j ≠ o → S[j]? = some c → S'[j]? = some c
theorem Gr.refl (o : Nat) (S : Sto) : Gr o S S := ⟨Nat.le_refl _, fun _ _ _ h => h⟩
theorem Gr.trans {o : Nat} {A B C : Sto} (h : Gr o A B) (k : Gr o B C) : Gr o A C := ⟨Nat.le_trans h.le k.le, fun j c n e => k.at' j c n (h.at' j c n e)⟩
theorem Gr.set (o : Nat) (S : Sto) (c : Cell) : Gr o S (S.set o c) := ⟨by rw [List.length_set]; exact Nat.le_refl _, fun j d n e => by rw [List.getElem?_set_ne (Ne.symm n)]; exact e⟩
theorem Gr.app (o : Nat) (S l : Sto) : Gr o S (S ++ l) := ⟨by rw [List.length_append]; omega, fun j d n e => by
  rcases Nat.lt_or_ge j S.length with q | q
  · rw [List.getElem?_append_left q]
    exact e
  · rw [List.getElem?_eq_none q] at e
    cases e⟩
/-- a tree of rows, or a cell of such, not the one that changes -/
def Rt (o : Nat) (S : Sto) (a : T) (R : List Mx.Row) : Prop := a = eM R ∨ ∃ j, a = .ref j ∧ j ≠ o ∧ S[j]? = some (.l (R.map eL))
theorem Rt.up {o : Nat} {S S' : Sto} {a : T} {R : List Mx.Row} (h : Rt o S a R) (g : Gr o S S') : Rt o S' a R := by
  rcases h with h | ⟨j, h1, h2, h3⟩
  · exact .inl h
  · exact .inr ⟨j, h1, h2, g.at' j _ h2 h3⟩
theorem Rt.rws {o : Nat} {S : Sto} {a : T} {R : List Mx.Row} (h : Rt o S a R) : Rws S a (R.map eL) R := by
  rcases h with rfl | ⟨j, rfl, h2, h3⟩
  · exact Rws.lst S R
  · exact ⟨by simp [h3], List.length_map _, fun i t r h1 h2 => by
      rw [List.getElem?_map, h2] at h1
      cases h1
      exact .lst S r⟩
theorem tNe_scr (ns : List Int) : tNe (.scr ns) (.lst []) = some (.v (.bl (decide (ns ≠ [])))) := by
  unfold tNe
  have h1 : okN 2 (.scr ns) := by
    have h := okN_ints 0 ns
    refine ⟨rfl, ?_, ?_⟩
    · have := h.2.1
      simp only [toD, toDs_map, List.map_map] at this
      simp only [toD]
      exact this
    · have := h.2.2
      simp only [toD, toDs_map, List.map_map] at this
      simp only [toD]
      exact this
  rw [if_pos ⟨h1.ok (by omega), (okN_ints 0 []).ok (by omega)⟩]
  cases ns with
  | nil => simp [toD, toDs, PyData.eqv, PyData.eqvAll]
  | cons n ns => simp [toD, toDs, PyData.eqv, PyData.eqvAll]
end Sr

/-! how many lie beside: leads multiplied -/
namespace Hn
open Mx
def lp : List Row → Int
  | [] => 1
  | r :: F => ld r * lp F
theorem lp_pos {k : Nat} : ∀ {F : List Row}, Up k F → 0 < lp F
  | [], _ => by unfold lp; omega
  | r :: F, h => by
    unfold lp
    exact Int.mul_pos (h.pos r (List.mem_cons_self ..)) (lp_pos h.tail)
theorem bez : ∀ (n m : Nat), ∃ a b : Int, a * (n : Int) + b * (m : Int) = (Nat.gcd n m : Nat) := by
  intro n m
  induction n, m using Nat.gcd.induction with
  | H0 n => exact ⟨0, 1, by simp⟩
  | H1 m n hm ih =>
    obtain ⟨a, b, h⟩ := ih
    refine ⟨b - a * ((n / m : Nat) : Int), a, ?_⟩
    rw [Nat.gcd_rec, ← h]
    have e : (n : Int) = (m : Int) * ((n / m : Nat) : Int) + ((n % m : Nat) : Int) := by
      have := Nat.div_add_mod n m
      omega
    generalize ((n / m : Nat) : Int) = q at *
    generalize ((n % m : Nat) : Int) = r at *
    rw [e]
    simp only [Int.sub_mul, Int.mul_add]
    have h1 : a * ((m : Int) * q) = a * q * (m : Int) := by rw [Int.mul_comm (m : Int) q, ← Int.mul_assoc]
    omega
/-- l and x above it: what is shared, and the turn -/
theorem turn_of {l x : Int} (hl : 0 < l) : ∃ a b c d g : Int, 0 < g ∧ 0 < d ∧ a * l + b * x = g ∧ c * l + d * x = 0 ∧ a * d - b * c = 1 ∧ l = g * d := by
  obtain ⟨a, b, h⟩ := bez l.natAbs x.natAbs
  have hg : 0 < Nat.gcd l.natAbs x.natAbs := Nat.gcd_pos_of_pos_left _ (by omega)
  obtain ⟨d, hd⟩ := Nat.gcd_dvd_left l.natAbs x.natAbs
  obtain ⟨c, hc⟩ := Nat.gcd_dvd_right l.natAbs x.natAbs
  generalize Nat.gcd l.natAbs x.natAbs = g at *
  have hd0 : 0 < d := by
    rcases Nat.eq_zero_or_pos d with q | q
    · rw [q, Nat.mul_zero] at hd
      omega
    · exact q
  have el : l = (g : Int) * (d : Int) := by
    rw [← Int.natCast_mul, ← hd]
    omega
  have ex : ∃ e : Int, (e = 1 ∨ e = -1) ∧ x = e * ((g : Int) * (c : Int)) ∧ (x.natAbs : Int) = e * x := by
    rw [← Int.natCast_mul, ← hc]
    rcases Int.le_total 0 x with q | q
    · exact ⟨1, .inl rfl, by omega, by omega⟩
    · exact ⟨-1, .inr rfl, by omega, by omega⟩
  obtain ⟨e, e1, e2, e3⟩ := ex
  have el2 : ((l.natAbs : Nat) : Int) = l := by omega
  rw [el2, e3] at h
  have ee : e * e = 1 := by rcases e1 with rfl | rfl <;> rfl
  refine ⟨a, b * e, -(e * (c : Int)), d, g, by omega, by omega, by rw [Int.mul_assoc]; exact h, ?_, ?_, el⟩
  · rw [el, e2]
    have h1 : -(e * (c : Int)) * ((g : Int) * (d : Int)) = -((d : Int) * (e * ((g : Int) * (c : Int)))) := by
      rw [Int.neg_mul]
      congr 1
      simp only [Int.mul_assoc, Int.mul_comm, Int.mul_left_comm]
    rw [h1]
    omega
  · have h2 : (g : Int) * (a * (d : Int) - b * e * -(e * (c : Int))) = (g : Int) * 1 := by
      have h3 : (g : Int) * (a * (d : Int) - b * e * -(e * (c : Int))) = a * ((g : Int) * (d : Int)) + b * ((e * e) * ((g : Int) * (c : Int))) := by
        rw [Int.mul_neg, Int.sub_neg, Int.mul_add]
        simp only [Int.mul_assoc, Int.mul_comm, Int.mul_left_comm]
      rw [h3, ← el, ee, Int.one_mul, Int.mul_one]
      have h4 : e * x = (g : Int) * (c : Int) := by rw [e2, ← Int.mul_assoc, ee, Int.one_mul]
      rw [← h4]
      exact h
    exact Int.eq_of_mul_eq_mul_left (by omega) h2
/-- the leads hang on what is made alone -/
theorem same_leads {k : Nat} : ∀ {F G : List Row}, Up k F → Up k G → Eqv k F G → F.length = G.length ∧ lp F = lp G
  | [], [], _, _, _ => ⟨rfl, rfl⟩
  | [], s :: G, _, hg, he => by
    have := lat_nil ((he s).mpr (.row (List.mem_cons_self ..)))
    have hp := hg.plc s (List.mem_cons_self ..)
    rw [this, place_zer] at hp
    omega
  | r :: F, [], hf, _, he => by
    have := lat_nil ((he r).mp (.row (List.mem_cons_self ..)))
    have hp := hf.plc r (List.mem_cons_self ..)
    rw [this, place_zer] at hp
    omega
  | r :: F, s :: G, hf, hg, he => by
    have lr := (he r).mp (.row (List.mem_cons_self ..))
    have ls := (he s).mpr (.row (List.mem_cons_self ..))
    have pr := hf.pos r (List.mem_cons_self ..)
    have ps := hg.pos s (List.mem_cons_self ..)
    have hp : place r = place s := by
      rcases Nat.lt_trichotomy (place r) (place s) with q | q | q
      · have : ld r = 0 := hg.first lr q
        omega
      · exact q
      · have : ld s = 0 := hf.first ls q
        omega
    obtain ⟨c, c1, c2⟩ := hg.head_at lr
    obtain ⟨d, d1, d2⟩ := hf.head_at ls
    have hl : ld r = ld s := by
      have e1 : ld r = c * ld s := by rw [← c1, ← hp]
      have e2 : ld s = d * ld r := by rw [← d1, hp]
      have h1 : ld s ∣ ld r := ⟨c, by rw [e1, Int.mul_comm]⟩
      have h2 : ld r ∣ ld s := ⟨d, by rw [Int.mul_comm]; exact e2⟩
      exact Int.dvd_antisymm (by omega) (by omega) h2 h1
    have he2 : Eqv k F G := fun v => by
      constructor
      · intro l
        have h0 := lat_at0 (q := place r) hf.tail.len (fun x hx => ahead0 (hf.head x hx)) l
        obtain ⟨_, _, h2⟩ := hg.head_at ((he v).mp (l.mono fun x hx => List.mem_cons_of_mem _ hx))
        exact h2 (by rw [← hp]; exact h0)
      · intro l
        have h0 := lat_at0 (q := place s) hg.tail.len (fun x hx => ahead0 (hg.head x hx)) l
        obtain ⟨_, _, h2⟩ := hf.head_at ((he v).mpr (l.mono fun x hx => List.mem_cons_of_mem _ hx))
        exact h2 (by rw [hp]; exact h0)
    obtain ⟨i1, i2⟩ := same_leads hf.tail hg.tail he2
    exact ⟨by rw [List.length_cons, List.length_cons, i1], by unfold lp; rw [hl, i2]⟩
theorem smul_one {k : Nat} {p : Row} (hp : p.length = k) : Mx.smul 1 p = p := ext_row (k := k) (by rw [smul_len]; exact hp) hp fun i _ => by rw [smul_at, Int.one_mul]
theorem smul_zero {k : Nat} {p : Row} (hp : p.length = k) : Mx.smul 0 p = Mx.zer k := ext_row (k := k) (by rw [smul_len]; exact hp) (zer_len k) fun i _ => by rw [smul_at, Int.zero_mul, Hn.zer_at]
/-- one purse more: the stair, and how often it goes in -/
theorem step_one {k : Nat} : ∀ {F : List Row} {p : Row}, Up k F → p.length = k → ∃ (G : List Row) (s : Int), Up k G ∧ Eqv k G (p :: F) ∧ 0 ≤ s ∧ (∀ n : Int, Lat k F (Mx.smul n p) ↔ s ∣ n) ∧ (s ≠ 0 → G.length = F.length ∧ lp F = s * lp G) ∧ (s = 0 → G.length = F.length + 1) := by
  intro F
  induction F with
  | nil =>
    intro p hu hp
    rcases Nat.lt_or_ge (place p) k with hk | hk
    · have hne := ld_ne (r := p) (by omega)
      obtain ⟨m, hm, hm2⟩ : ∃ m : Int, (m = 1 ∨ m = -1) ∧ 0 < m * ld p := by
        rcases Int.lt_or_lt_of_ne hne with q | q
        · exact ⟨-1, .inr rfl, by omega⟩
        · exact ⟨1, .inl rfl, by omega⟩
      have hsl : (Mx.smul m p).length = k := by rw [smul_len]; exact hp
      have hpl : place (Mx.smul m p) = place p := place_of (fun i hi => by rw [smul_at, ahead0 hi, Int.mul_zero]) (by rw [smul_at]; exact Int.ne_of_gt hm2)
      refine ⟨[Mx.smul m p], 0, up_one hsl (by rw [hpl]; exact hk) (by unfold ld; rw [hpl, smul_at]; exact hm2), (up_len hm hp []).symm, Int.le_refl _, fun n => ?_, fun h => absurd rfl h, fun _ => rfl⟩
      constructor
      · intro l
        have h0 := lat_nil l
        have h1 : n * ld p = 0 := by rw [← smul_at, h0, Hn.zer_at]
        rcases Int.mul_eq_zero.mp h1 with q | q
        · rw [q]; exact Int.dvd_refl _
        · exact absurd q hne
      · intro d
        rw [Int.zero_dvd.mp d, smul_zero hp]
        exact .zer
    · have e : p = Mx.zer k := by rw [← hp]; exact eq_zer (by have := place_le p; omega)
      subst e
      refine ⟨[], 1, hu, eqv_of (fun r hr => by cases hr) (fun r hr => by rw [List.mem_singleton.mp hr]; exact .zer), by omega, fun n => ⟨fun _ => Int.one_dvd _, fun _ => .smul n .zer⟩, fun _ => ⟨rfl, by rw [Int.one_mul]⟩, fun h => by omega⟩
  | cons r F ih =>
    intro p hu hp
    have hr := hu.len r (List.mem_cons_self ..)
    have hrk := hu.plc r (List.mem_cons_self ..)
    have hr0 := hu.pos r (List.mem_cons_self ..)
    have mr : ∀ {X : List Row}, Lat k (r :: X) r := .row (List.mem_cons_self ..)
    -- behind the first place nothing more is at it
    have behind : ∀ {v : Row} {G : List Row}, v.length = k → Eqv k G (v :: F) → (∀ q, q ≤ place r → v.getD q 0 = 0) → Up k G → ∀ x ∈ G, place r < place x := fun {v G} hv he h0 hG x hx => by
      refine place_gt (hG.len x hx) hrk fun q hq => ?_
      have l := (he x).mp (.row hx)
      refine lat_at0 (fun y hy => ?_) (fun y hy => ?_) l
      · rcases List.mem_cons.mp hy with rfl | hy
        · exact hv
        · exact hu.tail.len y hy
      · rcases List.mem_cons.mp hy with rfl | hy
        · exact h0 q hq
        · exact ahead0 (Nat.lt_of_le_of_lt hq (hu.head y hy))
    rcases Nat.lt_trichotomy (place p) (place r) with hk | hk | hk
    · have hne := ld_ne (r := p) (by omega)
      obtain ⟨m, hm, hm2⟩ : ∃ m : Int, (m = 1 ∨ m = -1) ∧ 0 < m * ld p := by
        rcases Int.lt_or_lt_of_ne hne with q | q
        · exact ⟨-1, .inr rfl, by omega⟩
        · exact ⟨1, .inl rfl, by omega⟩
      have hsl : (Mx.smul m p).length = k := by rw [smul_len]; exact hp
      have hpl : place (Mx.smul m p) = place p := place_of (fun i hi => by rw [smul_at, ahead0 hi, Int.mul_zero]) (by rw [smul_at]; exact Int.ne_of_gt hm2)
      refine ⟨Mx.smul m p :: r :: F, 0, up_cons hsl (by rw [hpl]; omega) (by unfold ld; rw [hpl, smul_at]; exact hm2) hu (fun x hx => ?_), (up_len hm hp _).symm, Int.le_refl _, fun n => ?_, fun h => absurd rfl h, fun _ => rfl⟩
      · rw [hpl]
        rcases List.mem_cons.mp hx with rfl | hx
        · exact hk
        · exact Nat.lt_trans hk (hu.head x hx)
      · constructor
        · intro l
          have h1 : n * ld p = 0 := by rw [← smul_at]; exact hu.first l hk
          rcases Int.mul_eq_zero.mp h1 with q | q
          · rw [q]; exact Int.dvd_refl _
          · exact absurd q hne
        · intro d
          rw [Int.zero_dvd.mp d, smul_zero hp]
          exact .zer
    · obtain ⟨a, b, c, d, g, g0, d0, t1, t2, t3, t4⟩ := turn_of (l := ld r) (x := ld p) hr0
      obtain ⟨u1, u2, u3⟩ := cross_up hr hp hrk hk (a := a) (b := b) (c := c) (d := d) (by rw [t1]; exact g0) t2
      have he := cross_eqv hr hp t3 F
      have hul : (Mx.add (Mx.smul a r) (Mx.smul b p)).length = k := comb_len hr hp
      have hvl : (Mx.add (Mx.smul c r) (Mx.smul d p)).length = k := comb_len hr hp
      have hdp : ∀ t : Int, Mx.add (Mx.smul t (Mx.add (Mx.smul c r) (Mx.smul d p))) (Mx.smul (-(t * c)) r) = Mx.smul (d * t) p := fun t => ext_row (k := k) (comb_len hvl hr) (by rw [smul_len]; exact hp) fun i _ => by
        rw [comb_at hvl hr, comb_at hr hp, smul_at]
        generalize r.getD i 0 = x
        generalize p.getD i 0 = y
        rw [Int.mul_add, Int.neg_mul, ← Int.mul_assoc, ← Int.mul_assoc, Int.mul_comm d t]
        omega
      rw [t1] at u2
      generalize Mx.add (Mx.smul a r) (Mx.smul b p) = u at *
      generalize Mx.add (Mx.smul c r) (Mx.smul d p) = v at *
      obtain ⟨G, s, i1, i2, i3, i4, i5, i6⟩ := ih hu.tail hvl
      have hG := behind hvl i2 u3 i1
      have hv0 : ∀ t : Int, (Mx.smul t v).getD (place r) 0 = 0 := fun t => by rw [smul_at, u3 _ (Nat.le_refl _), Int.mul_zero]
      refine ⟨u :: G, d * s, up_cons hul (by rw [u1]; exact hrk) (by rw [u2]; exact g0) i1 (fun x hx => by rw [u1]; exact hG x hx), ?_, Int.mul_nonneg (by omega) i3, fun n => ?_, fun h => ?_, fun h => ?_⟩
      · refine (Eqv.cons u i2).trans (he.symm.trans (eqv_mem fun y => ?_))
        simp only [List.mem_cons]
        constructor
        · rintro (h | h | h)
          · exact .inr (.inl h)
          · exact .inl h
          · exact .inr (.inr h)
        · rintro (h | h | h)
          · exact .inr (.inl h)
          · exact .inl h
          · exact .inr (.inr h)
      · constructor
        · intro l
          obtain ⟨m, m1, _⟩ := hu.head_at l
          rw [smul_at] at m1
          have m1 : n * ld p = m * ld r := by unfold ld; rw [hk]; exact m1
          -- d divides n
          obtain ⟨t, ht⟩ : d ∣ n := by
            have hlp : d * ld p = -(c * ld r) := by omega
            have hlp2 : ld p = -(c * g) := by
              refine Int.eq_of_mul_eq_mul_left (a := d) (by omega) ?_
              rw [hlp, t4, Int.mul_neg]
              congr 1
              simp only [Int.mul_assoc, Int.mul_comm, Int.mul_left_comm]
            rw [hlp2, t4] at m1
            have m2 : n * (-c) = m * d := by
              refine Int.eq_of_mul_eq_mul_left (a := g) (by omega) ?_
              have e1 : g * (n * -c) = n * -(c * g) := by
                rw [Int.mul_neg, Int.mul_neg, Int.mul_neg]
                congr 1
                simp only [Int.mul_assoc, Int.mul_comm, Int.mul_left_comm]
              rw [e1, m1]
              simp only [Int.mul_assoc, Int.mul_comm, Int.mul_left_comm]
            refine ⟨n * a + b * m, ?_⟩
            have e2 : n = n * (a * d - b * c) := by rw [t3, Int.mul_one]
            have e3 : n * (a * d - b * c) = d * (n * a) + b * (n * -c) := by
              rw [Int.mul_sub, Int.mul_neg, Int.mul_neg]
              have h1 : n * (a * d) = d * (n * a) := by simp only [Int.mul_assoc, Int.mul_comm, Int.mul_left_comm]
              have h2 : n * (b * c) = b * (n * c) := by simp only [Int.mul_assoc, Int.mul_comm, Int.mul_left_comm]
              omega
            rw [e3, m2] at e2
            rw [Int.mul_add]
            have h3 : b * (m * d) = d * (b * m) := by simp only [Int.mul_assoc, Int.mul_comm, Int.mul_left_comm]
            omega
          subst ht
          have lv : Lat k (r :: F) (Mx.smul t v) := by
            have e : Mx.smul t v = Mx.add (Mx.smul (d * t) p) (Mx.smul (t * c) r) := ext_row (k := k) (by rw [smul_len]; exact hvl) (comb_len hp hr) fun i _ => by
              rw [← hdp t, add_at (k := k) (comb_len hvl hr) (by rw [smul_len]; exact hr), comb_at hvl hr, smul_at, smul_at]
              rw [Int.neg_mul]
              omega
            rw [e]
            exact .add l (.smul _ mr)
          obtain ⟨_, _, h2⟩ := hu.head_at lv
          exact Int.mul_dvd_mul_left d ((i4 t).mp (h2 (hv0 t)))
        · rintro ⟨t, rfl⟩
          have l1 : Lat k (r :: F) (Mx.smul (s * t) v) := ((i4 (s * t)).mpr ⟨t, rfl⟩).mono fun x hx => List.mem_cons_of_mem _ hx
          rw [Int.mul_assoc, ← hdp (s * t)]
          exact .add l1 (.smul _ mr)
      · have hs : s ≠ 0 := fun z => h (by rw [z, Int.mul_zero])
        obtain ⟨j1, j2⟩ := i5 hs
        refine ⟨by rw [List.length_cons, List.length_cons, j1], ?_⟩
        unfold lp
        rw [u2, j2]
        have : ld r * (s * lp G) = g * d * (s * lp G) := by rw [← t4]
        rw [this]
        simp only [Int.mul_assoc, Int.mul_comm, Int.mul_left_comm]
      · have hs : s = 0 := by
          rcases Int.mul_eq_zero.mp h with q | q
          · omega
          · exact q
        rw [List.length_cons, List.length_cons, i6 hs]
    · obtain ⟨G, s, i1, i2, i3, i4, i5, i6⟩ := ih hu.tail hp
      have h0 : ∀ q, q ≤ place r → p.getD q 0 = 0 := fun q hq => ahead0 (Nat.lt_of_le_of_lt hq hk)
      have hG := behind hp i2 h0 i1
      refine ⟨r :: G, s, up_cons hr hrk hr0 i1 hG, ?_, i3, fun n => ?_, fun h => ?_, fun h => by rw [List.length_cons, List.length_cons, i6 h]⟩
      · refine (Eqv.cons r i2).trans (eqv_mem fun y => ?_)
        simp only [List.mem_cons]
        constructor
        · rintro (h | h | h)
          · exact .inr (.inl h)
          · exact .inl h
          · exact .inr (.inr h)
        · rintro (h | h | h)
          · exact .inr (.inl h)
          · exact .inl h
          · exact .inr (.inr h)
      · rw [← i4 n]
        constructor
        · intro l
          obtain ⟨_, _, h2⟩ := hu.head_at l
          exact h2 (by rw [smul_at, h0 _ (Nat.le_refl _), Int.mul_zero])
        · intro l
          exact l.mono fun x hx => List.mem_cons_of_mem _ hx
      · obtain ⟨j1, j2⟩ := i5 h
        refine ⟨by rw [List.length_cons, List.length_cons, j1], ?_⟩
        unfold lp
        rw [j2]
        simp only [Int.mul_assoc, Int.mul_comm, Int.mul_left_comm]
/-- made of one more row: so often it -/
theorem lat_split {k : Nat} {a : Row} {B : List Row} (ha : a.length = k) (hB : ∀ r ∈ B, r.length = k) {v : Row} (l : Lat k (a :: B) v) : ∃ n : Int, Lat k B (Mx.sub v (Mx.smul n a)) := by
  have hl : ∀ r ∈ a :: B, r.length = k := fun r hr => by
    rcases List.mem_cons.mp hr with rfl | hr
    · exact ha
    · exact hB r hr
  have sl : ∀ n : Int, (Mx.smul n a).length = k := fun n => by rw [smul_len]; exact ha
  induction l with
  | zer =>
    refine ⟨0, ?_⟩
    have e : Mx.sub (Mx.zer k) (Mx.smul 0 a) = Mx.zer k := ext_row (sub_len (zer_len k) (sl 0)) (zer_len k) fun i _ => by rw [sub_at (zer_len k) (sl 0), smul_at, Hn.zer_at]; omega
    rw [e]
    exact .zer
  | row hr =>
    rename_i r
    rcases List.mem_cons.mp hr with rfl | hr
    · refine ⟨1, ?_⟩
      have e : Mx.sub r (Mx.smul 1 r) = Mx.zer k := ext_row (sub_len ha (sl 1)) (zer_len k) fun i _ => by rw [sub_at ha (sl 1), smul_at, Hn.zer_at]; omega
      rw [e]
      exact .zer
    · refine ⟨0, ?_⟩
      have e : Mx.sub r (Mx.smul 0 a) = r := ext_row (sub_len (hB r hr) (sl 0)) (hB r hr) fun i _ => by rw [sub_at (hB r hr) (sl 0), smul_at]; omega
      rw [e]
      exact .row hr
  | add h1 h2 i1 i2 =>
    rename_i x y
    obtain ⟨n, l1⟩ := i1
    obtain ⟨m, l2⟩ := i2
    have hx := h1.len hl
    have hy := h2.len hl
    refine ⟨n + m, ?_⟩
    have e : Mx.sub (Mx.add x y) (Mx.smul (n + m) a) = Mx.add (Mx.sub x (Mx.smul n a)) (Mx.sub y (Mx.smul m a)) := ext_row (sub_len (add_len hx hy) (sl _)) (add_len (sub_len hx (sl _)) (sub_len hy (sl _))) fun i _ => by
      rw [sub_at (add_len hx hy) (sl _), add_at hx hy, add_at (sub_len hx (sl _)) (sub_len hy (sl _)), sub_at hx (sl _), sub_at hy (sl _), smul_at, smul_at, smul_at, Int.add_mul]
      omega
    rw [e]
    exact .add l1 l2
  | smul m h1 i1 =>
    rename_i x
    obtain ⟨n, l1⟩ := i1
    have hx := h1.len hl
    refine ⟨m * n, ?_⟩
    have e : Mx.sub (Mx.smul m x) (Mx.smul (m * n) a) = Mx.smul m (Mx.sub x (Mx.smul n a)) := ext_row (k := k) (sub_len (by rw [smul_len]; exact hx) (sl _)) (by rw [smul_len]; exact sub_len hx (sl _)) fun i _ => by
      rw [sub_at (k := k) (by rw [smul_len]; exact hx) (sl _), smul_at, smul_at, smul_at, sub_at hx (sl _), smul_at, Int.mul_sub, Int.mul_assoc]
    rw [e]
    exact .smul m l1
theorem add_back {k : Nat} {v w : Row} (hv : v.length = k) (hw : w.length = k) : Mx.add (Mx.sub v w) w = v := ext_row (k := k) (add_len (sub_len hv hw) hw) hv fun i _ => by
  rw [add_at (sub_len hv hw) hw, sub_at hv hw]
  omega
/-- purse by purse: as many at the one as at the other -/
theorem chain {k : Nat} {A : List Row} (hA : ∀ r ∈ A, r.length = k) : ∀ (as : List Row) {B D : List Row}, (∀ a ∈ as, Lat k A a) → Up k B → Up k D → (∀ v, Lat k A v → (Lat k B v ↔ Lat k D v)) → (∀ d ∈ D, Lat k A d) →
    ∃ (B1 D1 : List Row) (j : Nat), Up k B1 ∧ Up k D1 ∧ Eqv k B1 (as ++ B) ∧ Eqv k D1 (as ++ D) ∧ B1.length = B.length + j ∧ D1.length = D.length + j ∧ (j = 0 → lp B * lp D1 = lp D * lp B1)
  | [], B, D, _, hB, hD, _, _ => ⟨B, D, 0, hB, hD, Eqv.refl k B, Eqv.refl k D, rfl, rfl, fun _ => Int.mul_comm ..⟩
  | a :: as, B, D, has, hB, hD, hv, hDA => by
    have la := has a (List.mem_cons_self ..)
    have hal := la.len hA
    obtain ⟨B2, s, p1, p2, p3, p4, p5, p6⟩ := step_one hB hal
    obtain ⟨D2, t, q1, q2, q3, q4, q5, q6⟩ := step_one hD hal
    have est : s = t := by
      have h : ∀ n : Int, s ∣ n ↔ t ∣ n := fun n => by rw [← p4 n, ← q4 n]; exact hv _ (.smul n la)
      exact Int.dvd_antisymm p3 q3 ((h t).mpr (Int.dvd_refl t)) ((h s).mp (Int.dvd_refl s))
    subst est
    have ma : ∀ {X : List Row}, Lat k (a :: X) a := .row (List.mem_cons_self ..)
    have more : ∀ v, Lat k A v → (Lat k B2 v ↔ Lat k D2 v) := fun v lv => by
      have hvl := lv.len hA
      rw [p2 v, q2 v]
      constructor
      · intro l
        obtain ⟨n, l1⟩ := lat_split hal hB.len l
        have l2 := (hv _ (.sub hA lv (.smul n la))).mp l1
        rw [← add_back hvl (show (Mx.smul n a).length = k by rw [smul_len]; exact hal)]
        exact .add (l2.mono fun x hx => List.mem_cons_of_mem _ hx) (.smul n ma)
      · intro l
        obtain ⟨n, l1⟩ := lat_split hal hD.len l
        have l2 := (hv _ (.sub hA lv (.smul n la))).mpr l1
        rw [← add_back hvl (show (Mx.smul n a).length = k by rw [smul_len]; exact hal)]
        exact .add (l2.mono fun x hx => List.mem_cons_of_mem _ hx) (.smul n ma)
    have inA : ∀ d ∈ D2, Lat k A d := fun d hd => ((q2 d).mp (.row hd)).of fun x hx => by
      rcases List.mem_cons.mp hx with rfl | hx
      · exact la
      · exact hDA x hx
    obtain ⟨B1, D1, j, r1, r2, r3, r4, r5, r6, r7⟩ := chain hA as (fun x hx => has x (List.mem_cons_of_mem _ hx)) p1 q1 more inA
    have em : ∀ X : List Row, Eqv k (as ++ (a :: X)) ((a :: as) ++ X) := fun X => eqv_mem fun y => by
      simp only [List.mem_append, List.mem_cons]
      constructor
      · rintro (h | h | h)
        · exact .inl (.inr h)
        · exact .inl (.inl h)
        · exact .inr h
      · rintro ((h | h) | h)
        · exact .inr (.inl h)
        · exact .inl h
        · exact .inr (.inr h)
    have eB : Eqv k B1 ((a :: as) ++ B) := (r3.trans (Eqv.app (.refl k as) p2)).trans (em B)
    have eD : Eqv k D1 ((a :: as) ++ D) := (r4.trans (Eqv.app (.refl k as) q2)).trans (em D)
    by_cases hs : s = 0
    · exact ⟨B1, D1, j + 1, r1, r2, eB, eD, by rw [r5, p6 hs]; omega, by rw [r6, q6 hs]; omega, fun h => by omega⟩
    · obtain ⟨x1, x2⟩ := p5 hs
      obtain ⟨y1, y2⟩ := q5 hs
      refine ⟨B1, D1, j, r1, r2, eB, eD, by rw [r5, x1], by rw [r6, y1], fun h => ?_⟩
      have := r7 h
      rw [x2, y2, Int.mul_assoc, this, Int.mul_assoc]
/-- what lies beside the other one in all, and beside what is met in the one -/
theorem second {k : Nat} {A B W D : List Row} (hA : Up k A) (hB : Up k B) (hW : Up k W) (hD : Up k D) (eW : Eqv k W (A ++ B)) (eD : ∀ v, Lat k D v ↔ Lat k A v ∧ Lat k B v) : ∃ j : Nat, W.length = B.length + j ∧ A.length = D.length + j ∧ (j = 0 → lp B * lp A = lp D * lp W) := by
  obtain ⟨B1, D1, j, r1, r2, r3, r4, r5, r6, r7⟩ := chain hA.len A (B := B) (D := D) (fun a ha => .row ha) hB hD (fun v lv => ⟨fun l => (eD v).mpr ⟨lv, l⟩, fun l => ((eD v).mp l).2⟩) (fun d hd => ((eD d).mp (.row hd)).1)
  have e1 : Eqv k B1 W := r3.trans eW.symm
  have e2 : Eqv k D1 A := r4.trans (eqv_of (fun r hr => by
    rcases List.mem_append.mp hr with q | q
    · exact .row q
    · exact ((eD r).mp (.row q)).1) fun r hr => .row (List.mem_append.mpr (.inl hr)))
  obtain ⟨l1, l2⟩ := same_leads r1 hW e1
  obtain ⟨m1, m2⟩ := same_leads r2 hA e2
  exact ⟨j, by omega, by omega, fun h => by
    have := r7 h
    rwa [l2, m2] at this⟩
/-- of as many rows the outer one's leads divide the inner one's -/
theorem sub_dvd {k : Nat} : ∀ {F G : List Row}, Up k F → Up k G → (∀ r ∈ F, Lat k G r) → F.length = G.length → lp G ∣ lp F
  | [], [], _, _, _, _ => Int.dvd_refl _
  | [], s :: G, _, _, _, h => by simp at h
  | r :: F, [], _, _, _, h => by simp at h
  | r :: F, s :: G, hf, hg, hs, hl => by
    have lr := hs r (List.mem_cons_self ..)
    have pr := hf.pos r (List.mem_cons_self ..)
    have hge : place s ≤ place r := by
      rcases Nat.lt_or_ge (place r) (place s) with q | q
      · have : ld r = 0 := hg.first lr q
        omega
      · exact q
    have tailG : ∀ x ∈ r :: F, x.getD (place s) 0 = 0 → Lat k G x := fun x hx h0 => by
      obtain ⟨_, _, h2⟩ := hg.head_at (hs x hx)
      exact h2 h0
    have hp : place r = place s := by
      rcases Nat.lt_or_ge (place s) (place r) with q | q
      · exfalso
        have h := rungs_le hf hg.tail.len fun x hx => tailG x hx (by
          rcases List.mem_cons.mp hx with rfl | hx
          · exact ahead0 q
          · exact ahead0 (Nat.lt_trans q (hf.head x hx)))
        rw [List.length_cons] at hl h
        simp only [List.length_cons] at hl
        omega
      · omega
    obtain ⟨c, c1, _⟩ := hg.head_at lr
    have h1 : ld s ∣ ld r := ⟨c, by
      have : ld r = c * ld s := by rw [← c1, ← hp]
      rw [this, Int.mul_comm]⟩
    have h2 := sub_dvd hf.tail hg.tail (fun x hx => tailG x (List.mem_cons_of_mem _ hx) (by rw [← hp]; exact ahead0 (hf.head x hx))) (by simpa using hl)
    unfold lp
    exact Int.mul_dvd_mul h1 h2
end Hn

/-! tails: what is behind noughts -/
namespace Hn
open Mx
def utails (k : Nat) (F : List Row) : List Row := (F.filter fun r => decide (k ≤ place r)).map (List.drop k)
theorem split_at {k n : Nat} {v : Row} (h : v.length = k + n) (h0 : ∀ q, q < k → v.getD q 0 = 0) : v = zer k ++ v.drop k := by
  have e : v.take k = zer k := ext_row (take_len h) (zer_len k) fun i hi => by rw [take_at hi, h0 i hi, Hn.zer_at]
  rw [← e, List.take_append_drop]
theorem app_at {k : Nat} {a b : Row} (ha : a.length = k) (i : Nat) : (a ++ b).getD (k + i) 0 = b.getD i 0 := by
  rw [List.getD_eq_getElem?_getD, List.getD_eq_getElem?_getD, List.getElem?_append_right (by omega), ha, Nat.add_sub_cancel_left]
theorem app_lo {k i : Nat} {a b : Row} (ha : a.length = k) (hi : i < k) : (a ++ b).getD i 0 = a.getD i 0 := by
  rw [List.getD_eq_getElem?_getD, List.getD_eq_getElem?_getD, List.getElem?_append_left (by omega)]
theorem place_tail {k n : Nat} {v : Row} (h : v.length = k + n) (hp : k ≤ place v) (hp2 : place v < k + n) : place (v.drop k) = place v - k ∧ ld (v.drop k) = ld v ∧ ∀ i, (v.drop k).getD i 0 = v.getD (k + i) 0 := by
  have e := split_at h fun q hq => ahead0 (Nat.lt_of_lt_of_le hq hp)
  have at' : ∀ i, (v.drop k).getD i 0 = v.getD (k + i) 0 := fun i => by
    rw [List.getD_eq_getElem?_getD, List.getD_eq_getElem?_getD, List.getElem?_drop]
  have hl : (v.drop k).getD (place v - k) 0 = ld v := by rw [at', show k + (place v - k) = place v by omega]
  have pl : place (v.drop k) = place v - k := Hn.place_of (fun i hi => by rw [at']; exact ahead0 (by omega)) (by rw [hl]; exact ld_ne (by omega))
  exact ⟨pl, by unfold ld at hl ⊢; rw [pl]; exact hl, at'⟩
theorem add_app {k n : Nat} {a b c d : Row} (ha : a.length = k) (hc : c.length = k) : Mx.add (a ++ b) (c ++ d) = Mx.add a c ++ Mx.add b d := by
  unfold Mx.add
  rw [List.zipWith_append (by omega)]
theorem smul_app (m : Int) (a b : Row) : Mx.smul m (a ++ b) = Mx.smul m a ++ Mx.smul m b := by unfold Mx.smul; rw [List.map_append]
theorem smul_zer' (m : Int) (k : Nat) : Mx.smul m (zer k) = zer k := ext_row (by rw [smul_len]; exact zer_len k) (zer_len k) fun i _ => by rw [smul_at, Hn.zer_at, Int.mul_zero]
theorem zer_app (k n : Nat) : zer k ++ zer n = zer (k + n) := by unfold zer; rw [List.replicate_append_replicate]
theorem tails_up {k n : Nat} {F : List Row} (hu : Up (k + n) F) (hr : Red F) : Up n (utails k F) ∧ Red (utails k F) := by
  have key : ∀ r ∈ F, k ≤ place r → place (r.drop k) = place r - k ∧ ld (r.drop k) = ld r ∧ ∀ i, (r.drop k).getD i 0 = r.getD (k + i) 0 := fun r hm hp => place_tail (hu.len r hm) hp (hu.plc r hm)
  have mem : ∀ x ∈ utails k F, ∃ r ∈ F, k ≤ place r ∧ x = r.drop k := fun x hx => by
    obtain ⟨r, h1, rfl⟩ := List.mem_map.mp hx
    obtain ⟨h2, h3⟩ := List.mem_filter.mp h1
    exact ⟨r, h2, of_decide_eq_true h3, rfl⟩
  refine ⟨⟨fun x hx => ?_, fun x hx => ?_, fun x hx => ?_, ?_⟩, ?_⟩
  · obtain ⟨r, h1, h2, rfl⟩ := mem x hx
    exact drop_len (hu.len r h1)
  · obtain ⟨r, h1, h2, rfl⟩ := mem x hx
    have := hu.plc r h1
    rw [(key r h1 h2).1]
    omega
  · obtain ⟨r, h1, h2, rfl⟩ := mem x hx
    rw [(key r h1 h2).2.1]
    exact hu.pos r h1
  · unfold utails
    rw [List.pairwise_map]
    refine List.Pairwise.imp_of_mem (fun {a b} ha hb h => ?_) (hu.ris.filter _)
    obtain ⟨a1, a2⟩ := List.mem_filter.mp ha
    obtain ⟨b1, b2⟩ := List.mem_filter.mp hb
    have a2 := of_decide_eq_true a2
    have b2 := of_decide_eq_true b2
    rw [(key a a1 a2).1, (key b b1 b2).1]
    omega
  · rw [red_pw]
    unfold utails
    rw [List.pairwise_map]
    refine List.Pairwise.imp_of_mem (fun {a b} ha hb h => ?_) ((red_pw.mp hr).filter _)
    obtain ⟨a1, a2⟩ := List.mem_filter.mp ha
    obtain ⟨b1, b2⟩ := List.mem_filter.mp hb
    have a2 := of_decide_eq_true a2
    have b2 := of_decide_eq_true b2
    rw [(key b b1 b2).1, (key b b1 b2).2.1, (key a a1 a2).2.2, show k + (place b - k) = place b by omega]
    exact h
/-- what is made and has noughts ahead is made of the rows that have -/
theorem lat_behind {k : Nat} {m : Nat} : ∀ {F : List Row} {v : Row}, Up m F → Lat m F v → (∀ q, q < k → v.getD q 0 = 0) → Lat m (F.filter fun r => decide (k ≤ place r)) v
  | [], v, _, l, _ => l
  | r :: F, v, hu, l, h0 => by
    by_cases h : k ≤ place r
    · have e : (r :: F).filter (fun r => decide (k ≤ place r)) = r :: F := List.filter_eq_self.mpr fun x hx => by
        rcases List.mem_cons.mp hx with rfl | hx
        · exact decide_eq_true h
        · exact decide_eq_true (Nat.le_of_lt (Nat.lt_of_le_of_lt h (hu.head x hx)))
      rw [e]
      exact l
    · rw [List.filter_cons_of_neg (by simpa using h)]
      obtain ⟨_, _, h2⟩ := hu.head_at l
      exact lat_behind hu.tail (h2 (h0 _ (by omega))) h0
theorem lat_drop {k n : Nat} {F : List Row} (hl : ∀ r ∈ F, r.length = k + n) {v : Row} (l : Lat (k + n) F v) : Lat n (F.map (List.drop k)) (v.drop k) := by
  induction l with
  | zer => rw [drop_zer]; exact .zer
  | row hr => exact .row (List.mem_map.mpr ⟨_, hr, rfl⟩)
  | add _ _ h1 h2 => rw [drop_add]; exact .add h1 h2
  | smul m _ h1 => rw [drop_smul]; exact .smul m h1
theorem tails_lat {k n : Nat} {F : List Row} (hu : Up (k + n) F) {w : Row} (hw : w.length = n) : Lat n (utails k F) w ↔ Lat (k + n) F (zer k ++ w) := by
  constructor
  · intro l
    clear hw
    induction l with
    | zer => rw [zer_app]; exact .zer
    | row hx =>
      obtain ⟨r, h1, rfl⟩ := List.mem_map.mp hx
      obtain ⟨h2, h3⟩ := List.mem_filter.mp h1
      have h3 := of_decide_eq_true h3
      rw [← split_at (hu.len r h2) fun q hq => ahead0 (Nat.lt_of_lt_of_le hq h3)]
      exact .row h2
    | add l1 l2 h1 h2 =>
      have e := add_app (n := n) (a := zer k) (c := zer k) (b := _) (d := _) (zer_len k) (zer_len k) ▸ Lat.add h1 h2
      rw [zer_add (zer_len k)] at e
      exact e
    | smul m l1 h1 =>
      have e := smul_app m (zer k) _ ▸ Lat.smul m h1
      rw [smul_zer'] at e
      exact e
  · intro l
    have h0 : ∀ q, q < k → (zer k ++ w).getD q 0 = 0 := fun q hq => by rw [app_lo (zer_len k) hq, Hn.zer_at]
    have h := lat_drop (fun r hr => hu.len r (List.mem_filter.mp hr).1) (lat_behind hu l h0)
    rw [drop_append (zer_len k)] at h
    exact h
/-- rows with noughts behind, and rows with tails: what is made of them -/
theorem lat_pairs {k n : Nat} {U X Y : List Row} (hU : ∀ r ∈ U, r.length = k) (hX : ∀ r ∈ X, r.length = k) (hY : ∀ r ∈ Y, r.length = n) (hXY : X.length = Y.length) {v : Row} : Lat (k + n) (U.map (· ++ zer n) ++ List.zipWith (· ++ ·) X Y) v ↔ ∃ (u : Row) (c : List Int), Lat k U u ∧ c.length = X.length ∧ v = Mx.add u (mix k c X) ++ mix n c Y := by
  constructor
  · intro l
    induction l with
    | zer =>
      refine ⟨zer k, zer X.length, .zer, zer_len _, ?_⟩
      rw [mix_zer X.length hX, mix_zer X.length hY, zer_add (zer_len k), zer_app]
    | row hr =>
      rcases List.mem_append.mp hr with q | q
      · obtain ⟨u, hu, rfl⟩ := List.mem_map.mp q
        refine ⟨u, zer X.length, .row hu, zer_len _, ?_⟩
        rw [mix_zer X.length hX, mix_zer X.length hY, add_zer (hU u hu)]
      · obtain ⟨i, hi⟩ := List.getElem?_of_mem q
        rw [List.getElem?_zipWith] at hi
        cases hXi : X[i]? with
        | none => rw [hXi] at hi; simp at hi
        | some x =>
          cases hYi : Y[i]? with
          | none => rw [hXi, hYi] at hi; simp at hi
          | some y =>
            rw [hXi, hYi] at hi
            have hi := Option.some.inj hi
            have e2 := mix_unit hY hYi
            rw [← hXY] at e2
            refine ⟨zer k, unit X.length i, .zer, unit_len _ _, ?_⟩
            rw [mix_unit hX hXi, e2, zer_add (hX _ (List.mem_of_getElem? hXi)), ← hi]
    | add l1 l2 h1 h2 =>
      obtain ⟨u, c, u1, u2, rfl⟩ := h1
      obtain ⟨w, d, w1, w2, rfl⟩ := h2
      have hu := u1.len hU
      have hw := w1.len hU
      have m1 := mix_len (cs := c) hX
      have m2 := mix_len (cs := d) hX
      refine ⟨Mx.add u w, Mx.add c d, .add u1 w1, add_len u2 w2, ?_⟩
      rw [add_app (n := n) (add_len hu m1) (add_len hw m2), mix_add u2 w2 hX, mix_add (by rw [u2, hXY]) (by rw [w2, hXY]) hY]
      congr 1
      exact ext_row (k := k) (add_len (add_len hu m1) (add_len hw m2)) (add_len (add_len hu hw) (add_len m1 m2)) fun i _ => by
        rw [add_at (add_len hu m1) (add_len hw m2), add_at hu m1, add_at hw m2, add_at (add_len hu hw) (add_len m1 m2), add_at hu hw, add_at m1 m2]
        omega
    | smul m l1 h1 =>
      obtain ⟨u, c, u1, u2, rfl⟩ := h1
      have hu := u1.len hU
      have m1 := mix_len (cs := c) hX
      refine ⟨Mx.smul m u, Mx.smul m c, .smul m u1, by rw [smul_len]; exact u2, ?_⟩
      rw [smul_app, mix_smul m hX, mix_smul m hY]
      congr 1
      exact ext_row (k := k) (by rw [smul_len]; exact add_len hu m1) (add_len (by rw [smul_len]; exact hu) (by rw [smul_len]; exact m1)) fun i _ => by
        rw [smul_at, add_at hu m1, add_at (k := k) (by rw [smul_len]; exact hu) (by rw [smul_len]; exact m1), smul_at, smul_at, Int.mul_add]
  · rintro ⟨u, c, h1, h2, rfl⟩
    have hu := h1.len hU
    -- the noughts' part
    have p1 : Lat (k + n) (U.map (· ++ zer n) ++ List.zipWith (· ++ ·) X Y) (u ++ zer n) := by
      clear h2 hu
      induction h1 with
      | zer => rw [zer_app]; exact .zer
      | row hr => exact .row (List.mem_append.mpr (.inl (List.mem_map.mpr ⟨_, hr, rfl⟩)))
      | add l1 l2 i1 i2 =>
        have e := add_app (n := n) (b := zer n) (d := zer n) (l1.len hU) (l2.len hU) ▸ Lat.add i1 i2
        rw [zer_add (zer_len n)] at e
        exact e
      | smul m l1 i1 =>
        have e := smul_app m _ (zer n) ▸ Lat.smul m i1
        rw [smul_zer'] at e
        exact e
    have p2 : Lat (k + n) (U.map (· ++ zer n) ++ List.zipWith (· ++ ·) X Y) (mix k c X ++ mix n c Y) := by
      have h : mix (k + n) c (List.zipWith (· ++ ·) X Y) = mix k c X ++ mix n c Y := by
        clear h2 p1 h1 hu hU
        induction X generalizing Y c with
        | nil =>
          cases Y with
          | nil => cases c <;> exact (zer_app k n).symm
          | cons y Y => simp at hXY
        | cons x X ih =>
          cases Y with
          | nil => simp at hXY
          | cons y Y =>
            cases c with
            | nil => exact (zer_app k n).symm
            | cons a c =>
              have ih := ih (Y := Y) (c := c) (fun r hr => hX r (List.mem_cons_of_mem _ hr)) (fun r hr => hY r (List.mem_cons_of_mem _ hr)) (by simpa using hXY)
              show Mx.add (Mx.smul a (x ++ y)) (mix (k + n) c (List.zipWith (· ++ ·) X Y)) = Mx.add (Mx.smul a x) (mix k c X) ++ Mx.add (Mx.smul a y) (mix n c Y)
              rw [ih, smul_app, add_app (n := n) (by rw [smul_len]; exact hX x (List.mem_cons_self ..)) (mix_len fun r hr => hX r (List.mem_cons_of_mem _ hr))]
      rw [← h]
      exact Lat.mono (fun r hr => List.mem_append.mpr (.inr hr)) (lat_mix (cs := c) (W := List.zipWith (· ++ ·) X Y))
    have e := add_app (n := n) (b := zer n) (d := mix n c Y) hu (mix_len (cs := c) hX) ▸ Lat.add p1 p2
    rw [zer_add (mix_len hY)] at e
    exact e
theorem lat_neg {k : Nat} {U : List Row} (hU : ∀ r ∈ U, r.length = k) {a : Row} (ha : a.length = k) : (∃ u, Lat k U u ∧ Mx.add u a = zer k) ↔ Lat k U a := by
  constructor
  · rintro ⟨u, l, e⟩
    have hu := l.len hU
    have : a = Mx.smul (-1) u := ext_row ha (by rw [smul_len]; exact hu) fun i _ => by
      have h : (Mx.add u a).getD i 0 = 0 := by rw [e, Hn.zer_at]
      rw [add_at hu ha] at h
      rw [smul_at]
      omega
    rw [this]
    exact .smul _ l
  · intro l
    refine ⟨Mx.smul (-1) a, .smul _ l, ext_row (add_len (by rw [smul_len]; exact ha) ha) (zer_len k) fun i _ => ?_⟩
    rw [add_at (k := k) (by rw [smul_len]; exact ha) ha, smul_at, Hn.zer_at]
    omega
/-- the tails of a stair of such rows -/
theorem tails_pairs {k n : Nat} {U X Y F : List Row} (hU : ∀ r ∈ U, r.length = k) (hX : ∀ r ∈ X, r.length = k) (hY : ∀ r ∈ Y, r.length = n) (hXY : X.length = Y.length) (hu : Up (k + n) F) (he : Eqv (k + n) F (U.map (· ++ zer n) ++ List.zipWith (· ++ ·) X Y)) {w : Row} (hw : w.length = n) : Lat n (utails k F) w ↔ ∃ c : List Int, c.length = X.length ∧ Lat k U (mix k c X) ∧ w = mix n c Y := by
  rw [tails_lat hu hw, he, lat_pairs hU hX hY hXY]
  constructor
  · rintro ⟨u, c, h1, h2, h3⟩
    obtain ⟨e1, e2⟩ := List.append_inj h3 (by rw [zer_len]; exact (add_len (h1.len hU) (mix_len hX)).symm)
    exact ⟨c, h2, (lat_neg hU (mix_len hX)).mp ⟨u, h1, e1.symm⟩, e2⟩
  · rintro ⟨c, h1, h2, h3⟩
    obtain ⟨u, u1, u2⟩ := (lat_neg hU (mix_len hX)).mpr h2
    exact ⟨u, c, u1, h1, by rw [u2, h3]⟩
end Hn

/-! rows of a stair, some times each: their stair has no great numbers -/
namespace Hn
open Mx
theorem led_small {k : Nat} : ∀ {rows : List Row} {x : Row} {m E E' : Nat}, Up k rows → Red rows → x.length = k → (∀ t ∈ rows, (x.getD (place t) 0).natAbs ≤ m * (ld t).natAbs) → (∀ i, (x.getD i 0).natAbs ≤ E) → (∀ t ∈ rows, ∀ i, (t.getD i 0).natAbs ≤ E') →
    ∀ i, ((led rows x).2.getD i 0).natAbs ≤ E + m * (2 ^ rows.length - 1) * E'
  | [], x, m, E, E', _, _, _, _, hx, _, i => by
    show (x.getD i 0).natAbs ≤ _
    exact Nat.le_trans (hx i) (Nat.le_add_right _ _)
  | r :: rs, x, m, E, E', hu, hr, hl, hm, hx, hE, i => by
    have h0 := hu.pos r (List.mem_cons_self ..)
    have hrl := hu.len r (List.mem_cons_self ..)
    have hq : (x.getD (place r) 0 / ld r).natAbs ≤ m := by
      have h1 := hm r (List.mem_cons_self ..)
      have h2 : ((x.getD (place r) 0).natAbs : Int) ≤ (m : Int) * ld r := by
        have : (((x.getD (place r) 0).natAbs : Nat) : Int) ≤ ((m * (ld r).natAbs : Nat) : Int) := by exact_mod_cast h1
        rw [Int.natCast_mul, Int.natAbs_of_nonneg (by omega : 0 ≤ ld r)] at this
        exact this
      have h3 : x.getD (place r) 0 ≤ (m : Int) * ld r := Int.le_trans Int.le_natAbs h2
      have h4 : -((m : Int) * ld r) ≤ x.getD (place r) 0 := by omega
      have h5 : x.getD (place r) 0 / ld r ≤ (m : Int) := by
        have := Int.ediv_le_ediv h0 h3
        rwa [Int.mul_ediv_cancel _ (by omega)] at this
      have h6 : -(m : Int) ≤ x.getD (place r) 0 / ld r := by
        have h7 : -(m : Int) * ld r ≤ x.getD (place r) 0 := by rw [Int.neg_mul]; exact h4
        exact (Int.le_ediv_iff_mul_le h0).mpr h7
      omega
    generalize hqe : x.getD (place r) 0 / ld r = q at *
    have hs : (smul q r).length = k := by rw [smul_len]; exact hrl
    have at' : ∀ j, (Mx.sub x (smul q r)).getD j 0 = x.getD j 0 - q * r.getD j 0 := fun j => by rw [sub_at hl hs, smul_at]
    have mulb : ∀ (y : Int) (Y : Nat), y.natAbs ≤ Y → (q * y).natAbs ≤ m * Y := fun y Y h => by
      rw [Int.natAbs_mul]
      exact Nat.mul_le_mul hq h
    have ih := led_small (rows := rs) (x := Mx.sub x (smul q r)) (m := 2 * m) (E := E + m * E') (E' := E') hu.tail hr.tail (sub_len hl hs) (fun t ht => by
      rw [at']
      have h1 := hm t (List.mem_cons_of_mem _ ht)
      have h2 : 0 ≤ r.getD (place t) 0 ∧ r.getD (place t) 0 < ld t := (List.pairwise_cons.mp (red_pw.mp hr)).1 t ht
      have h3 := mulb (r.getD (place t) 0) (ld t).natAbs (by omega)
      rw [Nat.mul_assoc]
      omega) (fun j => by
      rw [at']
      have h1 := hx j
      have h2 := mulb (r.getD j 0) E' (hE r (List.mem_cons_self ..) j)
      omega) (fun t ht => hE t (List.mem_cons_of_mem _ ht)) i
    have e : (led (r :: rs) x).2 = (led rs (Mx.sub x (smul q r))).2 := by
      rw [← hqe]
      rfl
    rw [e]
    refine Nat.le_trans ih ?_
    have hp : 1 ≤ 2 ^ rs.length := Nat.pow_pos (by omega)
    rw [List.length_cons, Nat.pow_succ]
    generalize 2 ^ rs.length = P at *
    have e1 : P * 2 - 1 = 1 + 2 * (P - 1) := by omega
    have e2 : m * (1 + 2 * (P - 1)) * E' = m * E' + 2 * m * (P - 1) * E' := by
      rw [Nat.mul_add, Nat.mul_one, Nat.add_mul, ← Nat.mul_assoc m 2, Nat.mul_comm m 2]
    rw [e1, e2]
    omega
theorem smul_up {k : Nat} {c : Int} {r : Row} (hc : 0 < c) (hr : r.length = k) (hp : place r < k) : place (smul c r) = place r ∧ ld (smul c r) = c * ld r := by
  have h : place (smul c r) = place r := place_of (fun i hi => by rw [smul_at, ahead0 hi, Int.mul_zero]) (by
    rw [smul_at]
    exact Int.mul_ne_zero (by omega) (ld_ne (r := r) (by omega)))
  refine ⟨h, ?_⟩
  show (smul c r).getD (place (smul c r)) 0 = c * r.getD (place r) 0
  rw [h, smul_at]
def tms (ws : List (Int × Row)) : List Row := ws.map fun p => smul p.1 p.2
theorem tms_up {k : Nat} : ∀ {ws : List (Int × Row)}, Up k (ws.map (·.2)) → (∀ p ∈ ws, 0 < p.1) → Up k (tms ws)
  | [], h, _ => h
  | p :: ws, h, hc => by
    have hl := h.len p.2 (List.mem_cons_self ..)
    have hp := h.plc p.2 (List.mem_cons_self ..)
    have h0 := h.pos p.2 (List.mem_cons_self ..)
    have hp1 := hc p (List.mem_cons_self ..)
    obtain ⟨e1, e2⟩ := smul_up hp1 hl hp
    refine up_cons (by rw [smul_len]; exact hl) (by rw [e1]; exact hp) (by rw [e2]; exact Int.mul_pos hp1 h0) (tms_up h.tail fun q hq => hc q (List.mem_cons_of_mem _ hq)) fun t ht => ?_
    obtain ⟨q, hq, rfl⟩ := List.mem_map.mp ht
    have hq2 : q.2 ∈ ws.map (·.2) := List.mem_map_of_mem hq
    rw [e1, (smul_up (hc q (List.mem_cons_of_mem _ hq)) (h.len _ (List.mem_cons_of_mem _ hq2)) (h.plc _ (List.mem_cons_of_mem _ hq2))).1]
    exact h.head _ hq2
theorem tms_small {k b : Nat} : ∀ {ws : List (Int × Row)}, Up k (ws.map (·.2)) → Red (ws.map (·.2)) → (∀ p ∈ ws, 0 < p.1 ∧ p.1 ≤ 4) → (∀ p ∈ ws, Bd b p.2) → ws.length ≤ 4 →
    (∀ t ∈ settle (tms ws) [], ∃ p ∈ ws, place t = place p.2 ∧ ld t = p.1 * ld p.2) ∧ (settle (tms ws) []).length = ws.length ∧ ∀ t ∈ settle (tms ws) [], ∀ i, (t.getD i 0).natAbs ≤ 2 ^ (b + 2) * 32 ^ ws.length
  | [], _, _, _, _, _ => ⟨fun t ht => absurd (show t ∈ ([] : List Row) from ht) (by simp), rfl, fun t ht => absurd (show t ∈ ([] : List Row) from ht) (by simp)⟩
  | p :: ws, hu, hr, hc, hb, hn => by
    obtain ⟨i1, i2, i3⟩ := tms_small (ws := ws) hu.tail hr.tail (fun q hq => hc q (List.mem_cons_of_mem _ hq)) (fun q hq => hb q (List.mem_cons_of_mem _ hq)) (by simp at hn; omega)
    have hc0 : ∀ q ∈ p :: ws, 0 < q.1 := fun q hq => (hc q hq).1
    have hU := tms_up hu hc0
    have hUt := tms_up hu.tail fun q hq => hc0 q (List.mem_cons_of_mem _ hq)
    obtain ⟨s1, s2, s3, s4⟩ := settle_ok (as := tms ws) (bs := []) (by rw [List.append_nil]; exact hUt) (fun i j x y hx => by simp at hx)
    have hl := hu.len p.2 (List.mem_cons_self ..)
    have hp := hu.plc p.2 (List.mem_cons_self ..)
    obtain ⟨p1, p2⟩ := hc p (List.mem_cons_self ..)
    obtain ⟨e1, e2⟩ := smul_up p1 hl hp
    have hl2 : (smul p.1 p.2).length = k := by rw [smul_len]; exact hl
    have hh : ∀ t ∈ settle (tms ws) [], place (smul p.1 p.2) < place t := fun t ht => by
      obtain ⟨q, q1, q2, q3⟩ := i1 t ht
      rw [e1, q2]
      exact hu.head _ (List.mem_map_of_mem q1)
    obtain ⟨l1, l2⟩ := place_led s1.len hl2 (by rw [e1]; exact hp) hh
    have ex : settle (tms (p :: ws)) [] = (led (settle (tms ws) []) (smul p.1 p.2)).2 :: settle (tms ws) [] := rfl
    rw [ex]
    generalize settle (tms ws) [] = S at *
    have big : 2 ^ (b + 2) ≤ 2 ^ (b + 2) * 32 ^ ws.length := Nat.le_mul_of_pos_right _ (Nat.pow_pos (by omega))
    have nx : 2 ^ (b + 2) * 32 ^ (p :: ws).length = 2 ^ (b + 2) * 32 ^ ws.length * 32 := by
      rw [List.length_cons, Nat.pow_succ 32]
      exact (Nat.mul_assoc _ _ _).symm
    have ent : ∀ i, ((smul p.1 p.2).getD i 0).natAbs ≤ 2 ^ (b + 2) := fun i => by
      rw [smul_at, Int.natAbs_mul]
      have h1 : (p.2.getD i 0).natAbs < 2 ^ b := (hb p (List.mem_cons_self ..)).at i
      have h2 : p.1.natAbs * (p.2.getD i 0).natAbs ≤ 4 * 2 ^ b := Nat.mul_le_mul (by omega) (by omega)
      have h3 : 2 ^ (b + 2) = 4 * 2 ^ b := by rw [Nat.pow_add]; omega
      omega
    have sm := led_small (rows := S) (x := smul p.1 p.2) (m := 4) (E := 2 ^ (b + 2)) (E' := 2 ^ (b + 2) * 32 ^ ws.length) s1 s2 hl2 (fun t ht => by
      obtain ⟨q, q1, q2, q3⟩ := i1 t ht
      have q4 : 0 ≤ p.2.getD (place q.2) 0 ∧ p.2.getD (place q.2) 0 < ld q.2 := (List.pairwise_cons.mp (red_pw.mp hr)).1 q.2 (List.mem_map_of_mem q1)
      have q5 := (hc q (List.mem_cons_of_mem _ q1)).1
      have q6 := hu.pos q.2 (List.mem_cons_of_mem _ (List.mem_map_of_mem q1))
      rw [smul_at, q2, q3, Int.natAbs_mul, Int.natAbs_mul]
      refine Nat.mul_le_mul (by omega) (Nat.le_trans (show (p.2.getD (place q.2) 0).natAbs ≤ (ld q.2).natAbs by omega) (Nat.le_mul_of_pos_left _ (by omega)))) ent i3
    refine ⟨fun t ht => ?_, by rw [List.length_cons, i2, List.length_cons], fun t ht i => ?_⟩
    · rcases List.mem_cons.mp ht with rfl | ht
      · exact ⟨p, List.mem_cons_self .., by rw [l1, e1], by rw [l2, e2]⟩
      · obtain ⟨q, q1, q2⟩ := i1 t ht
        exact ⟨q, List.mem_cons_of_mem _ q1, q2⟩
    · rw [nx]
      rcases List.mem_cons.mp ht with rfl | ht
      · have h1 := sm i
        have h2 : 4 * (2 ^ S.length - 1) ≤ 28 := by
          rw [i2]
          rcases (show ws.length = 0 ∨ ws.length = 1 ∨ ws.length = 2 ∨ ws.length = 3 by simp at hn; omega) with h | h | h | h <;> rw [h] <;> omega
        have h3 := Nat.mul_le_mul_right (2 ^ (b + 2) * 32 ^ ws.length) h2
        omega
      · have := i3 t ht i
        omega
/-- the stair of a stair's rows, each some times -/
theorem tms_stair {k b : Nat} {ws : List (Int × Row)} {T : List Row} (hu : Up k (ws.map (·.2))) (hr : Red (ws.map (·.2))) (hc : ∀ p ∈ ws, 0 < p.1 ∧ p.1 ≤ 4) (hb : ∀ p ∈ ws, Bd b p.2) (hn : ws.length ≤ 4) (tu : Up k T) (tr : Red T) (te : Eqv k T (tms ws)) : ∀ t ∈ T, Bd (b + 23) t := by
  obtain ⟨_, _, h3⟩ := tms_small hu hr hc hb hn
  obtain ⟨s1, s2, s3, _⟩ := settle_ok (as := tms ws) (bs := []) (by rw [List.append_nil]; exact tms_up hu fun p hp => (hc p hp).1) (fun i j x y hx => by simp at hx)
  rw [List.append_nil] at s3
  have e : T = settle (tms ws) [] := canon_one tu tr s1 s2 (te.trans s3.symm)
  intro t ht x hx
  rw [e] at ht
  obtain ⟨i, hi⟩ := List.getElem?_of_mem hx
  have h4 := h3 t ht i
  rw [getD_some hi] at h4
  have h5 : 32 ^ ws.length ≤ 2 ^ 20 := Nat.le_trans (Nat.pow_le_pow_right (by omega) hn) (by decide)
  have h6 : 2 ^ (b + 2) * 32 ^ ws.length ≤ 2 ^ (b + 2) * 2 ^ 20 := Nat.mul_le_mul_left _ h5
  have h7 : (2 : Nat) ^ (b + 23) = 2 ^ (b + 2) * 2 ^ 20 * 2 := by rw [← Nat.pow_add, ← Nat.pow_succ]
  have h8 : 0 < (2 : Nat) ^ (b + 2) * 2 ^ 20 := Nat.mul_pos (Nat.pow_pos (by omega)) (by decide)
  omega
end Hn

/-! rows divided by the least of them, again and again: how great their numbers grow -/
namespace Hn
open Mx
def sz (p : Nat) (r : Row) : Nat := (r.getD p 0).natAbs
def les (p : Nat) (low row : Row) : Row := Mx.sub row (Mx.smul (Int.fdiv (row.getD p 0) (low.getD p 0)) low)
theorem les_len {k p : Nat} {low row : Row} (hl : low.length = k) (hr : row.length = k) : (les p low row).length = k := sub_len hr (by rw [smul_len]; exact hl)
theorem les_at {k p : Nat} {low row : Row} (hl : low.length = k) (hr : row.length = k) (i : Nat) : (les p low row).getD i 0 = row.getD i 0 - Int.fdiv (row.getD p 0) (low.getD p 0) * low.getD i 0 := by
  unfold les
  rw [sub_at hr (by rw [smul_len]; exact hl), smul_at]
theorem les_p {k p : Nat} {low row : Row} (hl : low.length = k) (hr : row.length = k) : (les p low row).getD p 0 = Int.fmod (row.getD p 0) (low.getD p 0) := by
  rw [les_at hl hr, Int.fmod_def, Int.mul_comm]
theorem fmod_neg' {x l : Int} (h : l < 0) : Int.fmod x l ≤ 0 ∧ l < Int.fmod x l := by
  have e : Int.fmod x l = -Int.fmod (-x) (-l) := by rw [Int.neg_fmod_neg, Int.neg_neg]
  have h1 := Int.fmod_nonneg_of_pos (-x) (show 0 < -l by omega)
  have h2 := Int.fmod_lt_of_pos (-x) (show 0 < -l by omega)
  omega
theorem fmod_abs {x l : Int} (h : l ≠ 0) : (Int.fmod x l).natAbs < l.natAbs := by
  rcases Int.lt_or_lt_of_ne h with q | q
  · have h1 := fmod_neg' (x := x) q
    omega
  · have h1 := Int.fmod_nonneg_of_pos x q
    have h2 := Int.fmod_lt_of_pos x q
    omega
theorem fdiv_abs {x l : Int} (h : l ≠ 0) : (Int.fdiv x l).natAbs ≤ x.natAbs / l.natAbs + 1 := by
  have h1 := Int.fmod_add_mul_fdiv x l
  have h2 := fmod_abs (x := x) h
  have hl : 0 < l.natAbs := by omega
  have h3 : (l * Int.fdiv x l).natAbs ≤ x.natAbs + (Int.fmod x l).natAbs := by omega
  rw [Int.natAbs_mul] at h3
  have h4 := Nat.div_add_mod x.natAbs l.natAbs
  have h5 := Nat.mod_lt x.natAbs hl
  generalize (Int.fdiv x l).natAbs = q at *
  generalize l.natAbs = m at *
  generalize x.natAbs / m = d at *
  generalize x.natAbs % m = r at *
  rcases Nat.lt_or_ge (d + 1) q with g | g
  · have h6 : m * (d + 2) ≤ m * q := Nat.mul_le_mul_left m g
    have h7 : m * (d + 2) = m * d + 2 * m := by rw [Nat.mul_add, Nat.mul_comm m 2]
    omega
  · exact g
/-- one sign -/
def Sgn (p : Nat) (S : List Row) : Prop := (∀ r ∈ S, 0 < r.getD p 0) ∨ (∀ r ∈ S, r.getD p 0 < 0)
theorem fdiv_same {x l : Int} (h : (0 < x ∧ 0 < l) ∨ (x < 0 ∧ l < 0)) : (Int.fdiv x l).natAbs = x.natAbs / l.natAbs ∧ (Int.fmod x l).natAbs = x.natAbs % l.natAbs := by
  rcases h with ⟨h1, h2⟩ | ⟨h1, h2⟩
  · rw [Int.fdiv_eq_ediv_of_nonneg _ (by omega), Int.fmod_eq_emod_of_nonneg _ (by omega)]
    obtain ⟨a, rfl⟩ := Int.eq_ofNat_of_zero_le (Int.le_of_lt h1)
    obtain ⟨b, rfl⟩ := Int.eq_ofNat_of_zero_le (Int.le_of_lt h2)
    exact ⟨rfl, rfl⟩
  · obtain ⟨a, ha⟩ := Int.eq_ofNat_of_zero_le (show (0 : Int) ≤ -x by omega)
    obtain ⟨b, hb⟩ := Int.eq_ofNat_of_zero_le (show (0 : Int) ≤ -l by omega)
    have e1 : x = -(a : Int) := by omega
    have e2 : l = -(b : Int) := by omega
    rw [e1, e2, Int.neg_fdiv_neg, Int.neg_fmod_neg, Int.natAbs_neg, Int.natAbs_neg, Int.natAbs_neg]
    rw [Int.fdiv_eq_ediv_of_nonneg _ (by omega), Int.fmod_eq_emod_of_nonneg _ (by omega)]
    exact ⟨rfl, rfl⟩
theorem fmod_sign {x l : Int} (h : l ≠ 0) : (0 < l → 0 ≤ Int.fmod x l) ∧ (l < 0 → Int.fmod x l ≤ 0) := ⟨fun q => Int.fmod_nonneg_of_pos x q, fun q => (fmod_neg' (x := x) q).1⟩
/-- the greatest and the least at a place -/
def mxS (p : Nat) : List Row → Nat
  | [] => 0
  | r :: S => max (sz p r) (mxS p S)
theorem mxS_ge {p : Nat} : ∀ {S : List Row} {r : Row}, r ∈ S → sz p r ≤ mxS p S
  | x :: S, r, h => by
    unfold mxS
    rcases List.mem_cons.mp h with rfl | h
    · omega
    · have := mxS_ge (p := p) h
      omega
theorem mxS_le {p v : Nat} : ∀ {S : List Row}, (∀ r ∈ S, sz p r ≤ v) → mxS p S ≤ v
  | [], _ => Nat.zero_le _
  | x :: S, h => by
    unfold mxS
    have h1 := h x (List.mem_cons_self ..)
    have h2 := mxS_le (S := S) fun r hr => h r (List.mem_cons_of_mem _ hr)
    omega
theorem mxS_at {p : Nat} : ∀ {S : List Row}, S ≠ [] → ∃ r ∈ S, sz p r = mxS p S
  | [], h => absurd rfl h
  | [x], _ => ⟨x, List.mem_cons_self .., by unfold mxS mxS; omega⟩
  | x :: y :: S, _ => by
    obtain ⟨r, h1, h2⟩ := mxS_at (p := p) (S := y :: S) (by simp)
    rw [mxS]
    rcases Nat.le_total (sz p x) (mxS p (y :: S)) with q | q
    · exact ⟨r, List.mem_cons_of_mem _ h1, by omega⟩
    · exact ⟨x, List.mem_cons_self .., by omega⟩
def sumS (p : Nat) : List Row → Nat
  | [] => 0
  | r :: S => sz p r + sumS p S
theorem sumS_append {p : Nat} : ∀ (A B : List Row), sumS p (A ++ B) = sumS p A + sumS p B
  | [], B => by simp [sumS]
  | a :: A, B => by
    show sz p a + sumS p (A ++ B) = (sz p a + sumS p A) + sumS p B
    rw [sumS_append A B, Nat.add_assoc]
theorem sumS_le {p v : Nat} : ∀ {S : List Row}, (∀ r ∈ S, sz p r ≤ v) → sumS p S ≤ S.length * v
  | [], _ => Nat.zero_le _
  | x :: S, h => by
    unfold sumS
    rw [List.length_cons, Nat.succ_mul]
    have h1 := h x (List.mem_cons_self ..)
    have h2 := sumS_le (S := S) fun r hr => h r (List.mem_cons_of_mem _ hr)
    omega
/-- the numbers of a row, at most a -/
def Ab (a : Nat) (r : Row) : Prop := ∀ x ∈ r, x.natAbs ≤ a
theorem Ab.at {a : Nat} {r : Row} (h : Ab a r) (i : Nat) : (r.getD i 0).natAbs ≤ a := by
  rcases Nat.lt_or_ge i r.length with q | q
  · exact h _ (List.mem_of_getElem? (getD_eq q))
  · rw [List.getD_eq_getElem?_getD, List.getElem?_eq_none q]
    exact Nat.zero_le _
theorem Ab.of {a k : Nat} {r : Row} (hr : r.length = k) (h : ∀ i, i < k → (r.getD i 0).natAbs ≤ a) : Ab a r := fun x hx => by
  obtain ⟨i, hi, rfl⟩ := List.getElem_of_mem hx
  have e : r.getD i 0 = r[i] := by rw [List.getD_eq_getElem?_getD, List.getElem?_eq_getElem hi]; rfl
  have := h i (by omega)
  rwa [e] at this
theorem Ab.le {a b : Nat} {r : Row} (h : Ab a r) (hb : a ≤ b) : Ab b r := fun x hx => Nat.le_trans (h x hx) hb
theorem les_ab {k p a q : Nat} {low row : Row} (hl : low.length = k) (hr : row.length = k) (al : Ab a low) (ar : Ab a row) (hq : (Int.fdiv (row.getD p 0) (low.getD p 0)).natAbs ≤ q) : Ab (a * (1 + q)) (les p low row) := Ab.of (les_len hl hr) fun i _ => by
  rw [les_at hl hr]
  have h1 := al.at i
  have h2 := ar.at i
  have h3 : (Int.fdiv (row.getD p 0) (low.getD p 0) * low.getD i 0).natAbs ≤ q * a := by
    rw [Int.natAbs_mul]
    exact Nat.mul_le_mul hq h1
  have h4 : a * (1 + q) = a + q * a := by rw [Nat.mul_add, Nat.mul_one, Nat.mul_comm a q]
  generalize Int.fdiv (row.getD p 0) (low.getD p 0) * low.getD i 0 = z at *
  omega
/-- what grows: a * the greatest * the least * 2 to how many -/
structure Pot (p a C : Nat) (S : List Row) : Prop where
  le : ∀ r ∈ S, (∀ x ∈ S, sz p r ≤ sz p x) → a * mxS p S * sz p r * 2 ^ S.length ≤ C
theorem pot_one {p a C : Nat} {S : List Row} (h : Pot p a C S) (hne : S ≠ []) (h0 : ∀ r ∈ S, 0 < sz p r) (hmin : ∃ r ∈ S, ∀ x ∈ S, sz p r ≤ sz p x) : a ≤ C := by
  obtain ⟨r, h1, h2⟩ := hmin
  have h3 := h.le r h1 h2
  have h4 := mxS_ge (p := p) h1
  have h5 := h0 r h1
  have h6 : 1 ≤ 2 ^ S.length := Nat.pow_pos (by omega)
  have h7 : a * 1 * 1 * 1 ≤ a * mxS p S * sz p r * 2 ^ S.length := Nat.mul_le_mul (Nat.mul_le_mul (Nat.mul_le_mul (Nat.le_refl a) (by omega)) (by omega)) h6
  omega
/-- a turn's arithmetic: v the greatest, m the least, q = v / m; of the greatest one v % m is left, or nothing of it -/
theorem pot_arith {v m m' s s' q r : Nat} (hv : v = q * m + r) (hm : 0 < m) (hq : 1 ≤ q) (h1 : m' ≤ m) (h2 : (0 < r ∧ m' ≤ r ∧ s' ≤ s) ∨ (r = 0 ∧ s' + 1 ≤ s)) : (1 + q) * m' * 2 ^ s' ≤ v * 2 ^ s := by
  rcases h2 with ⟨h3, h4, h5⟩ | ⟨h3, h5⟩
  · have e1 : (1 + q) * m' ≤ v := by
      rw [Nat.add_mul, Nat.one_mul]
      have := Nat.mul_le_mul_left q h1
      omega
    exact Nat.mul_le_mul e1 (Nat.pow_le_pow_right (by omega) h5)
  · subst h3
    have e1 : (1 + q) * m' ≤ 2 * v := by
      have h6 : (1 + q) * m' ≤ (1 + q) * m := Nat.mul_le_mul_left _ h1
      have h6' : (1 + q) * m = m + q * m := by rw [Nat.add_mul, Nat.one_mul]
      have h7 : 1 * m ≤ q * m := Nat.mul_le_mul_right m hq
      omega
    have e2 : (2 : Nat) ^ (s' + 1) ≤ 2 ^ s := Nat.pow_le_pow_right (by omega) h5
    rw [Nat.pow_succ] at e2
    have h8 : (1 + q) * m' * 2 ^ s' ≤ 2 * v * 2 ^ s' := Nat.mul_le_mul_right _ e1
    have h9 : 2 * v * 2 ^ s' = v * (2 ^ s' * 2) := by rw [Nat.mul_comm 2 v, Nat.mul_assoc, Nat.mul_comm 2]
    have h10 : v * (2 ^ s' * 2) ≤ v * 2 ^ s := Nat.mul_le_mul_left v e2
    omega
theorem pot_arith2 {v m m' s s' q r : Nat} (hv : v = q * m + r) (hm : 0 < m) (hq : 1 ≤ q) (h1 : m' ≤ m) (h2 : s' ≤ s) : (2 + q) * m' * 2 ^ s' ≤ 3 * (v * 2 ^ s) := by
  have h6 : (2 + q) * m' ≤ (3 * q) * m := Nat.mul_le_mul (by omega) h1
  have h7 : (3 * q) * m ≤ 3 * v := by rw [Nat.mul_assoc]; omega
  have h8 : (2 + q) * m' * 2 ^ s' ≤ 3 * v * 2 ^ s := Nat.mul_le_mul (Nat.le_trans h6 h7) (Nat.pow_le_pow_right (by omega) h2)
  rw [← Nat.mul_assoc 3]
  exact h8
/-- what is left of the others -/
def nz (p : Nat) (R : List Row) : List Row := R.filter fun r => decide (r.getD p 0 ≠ 0)
def zz (p : Nat) (R : List Row) : List Row := R.filter fun r => decide (r.getD p 0 = 0)
structure Some' (k p a : Nat) (S : List Row) : Prop where
  len : ∀ r ∈ S, r.length = k
  ah : ∀ r ∈ S, ∀ q, q < p → r.getD q 0 = 0
  ne : ∀ r ∈ S, r.getD p 0 ≠ 0
  ab : ∀ r ∈ S, Ab a r
/-- the state of a place: bounded by C, or by 3 * C with one sign -/
def Potl (p a C : Nat) (S : List Row) : Prop := Pot p a C S ∨ (Sgn p S ∧ Pot p a (3 * C) S)
/-- a turn -/
theorem turn_pot {k p a C : Nat} {S rest : List Row} {low : Row} (h : Some' k p a S) (hlow : low ∈ S) (hmin : ∀ x ∈ S, sz p low ≤ sz p x) (hrest : ∀ r ∈ rest, r ∈ S) (hall : ∀ r ∈ S, r = low ∨ r ∈ rest) (hlen : rest.length + 1 = S.length) (h2 : 2 ≤ S.length) (hP : Potl p a C S) :
    ∃ a', a ≤ a' ∧ (∀ r ∈ rest, Ab a' (les p low r)) ∧ Some' k p a' (low :: nz p (rest.map (les p low))) ∧ Potl p a' C (low :: nz p (rest.map (les p low))) ∧ sumS p (low :: nz p (rest.map (les p low))) < sumS p (low :: rest) := by
  have ll := h.len low hlow
  have ln := h.ne low hlow
  have lm : 0 < sz p low := by unfold sz; omega
  have hv := mxS_ge (p := p) hlow
  generalize hvv : mxS p S = v at *
  -- a row besides which is as great as any
  obtain ⟨R, hR, hRv⟩ : ∃ R ∈ rest, sz p R = v := by
    obtain ⟨R, h3, h4⟩ := mxS_at (p := p) (S := S) (fun z => by rw [z] at h2; simp at h2)
    rw [hvv] at h4
    rcases hall R h3 with e | e
    · subst e
      have hr0 : rest ≠ [] := fun z => by rw [z] at hlen; simp at hlen; omega
      obtain ⟨x, hx⟩ := List.exists_mem_of_ne_nil _ hr0
      have h5 := hmin x (hrest x hx)
      have h6 := mxS_ge (p := p) (hrest x hx)
      exact ⟨x, hx, by omega⟩
    · exact ⟨R, e, h4⟩
  have hvm : v = v / sz p low * sz p low + v % sz p low := by rw [Nat.mul_comm]; exact (Nat.div_add_mod v (sz p low)).symm
  have hq1 : 1 ≤ v / sz p low := by
    rw [Nat.le_div_iff_mul_le lm]
    omega
  have szl : ∀ r ∈ rest, sz p (les p low r) < sz p low := fun r hr => by
    unfold sz
    rw [les_p ll (h.len r (hrest r hr))]
    exact fmod_abs ln
  have mem : ∀ x ∈ nz p (rest.map (les p low)), ∃ r ∈ rest, x = les p low r ∧ x.getD p 0 ≠ 0 := fun x hx => by
    obtain ⟨h3, h4⟩ := List.mem_filter.mp hx
    obtain ⟨r, hr, rfl⟩ := List.mem_map.mp h3
    exact ⟨r, hr, rfl, of_decide_eq_true h4⟩
  have hnl : (nz p (rest.map (les p low))).length ≤ rest.length := by
    have := List.length_filter_le (fun r => decide (r.getD p 0 ≠ 0)) (rest.map (les p low))
    rwa [List.length_map] at this
  have mx' : mxS p (low :: nz p (rest.map (les p low))) = sz p low := by
    refine Nat.le_antisymm (mxS_le fun x hx => ?_) (mxS_ge (List.mem_cons_self ..))
    rcases List.mem_cons.mp hx with rfl | hx
    · exact Nat.le_refl _
    · obtain ⟨r, hr, rfl, _⟩ := mem x hx
      exact Nat.le_of_lt (szl r hr)
  have sgn' : Sgn p (low :: nz p (rest.map (les p low))) := by
    rcases Int.lt_or_lt_of_ne ln with q | q
    · right
      intro x hx
      rcases List.mem_cons.mp hx with rfl | hx
      · exact q
      · obtain ⟨r, hr, rfl, hne⟩ := mem x hx
        have h3 := (fmod_sign (x := r.getD p 0) ln).2 q
        rw [← les_p ll (h.len r (hrest r hr))] at h3
        omega
    · left
      intro x hx
      rcases List.mem_cons.mp hx with rfl | hx
      · exact q
      · obtain ⟨r, hr, rfl, hne⟩ := mem x hx
        have h3 := (fmod_sign (x := r.getD p 0) ln).1 q
        rw [← les_p ll (h.len r (hrest r hr))] at h3
        omega
  have sum' : sumS p (low :: nz p (rest.map (les p low))) < sumS p (low :: rest) := by
    have key : ∀ T : List Row, (∀ r ∈ T, r ∈ rest) → sumS p (nz p (T.map (les p low))) + T.length ≤ sumS p T := by
      intro T
      induction T with
      | nil => intro _; exact Nat.zero_le _
      | cons x T ih =>
        intro hT
        have ih := ih fun r hr => hT r (List.mem_cons_of_mem _ hr)
        have hx := hT x (List.mem_cons_self ..)
        have h3 := szl x hx
        have h4 := hmin x (hrest x hx)
        rw [List.map_cons]
        unfold nz at ih ⊢
        rw [List.length_cons]
        by_cases z : (les p low x).getD p 0 ≠ 0
        · rw [List.filter_cons_of_pos (by simpa using z)]
          unfold sumS
          omega
        · rw [List.filter_cons_of_neg (by simpa using z)]
          show _ ≤ sz p x + sumS p T
          omega
    have := key rest fun _ h => h
    show sz p low + _ < sz p low + _
    omega
  have some' : ∀ a', a ≤ a' → (∀ r ∈ rest, Ab a' (les p low r)) → Some' k p a' (low :: nz p (rest.map (les p low))) := fun a' ha hab => by
    refine ⟨fun x hx => ?_, fun x hx q hq => ?_, fun x hx => ?_, fun x hx => ?_⟩
    · rcases List.mem_cons.mp hx with rfl | hx
      · exact ll
      · obtain ⟨r, hr, rfl, _⟩ := mem x hx
        exact les_len ll (h.len r (hrest r hr))
    · rcases List.mem_cons.mp hx with rfl | hx
      · exact h.ah x hlow q hq
      · obtain ⟨r, hr, rfl, _⟩ := mem x hx
        rw [les_at ll (h.len r (hrest r hr)), h.ah r (hrest r hr) q hq, h.ah low hlow q hq, Int.mul_zero, Int.sub_zero]
    · rcases List.mem_cons.mp hx with rfl | hx
      · exact ln
      · obtain ⟨r, hr, rfl, hne⟩ := mem x hx
        exact hne
    · rcases List.mem_cons.mp hx with rfl | hx
      · exact (h.ab x hlow).le ha
      · obtain ⟨r, hr, rfl, _⟩ := mem x hx
        exact hab r hr
  have low_le : ∀ y ∈ low :: nz p (rest.map (les p low)), (∀ x ∈ low :: nz p (rest.map (les p low)), sz p y ≤ sz p x) → sz p y ≤ sz p low := fun y _ hy => hy low (List.mem_cons_self ..)
  have rle : ∀ r ∈ rest, sz p r ≤ v := fun r hr => by
    have := mxS_ge (p := p) (hrest r hr)
    omega
  rcases hP with hP | ⟨hS, hP⟩
  · -- of any signs
    have hpot := hP.le low hlow hmin
    rw [hvv] at hpot
    have hq : ∀ r ∈ rest, (Int.fdiv (r.getD p 0) (low.getD p 0)).natAbs ≤ v / sz p low + 1 := fun r hr => by
      have h3 := fdiv_abs (x := r.getD p 0) ln
      have h4 : (r.getD p 0).natAbs / (low.getD p 0).natAbs ≤ v / sz p low := Nat.div_le_div_right (rle r hr)
      omega
    have hab : ∀ r ∈ rest, Ab (a * (1 + (v / sz p low + 1))) (les p low r) := fun r hr => les_ab ll (h.len r (hrest r hr)) (h.ab low hlow) (h.ab r (hrest r hr)) (hq r hr)
    have ha : a ≤ a * (1 + (v / sz p low + 1)) := by
      have := Nat.mul_le_mul_left a (show 1 ≤ 1 + (v / sz p low + 1) by omega)
      omega
    refine ⟨_, ha, hab, some' _ ha hab, .inr ⟨sgn', ⟨fun y hy hym => ?_⟩⟩, sum'⟩
    rw [mx']
    have h5 := low_le y hy hym
    have h6 := pot_arith2 (s := S.length) (s' := (low :: nz p (rest.map (les p low))).length) hvm lm hq1 h5 (by rw [List.length_cons]; omega)
    have e1 : a * (1 + (v / sz p low + 1)) * sz p low * sz p y * 2 ^ (low :: nz p (rest.map (les p low))).length = a * sz p low * ((2 + v / sz p low) * sz p y * 2 ^ (low :: nz p (rest.map (les p low))).length) := by
      rw [show 1 + (v / sz p low + 1) = 2 + v / sz p low by omega]
      simp only [Nat.mul_assoc, Nat.mul_comm, Nat.mul_left_comm]
    rw [e1]
    refine Nat.le_trans (Nat.mul_le_mul_left _ h6) ?_
    have e2 : a * sz p low * (3 * (v * 2 ^ S.length)) = 3 * (a * v * sz p low * 2 ^ S.length) := by simp only [Nat.mul_assoc, Nat.mul_comm, Nat.mul_left_comm]
    rw [e2]
    exact Nat.mul_le_mul_left 3 hpot
  · -- of one sign
    have hpot := hP.le low hlow hmin
    rw [hvv] at hpot
    have sg : ∀ r ∈ rest, (0 < r.getD p 0 ∧ 0 < low.getD p 0) ∨ (r.getD p 0 < 0 ∧ low.getD p 0 < 0) := fun r hr => by
      rcases hS with q | q
      · exact .inl ⟨q r (hrest r hr), q low hlow⟩
      · exact .inr ⟨q r (hrest r hr), q low hlow⟩
    have hq : ∀ r ∈ rest, (Int.fdiv (r.getD p 0) (low.getD p 0)).natAbs ≤ v / sz p low := fun r hr => by
      rw [(fdiv_same (sg r hr)).1]
      exact Nat.div_le_div_right (rle r hr)
    have hab : ∀ r ∈ rest, Ab (a * (1 + v / sz p low)) (les p low r) := fun r hr => les_ab ll (h.len r (hrest r hr)) (h.ab low hlow) (h.ab r (hrest r hr)) (hq r hr)
    have ha : a ≤ a * (1 + v / sz p low) := by
      have := Nat.mul_le_mul_left a (show 1 ≤ 1 + v / sz p low by omega)
      omega
    refine ⟨_, ha, hab, some' _ ha hab, .inr ⟨sgn', ⟨fun y hy hym => ?_⟩⟩, sum'⟩
    rw [mx']
    have h5 := low_le y hy hym
    have hRm : sz p (les p low R) = v % sz p low := by
      unfold sz
      rw [les_p ll (h.len R (hrest R hR)), (fdiv_same (sg R hR)).2]
      show sz p R % sz p low = _
      rw [hRv]
      rfl
    have hcase : (0 < v % sz p low ∧ sz p y ≤ v % sz p low ∧ (low :: nz p (rest.map (les p low))).length ≤ S.length) ∨ (v % sz p low = 0 ∧ (low :: nz p (rest.map (les p low))).length + 1 ≤ S.length) := by
      rcases Nat.eq_zero_or_pos (v % sz p low) with z | z
      · right
        refine ⟨z, ?_⟩
        have hz : (les p low R).getD p 0 = 0 := by
          have : ((les p low R).getD p 0).natAbs = 0 := by
            show sz p (les p low R) = 0
            rw [hRm, z]
          omega
        have hlt : (nz p (rest.map (les p low))).length < (rest.map (les p low)).length := by
          unfold nz
          refine Nat.lt_of_le_of_ne (List.length_filter_le _ _) fun e => ?_
          have h7 := List.length_filter_eq_length_iff.mp e _ (List.mem_map.mpr ⟨R, hR, rfl⟩)
          rw [hz] at h7
          simp at h7
        rw [List.length_map] at hlt
        rw [List.length_cons]
        omega
      · left
        refine ⟨z, ?_, by rw [List.length_cons]; omega⟩
        rw [← hRm]
        refine hym _ (List.mem_cons_of_mem _ (List.mem_filter.mpr ⟨List.mem_map.mpr ⟨R, hR, rfl⟩, decide_eq_true fun e => ?_⟩))
        have : sz p (les p low R) = 0 := by unfold sz; rw [e]; rfl
        omega
    have h6 := pot_arith (s := S.length) (s' := (low :: nz p (rest.map (les p low))).length) hvm lm hq1 h5 hcase
    have e1 : a * (1 + v / sz p low) * sz p low * sz p y * 2 ^ (low :: nz p (rest.map (les p low))).length = a * sz p low * ((1 + v / sz p low) * sz p y * 2 ^ (low :: nz p (rest.map (les p low))).length) := by
      simp only [Nat.mul_assoc, Nat.mul_comm, Nat.mul_left_comm]
    rw [e1]
    refine Nat.le_trans (Nat.mul_le_mul_left _ h6) ?_
    have e2 : a * sz p low * (v * 2 ^ S.length) = a * v * sz p low * 2 ^ S.length := by simp only [Nat.mul_assoc, Nat.mul_comm, Nat.mul_left_comm]
    rw [e2]
    exact hpot
end Hn

namespace Sr
open PySem PySem.Spec PyProof.Rows L2
/-! ### repr of lists and tuples -/
def seqD : PyData → Prop
  | .list _ => True
  | .tuple _ => True
  | _ => False
/-- data whose text is told: of numbers not too long, of strings none -/
structure ShD (n : Nat) (d : PyData) : Prop where
  sh : d.showable = true
  hd : d.hasDict = false
  ok : PyData.strOk d.shown = true
  ln : d.shown.length ≤ n
def rRepr (K : PySem.W.Frag) : List V → Hp → VK → Prop := fun vs H Q => ∃ v d, vs = [v] ∧ Dp K H v d ∧ seqD d ∧ ShD sizeLine d ∧ d.depth ≤ 60 ∧ Q (.str d.shown) H
theorem cr_repr {X : Cx} (hr : X.A.guards = some []) (hu : X.A.units + 64 < cLine) : CallR X (.builtin "repr") (rRepr X.K) := by
  intro pins s σ H vs us Q I r h
  obtain ⟨v, d, rfl, hd, hs, hh, hdp, q⟩ := h
  obtain ⟨u, rfl, ru⟩ : ∃ u, us = [u] ∧ RelV v u := by
    cases r with
    | cons a b =>
      cases b
      exact ⟨_, rfl, a⟩
  obtain ⟨as, rd⟩ := Dp.reads I d v u hd ru
  have fin : ∀ a, u = .ref a → wpAny (model X.prog X.w) X.A (call (.builtin "repr") [u]) (EP X pins σ Q) X.xe s := fun a e => by
    subst e
    exact repr_of_reads' rd hh.sh (PyData.noDict_hsm hh.hd) hr (by omega) (fun _ _ e => e) (fun h' t tk k => ⟨.str d.shown, H, I.kept k, ⟨_, rfl⟩, q⟩) hh.ln
  cases hd with
  | lst _ _ => exact fin _ ru
  | tup _ _ => exact fin _ ru
  | _ => exact hs.elim
/-- what stands in the tree, told -/
noncomputable def tx (x : T) : Str := (toD x).shown
def Shw (x : T) : Prop := clo x = true ∧ seqD (toD x) ∧ ShD sizeLine (toD x) ∧ (toD x).depth ≤ 60
open Classical in
noncomputable def dTx (x : T) : EM := fun e s => match rs 9 0 s x with
  | some y => if Shw y then .ok (.str (tx y)) e s else .bad
  | none => .bad
noncomputable def dRepr (a : EM) : EM := fun e s => (M.bind a fun x => dTx x) e s
theorem dTx_of {x y : T} {s : Sto} (e : En) (h : rs 9 0 s x = some y) (hy : Shw y) : dTx x e s = .ok (.str (tx y)) e s := by
  unfold dTx
  rw [h]
  exact if_pos hy
section
variable {C : Ct}
theorem se_repr {t : TE} {d : EM} (h : SE C t d) : SE C (tCB (rRepr C.K) (tCons t tNil)) (dRepr d) := fun N F H φ e s σ rl Q q => by
  refine h.go (Q := fun y H2 => tNil σ H2 fun xs H3 => rRepr C.K (y :: xs) H3 Q) rl Po.pk q fun v x F1 φ1 H1 e1 s1 r1 u1 rp q1 => ?_
  unfold dTx at q1
  split at q1
  · rename_i y hy
    split at q1
    · rename_i hs
      refine ⟨v, toD y, rfl, rs_dp r1.hr 9 v x y rp hy hs.1, hs.2.1, hs.2.2.1, hs.2.2.2, ?_⟩
      exact q1 _ F1 φ1 H1 r1 (Up.refl ..) .str
    · exact q1.elim
  · exact q1.elim
end
section
variable {X : Cx} {K : PySem.W.Frag} {cls : Nat → Value} {W : WX} {e : Expr} {te : TE} {d : EM} {p pos : Pos}
theorem xrepr {k : Nat} (hr : RmG k X.A) (hm : X.mg "repr" = none) (ha : XE X K cls W e te d) (hg : Gl X "repr" := by rfl) (hv : bootBuiltins "repr" = some (.builtin "repr") := by decide +kernel)
    (he : starEach [e] X.env = (false, eval e X.env) :: starEach [] X.env := by rfl) (hpl : (backTo pos (starEach [] X.env)).any (·.1) = false := by rfl) : XE X K cls W (.Call (.Name "repr" p) [e] [] pos) (tCB (rRepr K) (tCons te tNil)) (dRepr d) := by
  cases ha.k
  exact ⟨pe_callB (cr_repr hr.gd hr.units) hg hm hv (pa_cons ha.p pa_nil he) (by decide) (by decide) he hpl, se_repr ha.s, rfl⟩
end
/-! #### of numbers -/
theorem strOk_app (a b : Str) : PyData.strOk (a ++ b) = (PyData.strOk a && PyData.strOk b) := by
  unfold PyData.strOk
  rw [← Array.all_toList, ← Array.all_toList, ← Array.all_toList, cps_toList_append, List.all_append]
theorem strOk_of (s : String) : PyData.strOk (Str.ofString s) = true := by
  unfold PyData.strOk
  rw [← Array.all_toList, signs_ofString, List.all_map, List.all_eq_true]
  intro c _
  have := c.valid
  show decide (c.toNat < 0x110000) = true
  rw [decide_eq_true_iff]
  rcases this with h | h
  · have : c.toNat < 0xd800 := h
    omega
  · exact h.2
theorem tf_ok : ∀ (ts : List Str) (k : Nat) (acc : Str), PyData.strOk acc = true → (∀ t ∈ ts, PyData.strOk t = true) → PyData.strOk (textFrom k acc ts) = true
  | [], _, _, h, _ => h
  | t :: ts, k, acc, h, ht => by
    refine tf_ok ts (k + 1) _ ?_ fun u hu => ht u (List.mem_cons_of_mem _ hu)
    rw [strOk_app, strOk_app, h, ht t (List.mem_cons_self ..), Bool.and_true, Bool.true_and]
    exact strOk_of _
theorem tf_len : ∀ (ts : List Str) (k : Nat) (acc : Str), (textFrom k acc ts).length ≤ acc.length + piled ts
  | [], _, _ => by rw [piled_nil]; exact Nat.le_refl _
  | t :: ts, k, acc => by
    refine Nat.le_trans (tf_len ts (k + 1) _) ?_
    rw [strLen_append, strLen_append, piled_cons]
    have : ((if k > 0 then ", " else "" : String) : Str).length ≤ 2 := by
      split <;> decide
    omega
theorem piled_le {n : Nat} : ∀ {ts : List Str}, (∀ t ∈ ts, t.length ≤ n) → piled ts ≤ ts.length * (n + 2)
  | [], _ => by simp [piled_nil]
  | t :: ts, h => by
    rw [piled_cons, List.length_cons, Nat.succ_mul]
    have := h t (List.mem_cons_self ..)
    have := piled_le (ts := ts) fun u hu => h u (List.mem_cons_of_mem _ hu)
    omega
theorem join_ok : ∀ (ts : List Str), (∀ t ∈ ts, PyData.strOk t = true) → PyData.strOk (Str.join ", " ts) = true
  | [], _ => by
    rw [join_nil]
    exact strOk_of ""
  | [x], h => h x (List.mem_cons_self ..)
  | x :: y :: r, h => by
    rw [join_cons_cons, strOk_app, strOk_app, h x (List.mem_cons_self ..), join_ok (y :: r) fun t ht => h t (List.mem_cons_of_mem _ ht), strOk_of]
    rfl
theorem shownAll_map : ∀ ds : List PyData, PyData.shownAll ds = ds.map PyData.shown
  | [] => by simp only [PyData.shownAll, List.map_nil]
  | d :: ds => by simp only [PyData.shownAll, List.map_cons, shownAll_map ds]
theorem showableAll_all : ∀ ds : List PyData, PyData.showableAll ds = ds.all PyData.showable
  | [] => by simp only [PyData.showableAll, List.all_nil]
  | d :: ds => by simp only [PyData.showableAll, List.all_cons, showableAll_all ds]
theorem hasDictAll_any : ∀ ds : List PyData, PyData.hasDictAll ds = ds.any PyData.hasDict
  | [] => by simp only [PyData.hasDictAll, List.any_nil]
  | d :: ds => by simp only [PyData.hasDictAll, List.any_cons, hasDictAll_any ds]
/-- data of depth m, whose text has at most n signs -/
structure Shn (m n : Nat) (x : T) : Prop where
  cl : clo x = true
  sd : ShD n (toD x)
  dp : (toD x).depth ≤ m
theorem Shn.mono {m n m' n' : Nat} {x : T} (h : Shn m n x) (hm : m ≤ m') (hn : n ≤ n') : Shn m' n' x := ⟨h.cl, ⟨h.sd.sh, h.sd.hd, h.sd.ok, Nat.le_trans h.sd.ln hn⟩, Nat.le_trans h.dp hm⟩
theorem shn_int {i : Int} (h : i.natAbs < 2 ^ 1919) : Shn 1 1921 (.int i) := by
  have hl : i.natAbs.log2 < 1920 := by
    rcases Nat.eq_zero_or_pos i.natAbs with z | z
    · rw [z]
      decide
    · have := (Nat.log2_lt (by omega : i.natAbs ≠ 0)).mpr h
      omega
  refine ⟨rfl, ⟨?_, ?_, ?_, ?_⟩, by simp [toD, PyData.depth]⟩
  · simp only [toD, PyData.showable, decide_eq_true_iff]
    exact hl
  · simp only [toD, PyData.hasDict]
  · simp only [toD, PyData.shown]
    exact strOk_of _
  · simp only [toD, PyData.shown]
    exact int_text_len_1921 hl
theorem shn_seq {m n : Nat} {xs : List T} (h : ∀ x ∈ xs, Shn m n x) : (∀ d ∈ toDs xs, ShD n d) ∧ PyData.showableAll (toDs xs) = true ∧ PyData.hasDictAll (toDs xs) = false ∧ (∀ t ∈ PyData.shownAll (toDs xs), PyData.strOk t = true) ∧ piled (PyData.shownAll (toDs xs)) ≤ xs.length * (n + 2) ∧ clos xs = true ∧ PyData.depthAll (toDs xs) ≤ m := by
  have hd : ∀ d ∈ toDs xs, ShD n d ∧ d.depth ≤ m := fun d hd => by
    rw [toDs_map] at hd
    obtain ⟨x, hx, rfl⟩ := List.mem_map.mp hd
    exact ⟨(h x hx).sd, (h x hx).dp⟩
  refine ⟨fun d z => (hd d z).1, ?_, ?_, ?_, ?_, ?_, depthAll_le fun d z => (hd d z).2⟩
  · rw [showableAll_all, List.all_eq_true]
    exact fun d z => (hd d z).1.sh
  · rw [hasDictAll_any, List.any_eq_false]
    intro d z
    rw [(hd d z).1.hd]
    simp
  · rw [shownAll_map]
    intro t ht
    obtain ⟨d, z, rfl⟩ := List.mem_map.mp ht
    exact (hd d z).1.ok
  · have := piled_le (n := n) (ts := PyData.shownAll (toDs xs)) fun t ht => by
      rw [shownAll_map] at ht
      obtain ⟨d, z, rfl⟩ := List.mem_map.mp ht
      exact (hd d z).1.ln
    rwa [shownAll_map, List.length_map, toDs_map, List.length_map, ← toDs_map, ← shownAll_map] at this
  · rw [clos_all, List.all_eq_true]
    exact fun x hx => (h x hx).cl
theorem shn_lst {m n : Nat} {xs : List T} (h : ∀ x ∈ xs, Shn m n x) : Shn (m + 1) (2 + xs.length * (n + 2)) (.lst xs) := by
  obtain ⟨_, h1, h2, h3, h4, h5, h6⟩ := shn_seq h
  refine ⟨h5, ⟨?_, ?_, ?_, ?_⟩, ?_⟩
  · simp only [toD, PyData.showable]
    exact h1
  · simp only [toD, PyData.hasDict]
    exact h2
  · simp only [toD, PyData.shown]
    unfold listText
    rw [strOk_app, tf_ok _ _ _ (strOk_of _) h3, strOk_of]
    rfl
  · simp only [toD, PyData.shown]
    unfold listText
    rw [strLen_append]
    have := tf_len (PyData.shownAll (toDs xs)) 0 "["
    have e1 : (("[" : String) : Str).length = 1 := rfl
    have e2 : (("]" : String) : Str).length = 1 := rfl
    omega
  · simp only [toD, PyData.depth]
    omega
theorem shn_tup {m n : Nat} {xs : List T} (h : ∀ x ∈ xs, Shn m n x) : Shn (m + 1) (3 + xs.length * (n + 2)) (.tup xs) := by
  obtain ⟨_, h1, h2, h3, h4, h5, h6⟩ := shn_seq h
  refine ⟨h5, ⟨?_, ?_, ?_, ?_⟩, ?_⟩
  · simp only [toD, PyData.showable]
    exact h1
  · simp only [toD, PyData.hasDict]
    exact h2
  · simp only [toD, PyData.shown]
    unfold tupleText
    rw [strOk_app, strOk_app, join_ok _ h3, strOk_of, strOk_of]
    rfl
  · simp only [toD, PyData.shown]
    unfold tupleText
    rw [strLen_append, strLen_append]
    have e1 : (("(" : String) : Str).length = 1 := rfl
    have e2 : ((if (PyData.shownAll (toDs xs)).length == 1 then ",)" else ")" : String) : Str).length ≤ 2 := by
      split <;> decide
    have e3 : (Str.join ", " (PyData.shownAll (toDs xs))).length ≤ piled (PyData.shownAll (toDs xs)) := by
      by_cases z : PyData.shownAll (toDs xs) = []
      · rw [z]
        decide
      · have := join_length_add _ z
        omega
    omega
  · simp only [toD, PyData.depth]
    omega
theorem Shn.l {m n : Nat} {xs : List T} (h : Shn m n (.lst xs)) (hm : m ≤ 60) (hn : n ≤ sizeLine) : Shw (.lst xs) := ⟨h.cl, trivial, (h.mono (Nat.le_refl _) hn).sd, Nat.le_trans h.dp hm⟩
theorem Shn.t {m n : Nat} {xs : List T} (h : Shn m n (.tup xs)) (hm : m ≤ 60) (hn : n ≤ sizeLine) : Shw (.tup xs) := ⟨h.cl, trivial, (h.mono (Nat.le_refl _) hn).sd, Nat.le_trans h.dp hm⟩
/-- a row, rows -/
theorem shn_row {r : List Int} {k : Nat} (hk : r.length ≤ k) (h : ∀ x ∈ r, x.natAbs < 2 ^ 1919) : Shn 2 (2 + k * 1923) (.lst (r.map .int)) := by
  refine (shn_lst (m := 1) (n := 1921) fun x hx => ?_).mono (Nat.le_refl _) ?_
  · obtain ⟨i, hi, rfl⟩ := List.mem_map.mp hx
    exact shn_int (h i hi)
  · rw [List.length_map]
    exact Nat.add_le_add_left (Nat.mul_le_mul_right _ hk) _
theorem shn_rows {R : List (List Int)} {k m : Nat} (hm : R.length ≤ m) (hk : ∀ r ∈ R, r.length ≤ k) (h : ∀ r ∈ R, ∀ x ∈ r, x.natAbs < 2 ^ 1919) : Shn 3 (2 + m * (4 + k * 1923)) (eM R) := by
  refine (shn_lst (m := 2) (n := 2 + k * 1923) fun x hx => ?_).mono (Nat.le_refl _) ?_
  · obtain ⟨r, hr, rfl⟩ := List.mem_map.mp hx
    exact shn_row (hk r hr) (h r hr)
  · rw [List.length_map]
    have := Nat.mul_le_mul_right (4 + k * 1923) hm
    have e : 2 + k * 1923 + 2 = 4 + k * 1923 := by omega
    rw [e]
    omega
/-! #### classes: whether one is of the other's kind, by what is known of them -/
theorem kitOne_cls {K : PySem.W.Frag} {t : Value} {C : Addr} {b : Bool} (h1 : PySem.W.isClsIn K C = true) (h2 : PySem.W.typeIn K (.ref C) = some (.type "type")) (h4 : PySem.W.selfFirst K C = true) (h3 : PySem.W.subIn K t (.ref C) = some b) : PySem.W.kitOne K t (.ref C) = some b := by
  unfold PySem.W.kitOne
  split
  · rename_i e
    have e' := beq_iff_eq.mp e
    subst e'
    have h3 : (PySem.W.clsIn K C).bind (fun cd => if cd.mro.isEmpty then none else some (cd.mro.contains (.ref C))) = some b := h3
    unfold PySem.W.selfFirst at h4
    cases hc : PySem.W.clsIn K C with
    | none =>
      rw [hc] at h3
      cases h3
    | some cd =>
      rw [hc] at h3 h4
      have h4 : (cd.mro.head? == some (.ref C)) = true := h4
      have h5 := beq_iff_eq.mp h4
      have h3 : (if cd.mro.isEmpty then none else some (cd.mro.contains (.ref C))) = some b := h3
      cases hm : cd.mro with
      | nil =>
        rw [hm] at h5
        cases h5
      | cons x r =>
        rw [hm] at h3 h5
        cases h5
        simp at h3
        rw [← h3]
  · show (if ((PySem.W.clsIn K C).isSome && PySem.W.typeIn K (.ref C) == some (.type "type")) = true then PySem.W.subIn K t (.ref C) else none) = some b
    rw [if_pos (by rw [show (PySem.W.clsIn K C).isSome = true from h1, h2]; rfl)]
    exact h3
theorem kitOne_ty {K : PySem.W.Frag} {C : Addr} {T : String} {b : Bool} (h1 : PySem.W.kitMeta T = true) (h3 : PySem.W.subIn K (.ref C) (.type T) = some b) : PySem.W.kitOne K (.ref C) (.type T) = some b := by
  unfold PySem.W.kitOne
  rw [if_neg (by simp)]
  show (if PySem.W.kitMeta T = true then PySem.W.subIn K (.ref C) (.type T) else none) = some b
  rw [if_pos h1]
  exact h3
/-- a text that is told, compared -/
theorem Shw.str {x : T} (h : Shw x) : PyData.strOk (tx x) = true := h.2.2.1.ok
end Sr

namespace Sr
open PySem PySem.Spec PyProof.Rows L2
open Evl (Ex)
/-! ### errors that are kept: try: .. except C as e: m = e -/
section
variable {X : Cx} {pins : List (Addr × Obj)} {σ : L2.St} {H : Hp} {s : Shared}
/-- an object that nobody tracks, made after the def began, is tracked from now on -/
theorem Inv.adopt {a : Addr} {o : HO} (I : Inv X pins σ H s) (na : H a = none) (nL : a ≠ X.env.locals) (nC : ∀ x c, X.env.cells.lookup x = some c → a ≠ c) (nw : X.s_0.heap.get? a = none) (nP : ∀ p ∈ X.pn ++ pins, p.1 ≠ a) (ok : ObjOk X.prog X.w (upd H a o) s.heap a o) : Inv X pins σ (upd H a o) s := by
  have off : ∀ b, b ≠ a → (upd H a o) b = H b := fun b q => upd_ne q
  have on : ∀ b u, H b = some u → (upd H a o) b = some u := fun b u e => by
    rw [off b fun z => by rw [z, na] at e; cases e]
    exact e
  have B := I.base
  have B' : Un X.fs X.ex X.H_0 (upd H a o) X.s_0.heap s.heap := {
    keep := B.keep
    slot := B.slot
    free := fun b u e n x => by
      rw [off b fun z => by rw [z, nw] at e; cases e]
      exact B.free b u e n x
    there := B.there
    tups := fun b xs e => on b _ (B.tups b xs e)
    frzs := fun b u v e => on b _ (B.frzs b u v e)
    tbls := fun b ps e => by
      obtain ⟨more, h⟩ := B.tbls b ps e
      exact ⟨more, on b _ h⟩ }
  refine { ok := I.ok, os := I.os, bare := I.bare, base := B', loc := I.loc, cell := I.cell, free := ?_, freeC := fun x c e => ?_, pin := fun p hp => ?_, hok := fun b u e => ?_, len := I.len }
  · rw [off _ (Ne.symm nL)]
    exact I.free
  · rw [off _ (Ne.symm (nC x c e))]
    exact I.freeC x c e
  · obtain ⟨h1, h2, h3⟩ := I.pin p hp
    exact ⟨h1, by rw [off _ (nP p hp)]; exact h2, h3⟩
  · by_cases z : b = a
    · subst z
      rw [upd_same] at e
      cases e
      exact ok
    · rw [off b z] at e
      exact (I.hok b u e).stay (fun _ _ _ q => q) (fun c q => on c _ q) fun c xs q => on c _ q
/-- what the clause wishes of an error of the body: the class is c's; the suite runs on; the error is kept -/
def wKp (K : PySem.W.Frag) (c : Value) (i : Nat) (ts : Addr → Value → TS) (D : Ends) : WX := fun cls d σ H =>
  d = none ∧ PySem.W.exmOne K cls c = some true ∧ ∀ a, H a = none → ts a cls { nx := fun σ' H' => D.nx (σ'.set i none) (upd H' a (exO a cls)), rt := fun _ _ => False } (σ.set i (some (.ref a))) H
theorem ps_try_keep {x n : Str} {c : Value} {i : Nat} {body suite : List Stmt} {b₀ : Stmt} {np pos pos' : Pos} {tb : WX → TS} {ts : Addr → Value → TS} (stk : X.stack = X.env :: X.outer) (fr : X.env.frame = some X.env.locals) (nod : X.N.Nodup) (at_ : X.N[i]? = some n) (lc : X.env.kindOf n = some .local) (nm : Names X x c) (nex : X.ex = [])
    (hb : ∀ (W : WX) (pn : List (Addr × Obj)) (xe : Value → Shared → Prop), Takes (X.tr pn xe) W → PassesOwn (model X.prog X.w) X.A X.env xe → PSs (X.tr pn xe) body (tb W))
    (hsu : ∀ (a : Addr) (oe : Obj) (cls : Value) (pn : List (Addr × Obj)), Zc cls none oe → (∃ vs, oe.data = .fields vs) → PSs (X.suite a ((a, oe) :: pn)) (b₀ :: suite) (ts a cls)) :
    PS X (.Try body [.ExceptHandler (some (.Name x np)) (some n) (b₀ :: suite) pos'] [] [] pos) (fun D σ H => tb (wKp X.K c i ts D) D σ H) := by
  constructor
  intro pins s σ H D I h
  have XO := I.ok
  have frs' : X.A.frames = some (X.env :: X.outer) := XO.frames.trans (by rw [stk])
  apply wpAny_Try_except
  have run := (hb (wKp X.K c i ts D) (X.pn ++ pins) (fun e s₁ => wpAny (model X.prog X.w) X.A (noteFrame e X.env) (fun _ s₂ => wpAny (model X.prog X.w) X.A (setFlight e none) (fun _ s₃ => wpAny (model X.prog X.w) X.A (handleBy e X.env [.ExceptHandler (some (.Name x np)) (some n) (b₀ :: suite) pos']) (SP X pins D) X.xe s₃) X.xe s₂) X.xe s₁) ?tk PassesOwn.looking).run [] s σ H D (I.toTry _) h
  · refine wpAny_mono run (fun f s1 hf => ?_) fun _ _ q => q
    cases f with
    | next =>
      rcases hf with ⟨τ, G, Q1, q⟩
      exact wpAny_execs_nil ⟨τ, G, Q1.ofTry XO, q⟩
    | brk =>
      rcases hf with ⟨τ, G, Q1, q⟩
      exact ⟨τ, G, Q1.ofTry XO, q⟩
    | cont =>
      rcases hf with ⟨τ, G, Q1, q⟩
      exact ⟨τ, G, Q1.ofTry XO, q⟩
    | ret u =>
      rcases hf with ⟨v, τ, G, Q1, r, q⟩
      exact ⟨v, τ, G, Q1.ofTry XO, r, q⟩
  intro u s' xx
  rcases xx with ⟨a, B, sI, pn2, τ, G, cls, d, eu, Q0, ground, grew, air, na, eos, bare, ed, em, go⟩
  cases eu
  cases ed
  have Q1 : Inv X pins τ G sI := Q0.ofTry XO
  rw [stk] at air
  refine Sky.land Zc.steady frs' fr air fun g1 fly grew1 => ?_
  -- where the error's object stands
  have outside : ∀ {g : Heap} {o : Obj} {vs : Array Value}, g.FunFrames B (X.env :: X.outer) → g.get? a = some o → o.data = .fields vs → a ∉ L2.frs (X.env :: X.outer) := by
    intro g o vs ff e dd mem
    rcases ff.mem mem with ⟨_, o2, e2, no⟩
    rw [e] at e2
    cases e2
    exact no _ dd
  rcases fly.there with ⟨o1, vs1, there1, z1, dt1⟩
  have outs := outside fly.2.2.1 there1 dt1
  have nL : a ≠ X.env.locals := by
    intro z
    apply outs
    refine List.mem_filterMap.mpr ⟨X.env, List.mem_cons_self, ?_⟩
    rw [fr, z]
  have nF : a ∉ X.fs := by
    intro mem
    rcases List.mem_filterMap.mp mem with ⟨e, he, q⟩
    exact outs (List.mem_filterMap.mpr ⟨e, List.mem_cons_of_mem _ he, q⟩)
  have nI : sI.heap.get? a = none := by
    cases q : sI.heap.get? a with
    | none => rfl
    | some o =>
      have h2 := ground a o q (by rw [stk]; exact outs)
      rw [fly.2.1] at h2
      cases h2
  have n0 : X.s_0.heap.get? a = none := by
    cases q : X.s_0.heap.get? a with
    | none => rfl
    | some o =>
      obtain ⟨o2, h2⟩ := Q1.base.there a o q (by rw [nex]; exact List.not_mem_nil)
      rw [nI] at h2
      cases h2
  have landed : ∀ {g : Heap}, B.StaysIn g → s'.heap.UpToSlots g → Inv X pins τ G { s' with heap := g } := fun b u => Q1.landed ground b (grew.trans u) eos bare
  have suit1 := (landed fly.1 grew1).suite there1 dt1 na nL nF
  refine wpAny_handleBy_cons (codeAny_handlers_test ?_) (fun q => nomatch q)
  have isC : PySem.W.Looks (model X.prog X.w) g1 (typeOf (.ref a)) cls := fun _ _ _ _ k q => wpAny_typeOf_ref (k _ _ there1) (by rw [z1.1]; exact q)
  have hit := PySem.W.exm_one (M := model X.prog X.w) (landed fly.1 grew1).kIn isC em
  have asks : ∀ {Q : Value → Shared → Prop} {E : Value → Shared → Prop}, Q c { s' with heap := g1 } → wpAny (model X.prog X.w) (X.A.mark (some (.ref a))) (eval (.Name x np) X.env) Q E { s' with heap := g1 } := by
    intro Q E q
    rcases nm with ⟨gl, nd, m1 | ⟨m1, m2, m3⟩⟩
    · exact ld_glob (X := X.suite a ((a, o1) :: (X.pn ++ pins))) suit1 gl m1 q nd
    · exact ld_blt (X := X.suite a ((a, o1) :: (X.pn ++ pins))) suit1 gl m1 m2 q m3 nd
  refine asks (hit.here ?_)
  refine codeAny_handlers_suite_as (HandSPX.lands_againZ fly fun g2 fly2 grew2 => ?_)
  rcases fly2.there with ⟨o2, vs2, there2, z2, dt2⟩
  have suit2 := (landed fly2.1 (grew1.trans grew2)).suite there2 dt2 na nL nF
  refine store_ok (X := X.suite a ((a, o2) :: (X.pn ++ pins))) (v := .ref a) suit2 nod at_ (.inl lc) rfl (fun s5 suit5 => ?_) (.inr lc)
  refine wpAny_mono ((hsu a o2 cls (X.pn ++ pins) z2 ⟨_, dt2⟩).run [] s5 _ G _ suit5 (go a na)) (fun f s6 out => ?_) (fun _ _ z => z.elim)
  cases f with
  | next =>
    rcases out with ⟨τ6, G6, suit6, q6⟩
    obtain ⟨p1, p2, _, _, _⟩ := suit6.pin (a, o2) (List.mem_append_left _ List.mem_cons_self)
    have back : Inv X pins τ6 G6 s6 := suit6.unsuite XO
    have kept : Inv X pins τ6 (upd G6 a (exO a cls)) s6 := Inv.adopt back p2 nL (fun y cc e z => by
      obtain ⟨v, ic⟩ := back.cell y cc e
      obtain ⟨oc, e1, e2⟩ := ic
      rw [← z, p1] at e1
      cases e1
      rw [dt2] at e2
      cases e2) n0 (fun p hp z => by
      have h1 := (Q1.pin p hp).1
      rw [z, nI] at h1
      cases h1) ⟨⟨o2, vs2, p1, z2, dt2⟩, ⟨o2, p1⟩, fun h1 h2 ⟨oe, vs, e1, e2, e3⟩ k => ⟨oe, vs, k _ e1, e2, e3⟩⟩
    exact gone_ok kept nod at_ lc fun s7 J7 => ⟨_, _, J7, q6⟩
  | brk =>
    rcases out with ⟨_, _, _, q6⟩
    exact q6.elim
  | cont =>
    rcases out with ⟨_, _, _, q6⟩
    exact q6.elim
  | ret u =>
    rcases out with ⟨_, _, _, _, _, q6⟩
    exact q6.elim
end
/-- try: body / except C as e: m = e -/
@[simp] noncomputable def dTryK (rc : List Nat) (i m c : Nat) (body : SM) : SM := fun e s => match body e s with
  | .ex c' e' s' => match sbE rc c' c with
    | some true => if i < e'.length then .ok .nx (((e'.set i (some (.ref s'.length))).set m (some (.ref s'.length))).set i none) (s' ++ [.x c']) else .bad
    | _ => .bad
  | r => r
section
variable {K : PySem.W.Frag} {cls : Nat → Value} {Wo : WX} {rc : List Nat}
theorem ss_tryK {i m c : Nat} {cv : Value} {tb : WX → TS} {db : SM} (hb : ∀ W : WX, SS ⟨K, cls, W⟩ (tb W) db)
    (he : ∀ c' b, sbE rc c' c = some b → PySem.W.exmOne K (cls c') cv = some b) : SS ⟨K, cls, Wo⟩ (fun D σ H => tb (wKp K cv i (fun _ _ => tAsg (tVar i) (gName m)) D) D σ H) (dTryK rc i m c db) := fun N F H φ e s σ rl D q => by
  refine hb (wKp K cv i (fun _ _ => tAsg (tVar i) (gName m)) D) N F H φ e s σ rl D ?_
  unfold dTryK at q
  cases hd : db e s with
  | bad =>
    rw [hd] at q
    exact q
  | ok f e' s' =>
    rw [hd] at q
    cases f with
    | _ => exact q
  | ex c' e' s' =>
    rw [hd] at q
    dsimp only at q
    intro F' φ' H' σ' r' u'
    cases hsb : sbE rc c' c with
    | none =>
      rw [hsb] at q
      exact q.elim
    | some b =>
      rw [hsb] at q
      cases b with
      | false => exact q.elim
      | true =>
        dsimp only at q
        split at q
        · rename_i hi
          refine ⟨rfl, he c' true hsb, fun a ha => ⟨.ref a, List.getElem?_set_self (by rw [← r'.len]; exact hi), ?_⟩⟩
          have cl : CellAt K F' (upd H' a (exO a (cls c'))) φ' cls a (.x c') := upd_same
          have hr := r'.hr.addC (c := .x c') ha cl
          have x : Up F' φ' F' (φ' ++ [a]) := ⟨Ex.refl F', pre_snoc φ' a⟩
          have rp : Rep K F' (φ' ++ [a]) (.ref a) (.ref s'.length) := .ref (by rw [← r'.hr.len]; exact snoc_at _ _)
          exact q F' (φ' ++ [a]) _ _ ((((r'.behind x hr).set (i := i) rp).set (i := m) rp).unset i) (u'.trans x)
        · exact q.elim
end
section
variable {X : Cx} {K : PySem.W.Frag} {cls : Nat → Value} {W : WX} {pos : Pos}
theorem stryK {rc : List Nat} (i m c : Nat) {x n y : Str} {C : Addr} {body : List Stmt} {np pos' p1 p2 p3 : Pos} {tb : WX → TS} {db : SM} (hk : HdK X.K X.mg cls rc x c C)
    (hb : ∀ (W : WX) (pn : List (Addr × Obj)) (xe : Value → Shared → Prop), Takes (X.tr pn xe) W → PassesOwn (model X.prog X.w) X.A X.env xe → XSs (X.tr pn xe) K cls W body (tb W) db)
    (hN : X.N.Nodup) (hs : X.stack = X.env :: X.outer := by rfl) (hf : X.env.frame = some X.env.locals := by rfl) (hi : X.N[i]? = some n := by rfl) (hm : X.N[m]? = some y := by rfl) (hln : X.env.kindOf n = some .local := by rfl) (hx : Loc X.env.scope y := by first | exact Or.inl rfl | exact Or.inr rfl) (hnex : X.ex = [] := by rfl) (hg : Gl X x := by rfl) (hd : (x == ("__debug__" : Str)) = false := by decide)
    (hv : Vis X.env.scope n := by first | exact Or.inl rfl | exact Or.inr (Or.inl rfl) | exact Or.inr (Or.inr rfl)) (hd1 : (n == ("__debug__" : Str)) = false := by decide) (hd2 : (n == ("__classdict__" : Str)) = false := by decide)
    (hw : swapsWith (.Name n p2) (some (.Name y p1)) p3.line X.env = pure false := by rfl) (hfn : X.fn y = true ∨ X.env.scope.names.lookup y = some .local := by first | exact .inl rfl | exact .inr rfl | assumption) (hKK : X.K = K := by rfl) :
    XS X K cls W (.Try body [.ExceptHandler (some (.Name x np)) (some n) [.Assign [.Name y p1] (.Name n p2) p3] pos'] [] [] pos)
      (fun D σ H => tb (wKp K (.ref C) i (fun _ _ => tAsg (tVar i) (gName m)) D) D σ H) (dTryK rc i m c db) := by
  cases hKK
  refine ⟨ps_try_keep hs hf hN hi hln ⟨hg, hd, .inl hk.mgx⟩ hnex (fun W pn xe tk po => (hb W pn xe tk po).p) fun a oe v pn hz hf2 => ?_, ss_tryK (fun W => (hb W noPins (fun _ _ => False) takesBad PassesOwn.never).s) hk.ex, rfl⟩
  exact pss_one (ps_set (X := X.suite a ((a, oe) :: pn)) hN hm hx (pe_var hi hv hd1 hd2) hw hfn)
end
/-! #### isinstance of an error that is kept -/
def rIsK (K : PySem.W.Frag) : List V → Hp → VK → Prop := fun xs H Q => ∃ (p D : Addr) (c : V) (cv : Value) (b : Bool), xs = [.ref p, c] ∧ H p = some (exO p (.ref D)) ∧ ExcC K D ∧ ClsV c cv ∧ PySem.W.kitOne K (.ref D) cv = some b ∧ Q (.bl b) H
theorem call_isK {X : Cx} : CallR X (.builtin "isinstance") (rIsK X.K) := by
  intro pins s σ H xs us Q I r h
  obtain ⟨p, D, c, cv, b, rfl, hp, C, hcv, e, q⟩ := h
  have ok := I.hok p _ hp
  obtain ⟨⟨oe, vs, h1, h2, h3⟩, _, _⟩ := ok
  cases r with
  | cons rx rr =>
    cases rr with
    | cons rt rr =>
      cases rr
      cases rx
      have ec := hcv.eq rt
      subst ec
      have ia : PySem.W.InstAt s.heap p oe D none := by
        obtain ⟨oc, od, oda, osl⟩ := oe
        obtain ⟨g1, g2⟩ := h2
        dsimp only at g1 g2 h3
        subst g1 g2 h3
        exact ⟨h1, rfl, rfl, trivial⟩
      exact PySem.W.kia_one (PySem.W.handS_kitx_exc C.hg C.hk C.hs C.hd C.ha C.hn C.ht C.hm) I.kIn ia e (fun z => nomatch z) fun tk => ⟨.bl b, H, I.kept (t' := tk) fun _ _ z => z, rfl, q⟩
def keptC (s : Sto) : Option (Option T) → Option Nat
  | some (some (.ref k)) => match s[k]? with
    | some (.x c') => some c'
    | _ => none
  | _ => none
@[simp] def dIsK (rc : List Nat) (i j : Nat) : EM := fun e s => match keptC s e[i]? with
  | some c' => match kbE rc c' j with
    | some b => .ok (.bl b) e s
    | none => .bad
  | none => .bad
section
variable {K : PySem.W.Frag} {cls : Nat → Value} {rc : List Nat}
theorem se_isK {W : WX} {i j : Nat} {v : V} {u : Value} (k : ClsAt K cls rc j v u) : SE ⟨K, cls, W⟩ (tCB (rIsK K) (tCons (tVar i) (tCons (tC v) tNil))) (dIsK rc i j) := fun N F H φ e s σ rl Q q => by
  unfold dIsK at q
  cases hk : keptC s e[i]? with
  | none =>
    rw [hk] at q
    exact q.elim
  | some c' =>
    rw [hk] at q
    dsimp only at q
    cases hb : kbE rc c' j with
    | none =>
      rw [hb] at q
      exact q.elim
    | some b =>
      rw [hb] at q
      dsimp only at q
      unfold keptC at hk
      split at hk
      · rename_i n he
        split at hk
        · rename_i c2 hs
          cases hk
          obtain ⟨w, h1, h2⟩ := rl.slot i _ he
          cases h2 with
          | @ref p _ hp =>
            have hc : H p = some (exO p (cls c')) := rl.hr.cell n _ p hs hp
            obtain ⟨D, g1, g2, g3⟩ := k.one c' b hb
            rw [g1] at hc
            exact ⟨_, h1, p, D, v, u, b, rfl, hc, g2, k.k, g3, q _ F φ H rl (Up.refl _ _) .bl⟩
        · cases hk
      · cases hk
end
section
variable {X : Cx} {K : PySem.W.Frag} {cls : Nat → Value} {W : WX} {p pos : Pos}
theorem xisK {rc : List Nat} (i j : Nat) {x cn : Str} {v : V} {u : Value} {q1 q2 : Pos} (k : ClK X.K X.mg cls rc cn j v u) (hm : X.mg "isinstance" = none)
    (hN : X.N[i]? = some x := by rfl) (hv : Vis X.env.scope x := by first | exact Or.inl rfl | exact Or.inr (Or.inl rfl) | exact Or.inr (Or.inr rfl)) (hd : (x == ("__debug__" : Str)) = false := by decide) (hcd : (x == ("__classdict__" : Str)) = false := by decide)
    (hg : Gl X "isinstance" := by rfl) (hgt : Gl X cn := by rfl) (hdt : (cn == ("__debug__" : Str)) = false := by decide)
    (he : starEach [.Name x q1, .Name cn q2] X.env = (false, eval (.Name x q1) X.env) :: starEach [.Name cn q2] X.env := by rfl) (hs2 : starEach [.Name cn q2] X.env = (false, eval (.Name cn q2) X.env) :: starEach [] X.env := by rfl) (hpl : (backTo pos (starEach [.Name cn q2] X.env)).any (·.1) = false := by rfl) (hb : bootBuiltins "isinstance" = some (.builtin "isinstance") := by decide +kernel) (hKK : X.K = K := by rfl) :
    XE X K cls W (.Call (.Name "isinstance" p) [.Name x q1, .Name cn q2] [] pos) (tCB (rIsK K) (tCons (tVar i) (tCons (tC v) tNil))) (dIsK rc i j) := by
  cases hKK
  exact ⟨pe_callB call_isK hg hm hb (pa_cons (pe_var hN hv hd hcd) (pa_cons (pe_cl (cls := cls) k hgt hdt) pa_nil hs2) he) (by decide) (by decide) he hpl, se_isK k.at', rfl⟩
end
@[simp] theorem tIsN_ref (i : Nat) : tIsN (.ref i) .non = some (.v (.bl false)) := rfl
@[simp] theorem tIsnN_ref (i : Nat) : tIsnN (.ref i) .non = some (.v (.bl true)) := rfl
@[simp] theorem tIsN_str (i : Str) : tIsN (.str i) .non = some (.v (.bl false)) := rfl
@[simp] theorem tIsN_bl (i : Bool) : tIsN (.bl i) .non = some (.v (.bl false)) := rfl
@[simp] theorem tIsN_lst (i : List T) : tIsN (.lst i) .non = some (.v (.bl false)) := rfl
@[simp] theorem tIsN_tup (i : List T) : tIsN (.tup i) .non = some (.v (.bl false)) := rfl
/-! #### xs.count(True), xs.index(True) of truths -/
def allBls : List T → Option (List Bool)
  | [] => some []
  | .bl b :: ts => (allBls ts).map (b :: ·)
  | _ :: _ => none
theorem allBls_eq : ∀ {ts : List T} {bs : List Bool}, allBls ts = some bs → ts = bs.map T.bl
  | [], _, h => by
    cases h
    rfl
  | t :: ts, bs, h => by
    cases t with
    | bl b =>
      simp only [allBls, Option.map_eq_some_iff] at h
      obtain ⟨r, h1, rfl⟩ := h
      rw [allBls_eq h1]
      rfl
    | _ => cases h
@[simp] theorem allBls_nil : allBls [] = some [] := rfl
@[simp] theorem allBls_cons (b : Bool) (ts : List T) : allBls (.bl b :: ts) = (allBls ts).map (b :: ·) := rfl
theorem Reps.bls {K : PySem.W.Frag} {F : Hp} {φ : List Addr} : ∀ {vs : List V} {bs : List Bool}, Reps K F φ vs (bs.map T.bl) → vs = bs.map V.bl
  | [], [], _ => rfl
  | _ :: _, [], h => by cases h
  | [], _ :: _, h => by cases h
  | v :: vs, n :: ns, h => by
    cases h with
    | cons a r =>
      cases a
      rw [r.bls]
      rfl
def tCntB : T → T → Option O
  | .lst ts, .bl b => (allBls ts).map fun bs => .v (.int (bs.count b : Nat))
  | _, _ => none
def tIdxB : T → T → Option O
  | .lst ts, .bl b => match allBls ts with
    | some bs => if b ∈ bs then some (.v (.int (bs.idxOf b : Nat))) else none
    | none => none
  | _, _ => none
@[simp] noncomputable def dCountB (dx d : EM) : EM := fun e s => (M.bind dx fun x => M.bind (isLs x) fun _ => M.bind d fun y => fun e s => lift false (tCntB (vw s x) (vw s y)) e s) e s
@[simp] noncomputable def dIndexB (dx d : EM) : EM := fun e s => (M.bind dx fun x => M.bind (isLs x) fun _ => M.bind d fun y => fun e s => lift false (tIdxB (vw s x) (vw s y)) e s) e s
def rCntB (K : PySem.W.Frag) : V → List V → Hp → VK → Prop := fun x xs H Q => ∃ (p : Addr) (bs : List Bool) (k : Bool), x = .ref p ∧ xs = [.bl k] ∧ SqL K H p (bs.map V.bl) ∧ Q (.int (bs.count k : Nat)) H
theorem countIn_bls (k : Bool) : ∀ bs : List Bool, countIn (.bool k) (bs.map PyData.bool) = ((bs.count k : Nat) : Int)
  | [] => rfl
  | b :: bs => by
    rw [List.map_cons, countIn, countIn_bls k bs, List.count_cons]
    simp only [same]
    cases b <;> cases k <;> simp <;> omega
theorem dp_bls {K : PySem.W.Frag} {H : Hp} : ∀ bs : List Bool, DpAll K H (bs.map V.bl) (bs.map PyData.bool)
  | [] => .nil
  | b :: bs => .cons (.bl b) (dp_bls bs)
theorem mt_cntB {X : Cx} : MtR X "list.count" (rCntB X.K) := by
  intro pins s σ H x xs v us Q I rx rxs h
  obtain ⟨p, bs, k, rfl, rfl, hs, q⟩ := h
  cases rx
  obtain ⟨u, rfl, ru⟩ := rxs.one
  cases ru
  obtain ⟨its, rv, ⟨⟨cls, dd, data, sl⟩, n, ho, hc, hdn, hd⟩, hlen⟩ := I.list hs
  obtain ⟨as, ra⟩ := Dp.readsAll I (bs.map PyData.bool) _ its (dp_bls bs) rv
  refine count_list_bools (vs := its) (xs := bs.map PyData.bool) (k := k) ⟨_, ho, hc, n, hd⟩ ra ?_ ?_
  · rw [List.all_map, List.all_eq_true]
    intro b _
    rfl
  · rw [countIn_bls]
    exact ⟨.int (bs.count k : Nat), H, I.tok _, ⟨s.toks, rfl⟩, q⟩
theorem idxB_le {m : Bool} : ∀ {xs : List Bool} {j : Nat}, xs[j]? = some m → xs.idxOf m ≤ j
  | [], j, h => by simp at h
  | x :: xs, j, h => by
    rw [List.idxOf_cons]
    by_cases hx : x = m
    · subst hx
      simp
    · cases j with
      | zero =>
        cases h
        exact absurd rfl hx
      | succ j =>
        have ih := idxB_le (xs := xs) (j := j) h
        have : (x == m) = false := by simpa using hx
        rw [this]
        simpa using ih
section
variable {C : Ct}
theorem se_met {r : V → List V → Hp → VK → Prop} {f : T → T → Option O} {dd : EM → EM → EM} {to t : TE} {dx d : EM} (hf : ∀ x y z, f x y = some z → ∃ ts, x = .lst ts) (hdd : ∀ dx d, dd dx d = fun e s => (M.bind dx fun x => M.bind (isLs x) fun _ => M.bind d fun y => fun e s => lift false (f (vw s x) (vw s y)) e s) e s)
    (hr : ∀ {F H : Hp} {φ : List Addr} {p : Addr} {vs : List V} {ts : List T} {w : V} {y : T} {z : O} {Q : VK}, Ex F H → Rep1 C.K F H φ (.ref p) (.lst ts) → Rep1 C.K F H φ w y → f (.lst ts) y = some z → PoV C.K F H φ Q z → r (.ref p) [w] H Q)
    (hx : SE C to dx) (h : SE C t d) : SE C (tBM C.K "list" r to (tCons t tNil)) (dd dx d) := fun N F H φ e s σ rl Q q => by
  rw [hdd] at q
  refine hx.go (Q := fun x H1 => tyV C.K "list" x H1 ∧ tCons t tNil σ H1 fun xs H2 => r x xs H2 Q) rl Po.pk q fun v x F1 φ1 H1 e1 s1 r1 u1 rp q1 => ?_
  cases hs : vw s1 x with
  | lst ts =>
    have q1 : Po C (Rep C.K) N σ Q F1 φ1 ((M.bind d fun y => fun e s => lift false (f (vw s x) (vw s y)) e s) e1 s1) := by
      have q1 := q1
      simp only [M.bind, isLs, hs] at q1
      exact q1
    have rv := r1.hr.view rp
    rw [hs] at rv
    obtain ⟨p, vs, rfl, h1, h2⟩ := rv.lst r1.hr.sub
    refine ⟨.inl ⟨rfl, vs, .inl (.inl h1)⟩, ?_⟩
    refine h.go (Q := fun y H2 => tNil σ H2 fun xs H3 => r (.ref p) (y :: xs) H3 Q) r1 Po.pk q1 fun w y F2 φ2 H2 e2 s2 r2 u2 rp2 q2 => ?_
    obtain ⟨z, hz, pv⟩ := lift_of r2 q2
    have rx := r2.hr.view (rp.mono u2)
    have ry := r2.hr.view rp2
    obtain ⟨ts2, hx2⟩ := hf _ _ _ hz
    rw [hx2] at rx hz
    exact hr (vs := vs) r2.hr.sub rx ry hz pv
  | _ =>
    simp only [M.bind, isLs, hs] at q1
    exact q1.elim
theorem se_countB {to t : TE} {dx d : EM} (hx : SE C to dx) (h : SE C t d) : SE C (tBM C.K "list" (rCntB C.K) to (tCons t tNil)) (dCountB dx d) := se_met (f := tCntB) (fun x y z h => by
    cases x with
    | lst ts => exact ⟨ts, rfl⟩
    | _ => cases h) (fun _ _ => rfl) (fun {F H φ p vs ts w y z Q} ex rx ry hz pv => by
    cases y with
    | bl b =>
      simp only [tCntB, Option.map_eq_some_iff] at hz
      obtain ⟨bs, h1, h2⟩ := hz
      subst h2
      rw [allBls_eq h1] at rx
      obtain ⟨p', vs', e', g1, g2⟩ := rx.lst ex
      cases e'
      have g3 := g2.bls
      subst g3
      have hw : w = .bl b := by
        cases ry.rep (fun _ z => T.noConfusion z)
        rfl
      subst hw
      exact ⟨p, bs, b, rfl, rfl, .inl (.inl g1), pv _ .int⟩
    | _ => cases hz) hx h
theorem se_indexB {to t : TE} {dx d : EM} (hx : SE C to dx) (h : SE C t d) : SE C (tBM C.K "list" (rIndex C.K) to (tCons t tNil)) (dIndexB dx d) := se_met (f := tIdxB) (fun x y z h => by
    cases x with
    | lst ts => exact ⟨ts, rfl⟩
    | _ => cases h) (fun _ _ => rfl) (fun {F H φ p vs ts w y z Q} ex rx ry hz pv => by
    cases y with
    | bl b =>
      simp only [tIdxB] at hz
      split at hz
      · rename_i bs h1
        split at hz
        · rename_i hm
          cases hz
          rw [allBls_eq h1] at rx
          obtain ⟨p', vs', e', g1, g2⟩ := rx.lst ex
          cases e'
          have g3 := g2.bls
          subst g3
          have hw : w = .bl b := by
            cases ry.rep (fun _ z => T.noConfusion z)
            rfl
          subst hw
          have hlt := List.idxOf_lt_length_of_mem hm
          refine ⟨p, bs.map V.bl, .bl b, bs.idxOf b, .bl b, rfl, rfl, .inl (.inl g1), rfl, ?_, ?_, ?_, ?_, pv _ .int⟩
          · rw [List.all_eq_true]
            intro y hy
            obtain ⟨i, _, rfl⟩ := List.mem_map.mp hy
            rfl
          · rw [List.getElem?_map, List.getElem?_eq_getElem hlt, List.getElem_idxOf]
            rfl
          · simp [eqV]
          · intro j z' hj hz'
            rw [List.getElem?_map, List.getElem?_eq_getElem (by omega)] at hz'
            cases hz'
            have hne : bs[j]'(by omega) ≠ b := fun z => by
              have := idxB_le (xs := bs) (j := j) (m := b) (by rw [List.getElem?_eq_getElem (by omega), z])
              omega
            simp [eqV, hne]
        · cases hz
      · cases hz
    | _ => cases hz) hx h
end
section
variable {X : Cx} {K : PySem.W.Frag} {cls : Nat → Value} {W : WX} {o e : Expr} {to te : TE} {dx d : EM} {apos p2 : Pos}
theorem xcountB (ho : XE X K cls W o to dx) (he : XE X K cls W e te d)
    (hbase : attributeBase o "count" X.env (eval o X.env) = eval o X.env := by rfl)
    (hfew : ((backTo p2 (starEach [e] X.env)).all (fun x => !x.1) && (backToKw p2 (keywordEach [] X.env)).all (fun x => x.1.isSome)
      && decide ([e].length + ([] : List Keyword).length + (if ([] : List Keyword).isEmpty then 0 else 1) < 30)) = true := by rfl)
    (hline : (apos.endLine == p2.line) = true := by rfl) (hs : starEach [e] X.env = (false, eval e X.env) :: starEach [] X.env := by rfl) (hplain : (backTo p2 (starEach [] X.env)).any (·.1) = false := by rfl) :
    XE X K cls W (.Call (.Attribute o "count" apos) [e] [] p2) (tBM K "list" (rCntB K) to (tCons te tNil)) (dCountB dx d) := by
  cases ho.k
  exact ⟨pe_bm PySem.F.plainAttrs_list PySem.F.slot_list_count PySem.F.type_list_count mt_cntB ho.p (pa_cons he.p pa_nil hs) hbase hfew hline hs hplain, se_countB ho.s he.s, rfl⟩
theorem xindexB (ho : XE X K cls W o to dx) (he : XE X K cls W e te d)
    (hbase : attributeBase o "index" X.env (eval o X.env) = eval o X.env := by rfl)
    (hfew : ((backTo p2 (starEach [e] X.env)).all (fun x => !x.1) && (backToKw p2 (keywordEach [] X.env)).all (fun x => x.1.isSome)
      && decide ([e].length + ([] : List Keyword).length + (if ([] : List Keyword).isEmpty then 0 else 1) < 30)) = true := by rfl)
    (hline : (apos.endLine == p2.line) = true := by rfl) (hs : starEach [e] X.env = (false, eval e X.env) :: starEach [] X.env := by rfl) (hplain : (backTo p2 (starEach [] X.env)).any (·.1) = false := by rfl) :
    XE X K cls W (.Call (.Attribute o "index" apos) [e] [] p2) (tBM K "list" (rIndex K) to (tCons te tNil)) (dIndexB dx d) := by
  cases ho.k
  exact ⟨pe_bm PySem.F.plainAttrs_list PySem.F.slot_list_index PySem.F.type_list_index mt_index ho.p (pa_cons he.p pa_nil hs) hbase hfew hline hs hplain, se_indexB ho.s he.s, rfl⟩
end
end Sr

namespace Lw
open PySem PySem.Spec PyProof.Rows L2 Sr
/-! ### what the defs do -/
noncomputable def D_refuse_unlike : SM := (dIf (dTest (dEq tNe (dB false tLen [(dVar 0)]) (dB false tLen [(dVar 1)]))) (dRaise 1 (dJoin [(dC (.str (Str.ofString "lists of unlike lengths: "))), (dFmt (dB false tLen [(dVar 0)])), (dC (.str (Str.ofString " and "))), (dFmt (dB false tLen [(dVar 1)]))])) dSkip)
noncomputable abbrev G_refuse_unlike : Gf := dFn 2 (D_refuse_unlike)
noncomputable def L_less_1 : EM := (dOp false tSub (dVar 2) (dVar 3))
noncomputable def D_less : SM := (dSeq (dExpr (dCall G_refuse_unlike [(dVar 0), (dVar 1)]))
  (dRet (dLc false (dItA zip2 [(dVar 0), (dVar 1)]) [2, 3] (gT 2 (gCon (gN 2) (gCon (gN 3) gNils))) dYes (L_less_1))))
noncomputable abbrev G_less : Gf := dFn 4 (D_less)
noncomputable def L_taken_1 : EM := (dOp false tMul (dVar 1) (dVar 2))
noncomputable def D_taken : SM := (dRet (dLc false (dIt (dVar 0)) [2] (gN 2) dYes (L_taken_1)))
noncomputable abbrev G_taken : Gf := dFn 3 (D_taken)
noncomputable def B_refuse_misfits_1 : SM := (dIf (dTest (dEq tNe (dB false tLen [(dVar 2)]) (dVar 1))) (dRaise 1 (dJoin [(dC (.str (Str.ofString "a purse of "))), (dFmt (dB false tLen [(dVar 2)])), (dC (.str (Str.ofString " numbers, not of "))), (dFmt (dVar 1))])) dSkip)
noncomputable def D_refuse_misfits : SM := (dFor (dIt (dVar 0)) (gN 2)
  (B_refuse_misfits_1))
noncomputable abbrev G_refuse_misfits : Gf := dFn 3 (D_refuse_misfits)
noncomputable def B_place_of_1 : SM := (dIf (dTest (dEq tNe (dVar 2) (dC (.int 0)))) (dRet (dVar 1)) dSkip)
noncomputable def D_place_of : SM := (dSeq (dFor (dItA enum1 [(dVar 0)]) (gT 2 (gCon (gN 1) (gCon (gN 2) gNils)))
  (B_place_of_1))
  (dRet (dB false tLen [(dVar 0)])))
noncomputable abbrev G_place_of : Gf := dFn 3 (D_place_of)
noncomputable def B_led_1 : SM := (dExpr (dCall G_refuse_unlike [(dVar 2), (dVar 1)]))
noncomputable def Z_led_2_2 : SM := (dSeq (dApp (dVar 3) (dVar 6))
  (dIf (dTest (dEq tNe (dVar 6) (dC (.int 0)))) (dAsg 4 (dCall G_less [(dVar 4), (dCall G_taken [(dVar 2), (dVar 6)])])) dSkip))
noncomputable def Z_led_2_1 : SM := (dSeq (dAsg 6 (dOp false tFdiv (dOp false tIx (dVar 4) (dVar 5)) (dOp false tIx (dVar 2) (dVar 5))))
  (Z_led_2_2))
noncomputable def B_led_4 : SM := (dSeq (dAsg 5 (dCall G_place_of [(dVar 2)]))
  (Z_led_2_1))
noncomputable def Z_led_2 : SM := (dSeq (dFor (dIt (dVar 0)) (gN 2)
  (B_led_4))
  (dRet (dTup [(dVar 3), (dVar 4)])))
noncomputable def Z_led_1 : SM := (dSeq (dPar 3 4 (dLst true []) (dB false tList [(dVar 1)]))
  (Z_led_2))
noncomputable def D_led : SM := (dSeq (dFor (dIt (dVar 0)) (gN 2)
  (B_led_1))
  (Z_led_1))
noncomputable abbrev G_led : Gf := dFn 7 (D_led)
noncomputable def D_is_made : SM := (dRet (dNotV (dB false tAny [(dOp false tIx (dCall G_led [(dVar 0), (dVar 1)]) (dC (.int 1)))])))
noncomputable abbrev G_is_made : Gf := dFn 2 (D_is_made)
noncomputable def L_leads_1 : EM := (dOp false tIx (dVar 1) (dCall G_place_of [(dVar 1)]))
noncomputable def D_leads : SM := (dRet (dLc false (dIt (dVar 0)) [1] (gN 1) dYes (L_leads_1)))
noncomputable abbrev G_leads : Gf := dFn 2 (D_leads)
noncomputable def B_multiplied_1 : SM := (dAsg 1 (dOp false tMul (dVar 1) (dVar 2)))
noncomputable def Z_multiplied_1 : SM := (dSeq (dFor (dIt (dVar 0)) (gN 2)
  (B_multiplied_1))
  (dRet (dVar 1)))
noncomputable def D_multiplied : SM := (dSeq (dAsg 1 (dC (.int 1)))
  (Z_multiplied_1))
noncomputable abbrev G_multiplied : Gf := dFn 3 (D_multiplied)
noncomputable def L_lies_in_1 : EM := (dCall G_is_made [(dVar 1), (dVar 3)])
noncomputable def D_lies_in : SM := (dSeq (dExpr (dCall G_refuse_misfits [(dOp false tAdd (dVar 0) (dVar 1)), (dVar 2)]))
  (dRet (dB false tAll [(dLc false (dIt (dVar 0)) [3] (gN 3) dYes (L_lies_in_1))])))
noncomputable abbrev G_lies_in : Gf := dFn 4 (D_lies_in)
noncomputable def Z_beside_1 : SM := (dSeq (dIf (dTest (dEq tNe (dB false tLen [(dVar 0)]) (dB false tLen [(dVar 1)]))) (dRet (dC (.int 0))) dSkip)
  (dRet (dOp false tFdiv (dCall G_multiplied [(dCall G_leads [(dVar 0)])]) (dCall G_multiplied [(dCall G_leads [(dVar 1)])]))))
noncomputable def D_beside : SM := (dSeq (dIf (dNotT (dTruth (dCall G_lies_in [(dVar 0), (dVar 1), (dVar 2)]))) (dRaise 2 (dC (.str (Str.ofString "a stair that doesn't lie in the other one")))) dSkip)
  (Z_beside_1))
noncomputable abbrev G_beside : Gf := dFn 3 (D_beside)
noncomputable def Z__law_b_mixed_3 : SM := (dSeq (dAsg 4 (dOp false tMod (dOp false tAdd (dOp false tAdd (dOp false tMul (dVar 3) (dVar 3)) (dOp false tMul (dC (.int 499)) (dVar 2))) (dVar 1)) (dC (.int 2147483549))))
  (dRet (dOp false tAdd (dOp false tMul (dVar 3) (dC (.int 2147483549))) (dVar 4))))
noncomputable def Z__law_b_mixed_2 : SM := (dSeq (dAsg 3 (dOp false tMod (dOp false tAdd (dOp false tAdd (dOp false tMul (dVar 2) (dVar 2)) (dOp false tMul (dC (.int 1009)) (dVar 1))) (dC (.int 61))) (dC (.int 2147483563))))
  (Z__law_b_mixed_3))
noncomputable def Z__law_b_mixed_1 : SM := (dSeq (dAsg 2 (dOp false tMod (dOp false tAdd (dOp false tAdd (dOp false tMul (dOp false tMod (dVar 0) (dC (.int 2147483629))) (dC (.int 30011))) (dOp false tMul (dVar 1) (dC (.int 9049)))) (dC (.int 733))) (dC (.int 2147483587))))
  (Z__law_b_mixed_2))
noncomputable def D__law_b_mixed : SM := (dSeq (dIf (dTest (dOp false tGe (dVar 0) (dOp false tPow (dC (.int 10)) (dC (.int 18))))) (dRet (dVar 0)) dSkip)
  (Z__law_b_mixed_1))
noncomputable abbrev G__law_b_mixed : Gf := dFn 5 (D__law_b_mixed)
noncomputable def Z__law_b_take_1_3 : SM := (dSeq (dSet (dVar 0) (dC (.int 1)) (dOp false tAdd (dVar 3) (dC (.int 1))))
  (dSet (dVar 0) (dC (.int 2)) (dCall G__law_b_mixed [(dVar 4), (dVar 3)])))
noncomputable def Z__law_b_take_1_2 : SM := (dSeq (dIf (dTest (dOp false tLt (dVar 3) (dB false tLen [(dOp false tIx (dVar 0) (dC (.int 0)))]))) (dAsg 4 (dOp false tIx (dOp false tIx (dVar 0) (dC (.int 0))) (dVar 3))) (dIf (dTest (dEq tNe (dOp false tIx (dVar 0) (dC (.int 0))) (dLst false []))) (dAsg 4 (dOp false tAdd (dOp false tMod (dOp false tIx (dOp false tIx (dVar 0) (dC (.int 0))) (dOp false tMod (dOp false tMul (dVar 3) (dC (.int 17))) (dB false tLen [(dOp false tIx (dVar 0) (dC (.int 0)))]))) (dC (.int 1000039))) (dOp false tMul (dVar 3) (dC (.int 1000133))))) dSkip))
  (Z__law_b_take_1_3))
noncomputable def Z__law_b_take_1_1 : SM := (dSeq (dAsg 4 (dOp false tAdd (dOp false tMul (dC (.int 23)) (dVar 3)) (dC (.int 7))))
  (Z__law_b_take_1_2))
noncomputable def Z__law_b_take_2 : SM := (dSeq (dSet (dVar 0) (dC (.int 2)) (dOp false tFdiv (dOp false tIx (dVar 0) (dC (.int 2))) (dVar 1)))
  (dRet (dVar 2)))
noncomputable def Z__law_b_take_1 : SM := (dSeq (dAsg 2 (dOp false tMod (dOp false tIx (dVar 0) (dC (.int 2))) (dVar 1)))
  (Z__law_b_take_2))
noncomputable def D__law_b_take : SM := (dSeq (dIf (dTest (dOp false tLt (dOp false tIx (dVar 0) (dC (.int 2))) (dVar 1))) (dSeq (dAsg 3 (dOp false tIx (dVar 0) (dC (.int 1))))
  (Z__law_b_take_1_1)) dSkip)
  (Z__law_b_take_1))
noncomputable abbrev G__law_b_take : Gf := dFnR 5 (D__law_b_take)
noncomputable def L__law_b_rows_1 : EM := (dOp false tMul (dVar 6) (dOp false tSub (dCall G__law_b_take [(dVar 0), (dOp false tAdd (dOp false tMul (dC (.int 2)) (dVar 3)) (dC (.int 1)))]) (dVar 3)))
noncomputable def B__law_b_rows_2 : SM := (dSeq (dAsg 6 (dOp false tIx (dLst false [(dC (.int 1)), (dC (.int 1)), (dC (.int 2)), (dC (.int 3)), (dC (.int 6)), (dC (.int 0)), (dC (.int 7)), (dC (.int 97))]) (dCall G__law_b_take [(dVar 0), (dC (.int 8))])))
  (dApp (dVar 4) (dLc false (dItA rng1 [(dVar 2)]) [7] (gN 7) dYes (L__law_b_rows_1))))
noncomputable def Z__law_b_rows_2 : SM := (dSeq (dFor (dItA rng1 [(dVar 1)]) (gN 5)
  (B__law_b_rows_2))
  (dRet (dVar 4)))
noncomputable def Z__law_b_rows_1 : SM := (dSeq (dAsg 4 (dLst true []))
  (Z__law_b_rows_2))
noncomputable def D__law_b_rows : SM := (dSeq (dAsg 3 (dOp false tIx (dLst false [(dC (.int 1)), (dC (.int 2)), (dC (.int 4)), (dC (.int 12)), (dC (.int 1000)), (dOp false tPow (dC (.int 10)) (dC (.int 9)))]) (dCall G__law_b_take [(dVar 0), (dC (.int 6))])))
  (Z__law_b_rows_1))
noncomputable abbrev G__law_b_rows : Gf := dFnR 8 (D__law_b_rows)
noncomputable def L__law_b_copy_1 : EM := (dB false tList [(dVar 1)])
noncomputable def D__law_b_copy : SM := (dRet (dLc false (dIt (dVar 0)) [1] (gN 1) dYes (L__law_b_copy_1)))
noncomputable abbrev G__law_b_copy : Gf := dFn 2 (D__law_b_copy)
noncomputable def L__law_b_stair_1 (fuel : Nat) : EM := (dB false tList [(dVar 7)])
noncomputable def L__law_b_stair_2 (fuel : Nat) : EM := (dVar 7)
noncomputable def L__law_b_stair_3 (fuel : Nat) : EM := (dVar 7)
noncomputable def L__law_b_stair_4 (fuel : Nat) : EM := (dB false tAbs [(dOp false tIx (dVar 7) (dVar 4))])
noncomputable def L__law_b_stair_5 (fuel : Nat) : EM := (dOp false tSub (dVar 14) (dOp false tMul (dVar 11) (dVar 15)))
noncomputable def Z__law_b_stair_3_1 (fuel : Nat) : SM := (dSeq (dAsg 12 (dLc false (dItA zip2 [(dVar 7), (dVar 6)]) [14, 15] (gT 2 (gCon (gN 14) (gCon (gN 15) gNils))) dYes (L__law_b_stair_5 fuel)))
  (dIf (dTest (dEq tEq (dOp false tIx (dVar 12) (dVar 4)) (dC (.int 0)))) (dApp (dVar 2) (dVar 12)) (dApp (dVar 5) (dVar 12))))
noncomputable def B__law_b_stair_7 (fuel : Nat) : SM := (dSeq (dAsg 11 (dOp false tFdiv (dOp false tIx (dVar 7) (dVar 4)) (dOp false tIx (dVar 6) (dVar 4))))
  (Z__law_b_stair_3_1 fuel))
noncomputable def Z__law_b_stair_2_4 (fuel : Nat) : SM := (dSeq (dAsg 5 (dLst true [(dVar 6)]))
  (dFor (dIt (dVar 10)) (gN 7)
  (B__law_b_stair_7 fuel)))
noncomputable def Z__law_b_stair_2_3 (fuel : Nat) : SM := (dSeq (dAsg 10 (dOp false tAdd (dSlc false (dVar 5) (fun e s => .ok none e s) (dPart (dVar 9))) (dSlc false (dVar 5) (dPart (dOp false tAdd (dVar 9) (dC (.int 1)))) (fun e s => .ok none e s))))
  (Z__law_b_stair_2_4 fuel))
noncomputable def Z__law_b_stair_2_2 (fuel : Nat) : SM := (dSeq (dAsg 6 (dOp false tIx (dVar 5) (dVar 9)))
  (Z__law_b_stair_2_3 fuel))
noncomputable def Z__law_b_stair_2_1 (fuel : Nat) : SM := (dSeq (dAsg 9 (dIndex (dVar 8) (dB false tMinL [(dVar 8)])))
  (Z__law_b_stair_2_2 fuel))
noncomputable def B__law_b_stair_12 (fuel : Nat) : SM := (dSeq (dAsg 8 (dLc false (dIt (dVar 5)) [7] (gN 7) dYes (L__law_b_stair_4 fuel)))
  (Z__law_b_stair_2_1 fuel))
noncomputable def C__law_b_stair_13 (fuel : Nat) : M Bool := (dTest (dOp false tGt (dB false tLen [(dVar 5)]) (dC (.int 1))))
noncomputable def L__law_b_stair_14 (fuel : Nat) : EM := (dOp false tSub (dC (.int 0)) (dVar 13))
noncomputable def L__law_b_stair_15 (fuel : Nat) : EM := (dOp false tSub (dVar 14) (dOp false tMul (dOp false tFdiv (dOp false tIx (dVar 7) (dVar 4)) (dOp false tIx (dVar 6) (dVar 4))) (dVar 15)))
noncomputable def L__law_b_stair_16 (fuel : Nat) : EM := (dLc false (dItA zip2 [(dVar 7), (dVar 6)]) [14, 15] (gT 2 (gCon (gN 14) (gCon (gN 15) gNils))) dYes (L__law_b_stair_15 fuel))
noncomputable def B__law_b_stair_17 (fuel : Nat) : SM := (dSeq (dIf (dTest (dOp false tLt (dOp false tIx (dVar 6) (dVar 4)) (dC (.int 0)))) (dAsg 6 (dLc false (dIt (dVar 6)) [13] (gN 13) dYes (L__law_b_stair_14 fuel))) dSkip)
  (dAsg 3 (dOp false tAdd (dLc false (dIt (dVar 3)) [7] (gN 7) dYes (L__law_b_stair_16 fuel)) (dLst false [(dVar 6)]))))
noncomputable def Z__law_b_stair_1_2 (fuel : Nat) : SM := (dSeq (whileF (C__law_b_stair_13 fuel) (B__law_b_stair_12 fuel) fuel)
  (dFor (dIt (dVar 5)) (gN 6)
  (B__law_b_stair_17 fuel)))
noncomputable def Z__law_b_stair_1_1 (fuel : Nat) : SM := (dSeq (dAsg 2 (dLc true (dIt (dVar 2)) [7] (gN 7) (dTest (dEq tEq (dOp false tIx (dVar 7) (dVar 4)) (dC (.int 0)))) (L__law_b_stair_3 fuel)))
  (Z__law_b_stair_1_2 fuel))
noncomputable def B__law_b_stair_20 (fuel : Nat) : SM := (dSeq (dAsg 5 (dLc true (dIt (dVar 2)) [7] (gN 7) (dTest (dEq tNe (dOp false tIx (dVar 7) (dVar 4)) (dC (.int 0)))) (L__law_b_stair_2 fuel)))
  (Z__law_b_stair_1_1 fuel))
noncomputable def Z__law_b_stair_2 (fuel : Nat) : SM := (dSeq (dFor (dItA rng1 [(dVar 1)]) (gN 4)
  (B__law_b_stair_20 fuel))
  (dRet (dVar 3)))
noncomputable def Z__law_b_stair_1 (fuel : Nat) : SM := (dSeq (dAsg 3 (dLst false []))
  (Z__law_b_stair_2 fuel))
noncomputable def D__law_b_stair (fuel : Nat) : SM := (dSeq (dAsg 2 (dLc true (dIt (dVar 0)) [7] (gN 7) dYes (L__law_b_stair_1 fuel)))
  (Z__law_b_stair_1 fuel))
noncomputable abbrev G__law_b_stair (fuel : Nat) : Gf := dFn 16 (D__law_b_stair fuel)
noncomputable def L__law_b_rest_1 : EM := (dVar 6)
noncomputable def L__law_b_rest_2 : EM := (dOp false tSub (dVar 7) (dOp false tMul (dVar 5) (dVar 8)))
noncomputable def Z__law_b_rest_1_1 : SM := (dSeq (dAsg 5 (dOp false tFdiv (dOp false tIx (dVar 2) (dVar 4)) (dOp false tIx (dVar 3) (dVar 4))))
  (dAsg 2 (dLc false (dItA zip2 [(dVar 2), (dVar 3)]) [7, 8] (gT 2 (gCon (gN 7) (gCon (gN 8) gNils))) dYes (L__law_b_rest_2))))
noncomputable def B__law_b_rest_4 : SM := (dSeq (dAsg 4 (dOp false tIx (dLc false (dItA rng1 [(dB false tLen [(dVar 3)])]) [6] (gN 6) (dTest (dEq tNe (dOp false tIx (dVar 3) (dVar 6)) (dC (.int 0)))) (L__law_b_rest_1)) (dC (.int 0))))
  (Z__law_b_rest_1_1))
noncomputable def Z__law_b_rest_1 : SM := (dSeq (dFor (dIt (dVar 0)) (gN 3)
  (B__law_b_rest_4))
  (dRet (dVar 2)))
noncomputable def D__law_b_rest : SM := (dSeq (dAsg 2 (dB false tList [(dVar 1)]))
  (Z__law_b_rest_1))
noncomputable abbrev G__law_b_rest : Gf := dFn 9 (D__law_b_rest)
noncomputable def D__law_b_made : SM := (dRet (dNotV (dB false tAny [(dCall G__law_b_rest [(dVar 0), (dVar 1)])])))
noncomputable abbrev G__law_b_made : Gf := dFn 2 (D__law_b_made)
noncomputable def L__law_b_sum_1 : EM := (dOp false tAdd (dVar 6) (dOp false tMul (dVar 4) (dVar 7)))
noncomputable def B__law_b_sum_2 : SM := (dAsg 3 (dLc false (dItA zip2 [(dVar 3), (dVar 5)]) [6, 7] (gT 2 (gCon (gN 6) (gCon (gN 7) gNils))) dYes (L__law_b_sum_1)))
noncomputable def Z__law_b_sum_1 : SM := (dSeq (dFor (dItA zip2 [(dVar 0), (dVar 1)]) (gT 2 (gCon (gN 4) (gCon (gN 5) gNils)))
  (B__law_b_sum_2))
  (dRet (dVar 3)))
noncomputable def D__law_b_sum : SM := (dSeq (dAsg 3 (dOp false tMul (dLst false [(dC (.int 0))]) (dVar 2)))
  (Z__law_b_sum_1))
noncomputable abbrev G__law_b_sum : Gf := dFn 8 (D__law_b_sum)
noncomputable def L__law_b_pair_1 (fuel : Nat) : EM := (dOp false tSub (dCall G__law_b_take [(dVar 0), (dC (.int 9))]) (dC (.int 4)))
noncomputable def L__law_b_pair_2 (fuel : Nat) : EM := (dCall G__law_b_sum [(dLc false (dIt (dVar 3)) [6] (gN 6) dYes (L__law_b_pair_1 fuel)), (dVar 3), (dVar 2)])
noncomputable def L__law_b_pair_3 (fuel : Nat) : EM := (dOp false tMul (dOp false tAdd (dC (.int 1)) (dCall G__law_b_take [(dVar 0), (dC (.int 6))])) (dVar 7))
noncomputable def L__law_b_pair_4 (fuel : Nat) : EM := (dLc false (dIt (dVar 6)) [7] (gN 7) dYes (L__law_b_pair_3 fuel))
noncomputable def Z__law_b_pair_4 (fuel : Nat) : SM := (dSeq (dIf (dTest (dEq tEq (dCall G__law_b_take [(dVar 0), (dC (.int 3))]) (dC (.int 0)))) (dAsg 4 (dOp false tAdd (dSlc false (dVar 4) (fun e s => .ok none e s) (dPart (dC (.int 2)))) (dLc false (dIt (dVar 3)) [6] (gN 6) dYes (L__law_b_pair_4 fuel)))) dSkip)
  (dRet (dTup [(dVar 2), (dVar 3), (dCall (G__law_b_stair fuel) [(dVar 4), (dVar 2)])])))
noncomputable def Z__law_b_pair_3 (fuel : Nat) : SM := (dSeq (dIf (dTest (dEq tEq (dCall G__law_b_take [(dVar 0), (dC (.int 3))]) (dC (.int 0)))) (dAsg 4 (dLc false (dItA rng1 [(dC (.int 4))]) [5] (gN 5) dYes (L__law_b_pair_2 fuel))) dSkip)
  (Z__law_b_pair_4 fuel))
noncomputable def Z__law_b_pair_2 (fuel : Nat) : SM := (dSeq (dAsg 4 (dCall G__law_b_rows [(dVar 0), (dCall G__law_b_take [(dVar 0), (dC (.int 5))]), (dVar 2)]))
  (Z__law_b_pair_3 fuel))
noncomputable def Z__law_b_pair_1 (fuel : Nat) : SM := (dSeq (dAsg 3 (dCall (G__law_b_stair fuel) [(dCall G__law_b_rows [(dVar 0), (dCall G__law_b_take [(dVar 0), (dC (.int 5))]), (dVar 2)]), (dVar 2)]))
  (Z__law_b_pair_2 fuel))
noncomputable def D__law_b_pair (fuel : Nat) : SM := (dSeq (dAsg 2 (dCall G__law_b_take [(dVar 0), (dOp false tAdd (dVar 1) (dC (.int 1)))]))
  (Z__law_b_pair_1 fuel))
noncomputable abbrev G__law_b_pair (fuel : Nat) : Gf := dFnR 8 (D__law_b_pair fuel)
noncomputable def Z__law_b_kinds_1 : SM := (dSeq (dAsg 1 (dOp false tAdd (dVar 1) (dLst false [(dIsK [1, 2] 0 5), (dIsK [1, 2] 0 6), (dIsK [1, 2] 0 7), (dIsK [1, 2] 0 8)])))
  (dRet (dOp false tAdd (dVar 1) (dLst false [(dIsK [1, 2] 0 9)]))))
noncomputable def D__law_b_kinds : SM := (dSeq (dAsg 1 (dLst false [(dIsK [1, 2] 0 1), (dIsK [1, 2] 0 2), (dIsK [1, 2] 0 3), (dIsK [1, 2] 0 4)]))
  (Z__law_b_kinds_1))
noncomputable abbrev G__law_b_kinds : Gf := dFn 2 (D__law_b_kinds)
noncomputable def Z__law_b_word_2 : SM := (dSeq (dIf (dOrT (dTest (dEq tNe (dCountB (dVar 1) (dC (.bl true))) (dC (.int 1)))) (dOrT (dNotT (dTruth (dIsK [1, 2] 0 0))) (dNotT (dTruth (dIsK [1, 2] 0 12))))) (dRet (dC (.str (Str.ofString "odd")))) dSkip)
  (dRet (dOp false tIx (dLst false [(dC (.str (Str.ofString "fit"))), (dC (.str (Str.ofString "part"))), (dC (.str (Str.ofString "tariff"))), (dC (.str (Str.ofString "many"))), (dC (.str (Str.ofString "endless"))), (dC (.str (Str.ofString "text"))), (dC (.str (Str.ofString "name"))), (dC (.str (Str.ofString "row"))), (dC (.str (Str.ofString "twice")))]) (dIndexB (dVar 1) (dC (.bl true))))))
noncomputable def Z__law_b_word_1 : SM := (dSeq (dAsg 1 (dCall G__law_b_kinds [(dVar 0)]))
  (Z__law_b_word_2))
noncomputable def D__law_b_word : SM := (dSeq (dIf (dTest (dOp false tIsN (dVar 0) (dC .non))) (dRet (dC (.str (Str.ofString "told")))) dSkip)
  (Z__law_b_word_1))
noncomputable abbrev G__law_b_word : Gf := dFn 2 (D__law_b_word)
noncomputable def T__law_b_asked_1 : SM := (dExpr (dCall G_beside [(dVar 0), (dVar 1), (dVar 2)]))
noncomputable def Z__law_b_asked_1 : SM := (dSeq (dTryK [1, 2] 4 3 0 (T__law_b_asked_1))
  (dRet (dCall G__law_b_word [(dVar 3)])))
noncomputable def D__law_b_asked : SM := (dSeq (dAsg 3 (dC .non))
  (Z__law_b_asked_1))
noncomputable abbrev G__law_b_asked : Gf := dFn 5 (D__law_b_asked)
noncomputable def L__law_b_right_1 : EM := (dCall G__law_b_made [(dVar 1), (dVar 7)])
noncomputable def B__law_b_right_2 : SM := (dSeq (dAsg 6 (dCall G_lies_in [(dOp false tIx (dVar 4) (dC (.int 0))), (dOp false tIx (dVar 4) (dC (.int 1))), (dVar 2)]))
  (dIf (dOrT (dNotT (dTruth (dUn (isB "bool") (dVar 6)))) (dOrT (dTest (dEq tNe (dVar 6) (dVar 3))) (dTest (dEq tNe (dVar 4) (dLst false [(dVar 0), (dVar 1)]))))) (dRet (dC (.bl false))) dSkip))
noncomputable def Z__law_b_right_2 : SM := (dSeq (dFor (dItA rng1 [(dC (.int 2))]) (gN 5)
  (B__law_b_right_2))
  (dRet (dAndV (dEq tEq (dCall G__law_b_asked [(dOp false tIx (dVar 4) (dC (.int 0))), (dOp false tIx (dVar 4) (dC (.int 1))), (dVar 2)]) (dOp false tIx (dLst false [(dC (.str (Str.ofString "part"))), (dC (.str (Str.ofString "told")))]) (dB false tInt1 [(dVar 3)]))) (dEq tEq (dVar 4) (dLst false [(dVar 0), (dVar 1)])))))
noncomputable def Z__law_b_right_1 : SM := (dSeq (dAsg 4 (dLst false [(dCall G__law_b_copy [(dVar 0)]), (dCall G__law_b_copy [(dVar 1)])]))
  (Z__law_b_right_2))
noncomputable def D__law_b_right : SM := (dSeq (dAsg 3 (dB false tAll [(dLc false (dIt (dVar 0)) [7] (gN 7) dYes (L__law_b_right_1))]))
  (Z__law_b_right_1))
noncomputable abbrev G__law_b_right : Gf := dFn 8 (D__law_b_right)
noncomputable def L_law_1 (fuel : Nat) : EM := (dB false tInt1 [(dEq tEq (dVar 9) (dVar 10))])
noncomputable def L_law_2 (fuel : Nat) : EM := (dLc false (dItA rng1 [(dVar 5)]) [10] (gN 10) dYes (L_law_1 fuel))
noncomputable def B_law_3 (fuel : Nat) : SM := (dIf (dNotT (dTruth (dCall G__law_b_right [(dVar 4), (dVar 8), (dVar 5)]))) (dRet (dC (.bl false))) dSkip)
noncomputable def B_law_4 (fuel : Nat) : SM := (dFor (dIt (dLst false [(dVar 6), (dVar 7), (dVar 3), (dLst false [])])) (gN 8)
  (B_law_3 fuel))
noncomputable def Z_law_1_3 (fuel : Nat) : SM := (dSeq (dFor (dIt (dLst false [(dVar 6), (dVar 7), (dVar 3), (dLst false [])])) (gN 4)
  (B_law_4 fuel))
  (dIf (dOrT (dTest (dOp false tIsnB (dCall G_lies_in [(dVar 6), (dVar 6), (dVar 5)]) (dC (.bl true)))) (dTest (dOp false tIsnB (dCall G_lies_in [(dVar 6), (dVar 3), (dVar 5)]) (dC (.bl true))))) (dRet (dC (.bl false))) dSkip))
noncomputable def Z_law_1_2 (fuel : Nat) : SM := (dSeq (dAsg 3 (dLc false (dItA rng1 [(dVar 5)]) [9] (gN 9) dYes (L_law_2 fuel)))
  (Z_law_1_3 fuel))
noncomputable def Z_law_1_1 (fuel : Nat) : SM := (dSeq (dAsgG (gT 3 (gCon (gN 5) (gCon (gN 6) (gCon (gN 7) gNils)))) (dCall (G__law_b_pair fuel) [(dVar 1), (dC (.int 6))]))
  (Z_law_1_2 fuel))
noncomputable def B_law_8 (fuel : Nat) : SM := (dSeq (dIf (dAndT (dTest (dOp false tGt (dVar 2) (dC (.int 1)))) (dTest (dOp false tGe (dOp false tIx (dVar 1) (dC (.int 1))) (dB false tLen [(dVar 0)])))) dBreak dSkip)
  (Z_law_1_1 fuel))
noncomputable def Z_law_1 (fuel : Nat) : SM := (dSeq (dFor (dItA rng1 [(dC (.int 4))]) (gN 2)
  (B_law_8 fuel))
  (dRet (dC (.bl true))))
noncomputable def D_law (fuel : Nat) : SM := (dSeq (dAsg 1 (dLst true [(dVar 0), (dC (.int 0)), (dC (.int 0))]))
  (Z_law_1 fuel))
noncomputable abbrev G_law (fuel : Nat) : Gf := dFn 11 (D_law fuel)
/-! ### purses -/
-- need: refuse_unlike
theorem unlike_ok {s : Sto} {a b : T} {xs ys : List Int} (ha : Rw s a xs) (hb : Rw s b ys) (h : xs.length = ys.length) : G_refuse_unlike [a, b] s = .ok .non s := by
  have e : D_refuse_unlike (ini 2 [a, b]) s = .ok .nx (ini 2 [a, b]) (s ++ []) := by
    simp [D_refuse_unlike, ha.vw, hb.vw, h]
  exact dFn_nx ⟨_, e⟩
-- need: less
theorem less_ok {s : Sto} {a b : T} {xs ys : List Int} (ha : Rw s a xs) (hb : Rw s b ys) (h : xs.length = ys.length) (hl : xs.length ≤ 1000) : G_less [a, b] s = .ok (eL (Mx.sub xs ys)) s := by
  obtain ⟨k1, h1, h2⟩ := ha.items
  obtain ⟨k2, h3, h4⟩ := hb.items
  refine dFn_rt0 ?_ (rs_ints _ _ _ _)
  have hz : zipT (xs.map .int) (ys.map .int) = (List.zip xs ys).map fun p => .tup [.int p.1, .int p.2] := zipT_ints xs ys
  have hm : lcL (k1 ++ k2) [2, 3] (gT 2 (gCon (gN 2) (gCon (gN 3) gNils))) dYes L_less_1 ((List.zip xs ys).map fun p => .tup [.int p.1, .int p.2]) [] [some a, some b, none, none] s = .ok ([] ++ (List.zip xs ys).map fun p => T.int (p.1 - p.2)) [some a, some b, none, none] s :=
    lc_map (kp_and h2 h4) (by rw [List.length_zip, List.length_nil]; omega) fun p _ => ⟨_, _, by simp; rfl, by simp [L_less_1]; rfl, by simp⟩
  rw [List.nil_append, map_zipI (fun x y => x - y), show List.zipWith (fun x y : Int => x - y) xs ys = Mx.sub xs ys from rfl] at hm
  refine ⟨[some a, some b, none, none], ?_⟩
  simp [D_less, unlike_ok ha hb h, h1, h3, hz, hm]
-- need: taken
theorem taken_ok {s : Sto} {a : T} {xs : List Int} {m : Int} (ha : Rw s a xs) (hl : xs.length ≤ 1000) (hm : ∀ x ∈ xs, mulOk m x = true) : G_taken [a, .int m] s = .ok (eL (Mx.smul m xs)) s := by
  obtain ⟨k1, h1, h2⟩ := ha.itms
  refine dFn_rt0 ?_ (rs_ints _ _ _ _)
  have hmm : lcL k1 [2] (gN 2) dYes L_taken_1 (xs.map .int) [] [some a, some (.int m), none] s = .ok ([] ++ xs.map fun x => T.int (m * x)) [some a, some (.int m), none] s :=
    lc_map h2 (by rw [List.length_nil]; omega) fun x hx => ⟨_, _, by simp; rfl, by simp [L_taken_1, tMul_int (hm x hx)]; rfl, by simp⟩
  have e : (xs.map fun x => T.int (m * x)) = (Mx.smul m xs).map T.int := by
    unfold Mx.smul
    rw [List.map_map]
    rfl
  rw [List.nil_append, e] at hmm
  refine ⟨[some a, some (.int m), none], ?_⟩
  simp [D_taken, h1, hmm]


/-! ### rungs -/
theorem kp_up {ks : Ks} {s : Sto} (h : kp ks s) (l : Sto) : kp ks (s ++ l) := by
  induction ks with
  | nil => trivial
  | cons x ks ih =>
    obtain ⟨i, ts⟩ := x
    refine ⟨?_, ih h.2⟩
    have h1 : s[i]? = _ := h.1
    rcases Nat.lt_or_ge i s.length with q | q
    · show (s ++ l)[i]? = _
      rw [List.getElem?_append_left q]
      exact h1
    · rw [List.getElem?_eq_none q] at h1
      cases h1
theorem itms_up {s : Sto} {a : T} {r : List T × Ks} (h : Sr.itms s a = some r) (l : Sto) : Sr.itms (s ++ l) a = some r := by
  cases a with
  | ref i =>
    rcases Nat.lt_or_ge i s.length with q | q
    · unfold Sr.itms at h ⊢
      dsimp only at h ⊢
      rw [List.getElem?_append_left q]
      exact h
    · unfold Sr.itms at h
      dsimp only at h
      rw [List.getElem?_eq_none q] at h
      cases h
  | _ => exact h
theorem any_ints (xs : List Int) : tAny [eL xs] = some (.v (.bl (xs.any fun n => n != 0))) := by
  show (mapO tTru (xs.map T.int)).map _ = _
  rw [mapO_map (f := tTru) (k := fun (i : Int) => i != 0) fun i _ => rfl]
  show some (O.v (T.bl ((xs.map _).any id))) = _
  rw [List.any_map]
  rfl
theorem any_zer (xs : List Int) : (xs.any fun n => n != 0) = !decide (xs = Mx.zer xs.length) := by
  rw [Bool.eq_iff_iff, List.any_eq_true, Bool.not_eq_true', decide_eq_false_iff_not]
  constructor
  · rintro ⟨n, h1, h2⟩ h
    rw [h] at h1
    rw [List.eq_of_mem_replicate h1] at h2
    simp at h2
  · intro h
    refine Classical.byContradiction fun hn => h ?_
    refine List.eq_replicate_iff.mpr ⟨rfl, fun b hb => ?_⟩
    refine Classical.byContradiction fun h0 => hn ⟨b, hb, by simpa using h0⟩
theorem Rw_int_ix {s : Sto} {xs : List Int} {p : Nat} (h : p < xs.length) : tIx (eL xs) (.int (p : Nat)) = some (.v (.int (xs.getD p 0))) := by
  rw [tIx_lst, atI_mapI (Mx.getD_eq h)]
  rfl
theorem forL_step {ks : Ks} {g : GM} {b : SM} {x : T} {xs : List T} {e e1 : En} {s s1 : Sto} (hk : kp ks s) (h : (M.bind (g x) fun _ => b) e s = .ok .nx e1 s1) : forL ks g b (x :: xs) e s = forL ks g b xs e1 s1 := by
  rw [forL_consk hk]
  unfold M.bind at h ⊢
  cases hg : g x e s with
  | ok u e3 s3 =>
    rw [hg] at h
    dsimp only at h ⊢
    rw [h]
    rfl
  | ex c e3 s3 => rw [hg] at h; cases h
  | bad => rw [hg] at h; cases h
-- need: place_of
theorem place_loop {s : Sto} {ks : Ks} (hk : kp ks s) (a : T) : ∀ (xs : List Int) (n : Nat) (o1 o2 : Option T), ∃ o1' o2', forL ks (gT 2 (gCon (gN 1) (gCon (gN 2) gNils))) B_place_of_1 (enumT n (xs.map .int)) [some a, o1, o2] s =
    .ok (if Hn.place xs < xs.length then .rt (.int ((n + Hn.place xs : Nat) : Int)) else .nx) [some a, o1', o2'] s
  | [], n, o1, o2 => ⟨o1, o2, by rw [show enumT n (([] : List Int).map T.int) = [] from rfl, forL_nilk hk]; rfl⟩
  | x :: xs, n, o1, o2 => by
    rw [show enumT n ((x :: xs).map T.int) = .tup [.int (n : Nat), .int x] :: enumT (n + 1) (xs.map T.int) from rfl, forL_consk hk]
    by_cases hx : x = 0
    · obtain ⟨o1', o2', h⟩ := place_loop hk a xs (n + 1) (some (.int (n : Nat))) (some (.int x))
      refine ⟨o1', o2', ?_⟩
      subst hx
      rw [Hn.place_cons0, show n + (Hn.place xs + 1) = n + 1 + Hn.place xs by omega, List.length_cons]
      have e2 : (Hn.place xs + 1 < xs.length + 1) = (Hn.place xs < xs.length) := by simp
      simp only [e2]
      rw [← h]
      simp [-Int.natCast_ediv, -Int.natCast_emod, -Int.natCast_mul, -Int.natCast_add, B_place_of_1]
    · have e1 := Hn.place_cons1 xs hx
      refine ⟨some (.int (n : Nat)), some (.int x), ?_⟩
      rw [e1, if_pos (by simp), Nat.add_zero]
      simp [-Int.natCast_ediv, -Int.natCast_emod, -Int.natCast_mul, -Int.natCast_add, B_place_of_1, hx]
theorem place_of_ok {s : Sto} {a : T} {xs : List Int} (ha : Rw s a xs) : G_place_of [a] s = .ok (.int (Hn.place xs : Nat)) s := by
  obtain ⟨k1, h1, h2⟩ := ha.items
  obtain ⟨o1, o2, h3⟩ := place_loop h2 a xs 0 none none
  rw [Nat.zero_add] at h3
  by_cases hp : Hn.place xs < xs.length
  · rw [if_pos hp] at h3
    exact dFn_rt0 (by simp [-Int.natCast_ediv, -Int.natCast_emod, -Int.natCast_mul, -Int.natCast_add, D_place_of, h1, h3]) (rs_int _ _ _ _)
  · rw [if_neg hp] at h3
    have e : Hn.place xs = xs.length := by have := Hn.place_le xs; omega
    rw [e]
    exact dFn_rt0 (by simp [-Int.natCast_ediv, -Int.natCast_emod, -Int.natCast_mul, -Int.natCast_add, D_place_of, h1, h3, ha.vw]) (rs_int _ _ _ _)
-- need: led
/-- numbers along the way down -/
def LedOk : List Mx.Row → Mx.Row → Prop
  | [], _ => True
  | r :: rs, x => divOk (Hn.ld r) = true ∧ (∀ y ∈ r, mulOk (x.getD (Hn.place r) 0 / Hn.ld r) y = true) ∧ LedOk rs (Mx.sub x (Mx.smul (x.getD (Hn.place r) 0 / Hn.ld r) r))
theorem sub_zero_row {x r : Mx.Row} (h : x.length = r.length) : Mx.sub x (Mx.smul 0 r) = x :=
  Mx.ext_row (k := x.length) (Mx.sub_len rfl (by rw [Mx.smul_len, h])) rfl fun i _ => by rw [Mx.sub_at rfl (by rw [Mx.smul_len, h]), Mx.smul_at, Int.zero_mul, Int.sub_zero]
theorem led_loop {s0 : Sto} {ks : Ks} (hk : ∀ l, kp ks (s0 ++ l)) (a b : T) {k : Nat} (hk1 : k ≤ 1000) : ∀ (rows : List Mx.Row) (ts : List T) (x : Mx.Row) (done : List Int) (o2 o5 o6 : Option T), ts.length = rows.length → (∀ (i : Nat) (t : T) (r : List Int), ts[i]? = some t → rows[i]? = some r → ∀ l, Rw (s0 ++ l) t r) → Hn.Up k rows → x.length = k → LedOk rows x → done.length + rows.length ≤ 100000 →
    ∃ o2' o5' o6', forL ks (gN 2) B_led_4 ts [some a, some b, o2, some (.ref s0.length), some (eL x), o5, o6] (s0 ++ [cR done]) = .ok .nx [some a, some b, o2', some (.ref s0.length), some (eL (Hn.led rows x).2), o5', o6'] (s0 ++ [cR (done ++ (Hn.led rows x).1)])
  | [], ts, x, done, o2, o5, o6, hl, _, _, _, _, _ => by
    have e : ts = [] := List.eq_nil_of_length_eq_zero (by rw [hl]; rfl)
    subst e
    refine ⟨o2, o5, o6, ?_⟩
    rw [forL_nilk (hk _)]
    unfold Hn.led
    rw [List.append_nil]
  | r :: rows, [], x, done, o2, o5, o6, hl, _, _, _, _, _ => by simp at hl
  | r :: rows, t :: ts, x, done, o2, o5, o6, hl, hr, hu, hx, ho, hd => by
    have hrt := hr 0 t r rfl rfl
    have hp := hu.plc r (List.mem_cons_self ..)
    have hrl := hu.len r (List.mem_cons_self ..)
    have hpos := hu.pos r (List.mem_cons_self ..)
    obtain ⟨h1, h2, h3⟩ := ho
    have hdv : tFdiv (.int (x.getD (Hn.place r) 0)) (.int (Hn.ld r)) = some (.v (.int (x.getD (Hn.place r) 0 / Hn.ld r))) := by
      show (if divOk _ = true then some (T.int _) else none).map O.v = _
      rw [if_pos h1, Int.fdiv_eq_ediv_of_nonneg _ (by omega)]
      rfl
    have hpl := fun l => place_of_ok (hrt l)
    have i1 : L2.atI (x.map T.int) ((Hn.place r : Nat) : Int) = some (.int (x.getD (Hn.place r) 0)) := atI_mapI (Mx.getD_eq (by omega))
    have i2 : L2.atI (r.map T.int) ((Hn.place r : Nat) : Int) = some (.int (Hn.ld r)) := atI_mapI (Mx.getD_eq (by omega))
    have hsl : (Mx.sub x (Mx.smul (x.getD (Hn.place r) 0 / Hn.ld r) r)).length = k := Mx.sub_len hx (by rw [Mx.smul_len, hrl])
    have tk := fun l => taken_ok (m := x.getD (Hn.place r) 0 / Hn.ld r) (hrt l) (by omega) h2
    have ls := fun l => less_ok (s := s0 ++ l) (.lst _ x) (.lst _ (Mx.smul (x.getD (Hn.place r) 0 / Hn.ld r) r)) (by rw [Mx.smul_len]; omega) (by omega)
    rw [List.length_cons] at hd
    obtain ⟨o2', o5', o6', ih⟩ := led_loop hk a b hk1 rows ts (Mx.sub x (Mx.smul (x.getD (Hn.place r) 0 / Hn.ld r) r)) (done ++ [x.getD (Hn.place r) 0 / Hn.ld r]) (some t) (some (.int (Hn.place r : Nat))) (some (.int (x.getD (Hn.place r) 0 / Hn.ld r))) (by simpa using hl) (fun i t' r' ht' hr' => hr (i + 1) t' r' ht' hr') hu.tail hsl h3 (by rw [List.length_append, List.length_singleton]; omega)
    refine ⟨o2', o5', o6', ?_⟩
    unfold Hn.led
    dsimp only
    rw [List.append_assoc, List.singleton_append] at ih
    refine Eq.trans (forL_step (hk _) ?_) ih
    have hv := (hrt [cR done]).vw
    have hv2 := (hrt [Cell.l (done.map T.int ++ [T.int (x.getD (Hn.place r) 0 / Hn.ld r)])]).vw
    have z0 : x.getD (Hn.place r) 0 / Hn.ld r = 0 → Mx.sub x (Mx.smul (x.getD (Hn.place r) 0 / Hn.ld r) r) = x := fun h => by rw [h, sub_zero_row (by omega)]
    have lo : lenOk (done.length + 1) = true := lenOk_mk (by omega)
    generalize hm : x.getD (Hn.place r) 0 / Hn.ld r = m at *
    generalize x.getD (Hn.place r) 0 = xp at *
    generalize Hn.ld r = rp at *
    generalize Mx.sub x (Mx.smul m r) = y at *
    have ec : (done.map T.int ++ [T.int m]) = (done ++ [m]).map T.int := by simp
    show _ = R.ok Fl.nx _ (s0 ++ [Cell.l ((done ++ [m]).map T.int)])
    rw [← ec]
    clear ih
    by_cases h0 : m = 0
    · have h0' := z0 h0
      subst h0'
      subst h0
      simp [-Int.natCast_ediv, -Int.natCast_emod, -Int.natCast_mul, -Int.natCast_add, B_led_4, Z_led_2_2, Z_led_2_1, Z_led_2, Z_led_1, D_led, hpl, hv, i1, i2, hdv, lo]
    · simp [-Int.natCast_ediv, -Int.natCast_emod, -Int.natCast_mul, -Int.natCast_add, B_led_4, Z_led_2_2, Z_led_2_1, Z_led_2, Z_led_1, D_led, hpl, hv, hv2, i1, i2, hdv, lo, h0, tk, ls]
theorem led_len {k : Nat} : ∀ {rows : List Mx.Row} {x : Mx.Row}, (∀ r ∈ rows, r.length = k) → x.length = k → (Hn.led rows x).1.length = rows.length ∧ (Hn.led rows x).2.length = k
  | [], x, _, hx => ⟨rfl, hx⟩
  | r :: rows, x, h, hx => by
    have ih := led_len (rows := rows) (x := Mx.sub x (Mx.smul (x.getD (Hn.place r) 0 / Hn.ld r) r)) (fun y hy => h y (List.mem_cons_of_mem _ hy)) (Mx.sub_len hx (by rw [Mx.smul_len]; exact h r (List.mem_cons_self ..)))
    unfold Hn.led
    exact ⟨by rw [List.length_cons, ih.1, List.length_cons], ih.2⟩
theorem led_ok {s : Sto} {a b : T} {ts : List T} {rows : List Mx.Row} {x : Mx.Row} {k : Nat} (ha : Rws s a ts rows) (hb : Rw s b x) (hk : k ≤ 1000) (hn : rows.length ≤ 100000) (hu : Hn.Up k rows) (hx : x.length = k) (ho : LedOk rows x) : G_led [a, b] s = .ok (.tup [eL (Hn.led rows x).1, eL (Hn.led rows x).2]) s := by
  obtain ⟨k1, _, h2, h3⟩ := vw_items ha.vw
  obtain ⟨k2, h4, h5⟩ := hb.itms
  obtain ⟨e', s', f1, ⟨o2, rfl⟩, hs⟩ := forL_inv (ks := k1) (g := gN 2) (b := B_led_1) (fun n e s' => (∃ o2, e = [some a, some b, o2, none, none, none, none]) ∧ s' = s) ts 0 (e := [some a, some b, none, none, none, none, none]) (s := s) ⟨⟨none, rfl⟩, rfl⟩ (fun _ _ _ hh => by rw [hh.2]; exact h3) (by
    rintro i t e s' ht ⟨⟨o2, rfl⟩, rfl⟩
    have hi : i < rows.length := by
      rw [← ha.len]
      rcases Nat.lt_or_ge i ts.length with q | q
      · exact q
      · rw [List.getElem?_eq_none q] at ht
        cases ht
    have hri : rows[i]? = some rows[i] := List.getElem?_eq_getElem hi
    have hl := hu.len _ (List.mem_of_getElem? hri)
    have hu' := unlike_ok (ha.at' i t _ ht hri) hb (by omega)
    exact ⟨_, _, by simp [-Int.natCast_ediv, -Int.natCast_emod, -Int.natCast_mul, -Int.natCast_add, B_led_1, hu'], ⟨some t, rfl⟩, rfl⟩)
  subst s'
  obtain ⟨o2', o5', o6', f2⟩ := led_loop (s0 := s) (ks := k1) (fun l => kp_up h3 l) a b hk rows ts x [] o2 none none ha.len (fun i t r h1 h2 l => (ha.at' i t r h1 h2).up l) hu hx ho (by simpa using hn)
  rw [List.nil_append] at f2
  have f2' : forL k1 (gN 2) B_led_4 ts [some a, some b, o2, some (.ref s.length), some (eL x), none, none] (s ++ [Cell.l []]) = _ := f2
  refine dFn_rt (l := [cR (Hn.led rows x).1]) (r := .tup [.ref s.length, eL (Hn.led rows x).2]) ?_ ?_
  · have hv := (hb.up [Cell.l []]).vw
    have h2' := itms_up h2 [Cell.l []]
    simp [-Int.natCast_ediv, -Int.natCast_emod, -Int.natCast_mul, -Int.natCast_add, D_led, Z_led_1, Z_led_2, h2, h2', f1, hv, f2']
  · rw [rs_tup, mapO_cons, mapO_cons, rs_cell_ints (Nat.le_refl _) (sto_at _ _ _), rs_ints]
    rfl
-- need: is_made
theorem is_made_ok {s : Sto} {a b : T} {ts : List T} {rows : List Mx.Row} {x : Mx.Row} {k : Nat} (ha : Rws s a ts rows) (hb : Rw s b x) (hk : k ≤ 1000) (hn : rows.length ≤ 100000) (hu : Hn.Up k rows) (hx : x.length = k) (ho : LedOk rows x) : G_is_made [a, b] s = .ok (.bl (decide ((Hn.led rows x).2 = Mx.zer k))) s := by
  have h1 := led_ok ha hb hk hn hu hx ho
  have h2 := any_ints (Hn.led rows x).2
  rw [any_zer, (led_len hu.len hx).2] at h2
  have h3 : L2.atI [eL (Hn.led rows x).1, eL (Hn.led rows x).2] 1 = some (eL (Hn.led rows x).2) := rfl
  refine dFn_rt0 ?_ (rs_bl _ _ _ _)
  simp [-Int.natCast_ediv, -Int.natCast_emod, -Int.natCast_mul, -Int.natCast_add, D_is_made, h1, h3, h2]


/-! ### shared -/

/-! ### stairs -/
-- need: refuse_misfits
theorem misfits_ok {s : Sto} {a : T} {ts : List T} {rows : List Mx.Row} {k : Nat} (ha : Rws s a ts rows) (hl : ∀ r ∈ rows, r.length = k) : G_refuse_misfits [a, .int (k : Nat)] s = .ok .non s := by
  obtain ⟨k1, _, h2, h3⟩ := vw_items ha.vw
  obtain ⟨e', s', f1, ⟨o2, rfl⟩, hs⟩ := forL_inv (ks := k1) (g := gN 2) (b := B_refuse_misfits_1) (fun n e s' => (∃ o2, e = [some a, some (.int (k : Nat)), o2]) ∧ s' = s) ts 0 (e := [some a, some (.int (k : Nat)), none]) (s := s) ⟨⟨none, rfl⟩, rfl⟩ (fun _ _ _ hh => by rw [hh.2]; exact h3) (by
    rintro i t e s' ht ⟨⟨o2, rfl⟩, rfl⟩
    have hi : i < rows.length := by
      rw [← ha.len]
      rcases Nat.lt_or_ge i ts.length with q | q
      · exact q
      · rw [List.getElem?_eq_none q] at ht
        cases ht
    have hri : rows[i]? = some rows[i] := List.getElem?_eq_getElem hi
    have hv := (ha.at' i t _ ht hri).vw
    have hrl := hl _ (List.mem_of_getElem? hri)
    generalize rows[i] = r at *
    exact ⟨_, _, by simp [-Int.natCast_ediv, -Int.natCast_emod, -Int.natCast_mul, -Int.natCast_add, B_refuse_misfits_1, hv, hrl], ⟨some t, rfl⟩, rfl⟩)
  subst s'
  have e : D_refuse_misfits (ini 3 [a, .int (k : Nat)]) s = .ok .nx [some a, some (.int (k : Nat)), o2] (s ++ []) := by
    rw [List.append_nil]
    simp [-Int.natCast_ediv, -Int.natCast_emod, -Int.natCast_mul, -Int.natCast_add, D_refuse_misfits, h2, f1]
  exact dFn_nx ⟨_, e⟩



-- need: _law_b_take
/-! ### the tape: cells of the script mixed, numbers taken of them -/
/-- the tape's cell at o: at most b cells were read -/
def Tp (ns : List Int) (o b : Nat) (S : Sto) : Prop := ∃ a r : Nat, a ≤ b ∧ S[o]? = some (.l [.scr ns, .int (a : Nat), .int (r : Nat)])
theorem Tp.le {ns : List Int} {o b c : Nat} {S : Sto} (h : Tp ns o b S) (hc : b ≤ c) : Tp ns o c S := by
  obtain ⟨a, r, h1, h2⟩ := h
  exact ⟨a, r, Nat.le_trans h1 hc, h2⟩
theorem Tp.app {ns : List Int} {o b : Nat} {S : Sto} (h : Tp ns o b S) (l : Sto) : Tp ns o b (S ++ l) := by
  obtain ⟨a, r, h1, h2⟩ := h
  exact ⟨a, r, h1, get_app h2 l⟩
theorem Tp.lt {ns : List Int} {o b : Nat} {S : Sto} (h : Tp ns o b S) : o < S.length := by
  obtain ⟨a, r, h1, h2⟩ := h
  exact get_lt h2
theorem mul_sm {x y : Int} (hx : x.natAbs < 2 ^ 64) (hy : y.natAbs < 2 ^ 64) : tMul (.int x) (.int y) = some (.v (.int (x * y))) := tMul_int (mulOk_pow hx hy (by omega) (by omega) (by omega))
theorem bmixed_ok (c : Int) (a : Nat) (ha : a ≤ 1000000000) (s : Sto) : ∃ r : Nat, G__law_b_mixed [.int c, .int (a : Nat)] s = .ok (.int (r : Nat)) s := by
  have e18 : tPow (.int 10) (.int 18) = some (.v (.int 1000000000000000000)) := rfl
  by_cases h : 1000000000000000000 ≤ c
  · refine ⟨c.toNat, dFn_rt0 ⟨[some (.int c), some (.int (a : Nat)), none, none, none], ?_⟩ (rs_int _ _ _ _)⟩
    rw [show ((c.toNat : Nat) : Int) = c by omega]
    unfold D__law_b_mixed
    rw [seq_rt (r := .int c) (e' := [some (.int c), some (.int (a : Nat)), none, none, none]) (s' := s) (by simp [-Int.natCast_ediv, -Int.natCast_emod, -Int.natCast_mul, -Int.natCast_add, e18, h])]
  · have m1 : tMod (.int c) (.int 2147483629) = some (.v (.int (c % 2147483629))) := tMod_int (by omega)
    have b1 : 0 ≤ c % 2147483629 ∧ c % 2147483629 < 2147483629 := ⟨Int.emod_nonneg _ (by omega), Int.emod_lt_of_pos _ (by omega)⟩
    generalize c % 2147483629 = c1 at *
    have m2 := mul_sm (x := c1) (y := 30011) (by omega) (by omega)
    have m3 := mul_sm (x := ((a : Nat) : Int)) (y := 9049) (by omega) (by omega)
    generalize c1 * 30011 = p1 at *
    generalize ((a : Nat) : Int) * 9049 = p2 at *
    have m4 : tMod (.int (p1 + p2 + 733)) (.int 2147483587) = some (.v (.int ((p1 + p2 + 733) % 2147483587))) := tMod_int (by omega)
    have b2 : 0 ≤ (p1 + p2 + 733) % 2147483587 ∧ (p1 + p2 + 733) % 2147483587 < 2147483587 := ⟨Int.emod_nonneg _ (by omega), Int.emod_lt_of_pos _ (by omega)⟩
    generalize (p1 + p2 + 733) % 2147483587 = one at *
    have m5 := mul_sm (x := one) (y := one) (by omega) (by omega)
    have m6 := mul_sm (x := 1009) (y := ((a : Nat) : Int)) (by omega) (by omega)
    generalize one * one = p3 at *
    generalize 1009 * ((a : Nat) : Int) = p4 at *
    have m7 : tMod (.int (p3 + p4 + 61)) (.int 2147483563) = some (.v (.int ((p3 + p4 + 61) % 2147483563))) := tMod_int (by omega)
    have b3 : 0 ≤ (p3 + p4 + 61) % 2147483563 ∧ (p3 + p4 + 61) % 2147483563 < 2147483563 := ⟨Int.emod_nonneg _ (by omega), Int.emod_lt_of_pos _ (by omega)⟩
    generalize (p3 + p4 + 61) % 2147483563 = two at *
    have m8 := mul_sm (x := two) (y := two) (by omega) (by omega)
    have m9 := mul_sm (x := 499) (y := one) (by omega) (by omega)
    generalize two * two = p5 at *
    generalize 499 * one = p6 at *
    have m10 : tMod (.int (p5 + p6 + ((a : Nat) : Int))) (.int 2147483549) = some (.v (.int ((p5 + p6 + ((a : Nat) : Int)) % 2147483549))) := tMod_int (by omega)
    have b4 : 0 ≤ (p5 + p6 + ((a : Nat) : Int)) % 2147483549 ∧ (p5 + p6 + ((a : Nat) : Int)) % 2147483549 < 2147483549 := ⟨Int.emod_nonneg _ (by omega), Int.emod_lt_of_pos _ (by omega)⟩
    generalize (p5 + p6 + ((a : Nat) : Int)) % 2147483549 = three at *
    have m11 := mul_sm (x := two) (y := 2147483549) (by omega) (by omega)
    have b5 : 0 ≤ two * 2147483549 := by omega
    generalize two * 2147483549 = p7 at *
    refine ⟨(p7 + three).toNat, dFn_rt0 ⟨[some (.int c), some (.int (a : Nat)), some (.int one), some (.int two), some (.int three)], ?_⟩ (rs_int _ _ _ _)⟩
    rw [show (((p7 + three).toNat : Nat) : Int) = p7 + three by omega]
    unfold D__law_b_mixed
    first | apply tru_run | apply gv_run | apply nx_run | apply seq_run
    · simp [-Int.natCast_ediv, -Int.natCast_emod, -Int.natCast_mul, -Int.natCast_add, e18, h] <;> exact rfl
    dsimp only [seqK]
    unfold Z__law_b_mixed_1
    first | apply tru_run | apply gv_run | apply nx_run | apply seq_run
    · simp [-Int.natCast_ediv, -Int.natCast_emod, -Int.natCast_mul, -Int.natCast_add, m1, m2, m3, m4] <;> exact rfl
    dsimp only [seqK]
    unfold Z__law_b_mixed_2
    first | apply tru_run | apply gv_run | apply nx_run | apply seq_run
    · simp [-Int.natCast_ediv, -Int.natCast_emod, -Int.natCast_mul, -Int.natCast_add, m5, m6, m7] <;> exact rfl
    dsimp only [seqK]
    unfold Z__law_b_mixed_3
    first | apply tru_run | apply gv_run | apply nx_run | apply seq_run
    · simp [-Int.natCast_ediv, -Int.natCast_emod, -Int.natCast_mul, -Int.natCast_add, m8, m9, m10] <;> exact rfl
    dsimp only [seqK]
    simp [-Int.natCast_ediv, -Int.natCast_emod, -Int.natCast_mul, -Int.natCast_add, m11]
theorem take_ok {ns : List Int} {o b m : Nat} {S : Sto} (h : Tp ns o b S) (hb : b ≤ 10000000) (hn : ns.length ≤ 1000) (hm : 0 < m) : ∃ (x : Nat) (S' : Sto), G__law_b_take [.ref o, .int (m : Nat)] S = .ok (.int (x : Nat)) S' ∧ x < m ∧ Tp ns o (b + 1) S' ∧ Gr o S S' ∧ S'.length = S.length := by
  obtain ⟨a, r, h1, h2⟩ := h
  have hlt := get_lt h2
  have j0 : ∀ x y z : T, L2.atI [x, y, z] 0 = some x := fun _ _ _ => rfl
  have j1 : ∀ x y z : T, L2.atI [x, y, z] 1 = some y := fun _ _ _ => rfl
  have j2 : ∀ x y z : T, L2.atI [x, y, z] 2 = some z := fun _ _ _ => rfl
  have k1 : L2.ixN 3 1 = some 1 := rfl
  have k2 : L2.ixN 3 2 = some 2 := rfl
  -- where there is too little, a cell more
  obtain ⟨a', r', o3, o4, g1, g2⟩ : ∃ (a' r' : Nat) (o3 o4 : Option T), a' ≤ b + 1 ∧ D__law_b_take (ini 5 [.ref o, .int (m : Nat)]) S = Z__law_b_take_1 [some (.ref o), some (.int (m : Nat)), none, o3, o4] (S.set o (.l [.scr ns, .int (a' : Nat), .int (r' : Nat)])) := by
    unfold D__law_b_take
    by_cases hr : r < m
    · have hri : ((r : Nat) : Int) < ((m : Nat) : Int) := by omega
      have m23 := mul_sm (x := 23) (y := ((a : Nat) : Int)) (by omega) (by omega)
      obtain ⟨cell, hc⟩ : ∃ cell : Int, Z__law_b_take_1_2 [some (.ref o), some (.int (m : Nat)), none, some (.int (a : Nat)), some (.int (23 * ((a : Nat) : Int) + 7))] S = Z__law_b_take_1_3 [some (.ref o), some (.int (m : Nat)), none, some (.int (a : Nat)), some (.int cell)] S := by
        unfold Z__law_b_take_1_2
        by_cases ha : a < ns.length
        · have hai : ((a : Nat) : Int) < ((ns.length : Nat) : Int) := by omega
          have ix : L2.atI ns ((a : Nat) : Int) = some (ns[a]) := by rw [atI_natE, List.getElem?_eq_getElem ha]
          refine ⟨ns[a], seq_nx ?_⟩
          generalize ns[a] = z at *
          simp [-Int.natCast_ediv, -Int.natCast_emod, -Int.natCast_mul, -Int.natCast_add, h2, j0, hai, ix]
        · have hai : ¬ ((a : Nat) : Int) < ((ns.length : Nat) : Int) := by omega
          by_cases hn0 : ns = []
          · subst hn0
            refine ⟨23 * ((a : Nat) : Int) + 7, seq_nx ?_⟩
            have hne := tNe_scr []
            have hrs : ∀ s, rs 9 0 s (.scr []) = some (.scr []) := fun s => rs_scr 8 0 s []
            have hrl : ∀ s, rs 9 0 s (.lst []) = some (.lst []) := fun s => rs_ints 7 0 s []
            have hai : ¬ ((a : Nat) : Int) < 0 := by omega
            simp [-Int.natCast_ediv, -Int.natCast_emod, -Int.natCast_mul, -Int.natCast_add, h2, j0, hai, dRs_of (hrs _) (hrl _), hne]
          · have hp : 0 < ns.length := List.length_pos_iff.mpr hn0
            have hne := tNe_scr ns
            have hrs : ∀ s, rs 9 0 s (.scr ns) = some (.scr ns) := fun s => rs_scr 8 0 s ns
            have hrl : ∀ s, rs 9 0 s (.lst []) = some (.lst []) := fun s => rs_ints 7 0 s []
            have m17 := mul_sm (x := ((a : Nat) : Int)) (y := 17) (by omega) (by omega)
            have m33 := mul_sm (x := ((a : Nat) : Int)) (y := 1000133) (by omega) (by omega)
            have hq : a * 17 % ns.length < ns.length := Nat.mod_lt _ hp
            have mm : tMod (.int (((a : Nat) : Int) * 17)) (.int ((ns.length : Nat) : Int)) = some (.v (.int ((a * 17 % ns.length : Nat) : Int))) := by
              rw [tMod_int (by omega)]
              rfl
            have ix : L2.atI ns ((a * 17 % ns.length : Nat) : Int) = some (ns.getD (a * 17 % ns.length) 0) := by rw [atI_natE, Mx.getD_eq hq]
            have mo : ∀ z : Int, tMod (.int z) (.int 1000039) = some (.v (.int (z % 1000039))) := fun z => tMod_int (by omega)
            generalize ns.getD (a * 17 % ns.length) 0 = z at *
            generalize a * 17 % ns.length = q at *
            refine ⟨z % 1000039 + ((a : Nat) : Int) * 1000133, seq_nx ?_⟩
            simp [-Int.natCast_ediv, -Int.natCast_emod, -Int.natCast_mul, -Int.natCast_add, h2, j0, hai, dRs_of (hrs _) (hrl _), hne, hn0, m17, mm, ix, mo, m33]
      obtain ⟨r', hr'⟩ := bmixed_ok cell a (by omega) (S.set o (.l [.scr ns, .int ((a : Nat) + 1), .int (r : Nat)]))
      have hset : (S.set o (.l [.scr ns, .int ((a : Nat) + 1), .int (r : Nat)]))[o]? = some (.l [.scr ns, .int ((a : Nat) + 1), .int (r : Nat)]) := List.getElem?_set_self hlt
      refine ⟨a + 1, r', some (.int (a : Nat)), some (.int cell), by omega, ?_⟩
      have start : (dSeq (dAsg 3 (dOp false tIx (dVar 0) (dC (.int 1)))) (Z__law_b_take_1_1)) (ini 5 [.ref o, .int (m : Nat)]) S = .ok .nx [some (.ref o), some (.int (m : Nat)), none, some (.int (a : Nat)), some (.int cell)] (S.set o (.l [.scr ns, .int ((a + 1 : Nat) : Int), .int (r' : Nat)])) := by
        first | apply tru_run | apply gv_run | apply nx_run | apply seq_run
        · simp [-Int.natCast_ediv, -Int.natCast_emod, -Int.natCast_mul, -Int.natCast_add, h2, j1] <;> exact rfl
        dsimp only [seqK]
        unfold Z__law_b_take_1_1
        first | apply tru_run | apply gv_run | apply nx_run | apply seq_run
        · simp [-Int.natCast_ediv, -Int.natCast_emod, -Int.natCast_mul, -Int.natCast_add, m23] <;> exact rfl
        dsimp only [seqK]
        refine Eq.trans hc ?_
        unfold Z__law_b_take_1_3
        first | apply tru_run | apply gv_run | apply nx_run | apply seq_run
        · simp [-Int.natCast_ediv, -Int.natCast_emod, -Int.natCast_mul, -Int.natCast_add, h2, k1] <;> exact rfl
        dsimp only [seqK]
        simp [-Int.natCast_ediv, -Int.natCast_emod, -Int.natCast_mul, -Int.natCast_add, hset, hr', k2]
        rfl
      have ht : (dTest (dOp false tLt (dOp false tIx (dVar 0) (dC (.int 2))) (dVar 1))) (ini 5 [.ref o, .int (m : Nat)]) S = .ok true (ini 5 [.ref o, .int (m : Nat)]) S := by simp [-Int.natCast_ediv, -Int.natCast_emod, -Int.natCast_mul, -Int.natCast_add, h2, j2, hri]
      refine seq_nx ?_
      show (M.bind _ _) _ _ = _
      rw [bind_ok ht, if_pos rfl]
      exact start
    · have hri : ¬ ((r : Nat) : Int) < ((m : Nat) : Int) := by omega
      refine ⟨a, r, none, none, by omega, ?_⟩
      rw [set_self h2]
      refine seq_nx ?_
      simp [-Int.natCast_ediv, -Int.natCast_emod, -Int.natCast_mul, -Int.natCast_add, h2, j2, hri]
  have hset : (S.set o (.l [.scr ns, .int (a' : Nat), .int (r' : Nat)]))[o]? = some (.l [.scr ns, .int (a' : Nat), .int (r' : Nat)]) := List.getElem?_set_self hlt
  have md := tMod_nat (a := r') hm
  have dv : tFdiv (.int (r' : Nat)) (.int (m : Nat)) = some (.v (.int ((r' / m : Nat) : Int))) := by
    show (if divOk _ = true then some (T.int _) else none).map O.v = _
    rw [if_pos (divOk_nz (by omega)), Int.fdiv_eq_ediv_of_nonneg _ (by omega)]
    rfl
  have hxm : r' % m < m := Nat.mod_lt _ hm
  generalize r' % m = x at *
  generalize r' / m = r2 at *
  have e2 : (S.set o (.l [.scr ns, .int (a' : Nat), .int (r' : Nat)])).set o (.l [.scr ns, .int (a' : Nat), .int (r2 : Nat)]) = S.set o (.l [.scr ns, .int (a' : Nat), .int (r2 : Nat)]) := List.set_set ..
  refine ⟨x, S.set o (.l [.scr ns, .int (a' : Nat), .int (r2 : Nat)]), dFnR_rt ⟨[some (.ref o), some (.int (m : Nat)), some (.int (x : Nat)), o3, o4], ?_⟩, hxm, ⟨a', r2, g1, List.getElem?_set_self hlt⟩, Gr.set .., List.length_set ..⟩
  rw [g2, ← e2]
  generalize S.set o (.l [.scr ns, .int (a' : Nat), .int (r' : Nat)]) = S1 at *
  unfold Z__law_b_take_1
  first | apply tru_run | apply gv_run | apply nx_run | apply seq_run
  · simp [-Int.natCast_ediv, -Int.natCast_emod, -Int.natCast_mul, -Int.natCast_add, hset, j2, md] <;> exact rfl
  dsimp only [seqK]
  unfold Z__law_b_take_2
  first | apply tru_run | apply gv_run | apply nx_run | apply seq_run
  · simp [-Int.natCast_ediv, -Int.natCast_emod, -Int.natCast_mul, -Int.natCast_add, hset, j2, dv, k2] <;> exact rfl
  dsimp only [seqK]
  simp [-Int.natCast_ediv, -Int.natCast_emod, -Int.natCast_mul, -Int.natCast_add, ]
theorem far_at : ∀ x : Nat, x < 6 → ∃ f : Nat, L2.atI [T.int 1, .int 2, .int 4, .int 12, .int 1000, .int 1000000000] ((x : Nat) : Int) = some (.int (f : Nat)) ∧ 1 ≤ f ∧ f ≤ 1000000000 := by
  intro x hx
  rcases x with _ | _ | _ | _ | _ | _ | x
  · exact ⟨1, rfl, by omega, by omega⟩
  · exact ⟨2, rfl, by omega, by omega⟩
  · exact ⟨4, rfl, by omega, by omega⟩
  · exact ⟨12, rfl, by omega, by omega⟩
  · exact ⟨1000, rfl, by omega, by omega⟩
  · exact ⟨1000000000, rfl, by omega, by omega⟩
  · omega
theorem by_at : ∀ x : Nat, x < 8 → ∃ f : Nat, L2.atI [T.int 1, .int 1, .int 2, .int 3, .int 6, .int 0, .int 7, .int 97] ((x : Nat) : Int) = some (.int (f : Nat)) ∧ f ≤ 97 := by
  intro x hx
  rcases x with _ | _ | _ | _ | _ | _ | _ | _ | x
  · exact ⟨1, rfl, by omega⟩
  · exact ⟨1, rfl, by omega⟩
  · exact ⟨2, rfl, by omega⟩
  · exact ⟨3, rfl, by omega⟩
  · exact ⟨6, rfl, by omega⟩
  · exact ⟨0, rfl, by omega⟩
  · exact ⟨7, rfl, by omega⟩
  · exact ⟨97, rfl, by omega⟩
  · omega
/-- what is drawn: rows in a new cell -/
structure Drw (ns : List Int) (o c many k : Nat) (S : Sto) (j : Nat) (R : List Mx.Row) (S' : Sto) : Prop where
  new : S.length ≤ j
  cell : S'[j]? = some (.l (R.map eL))
  len : R.length = many
  row : ∀ r ∈ R, r.length = k ∧ Hn.Bd 37 r
  tp : Tp ns o c S'
  gr : Gr o S S'
-- need: _law_b_rows
theorem brow_ok {ns : List Int} {o b k far y : Nat} {a1 a4 a5 : Option T} {S : Sto} (h : Tp ns o b S) (hb : b ≤ 1000000) (hn : ns.length ≤ 1000) (hk : k ≤ 100) (hf : far ≤ 1000000000) (hy : y ≤ 97) :
    ∃ (xs : List Int) (S' : Sto), lcL [] [7] (gN 7) dYes L__law_b_rows_1 (natsT k) [] [some (.ref o), a1, some (.int (k : Nat)), some (.int (far : Nat)), a4, a5, some (.int (y : Nat)), none] S = .ok (xs.map .int) [some (.ref o), a1, some (.int (k : Nat)), some (.int (far : Nat)), a4, a5, some (.int (y : Nat)), none] S' ∧ xs.length = k ∧ Hn.Bd 37 xs ∧ Tp ns o (b + k) S' ∧ Gr o S S' := by
  obtain ⟨ys, S', g1, ⟨g2, g3⟩, g4, g5⟩ := lc_inv (ks := []) (own := [7]) (g := gN 7) (el := L__law_b_rows_1) (e0 := [some (.ref o), a1, some (.int (k : Nat)), some (.int (far : Nat)), a4, a5, some (.int (y : Nat)), none]) (fun i s => Tp ns o (b + i) s ∧ Gr o S s) (fun _ t => ∃ a : Int, t = .int a ∧ a.natAbs < 2 ^ 37) (natsT k) 0 (acc := []) (s := S) ⟨h, Gr.refl ..⟩ (fun _ _ _ => trivial) (by rw [natsT_len, List.length_nil]; omega) (by
    rintro i x s hx ⟨q1, q2⟩
    obtain ⟨hi, rfl⟩ := natsT_at hx
    rw [Nat.zero_add] at *
    obtain ⟨z, s', t1, t2, t3, t4, _⟩ := take_ok (m := 2 * far + 1) q1 (by omega) hn (by omega)
    have t1 : G__law_b_take [.ref o, .int (2 * ((far : Nat) : Int) + 1)] s = .ok (.int (z : Nat)) s' := t1
    have m1 := mul_sm (x := 2) (y := ((far : Nat) : Int)) (by omega) (by omega)
    have m2 := mul_sm (x := ((y : Nat) : Int)) (y := ((z : Nat) : Int) - (far : Nat)) (by omega) (by omega)
    refine ⟨.int (((y : Nat) : Int) * (((z : Nat) : Int) - (far : Nat))), _, [some (.ref o), a1, some (.int (k : Nat)), some (.int (far : Nat)), a4, a5, some (.int (y : Nat)), some (.int (i : Nat))], s', rfl, by simp [-Int.natCast_ediv, -Int.natCast_emod, -Int.natCast_mul, -Int.natCast_add, L__law_b_rows_1, m1, t1, m2], rfl, ⟨t3, q2.trans t4⟩, _, rfl, ?_⟩
    rw [Int.natAbs_mul]
    have h1 : (((z : Nat) : Int) - (far : Nat)).natAbs ≤ 1000000000 := by omega
    have h2 : (((y : Nat) : Int)).natAbs ≤ 97 := by omega
    have h3 := Nat.mul_le_mul h2 h1
    have h4 : (2 : Nat) ^ 37 = 137438953472 := by decide
    omega)
  rw [Nat.zero_add, natsT_len] at *
  obtain ⟨xs, rfl, h2⟩ := ints_of (P := fun _ a => a.natAbs < 2 ^ 37) (n := 0) (ys := ys) (fun i t ht => by
    obtain ⟨a, a1, a2⟩ := g5 i t ht
    exact ⟨a, a1, a2⟩)
  rw [List.length_map] at g4
  refine ⟨xs, S', g1, g4, fun x hx => ?_, g2, g3⟩
  obtain ⟨i, hi, rfl⟩ := List.getElem_of_mem hx
  exact h2 i _ (List.getElem?_eq_getElem hi)
theorem brows_ok {ns : List Int} {o b many k : Nat} {S : Sto} (h : Tp ns o b S) (hb : b + 1 + many * (1 + k) ≤ 1000000) (hn : ns.length ≤ 1000) (hm : many ≤ 100) (hk : k ≤ 100) : ∃ (j : Nat) (R : List Mx.Row) (S' : Sto), G__law_b_rows [.ref o, .int (many : Nat), .int (k : Nat)] S = .ok (.ref j) S' ∧ Drw ns o (b + 1 + many * (1 + k)) many k S j R S' := by
  have e9 : tPow (.int 10) (.int 9) = some (.v (.int 1000000000)) := rfl
  obtain ⟨x, S1, t1, t2, t3, t4, t5⟩ := take_ok (m := 6) h (by omega) hn (by omega)
  have t1 : G__law_b_take [.ref o, .int 6] S = .ok (.int (x : Nat)) S1 := t1
  obtain ⟨far, f1, f2, f3⟩ := far_at x t2
  have rm := rng1_nat (n := many) (by omega)
  have rk := rng1_nat (n := k) (by omega)
  have hlo := t3.lt
  obtain ⟨e', S', loop, R, a5, a6, rfl, q1, q2, q3, q4, q5⟩ := forL_inv (ks := []) (g := gN 5) (b := B__law_b_rows_2) (fun n e s => ∃ (R : List Mx.Row) (a5 a6 : Option T), e = [some (.ref o), some (.int (many : Nat)), some (.int (k : Nat)), some (.int (far : Nat)), some (.ref S1.length), a5, a6, none] ∧ s[S1.length]? = some (.l (R.map eL)) ∧ R.length = n ∧ (∀ r ∈ R, r.length = k ∧ Hn.Bd 37 r) ∧ Tp ns o (b + 1 + n * (1 + k)) s ∧ Gr o S1 s)
    (natsT many) 0 (e := [some (.ref o), some (.int (many : Nat)), some (.int (k : Nat)), some (.int (far : Nat)), some (.ref S1.length), none, none, none]) (s := S1 ++ [Cell.l []]) ⟨[], none, none, rfl, sto_at _ _ _, rfl, fun r hr => by simp at hr, by rw [Nat.zero_mul]; exact t3.app _, Gr.app ..⟩ (fun _ _ _ _ => trivial) (by
    rintro n x e s hx ⟨R, a5, a6, rfl, q1, q2, q3, q4, q5⟩
    obtain ⟨hi, rfl⟩ := natsT_at hx
    rw [Nat.zero_add] at *
    have hnm : n * (1 + k) + (1 + k) ≤ many * (1 + k) := by
      have := Nat.mul_le_mul_right (1 + k) (show n + 1 ≤ many by omega)
      rwa [Nat.succ_mul] at this
    obtain ⟨y, s1, u1, u2, u3, u4, u5⟩ := take_ok (m := 8) q4 (by omega) hn (by omega)
    have u1 : G__law_b_take [.ref o, .int 8] s = .ok (.int (y : Nat)) s1 := u1
    obtain ⟨z, z1, z2⟩ := by_at y u2
    obtain ⟨xs, s2, v1, v2, v3, v4, v5⟩ := brow_ok (k := k) (far := far) (y := z) (a1 := some (.int (many : Nat))) (a4 := some (.ref S1.length)) (a5 := some (.int (n : Nat))) u3 (by omega) hn hk f3 z2
    have hne : S1.length ≠ o := by omega
    have w0 := u4.at' _ _ hne q1
    have w1 := v5.at' _ _ hne w0
    have lo : lenOk (R.length + 1) = true := lenOk_mk (by omega)
    have hl2 := get_lt w1
    refine ⟨_, s2.set S1.length (.l (R.map eL ++ [eL xs])), ?_, R ++ [xs], some (.int (n : Nat)), some (.int (z : Nat)), rfl, ?_, by rw [List.length_append, List.length_singleton, q2], fun r hr => ?_, ?_, ?_⟩
    · rw [bind_ok (show gN 5 (.int (n : Nat)) [some (.ref o), some (.int (many : Nat)), some (.int (k : Nat)), some (.int (far : Nat)), some (.ref S1.length), a5, a6, none] s = .ok () [some (.ref o), some (.int (many : Nat)), some (.int (k : Nat)), some (.int (far : Nat)), some (.ref S1.length), some (.int (n : Nat)), a6, none] s from rfl)]
      unfold B__law_b_rows_2
      rw [seq_nx (e' := [some (.ref o), some (.int (many : Nat)), some (.int (k : Nat)), some (.int (far : Nat)), some (.ref S1.length), some (.int (n : Nat)), some (.int (z : Nat)), none]) (s' := s1) (by simp [-Int.natCast_ediv, -Int.natCast_emod, -Int.natCast_mul, -Int.natCast_add, u1, z1])]
      simp [-Int.natCast_ediv, -Int.natCast_emod, -Int.natCast_mul, -Int.natCast_add, -rng1_i, rk, v1, w0, w1, lo]
    · rw [List.getElem?_set_self hl2, List.map_append]
      rfl
    · rcases List.mem_append.mp hr with q | q
      · exact q3 r q
      · rw [List.mem_singleton.mp q]
        exact ⟨v2, v3⟩
    · obtain ⟨a, r, c1, c2⟩ := v4
      refine ⟨a, r, ?_, by rw [List.getElem?_set_ne hne]; exact c2⟩
      rw [Nat.succ_mul]
      omega
    · have g := (q5.trans u4).trans v5
      exact ⟨by rw [List.length_set]; exact g.le, fun j c hj hc => by
        have hjl := get_lt hc
        rw [List.getElem?_set_ne (by omega)]
        exact g.at' j c hj hc⟩)
  rw [Nat.zero_add, natsT_len] at *
  refine ⟨S1.length, R, S', dFnR_rt ⟨[some (.ref o), some (.int (many : Nat)), some (.int (k : Nat)), some (.int (far : Nat)), some (.ref S1.length), a5, a6, none], ?_⟩, ⟨by omega, q1, q2, q3, q4, t4.trans q5⟩⟩
  unfold D__law_b_rows
  first | apply tru_run | apply gv_run | apply nx_run | apply seq_run
  · simp [-Int.natCast_ediv, -Int.natCast_emod, -Int.natCast_mul, -Int.natCast_add, e9, t1, f1] <;> exact rfl
  dsimp only [seqK]
  unfold Z__law_b_rows_1
  first | apply tru_run | apply gv_run | apply nx_run | apply seq_run
  · simp [-Int.natCast_ediv, -Int.natCast_emod, -Int.natCast_mul, -Int.natCast_add, ] <;> exact rfl
  dsimp only [seqK]
  unfold Z__law_b_rows_2
  first | apply tru_run | apply gv_run | apply nx_run | apply seq_run
  · simp [-Int.natCast_ediv, -Int.natCast_emod, -Int.natCast_mul, -Int.natCast_add, -rng1_i, rm, loop] <;> exact rfl
  dsimp only [seqK]
  simp [-Int.natCast_ediv, -Int.natCast_emod, -Int.natCast_mul, -Int.natCast_add, ]


theorem tAddM (A B : List Mx.Row) (h : A.length + B.length ≤ 1000) : tAdd (.lst (A.map eL)) (.lst (B.map eL)) = some (.l ((A ++ B).map eL)) := by
  show (if lenOk ((A.map eL).length + (B.map eL).length) = true then some (O.l (A.map eL ++ B.map eL)) else none) = _
  rw [if_pos (lenOk_mk (by rw [List.length_map, List.length_map]; omega)), List.map_append]
-- need: multiplied
/-! ### counts: what is multiplied, leads, beside -/
def prodI : List Int → Int
  | [] => 1
  | x :: xs => x * prodI xs
theorem prodI_bd {B : Nat} (hB : 1 ≤ B) : ∀ {xs : List Int}, (∀ x ∈ xs, x.natAbs < 2 ^ B) → (prodI xs).natAbs < 2 ^ (xs.length * B + 1)
  | [], _ => by
    unfold prodI
    rw [List.length_nil, Nat.zero_mul]
    decide
  | x :: xs, h => by
    have h1 := h x (List.mem_cons_self ..)
    have h2 := prodI_bd hB (xs := xs) fun y hy => h y (List.mem_cons_of_mem _ hy)
    unfold prodI
    rw [Int.natAbs_mul, List.length_cons]
    have h3 := Nat.mul_lt_mul'' h1 h2
    rw [← Nat.pow_add] at h3
    exact Nat.lt_of_lt_of_le h3 (Nat.pow_le_pow_right (by omega) (by rw [Nat.succ_mul]; omega))
theorem multiplied_ok {s : Sto} {a : T} {xs : List Int} {B : Nat} (ha : Rw s a xs) (hB : 1 ≤ B) (hb : ∀ x ∈ xs, x.natAbs < 2 ^ B) (hn : (xs.length + 1) * B + 1 ≤ 900000) : G_multiplied [a] s = .ok (.int (prodI xs)) s := by
  obtain ⟨ks, h1, h2⟩ := ha.itms
  have loop : ∀ (ys : List Int) (t : Int) (n : Nat) (o2 : Option T), (∀ x ∈ ys, x.natAbs < 2 ^ B) → t.natAbs < 2 ^ n → 1 ≤ n → n + (ys.length + 1) * B ≤ 900100 → ∃ o2', forL ks (gN 2) B_multiplied_1 (ys.map .int) [some a, some (.int t), o2] s = .ok .nx [some a, some (.int (t * prodI ys)), o2'] s := by
    intro ys
    induction ys with
    | nil =>
      intro t n o2 _ _ _ _
      exact ⟨o2, by rw [List.map_nil, forL_nilk h2]; unfold prodI; rw [Int.mul_one]⟩
    | cons y ys ih =>
      intro t n o2 hy ht h1n hl
      rw [List.length_cons, Nat.succ_mul] at hl
      have hyb := hy y (List.mem_cons_self ..)
      have hm : mulOk t y = true := mulOk_pow ht hyb h1n hB (by omega)
      have hty : (t * y).natAbs < 2 ^ (n + B) := by
        rw [Int.natAbs_mul]
        have h3 := Nat.mul_lt_mul'' ht hyb
        rwa [← Nat.pow_add] at h3
      obtain ⟨o2', g⟩ := ih (t * y) (n + B) (some (.int y)) (fun x hx => hy x (List.mem_cons_of_mem _ hx)) hty (by omega) (by omega)
      refine ⟨o2', ?_⟩
      have e : t * prodI (y :: ys) = t * y * prodI ys := by
        show t * (y * prodI ys) = _
        rw [Int.mul_assoc]
      rw [List.map_cons, e, ← g]
      exact forL_step h2 (by simp [-Int.natCast_ediv, -Int.natCast_emod, -Int.natCast_mul, -Int.natCast_add, B_multiplied_1, hm])
  obtain ⟨o2', g⟩ := loop xs 1 1 none hb (by decide) (by omega) (by omega)
  rw [Int.one_mul] at g
  refine dFn_rt0 ⟨[some a, some (.int (prodI xs)), o2'], ?_⟩ (rs_int _ _ _ _)
  unfold D_multiplied
  first | apply tru_run | apply gv_run | apply nx_run | apply seq_run
  · simp [-Int.natCast_ediv, -Int.natCast_emod, -Int.natCast_mul, -Int.natCast_add, ] <;> exact rfl
  dsimp only [seqK]
  unfold Z_multiplied_1
  first | apply tru_run | apply gv_run | apply nx_run | apply seq_run
  · simp [-Int.natCast_ediv, -Int.natCast_emod, -Int.natCast_mul, -Int.natCast_add, h1, g] <;> exact rfl
  dsimp only [seqK]
  simp [-Int.natCast_ediv, -Int.natCast_emod, -Int.natCast_mul, -Int.natCast_add, ]
-- need: leads
theorem leads_ok {s : Sto} {a : T} {ts : List T} {F : List Mx.Row} {k : Nat} (ha : Rws s a ts F) (hn : F.length ≤ 1000) (hu : Hn.Up k F) : G_leads [a] s = .ok (eL (F.map Hn.ld)) s := by
  obtain ⟨ks, _, h2, h3⟩ := vw_items ha.vw
  obtain ⟨ys, s', g1, g2, g3, g4⟩ := lc_inv (ks := ks) (own := [1]) (g := gN 1) (el := L_leads_1) (e0 := [some a, none]) (fun _ s' => s' = s) (fun i t => ∃ r, F[i]? = some r ∧ t = .int (Hn.ld r)) ts 0 (acc := []) (s := s) rfl (fun _ _ h => by rw [h]; exact h3) (by rw [List.length_nil, ha.len]; omega) (by
    rintro i t s' ht rfl
    rw [Nat.zero_add]
    have hi : i < F.length := by rw [← ha.len]; exact get_lt ht
    have hF := Hn.getD_row hi
    have hrw := ha.at' i t _ ht hF
    have hp := hu.plc _ (List.mem_of_getElem? hF)
    have hl := hu.len _ (List.mem_of_getElem? hF)
    generalize F.getD i [] = r at *
    have hpl := place_of_ok hrw
    have ix : L2.atI (r.map T.int) ((Hn.place r : Nat) : Int) = some (.int (Hn.ld r)) := atI_mapI (Mx.getD_eq (by omega))
    have hv := hrw.vw
    generalize hld : Hn.ld r = l at *
    exact ⟨.int l, [some a, some t], [some a, some t], s', rfl, by simp [-Int.natCast_ediv, -Int.natCast_emod, -Int.natCast_mul, -Int.natCast_add, L_leads_1, hpl, hv, ix], rfl, rfl, r, hF, by rw [hld]⟩)
  subst g2
  have e : ys = (F.map Hn.ld).map T.int := List.ext_getElem? fun i => by
    rw [List.getElem?_map, List.getElem?_map]
    cases hF : F[i]? with
    | none =>
      rw [List.getElem?_eq_none (by rw [g3, ha.len]; exact List.getElem?_eq_none_iff.mp hF)]
      rfl
    | some r =>
      have hi := get_lt hF
      have hy : ys[i]? = some (ys[i]'(by rw [g3, ha.len]; exact hi)) := List.getElem?_eq_getElem _
      obtain ⟨r', r1, r2⟩ := g4 i _ hy
      rw [Nat.zero_add, hF] at r1
      cases r1
      rw [hy, r2]
      rfl
  rw [List.nil_append, e] at g1
  generalize F.map Hn.ld = ls at *
  exact dFn_rt0 ⟨[some a, none], by simp [-Int.natCast_ediv, -Int.natCast_emod, -Int.natCast_mul, -Int.natCast_add, D_leads, h2, g1]⟩ (rs_ints _ _ _ _)
theorem prod_lp : ∀ F : List Mx.Row, prodI (F.map Hn.ld) = Hn.lp F
  | [] => rfl
  | r :: F => by
    rw [List.map_cons]
    unfold prodI Hn.lp
    rw [prod_lp F]
theorem ld_bd {B : Nat} {F : List Mx.Row} (h : ∀ r ∈ F, Hn.Bd B r) : ∀ x ∈ F.map Hn.ld, x.natAbs < 2 ^ B := fun x hx => by
  obtain ⟨r, hr, rfl⟩ := List.mem_map.mp hx
  exact (h r hr).at _
theorem mul_leads {s : Sto} {F : List Mx.Row} {k B : Nat} (hn : F.length ≤ 20) (hu : Hn.Up k F) (hB : 1 ≤ B) (hb : ∀ r ∈ F, Hn.Bd B r) (hB2 : 21 * B + 1 ≤ 900000) : G_leads [eM F] s = .ok (eL (F.map Hn.ld)) s ∧ G_multiplied [eL (F.map Hn.ld)] s = .ok (.int (Hn.lp F)) s := by
  refine ⟨leads_ok (Rws.lst s F) (by omega) hu, ?_⟩
  have := multiplied_ok (.lst s (F.map Hn.ld)) hB (ld_bd hb) (by
    rw [List.length_map]
    have := Nat.mul_le_mul_right B (show F.length + 1 ≤ 21 by omega)
    omega)
  rwa [prod_lp] at this
-- need: lies_in
theorem all_bools (bs : List Bool) : tAll [.lst (bs.map T.bl)] = some (.v (.bl (bs.all id))) := by
  show (mapO tTru (bs.map T.bl)).map _ = _
  rw [mapO_map (f := tTru) (k := id) fun i _ => rfl, List.map_id]
  rfl
theorem ledOk_any {k B : Nat} : ∀ {rows : List Mx.Row} {x : Mx.Row} {X : Nat}, Hn.Up k rows → x.length = k → Hn.Bd X x → (∀ r ∈ rows, Hn.Bd B r) → 1 ≤ B → X + rows.length * (B + 1) + B ≤ 900000 → LedOk rows x
  | [], _, _, _, _, _, _, _, _ => trivial
  | r :: rows, x, X, hu, hx, hb, hr, hB1, hX => by
    have hrl := hu.len r (List.mem_cons_self ..)
    have hrb := hr r (List.mem_cons_self ..)
    have hpos := hu.pos r (List.mem_cons_self ..)
    rw [List.length_cons, Nat.succ_mul] at hX
    have hq : (x.getD (Hn.place r) 0 / Hn.ld r).natAbs < 2 ^ X := Nat.lt_of_le_of_lt (Hn.abs_ediv hpos) (hb.at _)
    have hs : (Mx.sub x (Mx.smul (x.getD (Hn.place r) 0 / Hn.ld r) r)).length = k := Mx.sub_len hx (by rw [Mx.smul_len]; exact hrl)
    refine ⟨divOk_nz (by omega), fun y hy => ?_, ledOk_any hu.tail hs (X := X + B + 1) (Hn.Bd.of hs fun i _ => ?_) (fun y hy => hr y (List.mem_cons_of_mem _ hy)) hB1 (by omega)⟩
    · rcases Nat.eq_zero_or_pos X with z | z
      · subst z
        have h0 : x.getD (Hn.place r) 0 / Hn.ld r = 0 := by have : (2 : Nat) ^ 0 = 1 := rfl; omega
        rw [h0]
        exact mulOk_pow (a := 1) (b := B) (by decide) (hrb y hy) (by omega) hB1 (by omega)
      · exact mulOk_pow hq (hrb y hy) z hB1 (by omega)
    · rw [Mx.sub_at hx (by rw [Mx.smul_len]; exact hrl), Mx.smul_at]
      exact Hn.bd_sub (hb.at i) hq (hrb.at i)
theorem lies_ok {k B X : Nat} {A B' : List Mx.Row} (s : Sto) (hA : ∀ r ∈ A, r.length = k) (hAb : ∀ r ∈ A, Hn.Bd X r) (hn : A.length + B'.length ≤ 1000) (hk : k ≤ 1000) (hu : Hn.Up k B') (hb : ∀ r ∈ B', Hn.Bd B r) (hB1 : 1 ≤ B) (hX : X + B'.length * (B + 1) + B ≤ 900000) : ∃ b : Bool, G_lies_in [eM A, eM B', .int (k : Nat)] s = .ok (.bl b) s ∧ (b = true ↔ ∀ r ∈ A, Hn.Lat k B' r) := by
  have h := tAddM A B' hn
  have h0 := misfits_ok (Rws.lst s (A ++ B')) (k := k) fun r hr => by
    rcases List.mem_append.mp hr with q | q
    · exact hA r q
    · exact hu.len r q
  have l1 : lcL [] [3] (gN 3) dYes L_lies_in_1 (A.map eL) [] [some (eM A), some (eM B'), some (.int (k : Nat)), none] s = .ok ((A.map fun r => decide ((Hn.led B' r).2 = Mx.zer k)).map T.bl) [some (eM A), some (eM B'), some (.int (k : Nat)), none] s := by
    have g := lc_map (ks := []) (own := [3]) (g := gN 3) (el := L_lies_in_1) (e0 := [some (eM A), some (eM B'), some (.int (k : Nat)), none]) (s := s) (f := eL) (k := fun r => T.bl (decide ((Hn.led B' r).2 = Mx.zer k))) trivial (xs := A) (acc := []) (by rw [List.length_nil]; omega) (fun r hr => ⟨_, [some (eM A), some (eM B'), some (.int (k : Nat)), some (eL r)], rfl, by
      have h1 := is_made_ok (Rws.lst s B') (.lst s r) hk (by omega) hu (hA r hr) (ledOk_any hu (hA r hr) (hAb r hr) hb hB1 hX)
      generalize decide ((Hn.led B' r).2 = Mx.zer k) = b at *
      simp [-Int.natCast_ediv, -Int.natCast_emod, -Int.natCast_mul, -Int.natCast_add, L_lies_in_1, h1], rfl⟩)
    rw [List.nil_append] at g
    rw [g, List.map_map]
    rfl
  have h2 := all_bools (A.map fun r => decide ((Hn.led B' r).2 = Mx.zer k))
  refine ⟨(A.map fun r => decide ((Hn.led B' r).2 = Mx.zer k)).all id, ?_, ?_⟩
  · generalize (A.map fun r => decide ((Hn.led B' r).2 = Mx.zer k)) = bs at *
    generalize A ++ B' = Z at *
    refine dFn_rt0 ⟨[some (eM A), some (eM B'), some (.int (k : Nat)), none], ?_⟩ (rs_bl _ _ _ _)
    unfold D_lies_in
    first | apply tru_run | apply gv_run | apply nx_run | apply seq_run
    · simp [-Int.natCast_ediv, -Int.natCast_emod, -Int.natCast_mul, -Int.natCast_add, h, h0] <;> exact rfl
    dsimp only [seqK]
    simp [-Int.natCast_ediv, -Int.natCast_emod, -Int.natCast_mul, -Int.natCast_add, l1, h2]
  · rw [List.all_eq_true]
    constructor
    · intro g r hr
      exact (Hn.led_zer hu (hA r hr)).mp (of_decide_eq_true (g _ (List.mem_map.mpr ⟨r, hr, rfl⟩)))
    · intro g b hb'
      obtain ⟨r, hr, rfl⟩ := List.mem_map.mp hb'
      exact decide_eq_true ((Hn.led_zer hu (hA r hr)).mpr (g r hr))
-- need: beside
/-- how many lie beside -/
def bs (A B : List Mx.Row) : Int := if A.length = B.length then Hn.lp A / Hn.lp B else 0
theorem beside_ok {k B X : Nat} {A B' : List Mx.Row} (s : Sto) (hA : Hn.Up k A) (hAb : ∀ r ∈ A, Hn.Bd X r) (hk : k ≤ 20) (hu : Hn.Up k B') (hb : ∀ r ∈ B', Hn.Bd B r) (hB1 : 1 ≤ B) (hX1 : 1 ≤ X) (hB : B ≤ 40000) (hX8 : X ≤ 40000) (hX : X + B'.length * (B + 1) + B ≤ 900000) (hin : ∀ r ∈ A, Hn.Lat k B' r) : G_beside [eM A, eM B', .int (k : Nat)] s = .ok (.int (bs A B')) s := by
  have hnA : A.length ≤ 20 := Nat.le_trans (hA.len_le (p := 0) (fun _ _ => Nat.zero_le _) (Nat.zero_le _)) (by omega)
  have hnB : B'.length ≤ 20 := Nat.le_trans (hu.len_le (p := 0) (fun _ _ => Nat.zero_le _) (Nat.zero_le _)) (by omega)
  obtain ⟨b, h1, h2⟩ := lies_ok s hA.len hAb (by omega) (by omega) hu hb hB1 hX
  have hbt : b = true := h2.mpr hin
  subst hbt
  obtain ⟨p1, p2⟩ := mul_leads (s := s) hnA hA hX1 hAb (by omega)
  obtain ⟨q1, q2⟩ := mul_leads (s := s) hnB hu hB1 hb (by omega)
  have hpos := Hn.lp_pos hu
  have dv : tFdiv (.int (Hn.lp A)) (.int (Hn.lp B')) = some (.v (.int (Hn.lp A / Hn.lp B'))) := by
    show (if divOk _ = true then some (T.int _) else none).map O.v = _
    rw [if_pos (divOk_nz (by omega)), Int.fdiv_eq_ediv_of_nonneg _ (by omega)]
    rfl
  unfold bs
  generalize A.map Hn.ld = la at *
  generalize B'.map Hn.ld = lb at *
  generalize Hn.lp A / Hn.lp B' = q at *
  generalize Hn.lp A = pa at *
  generalize Hn.lp B' = pb at *
  refine dFn_rt0 ⟨[some (eM A), some (eM B'), some (.int (k : Nat))], ?_⟩ (rs_int _ _ _ _)
  unfold D_beside
  first | apply tru_run | apply gv_run | apply nx_run | apply seq_run
  · simp [-Int.natCast_ediv, -Int.natCast_emod, -Int.natCast_mul, -Int.natCast_add, h1] <;> exact rfl
  dsimp only [seqK]
  unfold Z_beside_1
  by_cases h : A.length = B'.length
  · rw [if_pos h]
    have hi : ((A.length : Nat) : Int) = ((B'.length : Nat) : Int) := by omega
    first | apply tru_run | apply gv_run | apply nx_run | apply seq_run
    · simp [-Int.natCast_ediv, -Int.natCast_emod, -Int.natCast_mul, -Int.natCast_add, hi, h] <;> exact rfl
    dsimp only [seqK]
    simp [-Int.natCast_ediv, -Int.natCast_emod, -Int.natCast_mul, -Int.natCast_add, p1, p2, q1, q2, dv]
  · rw [if_neg h]
    have hi : ¬ ((A.length : Nat) : Int) = ((B'.length : Nat) : Int) := by omega
    rw [seq_rt (r := .int 0) (e' := [some (eM A), some (eM B'), some (.int (k : Nat))]) (s' := s) (by simp [-Int.natCast_ediv, -Int.natCast_emod, -Int.natCast_mul, -Int.natCast_add, hi, h])]


-- need: beside
/-! ### how many lie beside: multiplied; what is met -/
theorem bs_eq {x a d w : Int} (h : x * a = d * w) (hw : 0 < w) (ha : 0 < a) (d1 : w ∣ x) (d2 : a ∣ d) : x / w = d / a := by
  obtain ⟨q, rfl⟩ := d1
  obtain ⟨t, rfl⟩ := d2
  rw [Int.mul_ediv_cancel_left _ (by omega), Int.mul_ediv_cancel_left _ (by omega)]
  have h2 : (w * a) * q = (w * a) * t := by
    have e1 : w * q * a = (w * a) * q := by simp only [Int.mul_assoc, Int.mul_comm, Int.mul_left_comm]
    have e2 : a * t * w = (w * a) * t := by simp only [Int.mul_assoc, Int.mul_comm, Int.mul_left_comm]
    omega
  exact Int.eq_of_mul_eq_mul_left (by have := Int.mul_pos hw ha; omega) h2
theorem bs_second {k : Nat} {A B W D : List Mx.Row} (hA : Hn.Up k A) (hB : Hn.Up k B) (hW : Hn.Up k W) (hD : Hn.Up k D) (eW : Hn.Eqv k W (A ++ B)) (eD : ∀ v, Hn.Lat k D v ↔ Hn.Lat k A v ∧ Hn.Lat k B v) : bs B W = bs D A := by
  obtain ⟨j, j1, j2, j3⟩ := Hn.second hA hB hW hD eW eD
  unfold bs
  by_cases h : j = 0
  · rw [if_pos (by omega), if_pos (by omega)]
    exact bs_eq (j3 h) (Hn.lp_pos hW) (Hn.lp_pos hA) (Hn.sub_dvd hB hW (fun r hr => (eW r).mpr (.row (List.mem_append.mpr (.inr hr)))) (by omega)) (Hn.sub_dvd hD hA (fun r hr => ((eD r).mp (.row hr)).1) (by omega))
  · rw [if_neg (by omega), if_neg (by omega)]
theorem bs_mul {k : Nat} {L M N : List Mx.Row} (hL : Hn.Up k L) (hM : Hn.Up k M) (hN : Hn.Up k N) (h1 : ∀ r ∈ L, Hn.Lat k M r) (h2 : ∀ r ∈ M, Hn.Lat k N r) : bs L M * bs M N = bs L N := by
  have l1 := Hn.rungs_le hL hM.len h1
  have l2 := Hn.rungs_le hM hN.len h2
  unfold bs
  by_cases a : L.length = M.length
  · rw [if_pos a]
    by_cases b : M.length = N.length
    · rw [if_pos b, if_pos (by omega)]
      obtain ⟨q, hq⟩ := Hn.sub_dvd hL hM h1 a
      obtain ⟨t, ht⟩ := Hn.sub_dvd hM hN h2 b
      have pM := Hn.lp_pos hM
      have pN := Hn.lp_pos hN
      rw [hq, Int.mul_ediv_cancel_left _ (by omega), ht, Int.mul_ediv_cancel_left _ (by omega), Int.mul_assoc, Int.mul_ediv_cancel_left _ (by omega), Int.mul_comm]
    · rw [if_neg b, if_neg (by omega), Int.mul_zero]
  · rw [if_neg a, Int.zero_mul, if_neg (by omega)]
theorem lp_bd {B : Nat} {F : List Mx.Row} (hB : 1 ≤ B) (h : ∀ r ∈ F, Hn.Bd B r) : (Hn.lp F).natAbs < 2 ^ (F.length * B + 1) := by
  have := prodI_bd hB (ld_bd h)
  rwa [prod_lp, List.length_map] at this
theorem bs_bd {k B : Nat} {A W : List Mx.Row} (hW : Hn.Up k W) (hB : 1 ≤ B) (h : ∀ r ∈ A, Hn.Bd B r) (hn : A.length ≤ 20) : (bs A W).natAbs < 2 ^ (20 * B + 1) := by
  have h1 := lp_bd hB h
  have h2 : (2 : Nat) ^ (A.length * B + 1) ≤ 2 ^ (20 * B + 1) := Nat.pow_le_pow_right (by omega) (by have := Nat.mul_le_mul_right B hn; omega)
  unfold bs
  split
  · exact Nat.lt_of_le_of_lt (Hn.abs_ediv (Hn.lp_pos hW)) (Nat.lt_of_lt_of_le h1 h2)
  · exact Nat.pow_pos (by omega)
/-- all single tokens -/
def every (k : Nat) : List Mx.Row := (List.range k).map (Hn.unit k)
theorem place_unit {k c : Nat} (h : c < k) : Hn.place (Hn.unit k c) = c ∧ Hn.ld (Hn.unit k c) = 1 := by
  have h1 : (Hn.unit k c).getD c 0 = 1 := by rw [Hn.unit_at h, if_pos rfl]
  have h2 : Hn.place (Hn.unit k c) = c := Hn.place_of (fun i hi => by rw [Hn.unit_at (by omega), if_neg (by omega)]) (by rw [h1]; omega)
  exact ⟨h2, by unfold Hn.ld; rw [h2, h1]⟩
theorem every_up (k : Nat) : Hn.Up k (every k) ∧ Hn.Red (every k) := by
  have mem : ∀ r ∈ every k, ∃ c, c < k ∧ r = Hn.unit k c := fun r hr => by
    obtain ⟨c, hc, rfl⟩ := List.mem_map.mp hr
    exact ⟨c, List.mem_range.mp hc, rfl⟩
  have pw : (every k).Pairwise fun a b => Hn.place a < Hn.place b ∧ (0 ≤ a.getD (Hn.place b) 0 ∧ a.getD (Hn.place b) 0 < Hn.ld b) := by
    unfold every
    rw [List.pairwise_map]
    refine List.Pairwise.imp_of_mem (fun {a b} ha hb h => ?_) (List.pairwise_lt_range (n := k))
    have ha := List.mem_range.mp ha
    have hb := List.mem_range.mp hb
    rw [(place_unit ha).1, (place_unit hb).1, (place_unit hb).2, Hn.unit_at hb, if_neg (by omega)]
    omega
  refine ⟨⟨fun r hr => ?_, fun r hr => ?_, fun r hr => ?_, pw.imp fun h => h.1⟩, Hn.red_pw.mpr (pw.imp fun h => h.2)⟩
  · obtain ⟨c, hc, rfl⟩ := mem r hr
    exact Hn.unit_len _ _
  · obtain ⟨c, hc, rfl⟩ := mem r hr
    rw [(place_unit hc).1]
    exact hc
  · obtain ⟨c, hc, rfl⟩ := mem r hr
    rw [(place_unit hc).2]
    omega
theorem every_bd (k : Nat) : ∀ r ∈ every k, Hn.Bd 1 r := fun r hr x hx => by
  obtain ⟨c, hc, rfl⟩ := List.mem_map.mp hr
  obtain ⟨j, _, rfl⟩ := List.mem_map.mp hx
  split <;> decide
theorem every_lat {k : Nat} {v : Mx.Row} (hv : v.length = k) : Hn.Lat k (every k) v := by
  have h : Mx.mix k v (every k) = v := Mx.ext_row (k := k) (Mx.mix_len (every_up k).1.len) hv fun i hi => by
    rw [Hn.mix_dot (every_up k).1.len]
    have e : (every k).map (fun r => r.getD i 0) = Hn.unit k i := by
      unfold every Hn.unit
      rw [List.map_map]
      apply List.map_congr_left
      intro c hc
      have hc := List.mem_range.mp hc
      show (Hn.unit k c).getD i 0 = _
      rw [Hn.unit_at hi]
      by_cases q : i = c
      · rw [if_pos q, if_pos q.symm]
      · rw [if_neg q, if_neg (fun z => q z.symm)]
    rw [e, Hn.dot_one hv (Hn.unit_len k i) hi (fun q hq hne => by rw [Hn.unit_at hq, if_neg hne, Int.mul_zero]), Hn.unit_at hi, if_pos rfl, Int.mul_one]
  rw [← h]
  exact Hn.lat_mix
theorem every_lp (k : Nat) : Hn.lp (every k) = 1 ∧ (every k).length = k := by
  refine ⟨?_, by unfold every; rw [List.length_map, List.length_range]⟩
  have h : ∀ F : List Mx.Row, (∀ r ∈ F, Hn.ld r = 1) → Hn.lp F = 1 := fun F => by
    induction F with
    | nil => intro _; rfl
    | cons r F ih =>
      intro h
      unfold Hn.lp
      rw [h r (List.mem_cons_self ..), ih fun x hx => h x (List.mem_cons_of_mem _ hx), Int.one_mul]
  exact h _ fun r hr => by
    obtain ⟨c, hc, rfl⟩ := List.mem_map.mp hr
    exact (place_unit (List.mem_range.mp hc)).2
theorem bs_every {k : Nat} (F : List Mx.Row) : bs F (every k) = if F.length = k then Hn.lp F else 0 := by
  obtain ⟨h1, h2⟩ := every_lp k
  unfold bs
  rw [h1, h2, Int.ediv_one]

-- need: _law_b_stair
/-! ### the law's own stair: rows divided by the least of them -/
abbrev Ls (a0 : T) (k i : Nat) (F : List Mx.Row) (p j : Nat) (o6 o7 o8 o9 o10 o11 o12 : Option T) : En := [some a0, some (.int (k : Nat)), some (.ref i), some (eM F), some (.int (p : Nat)), some (.ref j), o6, o7, o8, o9, o10, o11, o12, none, none, none]
theorem fdivT {i j : Int} (h : j ≠ 0) : tFdiv (.int i) (.int j) = some (.v (.int (i.fdiv j))) := by
  show (if divOk j = true then some (T.int (i.fdiv j)) else none).map O.v = _
  rw [if_pos (divOk_nz h)]
  rfl
theorem ab_pow {N : Nat} {x : Int} (h : x.natAbs ≤ 2 ^ N) : x.natAbs < 2 ^ (N + 1) := by
  rw [Nat.pow_succ]
  have : 0 < 2 ^ N := Nat.pow_pos (by omega)
  omega
theorem les_lc {fuel k p i j N : Nat} {a0 : T} {F : List Mx.Row} {low row : Mx.Row} {o8 o9 o10 o12 : Option T} {m : Int} (S : Sto) (hl : low.length = k) (hr : row.length = k) (hk : k ≤ 100) (hm : m.natAbs < 2 ^ (N + 2)) (hlb : Hn.Ab (2 ^ N) low) (hN : N ≤ 490000) :
    lcL [] [14, 15] (gT 2 (gCon (gN 14) (gCon (gN 15) gNils))) dYes (L__law_b_stair_5 fuel) (zipT (row.map .int) (low.map .int)) [] (Ls a0 k i F p j (some (eL low)) (some (eL row)) o8 o9 o10 (some (.int m)) o12) S = .ok ((Mx.sub row (Mx.smul m low)).map .int) (Ls a0 k i F p j (some (eL low)) (some (eL row)) o8 o9 o10 (some (.int m)) o12) S := by
  rw [zipT_ints]
  have h := lc_map (ks := []) (own := [14, 15]) (g := gT 2 (gCon (gN 14) (gCon (gN 15) gNils))) (el := L__law_b_stair_5 fuel) (e0 := Ls a0 k i F p j (some (eL low)) (some (eL row)) o8 o9 o10 (some (.int m)) o12) (s := S) (f := fun (q : Int × Int) => T.tup [.int q.1, .int q.2]) (k := fun q => T.int (q.1 - m * q.2)) trivial (xs := List.zip row low) (acc := []) (by rw [List.length_zip, List.length_nil]; omega) (fun q hq => by
    have hmm : mulOk m q.2 = true := mulOk_pow hm (ab_pow (hlb q.2 (List.of_mem_zip hq).2)) (by omega) (by omega) (by omega)
    exact ⟨[some a0, some (.int (k : Nat)), some (.ref i), some (eM F), some (.int (p : Nat)), some (.ref j), some (eL low), some (eL row), o8, o9, o10, some (.int m), o12, none, some (.int q.1), some (.int q.2)], _, rfl, by simp [-Int.natCast_ediv, -Int.natCast_emod, -Int.natCast_mul, -Int.natCast_add, L__law_b_stair_5, hmm]; rfl, rfl⟩)
  rw [List.nil_append] at h
  rw [h]
  have e : (List.zip row low).map (fun q => T.int (q.1 - m * q.2)) = (Mx.sub row (Mx.smul m low)).map .int := by
    rw [map_zipI (fun x y => x - m * y)]
    unfold Mx.sub Mx.smul
    rw [List.zipWith_map_right]
  rw [e]
theorem rest_loop {fuel k p i j N : Nat} {a0 : T} {F : List Mx.Row} {low : Mx.Row} {o8 o9 o10 : Option T} (hij : i ≠ j) (hk : k ≤ 100) (hp : p < k) (hl : low.length = k) (h0 : low.getD p 0 ≠ 0) (hlb : Hn.Ab (2 ^ N) low) (hN : N ≤ 490000) : ∀ (rest L Y0 : List Mx.Row) (o7 o11 o12 : Option T) (S : Sto), S[i]? = some (.l (L.map eL)) → S[j]? = some (.l (Y0.map eL)) → (∀ r ∈ rest, r.length = k ∧ Hn.Ab (2 ^ N) r) → L.length + Y0.length + rest.length ≤ 10000 →
    ∃ (o7' o11' o12' : Option T) (S' : Sto), forL [] (gN 7) (B__law_b_stair_7 fuel) (rest.map eL) (Ls a0 k i F p j (some (eL low)) o7 o8 o9 o10 o11 o12) S = .ok .nx (Ls a0 k i F p j (some (eL low)) o7' o8 o9 o10 o11' o12') S' ∧ S'[i]? = some (.l ((L ++ Hn.zz p (rest.map (Hn.les p low))).map eL)) ∧ S'[j]? = some (.l ((Y0 ++ Hn.nz p (rest.map (Hn.les p low))).map eL)) ∧ S'.length = S.length ∧ ∀ c, c ≠ i → c ≠ j → S'[c]? = S[c]?
  | [], L, Y0, o7, o11, o12, S, hi, hj, _, _ => ⟨o7, o11, o12, S, forL_nil0 _ _ _ _, by rw [hi]; simp [Hn.zz], by rw [hj]; simp [Hn.nz], rfl, fun _ _ _ => rfl⟩
  | row :: rest, L, Y0, o7, o11, o12, S, hi, hj, hr, hn => by
    obtain ⟨r1, r2⟩ := hr row (List.mem_cons_self ..)
    rw [List.length_cons] at hn
    have ir : L2.atI (row.map T.int) ((p : Nat) : Int) = some (.int (row.getD p 0)) := atI_mapI (Mx.getD_eq (by omega))
    have il : L2.atI (low.map T.int) ((p : Nat) : Int) = some (.int (low.getD p 0)) := atI_mapI (Mx.getD_eq (by omega))
    have fd := fdivT (i := row.getD p 0) h0
    have hm : (Int.fdiv (row.getD p 0) (low.getD p 0)).natAbs < 2 ^ (N + 2) := by
      have h1 := Hn.fdiv_abs (x := row.getD p 0) h0
      have h2 := r2.at p
      have h3 : (row.getD p 0).natAbs / (low.getD p 0).natAbs ≤ (row.getD p 0).natAbs := Nat.div_le_self _ _
      have h4 : (2 : Nat) ^ (N + 2) = 4 * 2 ^ N := by rw [Nat.pow_add]; omega
      have h5 : 0 < 2 ^ N := Nat.pow_pos (by omega)
      omega
    have hlc := les_lc (fuel := fuel) (p := p) (i := i) (j := j) (a0 := a0) (F := F) (o8 := o8) (o9 := o9) (o10 := o10) (o12 := o12) S hl r1 hk hm hlb hN
    have hlp := Hn.les_p hl r1 (p := p)
    have e : Mx.sub row (Mx.smul (Int.fdiv (row.getD p 0) (low.getD p 0)) low) = Hn.les p low row := rfl
    rw [e] at hlc
    have hll := Hn.les_len (p := p) hl r1
    have i12 : L2.atI ((Hn.les p low row).map T.int) ((p : Nat) : Int) = some (.int ((Hn.les p low row).getD p 0)) := atI_mapI (Mx.getD_eq (by omega))
    have z1 : (Hn.les p low row).getD p 0 = 0 → Hn.zz p ((row :: rest).map (Hn.les p low)) = Hn.les p low row :: Hn.zz p (rest.map (Hn.les p low)) ∧ Hn.nz p ((row :: rest).map (Hn.les p low)) = Hn.nz p (rest.map (Hn.les p low)) := fun h => ⟨List.filter_cons_of_pos (decide_eq_true h), List.filter_cons_of_neg (fun z => absurd h (of_decide_eq_true z))⟩
    have z2 : (Hn.les p low row).getD p 0 ≠ 0 → Hn.zz p ((row :: rest).map (Hn.les p low)) = Hn.zz p (rest.map (Hn.les p low)) ∧ Hn.nz p ((row :: rest).map (Hn.les p low)) = Hn.les p low row :: Hn.nz p (rest.map (Hn.les p low)) := fun h => ⟨List.filter_cons_of_neg (fun z => h (of_decide_eq_true z)), List.filter_cons_of_pos (decide_eq_true h)⟩
    rw [List.map_cons (f := eL)]
    generalize Hn.les p low row = w at *
    generalize Int.fdiv (row.getD p 0) (low.getD p 0) = m at *
    generalize hwp : w.getD p 0 = wp at *
    generalize row.getD p 0 = rp at *
    generalize hlp' : low.getD p 0 = lp' at *
    by_cases hw0 : wp = 0
    · have hii : (S.set i (.l ((L ++ [w]).map eL)))[i]? = some (.l ((L ++ [w]).map eL)) := List.getElem?_set_self (get_lt hi)
      have hjj : (S.set i (.l ((L ++ [w]).map eL)))[j]? = some (.l (Y0.map eL)) := by rw [List.getElem?_set_ne hij]; exact hj
      obtain ⟨o7', o11', o12', S', g1, g2, g3, g4, g5⟩ := rest_loop hij hk hp hl (by rw [hlp']; exact h0) hlb hN rest (L ++ [w]) Y0 (some (eL row)) (some (.int m)) (some (eL w)) _ hii hjj (fun r hr' => hr r (List.mem_cons_of_mem _ hr')) (by rw [List.length_append, List.length_singleton]; omega)
      have lo : lenOk (L.length + 1) = true := lenOk_mk (by omega)
      have st : (M.bind (gN 7 (eL row)) fun _ => B__law_b_stair_7 fuel) (Ls a0 k i F p j (some (eL low)) o7 o8 o9 o10 o11 o12) S = .ok .nx (Ls a0 k i F p j (some (eL low)) (some (eL row)) o8 o9 o10 (some (.int m)) (some (eL w))) (S.set i (.l ((L ++ [w]).map eL))) := by
        rw [bind_ok (show gN 7 (eL row) (Ls a0 k i F p j (some (eL low)) o7 o8 o9 o10 o11 o12) S = .ok () (Ls a0 k i F p j (some (eL low)) (some (eL row)) o8 o9 o10 o11 o12) S from rfl)]
        unfold B__law_b_stair_7
        rw [seq_nx (e' := Ls a0 k i F p j (some (eL low)) (some (eL row)) o8 o9 o10 (some (.int m)) o12) (s' := S) (by simp [-Int.natCast_ediv, -Int.natCast_emod, -Int.natCast_mul, -Int.natCast_add, Ls, ir, il, fd])]
        unfold Z__law_b_stair_3_1
        rw [seq_nx (e' := Ls a0 k i F p j (some (eL low)) (some (eL row)) o8 o9 o10 (some (.int m)) (some (eL w))) (s' := S) (by
          simp only [Ls] at hlc ⊢
          simp [-Int.natCast_ediv, -Int.natCast_emod, -Int.natCast_mul, -Int.natCast_add, hlc])]
        simp [-Int.natCast_ediv, -Int.natCast_emod, -Int.natCast_mul, -Int.natCast_add, Ls, i12, hw0, hi, lo]
      refine ⟨o7', o11', o12', S', ?_, ?_, ?_, by rw [g4, List.length_set], fun c c1 c2 => by rw [g5 c c1 c2, List.getElem?_set_ne (fun z => c1 z.symm)]⟩
      · rw [forL_step (show kp [] S from trivial) st]
        exact g1
      · rw [g2, List.append_assoc, (z1 hw0).1]
        rfl
      · rw [g3, (z1 hw0).2]
    · have hjj : (S.set j (.l ((Y0 ++ [w]).map eL)))[j]? = some (.l ((Y0 ++ [w]).map eL)) := List.getElem?_set_self (get_lt hj)
      have hii : (S.set j (.l ((Y0 ++ [w]).map eL)))[i]? = some (.l (L.map eL)) := by rw [List.getElem?_set_ne (fun z => hij z.symm)]; exact hi
      obtain ⟨o7', o11', o12', S', g1, g2, g3, g4, g5⟩ := rest_loop hij hk hp hl (by rw [hlp']; exact h0) hlb hN rest L (Y0 ++ [w]) (some (eL row)) (some (.int m)) (some (eL w)) _ hii hjj (fun r hr' => hr r (List.mem_cons_of_mem _ hr')) (by rw [List.length_append, List.length_singleton]; omega)
      have lo : lenOk (Y0.length + 1) = true := lenOk_mk (by omega)
      have st : (M.bind (gN 7 (eL row)) fun _ => B__law_b_stair_7 fuel) (Ls a0 k i F p j (some (eL low)) o7 o8 o9 o10 o11 o12) S = .ok .nx (Ls a0 k i F p j (some (eL low)) (some (eL row)) o8 o9 o10 (some (.int m)) (some (eL w))) (S.set j (.l ((Y0 ++ [w]).map eL))) := by
        rw [bind_ok (show gN 7 (eL row) (Ls a0 k i F p j (some (eL low)) o7 o8 o9 o10 o11 o12) S = .ok () (Ls a0 k i F p j (some (eL low)) (some (eL row)) o8 o9 o10 o11 o12) S from rfl)]
        unfold B__law_b_stair_7
        rw [seq_nx (e' := Ls a0 k i F p j (some (eL low)) (some (eL row)) o8 o9 o10 (some (.int m)) o12) (s' := S) (by simp [-Int.natCast_ediv, -Int.natCast_emod, -Int.natCast_mul, -Int.natCast_add, Ls, ir, il, fd])]
        unfold Z__law_b_stair_3_1
        rw [seq_nx (e' := Ls a0 k i F p j (some (eL low)) (some (eL row)) o8 o9 o10 (some (.int m)) (some (eL w))) (s' := S) (by
          simp only [Ls] at hlc ⊢
          simp [-Int.natCast_ediv, -Int.natCast_emod, -Int.natCast_mul, -Int.natCast_add, hlc])]
        simp [-Int.natCast_ediv, -Int.natCast_emod, -Int.natCast_mul, -Int.natCast_add, Ls, i12, hw0, hj, lo]
      refine ⟨o7', o11', o12', S', ?_, ?_, ?_, by rw [g4, List.length_set], fun c c1 c2 => by rw [g5 c c1 c2, List.getElem?_set_ne (fun z => c2 z.symm)]⟩
      · rw [forL_step (show kp [] S from trivial) st]
        exact g1
      · rw [g2, (z2 hw0).1]
      · rw [g3, List.append_assoc, (z2 hw0).2]
        rfl
theorem abs_lc {fuel k p i j : Nat} {a0 : T} {F S0 : List Mx.Row} {o6 o8 o9 o10 o11 o12 : Option T} {ks : Ks} (S : Sto) (hk : kp ks S) (hS : ∀ r ∈ S0, r.length = k) (hp : p < k) (hn : S0.length ≤ 10000) : lcL ks [7] (gN 7) dYes (L__law_b_stair_4 fuel) (S0.map eL) [] (Ls a0 k i F p j o6 none o8 o9 o10 o11 o12) S = .ok ((S0.map fun r => ((Hn.sz p r : Nat) : Int)).map .int) (Ls a0 k i F p j o6 none o8 o9 o10 o11 o12) S := by
  have h := lc_map (ks := ks) (own := [7]) (g := gN 7) (el := L__law_b_stair_4 fuel) (e0 := Ls a0 k i F p j o6 none o8 o9 o10 o11 o12) (s := S) (f := eL) (k := fun r => T.int ((Hn.sz p r : Nat) : Int)) hk (xs := S0) (acc := []) (by rw [List.length_nil]; omega) (fun r hr => by
    have hrl := hS r hr
    have ir : L2.atI (r.map T.int) ((p : Nat) : Int) = some (.int (r.getD p 0)) := atI_mapI (Mx.getD_eq (by omega))
    refine ⟨[some a0, some (.int (k : Nat)), some (.ref i), some (eM F), some (.int (p : Nat)), some (.ref j), o6, some (eL r), o8, o9, o10, o11, o12, none, none, none], [some a0, some (.int (k : Nat)), some (.ref i), some (eM F), some (.int (p : Nat)), some (.ref j), o6, some (eL r), o8, o9, o10, o11, o12, none, none, none], rfl, ?_, rfl⟩
    have e : ((Hn.sz p r : Nat) : Int) = ((r.getD p 0).natAbs : Int) := rfl
    have ta : tAbs [.int (r.getD p 0)] = some (.v (.int ((r.getD p 0).natAbs : Int))) := by
      show some (O.v (T.int (if r.getD p 0 < 0 then -r.getD p 0 else r.getD p 0))) = _
      congr 3
      split <;> omega
    rw [e]
    generalize r.getD p 0 = x at *
    simp [-Int.natCast_ediv, -Int.natCast_emod, -Int.natCast_mul, -Int.natCast_add, L__law_b_stair_4, ir, ta])
  rw [List.nil_append] at h
  rw [h, List.map_map]
  rfl
theorem min_idx {p : Nat} {S : List Mx.Row} (hne : S ≠ []) : ∃ t : Nat, t < S.length ∧ (∀ x ∈ S, Hn.sz p (S.getD t []) ≤ Hn.sz p x) ∧ ∃ m : Int, tMinL [.lst ((S.map fun r => ((Hn.sz p r : Nat) : Int)).map .int)] = some (.v (.int m)) ∧ tIdx (.lst ((S.map fun r => ((Hn.sz p r : Nat) : Int)).map .int)) (.int m) = some (.v (.int (t : Nat))) := by
  have hzn : (S.map fun r => ((Hn.sz p r : Nat) : Int)) ≠ [] := fun z => hne (List.map_eq_nil_iff.mp z)
  obtain ⟨m1, m2⟩ := minI_mem hzn
  have hlen : (S.map fun r => ((Hn.sz p r : Nat) : Int)).length = S.length := List.length_map _
  have hat : ∀ (t : Nat) (r : Mx.Row), S[t]? = some r → (S.map fun r => ((Hn.sz p r : Nat) : Int))[t]? = some ((Hn.sz p r : Nat) : Int) := fun t r h => by rw [List.getElem?_map, h]; rfl
  have hm2 : ∀ x ∈ S, minI (S.map fun r => ((Hn.sz p r : Nat) : Int)) ≤ ((Hn.sz p x : Nat) : Int) := fun x hx => m2 _ (List.mem_map.mpr ⟨x, hx, rfl⟩)
  generalize (S.map fun r => ((Hn.sz p r : Nat) : Int)) = zs at *
  have hlt := List.idxOf_lt_length_of_mem m1
  refine ⟨zs.idxOf (minI zs), by omega, fun x hx => ?_, minI zs, ?_, ?_⟩
  · have e1 := hat _ _ (Hn.getD_row (R := S) (i := zs.idxOf (minI zs)) (by omega))
    have e2 : zs[zs.idxOf (minI zs)]? = some (minI zs) := by rw [List.getElem?_eq_getElem hlt, List.getElem_idxOf]
    rw [e1] at e2
    have e3 := Option.some.inj e2
    have := hm2 x hx
    omega
  · have e : allInts (zs.map T.int) = some zs := allInts_map zs
    show (match allInts (zs.map T.int) with
    | some (x :: ns) => some (O.v (.int (minI (x :: ns))))
    | _ => none) = _
    rw [e]
    cases zs with
    | nil => exact absurd rfl hzn
    | cons z zs => rfl
  · show (match allInts (zs.map T.int) with
    | some xs => if minI zs ∈ xs then some (O.v (.int (xs.idxOf (minI zs) : Nat))) else none
    | _ => none) = _
    rw [allInts_map zs]
    dsimp only
    rw [if_pos m1]
theorem les_eqv {k p : Nat} {low : Mx.Row} {rest L : List Mx.Row} (hl : low.length = k) (hr : ∀ r ∈ rest, r.length = k) : Hn.Eqv k (L ++ (low :: rest)) ((L ++ Hn.zz p (rest.map (Hn.les p low))) ++ (low :: Hn.nz p (rest.map (Hn.les p low)))) := by
  have e1 : Hn.Eqv k (low :: rest) (low :: rest.map (Hn.les p low)) := by
    refine Hn.eqv_of (fun r hr' => ?_) fun r hr' => ?_
    · rcases List.mem_cons.mp hr' with rfl | hr'
      · exact .row (List.mem_cons_self ..)
      · have hrl := hr r hr'
        have e : r = Mx.add (Hn.les p low r) (Mx.smul (Int.fdiv (r.getD p 0) (low.getD p 0)) low) := (Mx.ext_row (k := k) (Mx.add_len (Hn.les_len hl hrl) (by rw [Mx.smul_len]; exact hl)) hrl fun i _ => by
          rw [Mx.add_at (k := k) (Hn.les_len hl hrl) (by rw [Mx.smul_len]; exact hl), Hn.les_at hl hrl, Mx.smul_at]
          omega).symm
        rw [e]
        exact .add (.row (List.mem_cons_of_mem _ (List.mem_map.mpr ⟨r, hr', rfl⟩))) (.smul _ (.row (List.mem_cons_self ..)))
    · rcases List.mem_cons.mp hr' with rfl | hr'
      · exact .row (List.mem_cons_self ..)
      · obtain ⟨x, hx, rfl⟩ := List.mem_map.mp hr'
        have hxl := hr x hx
        have e : Hn.les p low x = Mx.add x (Mx.smul (-Int.fdiv (x.getD p 0) (low.getD p 0)) low) := Mx.ext_row (k := k) (Hn.les_len hl hxl) (Mx.add_len hxl (by rw [Mx.smul_len]; exact hl)) fun i _ => by
          rw [Mx.add_at (k := k) hxl (by rw [Mx.smul_len]; exact hl), Hn.les_at hl hxl, Mx.smul_at, Int.neg_mul]
          omega
        rw [e]
        exact .add (.row (List.mem_cons_of_mem _ hx)) (.smul _ (.row (List.mem_cons_self ..)))
  refine (Hn.Eqv.app (Hn.Eqv.refl k L) e1).trans (Hn.eqv_mem fun r => ?_)
  generalize rest.map (Hn.les p low) = Q
  unfold Hn.zz Hn.nz
  simp only [List.mem_append, List.mem_cons, List.mem_filter, decide_eq_true_iff]
  constructor
  · rintro (h | h | h)
    · exact .inl (.inl h)
    · exact .inr (.inl h)
    · by_cases z : r.getD p 0 = 0
      · exact .inl (.inr ⟨h, z⟩)
      · exact .inr (.inr ⟨h, z⟩)
  · rintro ((h | h) | h | h)
    · exact .inl h
    · exact .inr (.inr h.1)
    · exact .inr (.inl h)
    · exact .inr (.inr h.1)
/-- the rows that wait -/
structure Lft (k p a : Nat) (L : List Mx.Row) : Prop where
  len : ∀ r ∈ L, r.length = k
  ah : ∀ r ∈ L, ∀ q, q ≤ p → r.getD q 0 = 0
  ab : ∀ r ∈ L, Hn.Ab a r
theorem euclid {fuel k p N C : Nat} {a0 : T} {F base : List Mx.Row} {s0 : Sto} (hk : k ≤ 100) (hp : p < k) (hN : N ≤ 490000) (hC : 3 * C ≤ 2 ^ N) : ∀ (n : Nat) (S0 L : List Mx.Row) (a i j : Nat) (o6 o7 o8 o9 o10 o11 o12 : Option T) (S : Sto) (fu : Nat), Hn.sumS p S0 < n → n ≤ fu → S[i]? = some (.l (L.map eL)) → S[j]? = some (.l (S0.map eL)) → i ≠ j → s0.length ≤ i → s0.length ≤ j → (∀ c, c < s0.length → S[c]? = s0[c]?) → Hn.Some' k p a S0 → Hn.Potl p a C S0 → S0 ≠ [] → Lft k p a L → L.length + S0.length ≤ 1000 → Hn.Eqv k (L ++ S0) base →
    ∃ (low : Mx.Row) (L' : List Mx.Row) (a' j' : Nat) (q6 q7 q8 q9 q10 q11 q12 : Option T) (S' : Sto), whileF (C__law_b_stair_13 fuel) (B__law_b_stair_12 fuel) fu (Ls a0 k i F p j o6 o7 o8 o9 o10 o11 o12) S = .ok .nx (Ls a0 k i F p j' q6 q7 q8 q9 q10 q11 q12) S' ∧ S'[i]? = some (.l (L'.map eL)) ∧ S'[j']? = some (.l [eL low]) ∧ i ≠ j' ∧ s0.length ≤ j' ∧ (∀ c, c < s0.length → S'[c]? = s0[c]?) ∧ Hn.Some' k p a' [low] ∧ Lft k p a' L' ∧ a' ≤ 3 * C ∧ Hn.Eqv k (L' ++ [low]) base ∧ L'.length + 1 ≤ L.length + S0.length := by
  intro n
  induction n with
  | zero => intro _ _ _ _ _ _ _ _ _ _ _ _ _ _ h; omega
  | succ n ih =>
    intro S0 L a i j o6 o7 o8 o9 o10 o11 o12 S fu hsum hfu hi hj hij hsi hsj hold hS hP hne hL hlen he
    obtain ⟨fu, rfl⟩ : ∃ f, fu = f + 1 := ⟨fu - 1, by omega⟩
    have h0 : ∀ r ∈ S0, 0 < Hn.sz p r := fun r hr => by
      have := hS.ne r hr
      unfold Hn.sz
      omega
    obtain ⟨t, t1, t2, m, t3, t4⟩ := min_idx (p := p) hne
    have xt := Hn.getD_row t1
    have hlow : S0.getD t [] ∈ S0 := List.mem_of_getElem? xt
    have ha3 : a ≤ 3 * C := by
      rcases hP with q | ⟨_, q⟩
      · have := Hn.pot_one q hne h0 ⟨_, hlow, t2⟩
        omega
      · exact Hn.pot_one q hne h0 ⟨_, hlow, t2⟩
    by_cases hlt : 1 < S0.length
    · -- a turn
      have hrest : S0.take t ++ S0.drop (t + 1) = S0.eraseIdx t := (List.eraseIdx_eq_take_drop_succ ..).symm
      have hsplit : S0 = S0.take t ++ (S0.getD t [] :: S0.drop (t + 1)) := by
        have h1 := (List.take_append_drop t S0).symm
        rw [List.drop_eq_getElem_cons t1] at h1
        have h2 : S0[t] = S0.getD t [] := by
          rw [List.getElem?_eq_getElem t1] at xt
          exact Option.some.inj xt
        rwa [h2] at h1
      have e1 : Hn.Eqv k (L ++ S0) (L ++ (S0.getD t [] :: (S0.take t ++ S0.drop (t + 1)))) := Hn.eqv_mem fun r => by
        have : r ∈ S0 ↔ r ∈ S0.take t ++ (S0.getD t [] :: S0.drop (t + 1)) := by rw [← hsplit]
        rw [List.mem_append, List.mem_append, this]
        simp only [List.mem_append, List.mem_cons]
        constructor
        · rintro (h | h | h | h)
          · exact .inl h
          · exact .inr (.inr (.inl h))
          · exact .inr (.inl h)
          · exact .inr (.inr (.inr h))
        · rintro (h | h | h | h)
          · exact .inl h
          · exact .inr (.inr (.inl h))
          · exact .inr (.inl h)
          · exact .inr (.inr (.inr h))
      have hsumr : Hn.sumS p (S0.getD t [] :: (S0.take t ++ S0.drop (t + 1))) = Hn.sumS p S0 := by
        have h1 : Hn.sumS p S0 = Hn.sumS p (S0.take t ++ (S0.getD t [] :: S0.drop (t + 1))) := by rw [← hsplit]
        rw [h1, Hn.sumS_append]
        show Hn.sz p _ + Hn.sumS p (S0.take t ++ S0.drop (t + 1)) = Hn.sumS p (S0.take t) + (Hn.sz p _ + Hn.sumS p (S0.drop (t + 1)))
        rw [Hn.sumS_append]
        omega
      have hrl : (S0.take t ++ S0.drop (t + 1)).length + 1 = S0.length := by
        rw [List.length_append, List.length_take, List.length_drop]
        omega
      have hmem : ∀ r ∈ S0.take t ++ S0.drop (t + 1), r ∈ S0 := fun r hr => by
        rcases List.mem_append.mp hr with q | q
        · exact List.mem_of_mem_take q
        · exact List.mem_of_mem_drop q
      have hall : ∀ r ∈ S0, r = S0.getD t [] ∨ r ∈ S0.take t ++ S0.drop (t + 1) := fun r hr => by
        rw [hsplit] at hr
        rcases List.mem_append.mp hr with q | q
        · exact .inr (List.mem_append.mpr (.inl q))
        · rcases List.mem_cons.mp q with q | q
          · exact .inl q
          · exact .inr (List.mem_append.mpr (.inr q))
      obtain ⟨a', b1, b2, b3, b4, b5⟩ := Hn.turn_pot (C := C) hS hlow t2 hmem hall hrl (by omega) hP
      rw [hsumr] at b5
      have cut1 : cut (S0.map eL) none (some ((t : Nat) : Int)) = (S0.take t).map eL := by
        rw [cut_take, List.map_take]
      have cut2 : cut (S0.map eL) (some (((t : Nat) : Int) + 1)) none = (S0.drop (t + 1)).map eL := by
        have h := cut_drop (S0.map eL) (t + 1)
        rw [← List.map_drop] at h
        exact h
      have hadd : tAdd (.lst ((S0.take t).map eL)) (.lst ((S0.drop (t + 1)).map eL)) = some (.l ((S0.take t ++ S0.drop (t + 1)).map eL)) := by
        show (if lenOk (((S0.take t).map eL).length + ((S0.drop (t + 1)).map eL).length) = true then some (O.l ((S0.take t).map eL ++ (S0.drop (t + 1)).map eL)) else none) = _
        rw [if_pos (lenOk_mk (by rw [List.length_map, List.length_map, List.length_take, List.length_drop]; omega)), List.map_append]
      have it : L2.atI (S0.map eL) ((t : Nat) : Int) = some (eL (S0.getD t [])) := atI_mapL xt
      have lc := abs_lc (fuel := fuel) (a0 := a0) (i := i) (j := j) (F := F) (o6 := o6) (o8 := o8) (o9 := o9) (o10 := o10) (o11 := o11) (o12 := o12) (ks := [(j, S0.map eL)]) S ⟨hj, trivial⟩ hS.len hp (by omega)
      have le1 := les_eqv (p := p) (L := L) (hS.len _ hlow) fun r hr => hS.len r (hmem r hr)
      have hll := hS.len _ hlow
      have hln := hS.ne _ hlow
      have hlb := (hS.ab _ hlow).le (Nat.le_trans ha3 hC)
      have hrb : ∀ r ∈ S0.take t ++ S0.drop (t + 1), r.length = k ∧ Hn.Ab (2 ^ N) r := fun r hr => ⟨hS.len r (hmem r hr), (hS.ab r (hmem r hr)).le (Nat.le_trans ha3 hC)⟩
      have hii : (S ++ [Cell.l [eL (S0.getD t [])]])[i]? = some (.l (L.map eL)) := get_app hi _
      have hjj : (S ++ [Cell.l [eL (S0.getD t [])]])[S.length]? = some (.l ([S0.getD t []].map eL)) := sto_at _ _ _
      have hil := get_lt hi
      have hjl := get_lt hj
      obtain ⟨o7', o11', o12', S2, g1, g2, g3, g4, g5⟩ := rest_loop (fuel := fuel) (a0 := a0) (i := i) (j := S.length) (F := F) (o8 := some (eL (S0.map fun r => ((Hn.sz p r : Nat) : Int)))) (o9 := some (.int (t : Nat))) (o10 := some (eM (S0.take t ++ S0.drop (t + 1)))) (by omega) hk hp hll hln hlb hN (S0.take t ++ S0.drop (t + 1)) L [S0.getD t []] none o11 o12 (S ++ [Cell.l [eL (S0.getD t [])]]) hii hjj hrb (by rw [List.length_singleton]; omega)
      have hzl : (Hn.zz p ((S0.take t ++ S0.drop (t + 1)).map (Hn.les p (S0.getD t [])))).length + (Hn.nz p ((S0.take t ++ S0.drop (t + 1)).map (Hn.les p (S0.getD t [])))).length = (S0.take t ++ S0.drop (t + 1)).length := by
        rw [← List.length_map (f := Hn.les p (S0.getD t [])) (as := S0.take t ++ S0.drop (t + 1))]
        generalize (S0.take t ++ S0.drop (t + 1)).map (Hn.les p (S0.getD t [])) = Q
        unfold Hn.zz Hn.nz
        induction Q with
        | nil => rfl
        | cons q Q ih =>
          by_cases z : q.getD p 0 = 0
          · rw [List.filter_cons_of_pos (by simpa using z), List.filter_cons_of_neg (by simpa using z), List.length_cons, List.length_cons]
            omega
          · rw [List.filter_cons_of_neg (by simpa using z), List.filter_cons_of_pos (by simpa using z), List.length_cons, List.length_cons]
            omega
      have hL' : Lft k p a' (L ++ Hn.zz p ((S0.take t ++ S0.drop (t + 1)).map (Hn.les p (S0.getD t [])))) := by
        refine ⟨fun r hr => ?_, fun r hr q hq => ?_, fun r hr => ?_⟩
        · rcases List.mem_append.mp hr with z | z
          · exact hL.len r z
          · obtain ⟨x, hx, rfl⟩ := List.mem_map.mp (List.mem_filter.mp z).1
            exact Hn.les_len hll (hS.len x (hmem x hx))
        · rcases List.mem_append.mp hr with z | z
          · exact hL.ah r z q hq
          · obtain ⟨z1, z2⟩ := List.mem_filter.mp z
            obtain ⟨x, hx, rfl⟩ := List.mem_map.mp z1
            rcases Nat.lt_or_ge q p with h | h
            · rw [Hn.les_at hll (hS.len x (hmem x hx)), hS.ah x (hmem x hx) q h, hS.ah _ hlow q h, Int.mul_zero, Int.sub_zero]
            · have e : q = p := by omega
              rw [e]
              exact of_decide_eq_true z2
        · rcases List.mem_append.mp hr with z | z
          · exact (hL.ab r z).le b1
          · obtain ⟨x, hx, rfl⟩ := List.mem_map.mp (List.mem_filter.mp z).1
            exact b2 x hx
      have hS2j : ∀ c, c < s0.length → S2[c]? = s0[c]? := fun c hc => by
        rw [g5 c (by omega) (by omega), List.getElem?_append_left (by omega)]
        exact hold c hc
      obtain ⟨low, L', a2, j2, p6, p7, p8, p9, p10, p11, p12, S3, r1, r2, r3, r4, r5, r6, r7, r8, r9, r10, r11⟩ := ih (S0.getD t [] :: Hn.nz p ((S0.take t ++ S0.drop (t + 1)).map (Hn.les p (S0.getD t [])))) (L ++ Hn.zz p ((S0.take t ++ S0.drop (t + 1)).map (Hn.les p (S0.getD t [])))) a' i S.length (some (eL (S0.getD t []))) o7' (some (eL (S0.map fun r => ((Hn.sz p r : Nat) : Int)))) (some (.int (t : Nat))) (some (eM (S0.take t ++ S0.drop (t + 1)))) o11' o12' S2 fu (by omega) (by omega) g2 g3 (by omega) hsi (by omega) hS2j b3 b4 (by simp) hL' (by rw [List.length_append, List.length_cons]; omega) ((le1.symm.trans e1.symm).trans he)
      refine ⟨low, L', a2, j2, p6, p7, p8, p9, p10, p11, p12, S3, ?_, r2, r3, r4, r5, r6, r7, r8, r9, r10, by rw [List.length_append, List.length_cons] at r11; omega⟩
      have htest : C__law_b_stair_13 fuel (Ls a0 k i F p j o6 o7 o8 o9 o10 o11 o12) S = .ok true (Ls a0 k i F p j o6 o7 o8 o9 o10 o11 o12) S := by
        have h1 : (1 : Int) < ((S0.length : Nat) : Int) := by omega
        simp [-Int.natCast_ediv, -Int.natCast_emod, -Int.natCast_mul, -Int.natCast_add, C__law_b_stair_13, Ls, hj, h1, hlt]
      have hbody : B__law_b_stair_12 fuel (Ls a0 k i F p j o6 o7 o8 o9 o10 o11 o12) S = .ok .nx (Ls a0 k i F p S.length (some (eL (S0.getD t []))) o7' (some (eL (S0.map fun r => ((Hn.sz p r : Nat) : Int)))) (some (.int (t : Nat))) (some (eM (S0.take t ++ S0.drop (t + 1)))) o11' o12') S2 := by
        generalize (S0.map fun r => ((Hn.sz p r : Nat) : Int)) = zs at *
        generalize S0.getD t [] = lw at *
        generalize S0.take t = A1 at *
        generalize S0.drop (t + 1) = A2 at *
        generalize A1 ++ A2 = A12 at *
        unfold B__law_b_stair_12
        rw [seq_nx (e' := Ls a0 k i F p j o6 none (some (eL zs)) o9 o10 o11 o12) (s' := S) (by
          simp only [Ls] at lc ⊢
          simp [-Int.natCast_ediv, -Int.natCast_emod, -Int.natCast_mul, -Int.natCast_add, hj, lc])]
        unfold Z__law_b_stair_2_1
        rw [seq_nx (e' := Ls a0 k i F p j o6 none (some (eL zs)) (some (.int (t : Nat))) o10 o11 o12) (s' := S) (by simp [-Int.natCast_ediv, -Int.natCast_emod, -Int.natCast_mul, -Int.natCast_add, Ls, t3, t4])]
        unfold Z__law_b_stair_2_2
        rw [seq_nx (e' := Ls a0 k i F p j (some (eL lw)) none (some (eL zs)) (some (.int (t : Nat))) o10 o11 o12) (s' := S) (by simp [-Int.natCast_ediv, -Int.natCast_emod, -Int.natCast_mul, -Int.natCast_add, Ls, hj, it])]
        unfold Z__law_b_stair_2_3
        rw [seq_nx (e' := Ls a0 k i F p j (some (eL lw)) none (some (eL zs)) (some (.int (t : Nat))) (some (eM A12)) o11 o12) (s' := S) (by simp [-Int.natCast_ediv, -Int.natCast_emod, -Int.natCast_mul, -Int.natCast_add, Ls, hj, cut1, cut2, hadd])]
        unfold Z__law_b_stair_2_4
        rw [seq_nx (e' := Ls a0 k i F p S.length (some (eL lw)) none (some (eL zs)) (some (.int (t : Nat))) (some (eM A12)) o11 o12) (s' := S ++ [Cell.l [eL lw]]) (by simp [-Int.natCast_ediv, -Int.natCast_emod, -Int.natCast_mul, -Int.natCast_add, Ls])]
        simp only [Ls] at g1 ⊢
        simp [-Int.natCast_ediv, -Int.natCast_emod, -Int.natCast_mul, -Int.natCast_add, g1]
      rw [whileF_go htest hbody]
      exact r1
    · have hone : S0.length = 1 := by
        have := List.length_pos_iff.mpr hne
        omega
      obtain ⟨low, rfl⟩ := List.length_eq_one_iff.mp hone
      refine ⟨low, L, a, j, o6, o7, o8, o9, o10, o11, o12, S, whileF_stop ?_, hi, hj, hij, hsj, hold, hS, hL, ha3, he, by rw [List.length_singleton]; exact Nat.le_refl _⟩
      simp [-Int.natCast_ediv, -Int.natCast_emod, -Int.natCast_mul, -Int.natCast_add, C__law_b_stair_13, Ls, hj]
theorem filt_lc {fuel k p i j : Nat} {a0 : T} {F L : List Mx.Row} {o5 o6 o8 o9 o10 o11 o12 : Option T} {ks : Ks} {tt : M Bool} {el : EM} {P : Mx.Row → Bool} (S : Sto) (hk : kp ks S) (hn : L.length ≤ 10000)
    (ht : ∀ r ∈ L, tt [some a0, some (.int (k : Nat)), some (.ref i), some (eM F), some (.int (p : Nat)), o5, o6, some (eL r), o8, o9, o10, o11, o12, none, none, none] S = .ok (P r) [some a0, some (.int (k : Nat)), some (.ref i), some (eM F), some (.int (p : Nat)), o5, o6, some (eL r), o8, o9, o10, o11, o12, none, none, none] S)
    (he : ∀ r : Mx.Row, el [some a0, some (.int (k : Nat)), some (.ref i), some (eM F), some (.int (p : Nat)), o5, o6, some (eL r), o8, o9, o10, o11, o12, none, none, none] S = .ok (eL r) [some a0, some (.int (k : Nat)), some (.ref i), some (eM F), some (.int (p : Nat)), o5, o6, some (eL r), o8, o9, o10, o11, o12, none, none, none] S) :
    lcL ks [7] (gN 7) tt el (L.map eL) [] [some a0, some (.int (k : Nat)), some (.ref i), some (eM F), some (.int (p : Nat)), o5, o6, none, o8, o9, o10, o11, o12, none, none, none] S = .ok ((L.filter P).map eL) [some a0, some (.int (k : Nat)), some (.ref i), some (eM F), some (.int (p : Nat)), o5, o6, none, o8, o9, o10, o11, o12, none, none, none] S := by
  have h := lc_filter (ks := ks) (own := [7]) (g := gN 7) (tt := tt) (el := el) (e0 := [some a0, some (.int (k : Nat)), some (.ref i), some (eM F), some (.int (p : Nat)), o5, o6, none, o8, o9, o10, o11, o12, none, none, none]) (s := S) (f := eL) (k := eL) (p := P) hk (xs := L) (acc := []) (by rw [List.length_nil]; omega) (fun r hr => ⟨_, _, rfl, ht r hr, fun _ => rfl, fun _ => ⟨_, he r, rfl⟩⟩)
  rw [List.nil_append] at h
  exact h
/-- a found row less what the new one goes into it -/
def lesE (p : Nat) (low row : Mx.Row) : Mx.Row := Mx.sub row (Mx.smul (row.getD p 0 / Hn.ld low) low)
theorem found_lc {fuel k p i j X N : Nat} {a0 : T} {F : List Mx.Row} {low : Mx.Row} {o8 o9 o10 o11 o12 o13 : Option T} (S : Sto) (hk : k ≤ 100) (hp : p < k) (hl : low.length = k) (hpl : low.getD p 0 = Hn.ld low) (h0 : 0 < Hn.ld low) (hlb : Hn.Ab (2 ^ N) low) (hF : ∀ r ∈ F, r.length = k ∧ Hn.Ab (2 ^ X) r) (hN : N ≤ 490000) (hX : X ≤ 490000) (hn : F.length ≤ 10000) :
    lcL [] [7] (gN 7) dYes (L__law_b_stair_16 fuel) (F.map eL) [] [some a0, some (.int (k : Nat)), some (.ref i), some (eM F), some (.int (p : Nat)), some (.ref j), some (eL low), none, o8, o9, o10, o11, o12, none, none, none] S = .ok ((F.map (lesE p low)).map eL) [some a0, some (.int (k : Nat)), some (.ref i), some (eM F), some (.int (p : Nat)), some (.ref j), some (eL low), none, o8, o9, o10, o11, o12, none, none, none] S := by
  have h := lc_map (ks := []) (own := [7]) (g := gN 7) (el := L__law_b_stair_16 fuel) (e0 := [some a0, some (.int (k : Nat)), some (.ref i), some (eM F), some (.int (p : Nat)), some (.ref j), some (eL low), none, o8, o9, o10, o11, o12, none, none, none]) (s := S) (f := eL) (k := fun r => eL (lesE p low r)) trivial (xs := F) (acc := []) (by rw [List.length_nil]; omega) (fun row hr => by
    obtain ⟨r1, r2⟩ := hF row hr
    have ir : L2.atI (row.map T.int) ((p : Nat) : Int) = some (.int (row.getD p 0)) := atI_mapI (Mx.getD_eq (by omega))
    have il : L2.atI (low.map T.int) ((p : Nat) : Int) = some (.int (low.getD p 0)) := atI_mapI (Mx.getD_eq (by omega))
    rw [hpl] at il
    have hfd : tFdiv (.int (row.getD p 0)) (.int (Hn.ld low)) = some (.v (.int (row.getD p 0 / Hn.ld low))) := by
      rw [fdivT (by omega), Int.fdiv_eq_ediv_of_nonneg _ (by omega)]
    have hq : (row.getD p 0 / Hn.ld low).natAbs < 2 ^ (X + 1) := Nat.lt_of_le_of_lt (Hn.abs_ediv h0) (ab_pow (r2.at p))
    have hz : zipT (row.map .int) (low.map .int) = (List.zip row low).map fun q => T.tup [.int q.1, .int q.2] := zipT_ints row low
    have inner := lc_map (ks := []) (own := [14, 15]) (g := gT 2 (gCon (gN 14) (gCon (gN 15) gNils))) (el := L__law_b_stair_15 fuel) (e0 := [some a0, some (.int (k : Nat)), some (.ref i), some (eM F), some (.int (p : Nat)), some (.ref j), some (eL low), some (eL row), o8, o9, o10, o11, o12, none, none, none]) (s := S) (f := fun (q : Int × Int) => T.tup [.int q.1, .int q.2]) (k := fun q => T.int (q.1 - row.getD p 0 / Hn.ld low * q.2)) trivial (xs := List.zip row low) (acc := []) (by rw [List.length_zip, List.length_nil]; omega) (fun q hq' => by
      have hmm : mulOk (row.getD p 0 / Hn.ld low) q.2 = true := mulOk_pow hq (ab_pow (hlb q.2 (List.of_mem_zip hq').2)) (by omega) (by omega) (by omega)
      refine ⟨[some a0, some (.int (k : Nat)), some (.ref i), some (eM F), some (.int (p : Nat)), some (.ref j), some (eL low), some (eL row), o8, o9, o10, o11, o12, none, some (.int q.1), some (.int q.2)], [some a0, some (.int (k : Nat)), some (.ref i), some (eM F), some (.int (p : Nat)), some (.ref j), some (eL low), some (eL row), o8, o9, o10, o11, o12, none, some (.int q.1), some (.int q.2)], rfl, ?_, rfl⟩
      generalize row.getD p 0 / Hn.ld low = m at *
      generalize Hn.ld low = ll at *
      generalize row.getD p 0 = rp at *
      simp [-Int.natCast_ediv, -Int.natCast_emod, -Int.natCast_mul, -Int.natCast_add, L__law_b_stair_15, ir, il, hfd, hmm])
    rw [List.nil_append] at inner
    have e : (List.zip row low).map (fun q => T.int (q.1 - row.getD p 0 / Hn.ld low * q.2)) = (lesE p low row).map .int := by
      rw [map_zipI (fun x y => x - row.getD p 0 / Hn.ld low * y)]
      unfold lesE Mx.sub Mx.smul
      rw [List.zipWith_map_right]
    rw [e, ← hz] at inner
    refine ⟨_, [some a0, some (.int (k : Nat)), some (.ref i), some (eM F), some (.int (p : Nat)), some (.ref j), some (eL low), some (eL row), o8, o9, o10, o11, o12, none, none, none], rfl, ?_, rfl⟩
    generalize lesE p low row = w at *
    simp [-Int.natCast_ediv, -Int.natCast_emod, -Int.natCast_mul, -Int.natCast_add, L__law_b_stair_16, inner])
  rw [List.nil_append] at h
  rw [h, List.map_map]
  rfl
/-- what the rows come to, place by place -/
def bt (n b : Nat) : Nat → Nat
  | 0 => b
  | p + 1 => 3 * bt n b p + n + 2
def ph (n b : Nat) : Nat → Nat
  | 0 => 0
  | p + 1 => ph n b p + bt n b (p + 1) + 1
theorem bt_mono (n b : Nat) : ∀ {p q : Nat}, p ≤ q → bt n b p ≤ bt n b q
  | p, 0, h => by
    have : p = 0 := by omega
    subst this
    exact Nat.le_refl _
  | p, q + 1, h => by
    rcases Nat.lt_or_ge q p with z | z
    · have : p = q + 1 := by omega
      subst this
      exact Nat.le_refl _
    · have h1 := bt_mono n b (p := p) (q := q) z
      have h2 : bt n b (q + 1) = 3 * bt n b q + n + 2 := rfl
      omega
theorem ph_mono (n b : Nat) : ∀ {p q : Nat}, p ≤ q → ph n b p ≤ ph n b q
  | p, 0, h => by
    have : p = 0 := by omega
    subst this
    exact Nat.le_refl _
  | p, q + 1, h => by
    rcases Nat.lt_or_ge q p with z | z
    · have : p = q + 1 := by omega
      subst this
      exact Nat.le_refl _
    · have := ph_mono n b (p := p) (q := q) z
      rw [ph]
      omega
/-- the state ahead of a place -/
structure Pl (k n b p : Nat) (F L base : List Mx.Row) : Prop where
  up : Hn.Up k F
  red : Hn.Red F
  plc : ∀ r ∈ F, Hn.place r < p
  fab : ∀ r ∈ F, Hn.Ab (2 ^ ph n b p) r
  len : ∀ r ∈ L, r.length = k
  ah : ∀ r ∈ L, ∀ q, q < p → r.getD q 0 = 0
  lab : ∀ r ∈ L, Hn.Ab (2 ^ bt n b p) r
  eqv : Hn.Eqv k (F ++ L) base
  many : F.length + L.length ≤ n
theorem lesE_len {k p : Nat} {low row : Mx.Row} (hl : low.length = k) (hr : row.length = k) : (lesE p low row).length = k := Mx.sub_len hr (by rw [Mx.smul_len]; exact hl)
theorem lesE_at {k p : Nat} {low row : Mx.Row} (hl : low.length = k) (hr : row.length = k) (i : Nat) : (lesE p low row).getD i 0 = row.getD i 0 - row.getD p 0 / Hn.ld low * low.getD i 0 := by
  unfold lesE
  rw [Mx.sub_at hr (by rw [Mx.smul_len]; exact hl), Mx.smul_at]
/-- a row more at a place -/
theorem Pl.next {k n b p a : Nat} {F L base : List Mx.Row} {low : Mx.Row} (hp : p < k) (hu : Hn.Up k F) (hr : Hn.Red F) (hpl : ∀ r ∈ F, Hn.place r < p) (hfb : ∀ r ∈ F, Hn.Ab (2 ^ ph n b p) r) (hl : low.length = k) (hla : ∀ q, q < p → low.getD q 0 = 0) (hl0 : 0 < low.getD p 0) (hlb : Hn.Ab (2 ^ bt n b (p + 1)) low) (hL : Lft k p a L) (ha : a ≤ 2 ^ bt n b (p + 1)) (he : Hn.Eqv k (F ++ (L ++ [low])) base) (hn : F.length + (L.length + 1) ≤ n) : Pl k n b (p + 1) (F.map (lesE p low) ++ [low]) L base := by
  have lpl : Hn.place low = p := Hn.place_of hla (by omega)
  have lld : low.getD p 0 = Hn.ld low := by unfold Hn.ld; rw [lpl]
  have ahF : ∀ r ∈ F, ∀ q, q < p → (lesE p low r).getD q 0 = r.getD q 0 := fun r hr' q hq => by rw [lesE_at hl (hu.len r hr'), hla q hq, Int.mul_zero, Int.sub_zero]
  have plF : ∀ r ∈ F, Hn.place (lesE p low r) = Hn.place r ∧ Hn.ld (lesE p low r) = Hn.ld r := fun r hr' => by
    have h1 := hpl r hr'
    have h2 : (lesE p low r).getD (Hn.place r) 0 = Hn.ld r := ahF r hr' _ h1
    have h3 : Hn.place (lesE p low r) = Hn.place r := Hn.place_of (fun q hq => by rw [ahF r hr' q (by omega)]; exact Hn.ahead0 hq) (by rw [h2]; have := hu.pos r hr'; omega)
    exact ⟨h3, by unfold Hn.ld at h2 ⊢; rw [h3]; exact h2⟩
  have mem : ∀ x ∈ F.map (lesE p low) ++ [low], (∃ r ∈ F, x = lesE p low r) ∨ x = low := fun x hx => by
    rcases List.mem_append.mp hx with q | q
    · obtain ⟨r, h1, rfl⟩ := List.mem_map.mp q
      exact .inl ⟨r, h1, rfl⟩
    · exact .inr (List.mem_singleton.mp q)
  have pw : (F.map (lesE p low)).Pairwise fun a b => Hn.place a < Hn.place b ∧ (0 ≤ a.getD (Hn.place b) 0 ∧ a.getD (Hn.place b) 0 < Hn.ld b) := by
    rw [List.pairwise_map]
    refine List.Pairwise.imp_of_mem (fun {x y} hx hy h => ?_) (hu.ris.and (Hn.red_pw.mp hr))
    rw [(plF x hx).1, (plF y hy).1, (plF y hy).2, ahF x hx _ (hpl y hy)]
    exact h
  have hphm : ph n b p ≤ ph n b (p + 1) := ph_mono n b (by omega)
  refine ⟨⟨fun x hx => ?_, fun x hx => ?_, fun x hx => ?_, ?_⟩, ?_, fun x hx => ?_, fun x hx => ?_, hL.len, fun r hr' q hq => hL.ah r hr' q (by omega), fun r hr' => (hL.ab r hr').le ha, ?_, by rw [List.length_append, List.length_map, List.length_singleton]; omega⟩
  · rcases mem x hx with ⟨r, h1, rfl⟩ | rfl
    · exact lesE_len hl (hu.len r h1)
    · exact hl
  · rcases mem x hx with ⟨r, h1, rfl⟩ | rfl
    · rw [(plF r h1).1]; exact hu.plc r h1
    · rw [lpl]; exact hp
  · rcases mem x hx with ⟨r, h1, rfl⟩ | rfl
    · rw [(plF r h1).2]; exact hu.pos r h1
    · rw [← lld]; exact hl0
  · rw [List.pairwise_append]
    refine ⟨pw.imp fun h => h.1, List.pairwise_singleton _ _, fun x hx y hy => ?_⟩
    obtain ⟨r, h1, rfl⟩ := List.mem_map.mp hx
    rw [List.mem_singleton.mp hy, lpl, (plF r h1).1]
    exact hpl r h1
  · rw [Hn.red_pw, List.pairwise_append]
    refine ⟨pw.imp fun h => h.2, List.pairwise_singleton _ _, fun x hx y hy => ?_⟩
    obtain ⟨r, h1, rfl⟩ := List.mem_map.mp hx
    rw [List.mem_singleton.mp hy, lpl, lesE_at hl (hu.len r h1), lld]
    have h2 := Int.emod_nonneg (r.getD p 0) (show Hn.ld low ≠ 0 by omega)
    have h3 := Int.emod_lt_of_pos (r.getD p 0) (show 0 < Hn.ld low by omega)
    rw [Int.emod_def, Int.mul_comm] at h2 h3
    omega
  · rcases mem x hx with ⟨r, h1, rfl⟩ | rfl
    · rw [(plF r h1).1]
      have := hpl r h1
      omega
    · rw [lpl]; omega
  · rcases mem x hx with ⟨r, h1, rfl⟩ | rfl
    · refine Hn.Ab.of (lesE_len hl (hu.len r h1)) fun i _ => ?_
      rw [lesE_at hl (hu.len r h1)]
      have h2 := (hfb r h1).at i
      have h3 := (hfb r h1).at p
      have h4 := hlb.at i
      have h5 : (r.getD p 0 / Hn.ld low * low.getD i 0).natAbs ≤ 2 ^ ph n b p * 2 ^ bt n b (p + 1) := by
        rw [Int.natAbs_mul]
        exact Nat.mul_le_mul (Nat.le_trans (Hn.abs_ediv (by omega)) h3) h4
      have h6 : (2 : Nat) ^ ph n b (p + 1) = 2 * (2 ^ ph n b p * 2 ^ bt n b (p + 1)) := by
        rw [ph, Nat.pow_succ, Nat.pow_add, Nat.mul_comm]
      have h7 : 2 ^ ph n b p * 1 ≤ 2 ^ ph n b p * 2 ^ bt n b (p + 1) := Nat.mul_le_mul_left _ (Nat.pow_pos (by omega))
      generalize r.getD p 0 / Hn.ld low * low.getD i 0 = z at *
      omega
    · refine hlb.le (Nat.pow_le_pow_right (by omega) ?_)
      rw [ph]
      omega
  · -- what is made
    have e1 : Hn.Eqv k (low :: F) (low :: F.map (lesE p low)) := by
      refine Hn.eqv_of (fun r hr' => ?_) fun r hr' => ?_
      · rcases List.mem_cons.mp hr' with rfl | hr'
        · exact .row (List.mem_cons_self ..)
        · have hrl := hu.len r hr'
          have e : r = Mx.add (lesE p low r) (Mx.smul (r.getD p 0 / Hn.ld low) low) := (Mx.ext_row (k := k) (Mx.add_len (lesE_len hl hrl) (by rw [Mx.smul_len]; exact hl)) hrl fun i _ => by
            rw [Mx.add_at (k := k) (lesE_len hl hrl) (by rw [Mx.smul_len]; exact hl), lesE_at hl hrl, Mx.smul_at]
            omega).symm
          rw [e]
          exact .add (.row (List.mem_cons_of_mem _ (List.mem_map.mpr ⟨r, hr', rfl⟩))) (.smul _ (.row (List.mem_cons_self ..)))
      · rcases List.mem_cons.mp hr' with rfl | hr'
        · exact .row (List.mem_cons_self ..)
        · obtain ⟨x, hx, rfl⟩ := List.mem_map.mp hr'
          have hxl := hu.len x hx
          have e : lesE p low x = Mx.add x (Mx.smul (-(x.getD p 0 / Hn.ld low)) low) := Mx.ext_row (k := k) (lesE_len hl hxl) (Mx.add_len hxl (by rw [Mx.smul_len]; exact hl)) fun i _ => by
            rw [Mx.add_at (k := k) hxl (by rw [Mx.smul_len]; exact hl), lesE_at hl hxl, Mx.smul_at, Int.neg_mul]
            omega
          rw [e]
          exact .add (.row (List.mem_cons_of_mem _ hx)) (.smul _ (.row (List.mem_cons_self ..)))
    have e2 : Hn.Eqv k ((F.map (lesE p low) ++ [low]) ++ L) ((low :: F.map (lesE p low)) ++ L) := Hn.eqv_mem fun r => by
      simp only [List.mem_append, List.mem_cons, List.not_mem_nil, or_false]
      constructor
      · rintro ((h | h) | h)
        · exact .inl (.inr h)
        · exact .inl (.inl h)
        · exact .inr h
      · rintro ((h | h) | h)
        · exact .inl (.inr h)
        · exact .inl (.inl h)
        · exact .inr h
    have e3 : Hn.Eqv k ((low :: F) ++ L) (F ++ (L ++ [low])) := Hn.eqv_mem fun r => by
      simp only [List.mem_append, List.mem_cons, List.not_mem_nil, or_false]
      constructor
      · rintro ((h | h) | h)
        · exact .inr (.inr h)
        · exact .inl h
        · exact .inr (.inl h)
      · rintro (h | h | h)
        · exact .inl (.inr h)
        · exact .inr h
        · exact .inl (.inl h)
    exact (e2.trans (Hn.Eqv.app e1.symm (Hn.Eqv.refl k L))).trans (e3.trans he)
abbrev Lo (a0 : T) (k i : Nat) (F : List Mx.Row) (o4 o5 o6 o7 o8 o9 o10 o11 o12 : Option T) : En := [some a0, some (.int (k : Nat)), some (.ref i), some (eM F), o4, o5, o6, o7, o8, o9, o10, o11, o12, none, none, none]
theorem ab_pow3 {a N n m : Nat} (h : a ≤ 3 * (2 ^ m * 2 ^ m * 2 ^ m * 2 ^ n)) (hN : N = 3 * m + n + 2) : a ≤ 2 ^ N := by
  have e : (2 : Nat) ^ N = 4 * (2 ^ m * 2 ^ m * 2 ^ m * 2 ^ n) := by
    rw [hN, ← Nat.pow_add, ← Nat.pow_add, ← Nat.pow_add, show 3 * m + n + 2 = 2 + (m + m + m + n) by omega, Nat.pow_add]
  omega
theorem place_turn {fuel k n b p : Nat} {a0 : T} {F L base : List Mx.Row} {s0 S : Sto} {i : Nat} {o4 o5 o6 o7 o8 o9 o10 o11 o12 : Option T} (hk : k ≤ 100) (hp : p < k) (hn : n ≤ 100) (hbt : bt n b (p + 1) ≤ 490000) (hph : ph n b (p + 1) ≤ 490000) (hf : 2 ^ 500000 ≤ fuel) (h : Pl k n b p F L base) (hi : S[i]? = some (.l (L.map eL))) (hsi : s0.length ≤ i) (hold : ∀ c, c < s0.length → S[c]? = s0[c]?) :
    ∃ (F' L' : List Mx.Row) (S' : Sto) (i' : Nat) (q4 q5 q6 q7 q8 q9 q10 q11 q12 : Option T), (M.bind (gN 4 (.int (p : Nat))) fun _ => B__law_b_stair_20 fuel) (Lo a0 k i F o4 o5 o6 o7 o8 o9 o10 o11 o12) S = .ok .nx (Lo a0 k i' F' q4 q5 q6 q7 q8 q9 q10 q11 q12) S' ∧ Pl k n b (p + 1) F' L' base ∧ S'[i']? = some (.l (L'.map eL)) ∧ s0.length ≤ i' ∧ (∀ c, c < s0.length → S'[c]? = s0[c]?) := by
  have hln : L.length ≤ 100 := by have := h.many; omega
  have hil := get_lt hi
  have hat : ∀ r ∈ L, L2.atI (r.map T.int) ((p : Nat) : Int) = some (.int (r.getD p 0)) := fun r hr => atI_mapI (Mx.getD_eq (by rw [h.len r hr]; exact hp))
  -- those that have something there, and those that haven't
  have l1 := filt_lc (fuel := fuel) (k := k) (p := p) (i := i) (j := 0) (a0 := a0) (F := F) (L := L) (o5 := o5) (o6 := o6) (o8 := o8) (o9 := o9) (o10 := o10) (o11 := o11) (o12 := o12) (ks := [(i, L.map eL)]) (tt := dTest (dEq tNe (dOp false tIx (dVar 7) (dVar 4)) (dC (.int 0)))) (el := L__law_b_stair_2 fuel) (P := fun r => decide (r.getD p 0 ≠ 0)) S ⟨hi, trivial⟩ (by omega) (fun r hr => by
    have := hat r hr
    generalize r.getD p 0 = x at *
    by_cases z : x = 0
    · simp [-Int.natCast_ediv, -Int.natCast_emod, -Int.natCast_mul, -Int.natCast_add, this, z]
    · simp [-Int.natCast_ediv, -Int.natCast_emod, -Int.natCast_mul, -Int.natCast_add, this, z]) (fun r => by simp [-Int.natCast_ediv, -Int.natCast_emod, -Int.natCast_mul, -Int.natCast_add, L__law_b_stair_2])
  have hi1 : (S ++ [Cell.l ((L.filter fun r => decide (r.getD p 0 ≠ 0)).map eL)])[i]? = some (.l (L.map eL)) := get_app hi _
  have l2 := filt_lc (fuel := fuel) (k := k) (p := p) (i := i) (j := 0) (a0 := a0) (F := F) (L := L) (o5 := some (.ref S.length)) (o6 := o6) (o8 := o8) (o9 := o9) (o10 := o10) (o11 := o11) (o12 := o12) (ks := [(i, L.map eL)]) (tt := dTest (dEq tEq (dOp false tIx (dVar 7) (dVar 4)) (dC (.int 0)))) (el := L__law_b_stair_3 fuel) (P := fun r => decide (r.getD p 0 = 0)) (S ++ [Cell.l ((L.filter fun r => decide (r.getD p 0 ≠ 0)).map eL)]) ⟨hi1, trivial⟩ (by omega) (fun r hr => by
    have := hat r hr
    generalize r.getD p 0 = x at *
    by_cases z : x = 0
    · simp [-Int.natCast_ediv, -Int.natCast_emod, -Int.natCast_mul, -Int.natCast_add, this, z]
    · simp [-Int.natCast_ediv, -Int.natCast_emod, -Int.natCast_mul, -Int.natCast_add, this, z]) (fun r => by simp [-Int.natCast_ediv, -Int.natCast_emod, -Int.natCast_mul, -Int.natCast_add, L__law_b_stair_3])
  have memS : ∀ r ∈ L.filter (fun r => decide (r.getD p 0 ≠ 0)), r ∈ L ∧ r.getD p 0 ≠ 0 := fun r hr => ⟨(List.mem_filter.mp hr).1, of_decide_eq_true (List.mem_filter.mp hr).2⟩
  have memL : ∀ r ∈ L.filter (fun r => decide (r.getD p 0 = 0)), r ∈ L ∧ r.getD p 0 = 0 := fun r hr => ⟨(List.mem_filter.mp hr).1, of_decide_eq_true (List.mem_filter.mp hr).2⟩
  have hlens : (L.filter fun r => decide (r.getD p 0 = 0)).length + (L.filter fun r => decide (r.getD p 0 ≠ 0)).length = L.length := by
    clear l1 l2 hi1 memS memL hi hil hat h hln
    induction L with
    | nil => rfl
    | cons q Q ih =>
      by_cases z : q.getD p 0 = 0
      · rw [List.filter_cons_of_pos (by simpa using z), List.filter_cons_of_neg (by simpa using z), List.length_cons, List.length_cons]
        omega
      · rw [List.filter_cons_of_neg (by simpa using z), List.filter_cons_of_pos (by simpa using z), List.length_cons, List.length_cons]
        omega
  have hE : Hn.Eqv k ((L.filter fun r => decide (r.getD p 0 = 0)) ++ (L.filter fun r => decide (r.getD p 0 ≠ 0))) L := Hn.eqv_mem fun r => by
    simp only [List.mem_append, List.mem_filter, decide_eq_true_iff]
    constructor
    · rintro (z | z)
      · exact z.1
      · exact z.1
    · intro z
      by_cases w : r.getD p 0 = 0
      · exact .inl ⟨z, w⟩
      · exact .inr ⟨z, w⟩
  have hbtm : bt n b p ≤ bt n b (p + 1) := bt_mono n b (by omega)
  generalize hS0 : (L.filter fun r => decide (r.getD p 0 ≠ 0)) = S0 at *
  generalize hL0 : (L.filter fun r => decide (r.getD p 0 = 0)) = L0 at *
  have lft0 : Lft k p (2 ^ bt n b p) L0 := ⟨fun r hr => h.len r (memL r hr).1, fun r hr q hq => by
    rcases Nat.lt_or_ge q p with z | z
    · exact h.ah r (memL r hr).1 q z
    · have e : q = p := by omega
      rw [e]
      exact (memL r hr).2, fun r hr => h.lab r (memL r hr).1⟩
  have hbg : gN 4 (.int (p : Nat)) (Lo a0 k i F o4 o5 o6 o7 o8 o9 o10 o11 o12) S = .ok () (Lo a0 k i F (some (.int (p : Nat))) o5 o6 o7 o8 o9 o10 o11 o12) S := rfl
  have start : B__law_b_stair_20 fuel (Lo a0 k i F (some (.int (p : Nat))) o5 o6 o7 o8 o9 o10 o11 o12) S = Z__law_b_stair_1_2 fuel (Ls a0 k (S.length + 1) F p S.length o6 none o8 o9 o10 o11 o12) (S ++ [Cell.l (S0.map eL)] ++ [Cell.l (L0.map eL)]) := by
    unfold B__law_b_stair_20
    rw [seq_nx (e' := Ls a0 k i F p S.length o6 none o8 o9 o10 o11 o12) (s' := S ++ [Cell.l (S0.map eL)]) (by
      simp only [Lo, Ls] at l1 ⊢
      simp [-Int.natCast_ediv, -Int.natCast_emod, -Int.natCast_mul, -Int.natCast_add, hi, l1])]
    unfold Z__law_b_stair_1_1
    have hl1 : (S ++ [Cell.l (S0.map eL)]).length = S.length + 1 := by rw [List.length_append]; rfl
    generalize hSS : S ++ [Cell.l (S0.map eL)] = SS at *
    rw [seq_nx (e' := Ls a0 k (S.length + 1) F p S.length o6 none o8 o9 o10 o11 o12) (s' := SS ++ [Cell.l (L0.map eL)]) (by
      simp only [Ls] at l2 ⊢
      simp [-Int.natCast_ediv, -Int.natCast_emod, -Int.natCast_mul, -Int.natCast_add, hi1, l2, hl1])]
  rw [bind_ok hbg, start]
  have hi2 : (S ++ [Cell.l (S0.map eL)] ++ [Cell.l (L0.map eL)])[S.length + 1]? = some (.l (L0.map eL)) := by
    have := sto_at (S ++ [Cell.l (S0.map eL)]) (Cell.l (L0.map eL)) []
    rwa [List.length_append] at this
  have hj2 : (S ++ [Cell.l (S0.map eL)] ++ [Cell.l (L0.map eL)])[S.length]? = some (.l (S0.map eL)) := get_app (sto_at S _ _) _
  have hold2 : ∀ c, c < s0.length → (S ++ [Cell.l (S0.map eL)] ++ [Cell.l (L0.map eL)])[c]? = s0[c]? := fun c hc => by
    rw [List.append_assoc, List.getElem?_append_left (by omega)]
    exact hold c hc
  generalize S ++ [Cell.l (S0.map eL)] ++ [Cell.l (L0.map eL)] = S1 at *
  unfold Z__law_b_stair_1_2
  by_cases hne : S0 = []
  · -- none has
    subst hne
    have hw : whileF (C__law_b_stair_13 fuel) (B__law_b_stair_12 fuel) fuel (Ls a0 k (S.length + 1) F p S.length o6 none o8 o9 o10 o11 o12) S1 = .ok .nx (Ls a0 k (S.length + 1) F p S.length o6 none o8 o9 o10 o11 o12) S1 := by
      have hf0 : 0 < fuel := Nat.lt_of_lt_of_le (Nat.pow_pos (by omega)) hf
      obtain ⟨f, hf'⟩ : ∃ f, fuel = f + 1 := ⟨fuel - 1, by omega⟩
      have ht : C__law_b_stair_13 fuel (Ls a0 k (S.length + 1) F p S.length o6 none o8 o9 o10 o11 o12) S1 = .ok false (Ls a0 k (S.length + 1) F p S.length o6 none o8 o9 o10 o11 o12) S1 := by
        have hj2 : S1[S.length]? = some (.l []) := hj2
        simp [-Int.natCast_ediv, -Int.natCast_emod, -Int.natCast_mul, -Int.natCast_add, C__law_b_stair_13, Ls, hj2]
      have := whileF_stop (b := B__law_b_stair_12 fuel) (n := f) ht
      rw [← hf'] at this
      exact this
    rw [seq_nx hw]
    refine ⟨F, L0, S1, S.length + 1, some (.int (p : Nat)), some (.ref S.length), o6, none, o8, o9, o10, o11, o12, ?_, ?_, hi2, by omega, hold2⟩
    · have hj2 : S1[S.length]? = some (.l []) := hj2
      have hnil : forL [(S.length, [])] (gN 6) (B__law_b_stair_17 fuel) [] (Ls a0 k (S.length + 1) F p S.length o6 none o8 o9 o10 o11 o12) S1 = .ok .nx (Ls a0 k (S.length + 1) F p S.length o6 none o8 o9 o10 o11 o12) S1 := forL_nilk ⟨hj2, trivial⟩
      simp only [Ls, Lo] at hnil ⊢
      simp [-Int.natCast_ediv, -Int.natCast_emod, -Int.natCast_mul, -Int.natCast_add, hj2, hnil]
    · exact ⟨h.up, h.red, fun r hr => by have := h.plc r hr; omega, fun r hr => (h.fab r hr).le (Nat.pow_le_pow_right (by omega) (ph_mono n b (by omega))), lft0.len, fun r hr q hq => lft0.ah r hr q (by omega), fun r hr => (lft0.ab r hr).le (Nat.pow_le_pow_right (by omega) hbtm), (Hn.Eqv.app (Hn.Eqv.refl k F) (by rw [List.append_nil] at hE; exact hE)).trans h.eqv, by have := h.many; simp only [List.length_nil] at hlens; omega⟩
  · have some0 : Hn.Some' k p (2 ^ bt n b p) S0 := ⟨fun r hr => h.len r (memS r hr).1, fun r hr => h.ah r (memS r hr).1, fun r hr => (memS r hr).2, fun r hr => h.lab r (memS r hr).1⟩
    have hs0n : S0.length ≤ n := by have := h.many; omega
    have szb : ∀ r ∈ S0, Hn.sz p r ≤ 2 ^ bt n b p := fun r hr => (some0.ab r hr).at p
    have pot0 : Hn.Potl p (2 ^ bt n b p) (2 ^ bt n b p * 2 ^ bt n b p * 2 ^ bt n b p * 2 ^ n) S0 := .inl ⟨fun r hr _ => Nat.mul_le_mul (Nat.mul_le_mul (Nat.mul_le_mul (Nat.le_refl _) (Hn.mxS_le szb)) (szb r hr)) (Nat.pow_le_pow_right (by omega) hs0n)⟩
    have hC : 3 * (2 ^ bt n b p * 2 ^ bt n b p * 2 ^ bt n b p * 2 ^ n) ≤ 2 ^ bt n b (p + 1) := ab_pow3 (Nat.le_refl _) rfl
    have hsum : Hn.sumS p S0 < 2 ^ 499000 := by
      have h1 := Hn.sumS_le szb
      have h2 : S0.length * 2 ^ bt n b p ≤ 2 ^ 7 * 2 ^ 490000 := Nat.mul_le_mul (by have : (2 : Nat) ^ 7 = 128 := rfl; omega) (Nat.pow_le_pow_right (by omega) (by omega))
      rw [← Nat.pow_add] at h2
      have h3 : (2 : Nat) ^ (7 + 490000) < 2 ^ 499000 := Nat.pow_lt_pow_right (by omega) (by omega)
      omega
    have hfu : 2 ^ 499000 ≤ fuel := Nat.le_trans (Nat.pow_le_pow_right (by omega) (by omega)) hf
    obtain ⟨low, L', a', j', q6, q7, q8, q9, q10, q11, q12, S2, r1, r2, r3, r4, r5, r6, r7, r8, r9, r10, r11⟩ := euclid (fuel := fuel) (p := p) (a0 := a0) (F := F) (s0 := s0) hk hp hbt hC (2 ^ 499000) S0 L0 (2 ^ bt n b p) (S.length + 1) S.length o6 none o8 o9 o10 o11 o12 S1 fuel hsum hfu hi2 hj2 (by omega) (by omega) (by omega) hold2 some0 pot0 hne lft0 (by omega) hE
    have ha' : a' ≤ 2 ^ bt n b (p + 1) := Nat.le_trans r9 hC
    rw [seq_nx r1]
    have ll := r7.len low (List.mem_cons_self ..)
    have lah := r7.ah low (List.mem_cons_self ..)
    have lne := r7.ne low (List.mem_cons_self ..)
    have lab := (r7.ab low (List.mem_cons_self ..)).le ha'
    have il : L2.atI (low.map T.int) ((p : Nat) : Int) = some (.int (low.getD p 0)) := atI_mapI (Mx.getD_eq (by omega))
    -- with its lead above nought
    obtain ⟨lw, w1, w2, w3, w4, w5, w6⟩ : ∃ lw : Mx.Row, dIf (dTest (dOp false tLt (dOp false tIx (dVar 6) (dVar 4)) (dC (.int 0)))) (dAsg 6 (dLc false (dIt (dVar 6)) [13] (gN 13) dYes (L__law_b_stair_14 fuel))) dSkip (Ls a0 k (S.length + 1) F p j' (some (eL low)) q7 q8 q9 q10 q11 q12) S2 = .ok .nx (Ls a0 k (S.length + 1) F p j' (some (eL lw)) q7 q8 q9 q10 q11 q12) S2 ∧ lw.length = k ∧ (∀ q, q < p → lw.getD q 0 = 0) ∧ 0 < lw.getD p 0 ∧ Hn.Ab (2 ^ bt n b (p + 1)) lw ∧ Hn.Eqv k (L' ++ [lw]) (L' ++ [low]) := by
      by_cases hneg : low.getD p 0 < 0
      · refine ⟨Mx.smul (-1) low, ?_, by rw [Mx.smul_len]; exact ll, fun q hq => by rw [Mx.smul_at, lah q hq]; rfl, by rw [Mx.smul_at]; omega, fun x hx => ?_, Hn.Eqv.app (Hn.Eqv.refl k L') (Hn.up_len (.inr rfl) ll []).symm⟩
        · have lc := lc_map (ks := []) (own := [13]) (g := gN 13) (el := L__law_b_stair_14 fuel) (e0 := Ls a0 k (S.length + 1) F p j' (some (eL low)) q7 q8 q9 q10 q11 q12) (s := S2) (f := T.int) (k := fun x => T.int (0 - x)) trivial (xs := low) (acc := []) (by rw [List.length_nil]; omega) (fun x hx => ⟨_, [some a0, some (.int (k : Nat)), some (.ref (S.length + 1)), some (eM F), some (.int (p : Nat)), some (.ref j'), some (eL low), q7, q8, q9, q10, q11, q12, some (.int x), none, none], rfl, by simp [-Int.natCast_ediv, -Int.natCast_emod, -Int.natCast_mul, -Int.natCast_add, L__law_b_stair_14], rfl⟩)
          rw [List.nil_append] at lc
          have e : low.map (fun x => T.int (0 - x)) = (Mx.smul (-1) low).map .int := by
            unfold Mx.smul
            rw [List.map_map]
            apply List.map_congr_left
            intro x _
            show T.int _ = T.int _
            rw [show 0 - x = -1 * x by omega]
          rw [e] at lc
          generalize Mx.smul (-1) low = ww at *
          generalize low.getD p 0 = lp0 at *
          simp only [Ls] at lc ⊢
          simp [-Int.natCast_ediv, -Int.natCast_emod, -Int.natCast_mul, -Int.natCast_add, il, hneg, lc]
        · obtain ⟨y, hy, rfl⟩ := List.mem_map.mp hx
          have := lab y hy
          omega
      · refine ⟨low, ?_, ll, lah, by omega, lab, Hn.Eqv.refl k _⟩
        generalize low.getD p 0 = lp0 at *
        simp [-Int.natCast_ediv, -Int.natCast_emod, -Int.natCast_mul, -Int.natCast_add, Ls, il, hneg]
    have lld : lw.getD p 0 = Hn.ld lw := by
      unfold Hn.ld
      rw [Hn.place_of w3 (by omega)]
    have fl := fun o13 => found_lc (fuel := fuel) (i := S.length + 1) (j := j') (a0 := a0) (F := F) (o8 := q8) (o9 := q9) (o10 := q10) (o11 := q11) (o12 := q12) (o13 := o13) (X := ph n b p) (N := bt n b (p + 1)) S2 hk hp w2 lld (by rw [← lld]; exact w4) w5 (fun r hr => ⟨h.up.len r hr, h.fab r hr⟩) hbt (by have := ph_mono n b (show p ≤ p + 1 by omega); omega) (by have := h.many; omega)
    have hpn := Pl.next (a := a') hp h.up h.red h.plc h.fab w2 w3 w4 w5 r8 ha' ((Hn.Eqv.app (Hn.Eqv.refl k F) (w6.trans r10)).trans h.eqv) (by have := h.many; omega)
    refine ⟨F.map (lesE p lw) ++ [lw], L', S2, S.length + 1, some (.int (p : Nat)), some (.ref j'), some (eL lw), none, q8, q9, q10, q11, q12, ?_, hpn, r2, by omega, r6⟩
    have hFn : F.length ≤ 100 := by have := h.many; omega
    have hadd : tAdd (.lst ((F.map (lesE p lw)).map eL)) (.lst [eL lw]) = some (.l ((F.map (lesE p lw) ++ [lw]).map eL)) := by
      show (if lenOk (((F.map (lesE p lw)).map eL).length + 1) = true then some (O.l ((F.map (lesE p lw)).map eL ++ [eL lw])) else none) = _
      rw [if_pos (lenOk_mk (by rw [List.length_map, List.length_map]; omega)), List.map_append]
      rfl
    have fl := fl none
    have hstep : (M.bind (gN 6 (eL low)) fun _ => B__law_b_stair_17 fuel) (Ls a0 k (S.length + 1) F p j' q6 q7 q8 q9 q10 q11 q12) S2 = .ok .nx (Ls a0 k (S.length + 1) (F.map (lesE p lw) ++ [lw]) p j' (some (eL lw)) none q8 q9 q10 q11 q12) S2 := by
      rw [bind_ok (show gN 6 (eL low) (Ls a0 k (S.length + 1) F p j' q6 q7 q8 q9 q10 q11 q12) S2 = .ok () (Ls a0 k (S.length + 1) F p j' (some (eL low)) q7 q8 q9 q10 q11 q12) S2 from rfl)]
      unfold B__law_b_stair_17
      rw [seq_nx w1]
      generalize F.map (lesE p lw) = F2 at *
      generalize F2 ++ [lw] = F3 at *
      simp only [Ls] at fl ⊢
      simp [-Int.natCast_ediv, -Int.natCast_emod, -Int.natCast_mul, -Int.natCast_add, fl, hadd]
    have hfor : forL [(j', [eL low])] (gN 6) (B__law_b_stair_17 fuel) [eL low] (Ls a0 k (S.length + 1) F p j' q6 q7 q8 q9 q10 q11 q12) S2 = .ok .nx (Ls a0 k (S.length + 1) (F.map (lesE p lw) ++ [lw]) p j' (some (eL lw)) none q8 q9 q10 q11 q12) S2 := by
      rw [forL_step (show kp [(j', [eL low])] S2 from ⟨r3, trivial⟩) hstep]
      exact forL_nilk ⟨r3, trivial⟩
    generalize F.map (lesE p lw) ++ [lw] = F3 at *
    simp only [Ls, Lo] at hfor ⊢
    simp [-Int.natCast_ediv, -Int.natCast_emod, -Int.natCast_mul, -Int.natCast_add, r3, hfor]
theorem lstair_ok {fuel k n b : Nat} {a : T} {ts : List T} {rows : List Mx.Row} (s : Sto) (ha : Rws s a ts rows) (hts : ts = rows.map eL ∨ ∀ t ∈ ts, ∃ r, Rw s t r) (hl : ∀ r ∈ rows, r.length = k) (hb : ∀ r ∈ rows, Hn.Bd b r) (hn : rows.length ≤ n) (hn1 : n ≤ 100) (hk : k ≤ 100) (hbt : bt n b k ≤ 490000) (hph : ph n b k ≤ 490000) (hf : 2 ^ 500000 ≤ fuel) : ∃ F, G__law_b_stair fuel [a, .int (k : Nat)] s = .ok (eM F) s ∧ Hn.Up k F ∧ Hn.Red F ∧ Hn.Eqv k F rows := by
  obtain ⟨ks, _, k1, k2⟩ := vw_items ha.vw
  have rk := rng1_nat (n := k) (by omega)
  -- the rows' copies
  obtain ⟨ys, s', c1, c2, c3, c4⟩ := lc_inv (ks := ks) (own := [7]) (g := gN 7) (el := L__law_b_stair_1 fuel) (e0 := [some a, some (.int (k : Nat)), none, none, none, none, none, none, none, none, none, none, none, none, none, none]) (fun _ s' => s' = s) (fun i t => ∃ r, rows[i]? = some r ∧ t = eL r) ts 0 (acc := []) (s := s) rfl (fun _ _ h => by rw [h]; exact k2) (by rw [List.length_nil, ha.len]; omega) (by
    rintro i t s' ht rfl
    rw [Nat.zero_add]
    have hF := Hn.getD_row (R := rows) (i := i) (by rw [← ha.len]; exact get_lt ht)
    have hrw := ha.at' i t _ ht hF
    generalize rows.getD i [] = r at *
    obtain ⟨_, hit, _⟩ := hrw.itms
    have hv := hrw.vw
    exact ⟨eL r, [some a, some (.int (k : Nat)), none, none, none, none, none, some t, none, none, none, none, none, none, none, none], _, s', rfl, by simp [-Int.natCast_ediv, -Int.natCast_emod, -Int.natCast_mul, -Int.natCast_add, L__law_b_stair_1, hv]; rfl, rfl, rfl, r, hF, rfl⟩)
  rw [c2] at c1
  have ey : ys = rows.map eL := List.ext_getElem? fun i => by
    rw [List.getElem?_map]
    cases hF : rows[i]? with
    | none =>
      rw [List.getElem?_eq_none (by rw [c3, ha.len]; exact List.getElem?_eq_none_iff.mp hF)]
      rfl
    | some r =>
      have hi := get_lt hF
      have hy : ys[i]? = some (ys[i]'(by rw [c3, ha.len]; exact hi)) := List.getElem?_eq_getElem _
      obtain ⟨r', r1, r2⟩ := c4 i _ hy
      rw [Nat.zero_add, hF] at r1
      cases r1
      rw [hy, r2]
      rfl
  rw [List.nil_append, ey] at c1
  have pl0 : Pl k n b 0 [] rows rows := ⟨⟨fun r hr => by simp at hr, fun r hr => by simp at hr, fun r hr => by simp at hr, List.Pairwise.nil⟩, fun i j x y hx => by simp at hx, fun r hr => by simp at hr, fun r hr => by simp at hr, hl, fun r _ q hq => by omega, fun r hr x hx => Nat.le_of_lt (hb r hr x hx), by rw [List.nil_append]; exact Hn.Eqv.refl k rows, by rw [List.length_nil]; omega⟩
  obtain ⟨e', S', loop, F, L, i, o4, o5, o6, o7, o8, o9, o10, o11, o12, rfl, p1, p2, p3, p4⟩ := forL_inv (ks := []) (g := gN 4) (b := B__law_b_stair_20 fuel) (fun p e S => ∃ (F L : List Mx.Row) (i : Nat) (o4 o5 o6 o7 o8 o9 o10 o11 o12 : Option T), e = Lo a k i F o4 o5 o6 o7 o8 o9 o10 o11 o12 ∧ Pl k n b p F L rows ∧ S[i]? = some (.l (L.map eL)) ∧ s.length ≤ i ∧ ∀ c, c < s.length → S[c]? = s[c]?)
    (natsT k) 0 (e := Lo a k s.length [] none none none none none none none none none) (s := s ++ [Cell.l (rows.map eL)]) ⟨[], rows, s.length, none, none, none, none, none, none, none, none, none, rfl, pl0, sto_at _ _ _, Nat.le_refl _, fun c hc => List.getElem?_append_left hc⟩ (fun _ _ _ _ => trivial) (by
    rintro p x e S hx ⟨F, L, i, o4, o5, o6, o7, o8, o9, o10, o11, o12, rfl, p1, p2, p3, p4⟩
    obtain ⟨hp, rfl⟩ := natsT_at hx
    rw [Nat.zero_add] at *
    obtain ⟨F', L', S', i', q4, q5, q6, q7, q8, q9, q10, q11, q12, g1, g2, g3, g4, g5⟩ := place_turn (fuel := fuel) (a0 := a) (i := i) (o4 := o4) (o5 := o5) (o6 := o6) (o7 := o7) (o8 := o8) (o9 := o9) (o10 := o10) (o11 := o11) (o12 := o12) hk hp hn1 (Nat.le_trans (bt_mono n b (by omega)) hbt) (Nat.le_trans (ph_mono n b (by omega)) hph) hf p1 p2 p3 p4
    exact ⟨_, S', g1, F', L', i', q4, q5, q6, q7, q8, q9, q10, q11, q12, rfl, g2, g3, g4, g5⟩)
  rw [Nat.zero_add, natsT_len] at *
  have hz : ∀ r ∈ L, r = Mx.zer k := fun r hr => Mx.ext_row (p1.len r hr) (Mx.zer_len k) fun q hq => by rw [p1.ah r hr q hq, Hn.zer_at]
  have hE : Hn.Eqv k F rows := Hn.Eqv.trans (Hn.eqv_of (fun r hr => .row (List.mem_append.mpr (.inl hr))) fun r hr => by
    rcases List.mem_append.mp hr with z | z
    · exact .row z
    · rw [hz r z]; exact .zer) p1.eqv
  have pre : s <+: S' := List.prefix_iff_getElem?.mpr fun c hc => by rw [p4 c hc, List.getElem?_eq_getElem hc]
  obtain ⟨l, rfl⟩ := pre
  refine ⟨F, dFn_rt (l := l) (r := eM F) ⟨Lo a k i F o4 o5 o6 o7 o8 o9 o10 o11 o12, ?_⟩ (rs_rows _ _ _ _), p1.up, p1.red, hE⟩
  unfold D__law_b_stair
  rw [seq_nx (e' := [some a, some (.int (k : Nat)), some (.ref s.length), none, none, none, none, none, none, none, none, none, none, none, none, none]) (s' := s ++ [Cell.l (rows.map eL)]) (by simp [-Int.natCast_ediv, -Int.natCast_emod, -Int.natCast_mul, -Int.natCast_add, k1, c1])]
  unfold Z__law_b_stair_1
  rw [seq_nx (e' := Lo a k s.length [] none none none none none none none none none) (s' := s ++ [Cell.l (rows.map eL)]) (by simp [-Int.natCast_ediv, -Int.natCast_emod, -Int.natCast_mul, -Int.natCast_add, Lo])]
  unfold Z__law_b_stair_2
  rw [seq_nx (e' := Lo a k i F o4 o5 o6 o7 o8 o9 o10 o11 o12) (s' := s ++ l) (by
    simp only [Lo] at loop ⊢
    simp [-Int.natCast_ediv, -Int.natCast_emod, -Int.natCast_mul, -Int.natCast_add, -rng1_i, rk, loop])]
  simp [-Int.natCast_ediv, -Int.natCast_emod, -Int.natCast_mul, -Int.natCast_add, Lo]


-- need: _law_b_copy
theorem lcopy_ok {s : Sto} {a : T} {ts : List T} {R : List Mx.Row} (ha : Rws s a ts R) (hn : R.length ≤ 10000) : G__law_b_copy [a] s = .ok (eM R) s := by
  obtain ⟨ks, _, k1, k2⟩ := vw_items ha.vw
  obtain ⟨ys, s', c1, c2, c3, c4⟩ := lc_inv (ks := ks) (own := [1]) (g := gN 1) (el := L__law_b_copy_1) (e0 := [some a, none]) (fun _ s' => s' = s) (fun i t => ∃ r, R[i]? = some r ∧ t = eL r) ts 0 (acc := []) (s := s) rfl (fun _ _ h => by rw [h]; exact k2) (by rw [List.length_nil, ha.len]; omega) (by
    rintro i t s' ht rfl
    rw [Nat.zero_add]
    have hF := Hn.getD_row (R := R) (i := i) (by rw [← ha.len]; exact get_lt ht)
    have hrw := ha.at' i t _ ht hF
    generalize R.getD i [] = r at *
    have hv := hrw.vw
    exact ⟨eL r, [some a, some t], _, s', rfl, by simp [-Int.natCast_ediv, -Int.natCast_emod, -Int.natCast_mul, -Int.natCast_add, L__law_b_copy_1, hv]; rfl, rfl, rfl, r, hF, rfl⟩)
  rw [c2] at c1
  have ey : ys = R.map eL := List.ext_getElem? fun i => by
    rw [List.getElem?_map]
    cases hF : R[i]? with
    | none =>
      rw [List.getElem?_eq_none (by rw [c3, ha.len]; exact List.getElem?_eq_none_iff.mp hF)]
      rfl
    | some r =>
      have hi := get_lt hF
      have hy : ys[i]? = some (ys[i]'(by rw [c3, ha.len]; exact hi)) := List.getElem?_eq_getElem _
      obtain ⟨r', r1, r2⟩ := c4 i _ hy
      rw [Nat.zero_add, hF] at r1
      cases r1
      rw [hy, r2]
      rfl
  rw [List.nil_append, ey] at c1
  exact dFn_rt0 ⟨[some a, none], by simp [-Int.natCast_ediv, -Int.natCast_emod, -Int.natCast_mul, -Int.natCast_add, D__law_b_copy, k1, c1]⟩ (rs_rows _ _ _ _)
theorem rs_two (A B : List Mx.Row) (s : Sto) : rs 9 0 s (.lst [eM A, eM B]) = some (.lst [eM A, eM B]) := by
  rw [rs_lst, mapO_cons, rs_rows, mapO_cons, rs_rows, mapO_nil]
  rfl
theorem ok_two (A B : List Mx.Row) : okD (.lst [eM A, eM B]) = true := (okN_lst (n := 3) fun x hx => by
  rcases List.mem_cons.mp hx with rfl | hx
  · exact okN_rows 0 A
  · rw [List.mem_singleton.mp hx]
    exact okN_rows 0 B).ok (by omega)
theorem itr_two (A B : List Mx.Row) : itr (.lst [eM A, eM B]) = true := itrs_of fun x hx => by
  rcases List.mem_cons.mp hx with rfl | hx
  · exact itr_rows A
  · rw [List.mem_singleton.mp hx]
    exact itr_rows B
theorem dNe_two (A B : List Mx.Row) (e : En) (s : Sto) : dRs tNe (.lst [eM A, eM B]) (.lst [eM A, eM B]) e s = .ok (.bl false) e s := by
  rw [dRs_of (rs_two A B s) (rs_two A B s), tNe_of (b := true) (ok_two A B) (ok_two A B) (itr_two A B) (itr_two A B) (by simp)]
  rfl
theorem dEq_two (A B : List Mx.Row) (e : En) (s : Sto) : dRs tEq (.lst [eM A, eM B]) (.lst [eM A, eM B]) e s = .ok (.bl true) e s := by
  rw [dRs_of (rs_two A B s) (rs_two A B s), tEq_of (b := true) (ok_two A B) (ok_two A B) (itr_two A B) (itr_two A B) (by simp)]
  rfl


-- need: _law_b_sum
theorem lsum_ok {s : Sto} {cs : List Int} {rows : List (List Int)} {k : Nat} (h : cs.length = rows.length) (hk : k ≤ 1000) (hr : ∀ r ∈ rows, r.length = k) (hm : ∀ c ∈ cs, ∀ r ∈ rows, ∀ x ∈ r, mulOk c x = true) :
    G__law_b_sum [eL cs, eM rows, .int (k : Nat)] s = .ok (eL (Mx.mix k cs rows)) s := by
  have hz : tMul (.lst [.int 0]) (.int (k : Nat)) = some (.l ((Mx.zer k).map .int)) := by
    show (if rngOk _ 0 = true ∧ lenOk (1 * (k : Int).toNat) = true then _ else _) = _
    rw [if_pos ⟨rngOk_nat (by omega), lenOk_mk (by omega)⟩]
    simp [Mx.zer]
  obtain ⟨e', s', hl, ⟨e4, e5, rfl⟩, hs⟩ := forL_inv (ks := []) (g := gT 2 (gCon (gN 4) (gCon (gN 5) gNils))) (b := B__law_b_sum_2)
    (fun n e s' => (∃ e4 e5, e = [some (eL cs), some (eM rows), some (.int (k : Nat)), some (eL (((List.zip cs rows).take n).foldl (fun t p => Mx.add t (Mx.smul p.1 p.2)) (Mx.zer k))), e4, e5, none, none]) ∧ s' = s)
    (zipT (cs.map .int) (rows.map eL)) 0 (e := [some (eL cs), some (eM rows), some (.int (k : Nat)), some (eL (Mx.zer k)), none, none, none, none]) (s := s) ⟨⟨none, none, rfl⟩, rfl⟩ (fun _ _ _ _ => trivial) (by
    rintro i x e s' hx ⟨⟨e4, e5, rfl⟩, rfl⟩
    obtain ⟨c, t, hc, ht, rfl⟩ := zipT_get? cs 0 (rows.map eL) i x hx
    rw [Nat.zero_add]
    have hi : i < rows.length := by
      rw [← h]
      rcases Nat.lt_or_ge i cs.length with q | q
      · exact q
      · rw [List.getElem?_eq_none q] at hc
        cases hc
    have hri : rows[i]? = some rows[i] := List.getElem?_eq_getElem hi
    generalize rows[i] = r at hri
    have ht' : t = eL r := by
      rw [List.getElem?_map, hri] at ht
      exact (Option.some.inj ht).symm
    subst ht'
    have hrm : r ∈ rows := List.mem_of_getElem? hri
    have hcm : c ∈ cs := List.mem_of_getElem? hc
    have hzi : (List.zip cs rows)[i]? = some (c, r) := by
      rw [List.getElem?_zip_eq_some]
      exact ⟨hc, hri⟩
    have hrl := hr r hrm
    have hfl : ∀ n, (((List.zip cs rows).take n).foldl (fun t p => Mx.add t (Mx.smul p.1 p.2)) (Mx.zer k)).length = k := by
      intro n
      have hh : ∀ (l : List (Int × List Int)) (t : List Int), t.length = k → (∀ p ∈ l, p.2.length = k) → (l.foldl (fun t p => Mx.add t (Mx.smul p.1 p.2)) t).length = k := by
        intro l
        induction l with
        | nil => intro t ht _; exact ht
        | cons p l ih => intro t ht hp; exact ih _ (Mx.add_len ht (by rw [Mx.smul_len]; exact hp p (List.mem_cons_self ..))) fun q hq => hp q (List.mem_cons_of_mem _ hq)
      exact hh _ _ (Mx.zer_len k) fun p hp => hr p.2 (List.of_mem_zip (List.mem_of_mem_take hp)).2
    refine ⟨_, _, ?_, ⟨some (.int c), some (eL r), rfl⟩, rfl⟩
    have htk : (List.zip cs rows).take (i + 1) = (List.zip cs rows).take i ++ [(c, r)] := by
      rw [List.take_add_one, hzi]
      rfl
    rw [htk, List.foldl_append, List.foldl_cons, List.foldl_nil]
    have hF := hfl i
    generalize ((List.zip cs rows).take i).foldl (fun t p => Mx.add t (Mx.smul p.1 p.2)) (Mx.zer k) = F at hF
    have hm1 : lcL [] [6, 7] (gT 2 (gCon (gN 6) (gCon (gN 7) gNils))) dYes L__law_b_sum_1 ((List.zip F r).map fun p => .tup [.int p.1, .int p.2]) [] [some (eL cs), some (eM rows), some (.int (k : Nat)), some (eL F), some (.int c), some (eL r), none, none] s' =
        .ok ([] ++ (List.zip F r).map fun p => T.int (p.1 + c * p.2)) [some (eL cs), some (eM rows), some (.int (k : Nat)), some (eL F), some (.int c), some (eL r), none, none] s' :=
      lc_map (ks := []) trivial (by rw [List.length_zip, List.length_nil]; omega) fun p hp => ⟨_, _, by simp; rfl, by simp [L__law_b_sum_1, tMul_int (hm c hcm r hrm p.2 (List.of_mem_zip hp).2)]; rfl, by simp⟩
    rw [List.nil_append, map_zipI (fun x y => x + c * y)] at hm1
    have e1 : List.zipWith (fun x y => x + c * y) F r = Mx.add F (Mx.smul c r) := by
      unfold Mx.add Mx.smul
      rw [List.zipWith_map_right]
    rw [e1] at hm1
    have hz := zipT_ints F r
    simp [-Int.natCast_ediv, -Int.natCast_emod, -Int.natCast_mul, -Int.natCast_add, B__law_b_sum_2, hz, hm1])
  subst s'
  have hlen : (zipT (cs.map .int) (rows.map eL)).length = (List.zip cs rows).length := by
    rw [zipT_len, List.length_map, List.length_zip, List.length_map]
  rw [Nat.zero_add, hlen, List.take_of_length_le (Nat.le_refl _), Mx.mix_fold (Mx.zer_len k) hr, Mx.zer_add (Mx.mix_len hr)] at hl
  exact dFn_rt0 (by simp [-Int.natCast_ediv, -Int.natCast_emod, -Int.natCast_mul, -Int.natCast_add, Z__law_b_sum_1, D__law_b_sum, hz, hl]) (rs_ints _ _ _ _)

-- need: _law_b_pair
/-- F is the stair of the rows S of b bits -/
structure Can (k b : Nat) (F S : List Mx.Row) : Prop where
  up : Hn.Up k F
  red : Hn.Red F
  eqv : Hn.Eqv k F S
  len : ∀ r ∈ S, r.length = k
  bd : ∀ r ∈ S, Hn.Bd b r
theorem Can.n {k b : Nat} {F S : List Mx.Row} (h : Can k b F S) : F.length ≤ k := h.up.le_k
theorem Can.m {k b : Nat} {F S : List Mx.Row} (h : Can k b F S) : F.length ≤ S.length := Hn.rungs_le h.up h.len fun r hr => (h.eqv r).mp (.row hr)
theorem Can.bd' {k b g m : Nat} {F S : List Mx.Row} (h : Can k b F S) (hg : S.length ≤ 2 ^ g) (hm : F.length ≤ m) : ∀ r ∈ F, Hn.Bd (Hn.ca g b m) r := Hn.canon_cam hm h.up h.red h.eqv h.len h.bd hg
theorem numP : ∀ k, k ≤ 6 → bt 4 37 k ≤ 490000 ∧ ph 4 37 k ≤ 490000 ∧ bt 6 185 k ≤ 490000 ∧ ph 6 185 k ≤ 490000 ∧ Hn.ca 3 185 k ≤ 1140 := by decide
abbrev P8 (K k : Nat) (a3 a4 a5 a6 : Option T) : En := [some (.ref 0), some (.int (K : Nat)), some (.int (k : Nat)), a3, a4, a5, a6, none]
theorem cs_lc {fuel : Nat} {ns : List Int} {b k K : Nat} {F : List Mx.Row} {a4 a5 : Option T} {S : Sto} (h : Tp ns 0 b S) (hb : b ≤ 100000) (hn : ns.length ≤ 1000) (hF : F.length ≤ 20) : ∃ (bs : List Int) (S' : Sto), lcL [] [6] (gN 6) dYes (L__law_b_pair_1 fuel) (F.map eL) [] (P8 K k (some (eM F)) a4 a5 none) S = .ok (bs.map .int) (P8 K k (some (eM F)) a4 a5 none) S' ∧ bs.length = F.length ∧ (∀ x ∈ bs, x.natAbs < 2 ^ 3) ∧ Tp ns 0 (b + F.length) S' ∧ Gr 0 S S' := by
  obtain ⟨ys, S', g1, ⟨g2, g3⟩, g4, g5⟩ := lc_inv (ks := []) (own := [6]) (g := gN 6) (el := L__law_b_pair_1 fuel) (e0 := P8 K k (some (eM F)) a4 a5 none) (fun i s => Tp ns 0 (b + i) s ∧ Gr 0 S s) (fun _ t => ∃ a : Int, t = .int a ∧ a.natAbs < 2 ^ 3) (F.map eL) 0 (acc := []) (s := S) ⟨h, Gr.refl ..⟩ (fun _ _ _ => trivial) (by rw [List.length_map, List.length_nil]; omega) (by
    rintro i x s hx ⟨q1, q2⟩
    have hi := get_lt hx
    rw [List.length_map] at hi
    rw [Nat.zero_add] at *
    obtain ⟨z, s', t1, t2, t3, t4, _⟩ := take_ok (m := 9) q1 (by omega) hn (by omega)
    have t1 : G__law_b_take [.ref 0, .int 9] s = .ok (.int (z : Nat)) s' := t1
    exact ⟨.int ((z : Nat) - 4), P8 K k (some (eM F)) a4 a5 (some x), P8 K k (some (eM F)) a4 a5 (some x), s', rfl, by simp [-Int.natCast_ediv, -Int.natCast_emod, -Int.natCast_mul, -Int.natCast_add, L__law_b_pair_1, t1], rfl, ⟨t3, q2.trans t4⟩, _, rfl, by omega⟩)
  rw [Nat.zero_add, List.length_map] at *
  obtain ⟨xs, rfl, h2⟩ := ints_of (P := fun _ a => a.natAbs < 2 ^ 3) (n := 0) (ys := ys) (fun i t ht => by
    obtain ⟨a, a1, a2⟩ := g5 i t ht
    exact ⟨a, a1, a2⟩)
  rw [List.length_map] at g4
  refine ⟨xs, S', g1, g4, fun x hx => ?_, g2, g3⟩
  obtain ⟨i, hi, rfl⟩ := List.getElem_of_mem hx
  exact h2 i _ (List.getElem?_eq_getElem hi)
theorem nm_lc {fuel : Nat} {ns : List Int} {b k K : Nat} {r : Mx.Row} {a3 a4 : Option T} {S : Sto} (h : Tp ns 0 b S) (hb : b ≤ 100000) (hn : ns.length ≤ 1000) (hr : r.length ≤ 20) (hrb : Hn.Bd 170 r) : ∃ (r' : Mx.Row) (S' : Sto), lcL [] [7] (gN 7) dYes (L__law_b_pair_3 fuel) (r.map .int) [] (P8 K k a3 a4 none (some (eL r))) S = .ok (r'.map .int) (P8 K k a3 a4 none (some (eL r))) S' ∧ r'.length = r.length ∧ Hn.Bd 180 r' ∧ Tp ns 0 (b + r.length) S' ∧ Gr 0 S S' := by
  obtain ⟨ys, S', g1, ⟨g2, g3⟩, g4, g5⟩ := lc_inv (ks := []) (own := [7]) (g := gN 7) (el := L__law_b_pair_3 fuel) (e0 := P8 K k a3 a4 none (some (eL r))) (fun i s => Tp ns 0 (b + i) s ∧ Gr 0 S s) (fun _ t => ∃ a : Int, t = .int a ∧ a.natAbs < 2 ^ 180) (r.map .int) 0 (acc := []) (s := S) ⟨h, Gr.refl ..⟩ (fun _ _ _ => trivial) (by rw [List.length_map, List.length_nil]; omega) (by
    rintro i x s hx ⟨q1, q2⟩
    have hi := get_lt hx
    rw [List.length_map] at hi
    rw [Nat.zero_add] at *
    obtain ⟨y, hy, e⟩ := List.mem_map.mp (List.mem_of_getElem? hx)
    subst e
    obtain ⟨z, s', t1, t2, t3, t4, _⟩ := take_ok (m := 6) q1 (by omega) hn (by omega)
    have t1 : G__law_b_take [.ref 0, .int 6] s = .ok (.int (z : Nat)) s' := t1
    have hyb := hrb y hy
    have mo : tMul (.int (1 + (z : Nat) : Int)) (.int y) = some (.v (.int ((1 + (z : Nat) : Int) * y))) := tMul_int (mulOk_pow (a := 3) (b := 170) (by omega) hyb (by omega) (by omega) (by omega))
    refine ⟨.int ((1 + (z : Nat) : Int) * y), [some (.ref 0), some (.int (K : Nat)), some (.int (k : Nat)), a3, a4, none, some (eL r), some (.int y)], [some (.ref 0), some (.int (K : Nat)), some (.int (k : Nat)), a3, a4, none, some (eL r), some (.int y)], s', rfl, by simp [-Int.natCast_ediv, -Int.natCast_emod, -Int.natCast_mul, -Int.natCast_add, L__law_b_pair_3, t1, mo], rfl, ⟨t3, q2.trans t4⟩, _, rfl, ?_⟩
    rw [Int.natAbs_mul]
    have h1 : (1 + (z : Nat) : Int).natAbs * y.natAbs < 2 ^ 3 * 2 ^ 170 := Nat.mul_lt_mul'' (by omega) hyb
    rw [← Nat.pow_add] at h1
    exact Nat.lt_of_lt_of_le h1 (Nat.pow_le_pow_right (by omega) (by omega)))
  rw [Nat.zero_add, List.length_map] at *
  obtain ⟨xs, rfl, h2⟩ := ints_of (P := fun _ a => a.natAbs < 2 ^ 180) (n := 0) (ys := ys) (fun i t ht => by
    obtain ⟨a, a1, a2⟩ := g5 i t ht
    exact ⟨a, a1, a2⟩)
  rw [List.length_map] at g4
  refine ⟨xs, S', g1, g4, fun x hx => ?_, g2, g3⟩
  obtain ⟨i, hi, rfl⟩ := List.getElem_of_mem hx
  exact h2 i _ (List.getElem?_eq_getElem hi)
/-- four sums of the rows -/
theorem sums_lc {fuel : Nat} {ns : List Int} {b k K : Nat} {F : List Mx.Row} {a4 : Option T} {S : Sto} (h : Tp ns 0 b S) (hb : b ≤ 10000) (hn : ns.length ≤ 1000) (hF : F.length ≤ 4) (hk : k ≤ 6) (hl : ∀ r ∈ F, r.length = k) (hbd : ∀ r ∈ F, Hn.Bd 170 r) : ∃ (R : List Mx.Row) (S' : Sto), lcL [] [5] (gN 5) dYes (L__law_b_pair_2 fuel) (natsT 4) [] (P8 K k (some (eM F)) a4 none none) S = .ok (R.map eL) (P8 K k (some (eM F)) a4 none none) S' ∧ R.length = 4 ∧ (∀ r ∈ R, r.length = k ∧ Hn.Bd 180 r) ∧ Tp ns 0 (b + 20) S' ∧ Gr 0 S S' := by
  obtain ⟨ys, S', g1, ⟨g2, g3⟩, g4, g5⟩ := lc_inv (ks := []) (own := [5]) (g := gN 5) (el := L__law_b_pair_2 fuel) (e0 := P8 K k (some (eM F)) a4 none none) (fun i s => Tp ns 0 (b + i * 5) s ∧ Gr 0 S s) (fun _ t => ∃ r : Mx.Row, t = eL r ∧ r.length = k ∧ Hn.Bd 180 r) (natsT 4) 0 (acc := []) (s := S) ⟨by simpa using h, Gr.refl ..⟩ (fun _ _ _ => trivial) (by rw [natsT_len, List.length_nil]; omega) (by
    rintro i x s hx ⟨q1, q2⟩
    obtain ⟨hi, rfl⟩ := natsT_at hx
    rw [Nat.zero_add] at *
    obtain ⟨cs, s', c1, c2, c3, c4, c5⟩ := cs_lc (fuel := fuel) (k := k) (K := K) (F := F) (a4 := a4) (a5 := some (.int (i : Nat))) q1 (by omega) hn (by omega)
    have sm := lsum_ok (s := s') (cs := cs) (rows := F) (k := k) c2 (by omega) hl (fun c hc r hr y hy => mulOk_pow (a := 3) (b := 170) (c3 c hc) (hbd r hr y hy) (by omega) (by omega) (by omega))
    have ml := Mx.mix_len (cs := cs) hl
    have mb := Hn.mix_bd (k := k) (n := 3) (cs := cs) hl (by omega) c3 hbd
    generalize Mx.mix k cs F = m at *
    exact ⟨eL m, P8 K k (some (eM F)) a4 (some (.int (i : Nat))) none, P8 K k (some (eM F)) a4 (some (.int (i : Nat))) none, s', rfl, by simp [-Int.natCast_ediv, -Int.natCast_emod, -Int.natCast_mul, -Int.natCast_add, L__law_b_pair_2, c1, sm], rfl, ⟨c4.le (by omega), q2.trans c5⟩, m, rfl, ml, mb.le (by omega)⟩)
  rw [Nat.zero_add, natsT_len] at *
  obtain ⟨R, rfl, h2⟩ := rows_of' (P := fun _ r => r.length = k ∧ Hn.Bd 180 r) (n := 0) (ys := ys) (fun i t ht => by
    obtain ⟨a, a1, a2⟩ := g5 i t ht
    exact ⟨a, a1, a2⟩)
  rw [List.length_map] at g4
  exact ⟨R, S', g1, g4, fun r hr => by
    obtain ⟨i, hi, rfl⟩ := List.getElem_of_mem hr
    exact h2 i _ (List.getElem?_eq_getElem hi), g2.le (by omega), g3⟩
/-- each number of the rows some times -/
theorem muls_lc {fuel : Nat} {ns : List Int} {b k K : Nat} {F : List Mx.Row} {a4 : Option T} {S : Sto} (h : Tp ns 0 b S) (hb : b ≤ 10000) (hn : ns.length ≤ 1000) (hF : F.length ≤ 4) (hk : k ≤ 6) (hl : ∀ r ∈ F, r.length = k) (hbd : ∀ r ∈ F, Hn.Bd 170 r) : ∃ (R : List Mx.Row) (S' : Sto), lcL [] [6] (gN 6) dYes (L__law_b_pair_4 fuel) (F.map eL) [] (P8 K k (some (eM F)) a4 none none) S = .ok (R.map eL) (P8 K k (some (eM F)) a4 none none) S' ∧ R.length = F.length ∧ (∀ r ∈ R, r.length = k ∧ Hn.Bd 180 r) ∧ Tp ns 0 (b + 30) S' ∧ Gr 0 S S' := by
  obtain ⟨ys, S', g1, ⟨g2, g3⟩, g4, g5⟩ := lc_inv (ks := []) (own := [6]) (g := gN 6) (el := L__law_b_pair_4 fuel) (e0 := P8 K k (some (eM F)) a4 none none) (fun i s => Tp ns 0 (b + i * 6) s ∧ Gr 0 S s) (fun _ t => ∃ r : Mx.Row, t = eL r ∧ r.length = k ∧ Hn.Bd 180 r) (F.map eL) 0 (acc := []) (s := S) ⟨by simpa using h, Gr.refl ..⟩ (fun _ _ _ => trivial) (by rw [List.length_map, List.length_nil]; omega) (by
    rintro i x s hx ⟨q1, q2⟩
    have hi := get_lt hx
    rw [List.length_map] at hi
    rw [Nat.zero_add] at *
    obtain ⟨r, hr, e⟩ := List.mem_map.mp (List.mem_of_getElem? hx)
    subst e
    have hrl := hl r hr
    obtain ⟨r', s', c1, c2, c3, c4, c5⟩ := nm_lc (fuel := fuel) (k := k) (K := K) (r := r) (a3 := some (eM F)) (a4 := a4) q1 (by omega) hn (by omega) (hbd r hr)
    exact ⟨eL r', P8 K k (some (eM F)) a4 none (some (eL r)), P8 K k (some (eM F)) a4 none (some (eL r)), s', rfl, by simp [-Int.natCast_ediv, -Int.natCast_emod, -Int.natCast_mul, -Int.natCast_add, L__law_b_pair_4, c1], rfl, ⟨c4.le (by omega), q2.trans c5⟩, r', rfl, by omega, c3⟩)
  rw [Nat.zero_add, List.length_map] at *
  obtain ⟨R, rfl, h2⟩ := rows_of' (P := fun _ r => r.length = k ∧ Hn.Bd 180 r) (n := 0) (ys := ys) (fun i t ht => by
    obtain ⟨a, a1, a2⟩ := g5 i t ht
    exact ⟨a, a1, a2⟩)
  rw [List.length_map] at g4
  exact ⟨R, S', g1, g4, fun r hr => by
    obtain ⟨i, hi, rfl⟩ := List.getElem_of_mem hr
    exact h2 i _ (List.getElem?_eq_getElem hi), g2.le (by omega), g3⟩
theorem pair_ok {fuel : Nat} {ns : List Int} {b K : Nat} {S : Sto} (hK : K ≤ 6) (hfu2 : 2 ^ 500000 ≤ fuel) (h : Tp ns 0 b S) (hb : b ≤ 5000) (hn : ns.length ≤ 1000) : ∃ (k : Nat) (F G S1 S2 : List Mx.Row) (S' : Sto), G__law_b_pair fuel [.ref 0, .int (K : Nat)] S = .ok (.tup [.int (k : Nat), eM F, eM G]) S' ∧ k ≤ K ∧ Can k 37 F S1 ∧ (∀ r ∈ F, Hn.Bd 165 r) ∧ S1.length ≤ 4 ∧ Can k 185 G S2 ∧ S2.length ≤ 6 ∧ (∀ r ∈ G, Hn.Bd 1140 r) ∧ Tp ns 0 (b + 200) S' ∧ Gr 0 S S' := by
  obtain ⟨k, T1, k1, k2, k3, k4, _⟩ := take_ok (m := K + 1) h (by omega) hn (by omega)
  have k1 : G__law_b_take [.ref 0, .int ((K : Nat) + 1 : Int)] S = .ok (.int (k : Nat)) T1 := k1
  obtain ⟨n1, T2, t1, t2, t3, t4, _⟩ := take_ok (m := 5) k3 (by omega) hn (by omega)
  have t1 : G__law_b_take [.ref 0, .int 5] T1 = .ok (.int (n1 : Nat)) T2 := t1
  have hm1 : n1 * (1 + k) ≤ 4 * 7 := Nat.mul_le_mul (by omega) (by omega)
  obtain ⟨j1, R1, T3, r1, d1⟩ := brows_ok (many := n1) (k := k) t3 (by omega) hn (by omega) (by omega)
  have l1 : ∀ r ∈ R1, r.length = k := fun r hr => (d1.row r hr).1
  have b1 : ∀ r ∈ R1, Hn.Bd 37 r := fun r hr => (d1.row r hr).2
  have n1' := d1.len
  obtain ⟨x1, x2, x3, x4, x5⟩ := numP k (by omega)
  have rws1 : Rws T3 (.ref j1) (R1.map eL) R1 := Rt.rws (o := 0) (.inr ⟨j1, rfl, by have := t3.lt; have := d1.new; omega, d1.cell⟩)
  obtain ⟨F, f1, up, rd, eq⟩ := lstair_ok (fuel := fuel) (n := 4) (b := 37) T3 rws1 (.inl rfl) l1 b1 (by omega) (by omega) (by omega) x1 x2 hfu2
  have hFn : F.length ≤ 4 := Nat.le_trans (Hn.rungs_le up l1 fun r hr => (eq r).mp (.row hr)) (by omega)
  have bF : ∀ r ∈ F, Hn.Bd 165 r := fun r hr => (Hn.canon_cam (g := 2) hFn up rd eq l1 b1 (by rw [n1']; omega) r hr).le (by decide)
  have bF2 : ∀ r ∈ F, Hn.Bd 170 r := fun r hr => (bF r hr).le (by omega)
  obtain ⟨n2, T4, y1, y2, y3, y4, _⟩ := take_ok (m := 5) d1.tp (by omega) hn (by omega)
  have y1 : G__law_b_take [.ref 0, .int 5] T3 = .ok (.int (n2 : Nat)) T4 := y1
  have hm2 : n2 * (1 + k) ≤ 4 * 7 := Nat.mul_le_mul (by omega) (by omega)
  obtain ⟨j2, R2, T5, r2, d2⟩ := brows_ok (many := n2) (k := k) y3 (by omega) hn (by omega) (by omega)
  have n2' := d2.len
  have hj2 : j2 ≠ 0 := by have := y3.lt; have := d2.new; omega
  -- sums
  obtain ⟨z, T6, z1, z2, z3, z4, _⟩ := take_ok (m := 3) d2.tp (by omega) hn (by omega)
  have z1 : G__law_b_take [.ref 0, .int 3] T5 = .ok (.int (z : Nat)) T6 := z1
  have r4 : ∀ s, rng1 s [.int 4] = some (natsT 4, []) := rng1_nat (n := 4) (by omega)
  obtain ⟨a4, R3, T7, st3, v3, n3, m3, tp3, g3⟩ : ∃ (a4 : T) (R3 : List Mx.Row) (T7 : Sto), dIf (dTest (dEq tEq (dCall G__law_b_take [(dVar 0), (dC (.int 3))]) (dC (.int 0)))) (dAsg 4 (dLc false (dItA rng1 [(dC (.int 4))]) [5] (gN 5) dYes (L__law_b_pair_2 fuel))) dSkip (P8 K k (some (eM F)) (some (.ref j2)) none none) T5 = .ok .nx (P8 K k (some (eM F)) (some a4) none none) T7 ∧ (a4 = eM R3 ∨ ∃ j, a4 = .ref j ∧ j ≠ 0 ∧ T7[j]? = some (.l (R3.map eL))) ∧ R3.length ≤ 4 ∧ (∀ r ∈ R3, r.length = k ∧ Hn.Bd 180 r) ∧ Tp ns 0 (b + 100) T7 ∧ Gr 0 T5 T7 := by
    by_cases hz : z = 0
    · subst hz
      obtain ⟨R3, T7, q1, q2, q3, q4, q5⟩ := sums_lc (fuel := fuel) (k := k) (K := K) (F := F) (a4 := some (.ref j2)) z3 (by omega) hn hFn (by omega) up.len bF2
      have z1 : G__law_b_take [.ref 0, .int 3] T5 = .ok (.int 0) T6 := z1
      exact ⟨eM R3, R3, T7, by simp [-Int.natCast_ediv, -Int.natCast_emod, -Int.natCast_mul, -Int.natCast_add, -rng1_i, z1, r4, q1], .inl rfl, by omega, q3, q4.le (by omega), z4.trans q5⟩
    · have hz' : (((z : Nat) : Int) = 0) = False := eq_false (by omega)
      exact ⟨.ref j2, R2, T6, by simp [-Int.natCast_ediv, -Int.natCast_emod, -Int.natCast_mul, -Int.natCast_add, z1, hz', hz], .inr ⟨j2, rfl, hj2, z4.at' _ _ hj2 d2.cell⟩, by omega, fun r hr => ⟨(d2.row r hr).1, ((d2.row r hr).2).le (by omega)⟩, z3.le (by omega), z4⟩
  -- multiples
  obtain ⟨w, T8, w1, w2, w3, w4, _⟩ := take_ok (m := 3) tp3 (by omega) hn (by omega)
  have w1 : G__law_b_take [.ref 0, .int 3] T7 = .ok (.int (w : Nat)) T8 := w1
  obtain ⟨a5, R4, T9, st4, v4, n4, m4, tp4, g4⟩ : ∃ (a5 : T) (R4 : List Mx.Row) (T9 : Sto), dIf (dTest (dEq tEq (dCall G__law_b_take [(dVar 0), (dC (.int 3))]) (dC (.int 0)))) (dAsg 4 (dOp false tAdd (dSlc false (dVar 4) (fun e s => .ok none e s) (dPart (dC (.int 2)))) (dLc false (dIt (dVar 3)) [6] (gN 6) dYes (L__law_b_pair_4 fuel)))) dSkip (P8 K k (some (eM F)) (some a4) none none) T7 = .ok .nx (P8 K k (some (eM F)) (some a5) none none) T9 ∧ (a5 = eM R4 ∨ ∃ j, a5 = .ref j ∧ j ≠ 0 ∧ T9[j]? = some (.l (R4.map eL))) ∧ R4.length ≤ 6 ∧ (∀ r ∈ R4, r.length = k ∧ Hn.Bd 185 r) ∧ Tp ns 0 (b + 200) T9 ∧ Gr 0 T7 T9 := by
    by_cases hz : w = 0
    · subst hz
      obtain ⟨R5, T9, q1, q2, q3, q4, q5⟩ := muls_lc (fuel := fuel) (k := k) (K := K) (F := F) (a4 := some a4) w3 (by omega) hn hFn (by omega) up.len bF2
      have w1 : G__law_b_take [.ref 0, .int 3] T7 = .ok (.int 0) T8 := w1
      have vw4 : Sr.vw T8 a4 = .lst (R3.map eL) := by
        rcases v3 with rfl | ⟨j, rfl, hj, hc⟩
        · rfl
        · have := w4.at' _ _ hj hc
          simp [this]
      have hcut : cut (R3.map eL) none (some 2) = (R3.map eL).take 2 := cut_take _ 2
      have hadd : tAdd (.lst ((R3.map eL).take 2)) (.lst (R5.map eL)) = some (.l ((R3.take 2 ++ R5).map eL)) := by
        rw [← List.map_take]
        exact tAddM (R3.take 2) R5 (by rw [List.length_take]; omega)
      have ml : (R3.take 2 ++ R5).length ≤ 6 := by
        rw [List.length_append, List.length_take]
        omega
      have mm : ∀ r ∈ R3.take 2 ++ R5, r.length = k ∧ Hn.Bd 185 r := fun r hr => by
        rcases List.mem_append.mp hr with q | q
        · obtain ⟨h1, h2⟩ := m3 r (List.mem_of_mem_take q)
          exact ⟨h1, h2.le (by omega)⟩
        · obtain ⟨h1, h2⟩ := q3 r q
          exact ⟨h1, h2.le (by omega)⟩
      generalize R3.take 2 ++ R5 = R4 at *
      exact ⟨eM R4, R4, T9, by simp [-Int.natCast_ediv, -Int.natCast_emod, -Int.natCast_mul, -Int.natCast_add, w1, vw4, hcut, q1, hadd], .inl rfl, ml, mm, q4.le (by omega), w4.trans q5⟩
    · have hz' : (((w : Nat) : Int) = 0) = False := eq_false (by omega)
      refine ⟨a4, R3, T8, by simp [-Int.natCast_ediv, -Int.natCast_emod, -Int.natCast_mul, -Int.natCast_add, w1, hz', hz], ?_, by omega, fun r hr => ⟨(m3 r hr).1, ((m3 r hr).2).le (by omega)⟩, w3.le (by omega), w4⟩
      rcases v3 with e | ⟨j, e, hj, hc⟩
      · exact .inl e
      · exact .inr ⟨j, e, hj, w4.at' _ _ hj hc⟩
  have rws2 : Rws T9 a5 (R4.map eL) R4 := by
    rcases v4 with rfl | ⟨j, rfl, hj, hc⟩
    · exact Rws.lst _ _
    · exact Rt.rws (o := 0) (.inr ⟨j, rfl, hj, hc⟩)
  obtain ⟨G, g1, gu, gr, ge⟩ := lstair_ok (fuel := fuel) (n := 6) (b := 185) T9 rws2 (.inl rfl) (fun r hr => (m4 r hr).1) (fun r hr => (m4 r hr).2) n4 (by omega) (by omega) x3 x4 hfu2
  refine ⟨k, F, G, R1, R4, T9, ?_, by omega, ⟨up, rd, eq, l1, b1⟩, bF, by omega, ⟨gu, gr, ge, fun r hr => (m4 r hr).1, fun r hr => (m4 r hr).2⟩, n4, fun r hr => (Hn.canon_ca (g := 3) gu gr ge (fun r hr => (m4 r hr).1) (fun r hr => (m4 r hr).2) (by omega) r hr).le x5, tp4, ((((((k4.trans t4).trans d1.gr).trans y4).trans d2.gr).trans g3).trans g4)⟩
  refine dFnR_rt ⟨P8 K k (some (eM F)) (some a5) none none, ?_⟩
  show D__law_b_pair fuel [some (.ref 0), some (.int (K : Nat)), none, none, none, none, none, none] S = _
  unfold D__law_b_pair
  rw [seq_nx (e' := P8 K k none none none none) (s' := T1) (by simp [-Int.natCast_ediv, -Int.natCast_emod, -Int.natCast_mul, -Int.natCast_add, k1])]
  unfold Z__law_b_pair_1
  rw [seq_nx (e' := P8 K k (some (eM F)) none none none) (s' := T3) (by simp [-Int.natCast_ediv, -Int.natCast_emod, -Int.natCast_mul, -Int.natCast_add, t1, r1, f1])]
  unfold Z__law_b_pair_2
  rw [seq_nx (e' := P8 K k (some (eM F)) (some (.ref j2)) none none) (s' := T5) (by simp [-Int.natCast_ediv, -Int.natCast_emod, -Int.natCast_mul, -Int.natCast_add, y1, r2])]
  unfold Z__law_b_pair_3
  rw [seq_nx st3]
  unfold Z__law_b_pair_4
  rw [seq_nx st4]
  simp [-Int.natCast_ediv, -Int.natCast_emod, -Int.natCast_mul, -Int.natCast_add, g1]


-- need: _law_b_rest
/-! #### led down, as the law does it -/
theorem filter_first {p : Nat → Bool} {q n : Nat} (hq : q < n) (h0 : ∀ i, i < q → p i = false) (h1 : p q = true) : ((List.range n).filter p)[0]? = some q := by
  have e : List.range n = List.range q ++ (q :: (List.range (n - q - 1)).map (q + 1 + ·)) := by
    have h := List.range_add (n := q) (m := n - q)
    rw [show q + (n - q) = n by omega] at h
    rw [h, show n - q = (n - q - 1) + 1 by omega, List.range_succ_eq_map, List.map_cons, List.map_map]
    congr 2
    refine List.map_congr_left fun i _ => ?_
    show q + (i + 1) = q + 1 + i
    omega
  rw [e, List.filter_append, List.filter_eq_nil_iff.mpr (fun i hi => by rw [h0 i (List.mem_range.mp hi)]; exact Bool.false_ne_true), List.nil_append, List.filter_cons_of_pos h1]
  rfl
theorem brest_loop {s : Sto} {a b : T} {k : Nat} (hk1 : k ≤ 1000) : ∀ (rows : List Mx.Row) (x : Mx.Row) (o3 o4 o5 : Option T), Hn.Up k rows → x.length = k → LedOk rows x →
    ∃ o3' o4' o5', forL [] (gN 3) B__law_b_rest_4 (rows.map eL) [some a, some b, some (eL x), o3, o4, o5, none, none, none] s = .ok .nx [some a, some b, some (eL (Hn.led rows x).2), o3', o4', o5', none, none, none] s
  | [], x, o3, o4, o5, _, _, _ => ⟨o3, o4, o5, by rw [List.map_nil, forL_nil0]; rfl⟩
  | r :: rows, x, o3, o4, o5, hu, hx, ho => by
    have hp := hu.plc r (List.mem_cons_self ..)
    have hrl := hu.len r (List.mem_cons_self ..)
    have hpos := hu.pos r (List.mem_cons_self ..)
    obtain ⟨h1, h2, h3⟩ := ho
    have hdv : tFdiv (.int (x.getD (Hn.place r) 0)) (.int (Hn.ld r)) = some (.v (.int (x.getD (Hn.place r) 0 / Hn.ld r))) := by
      show (if divOk _ = true then some (T.int _) else none).map O.v = _
      rw [if_pos h1, Int.fdiv_eq_ediv_of_nonneg _ (by omega)]
      rfl
    have i1 : L2.atI (x.map T.int) ((Hn.place r : Nat) : Int) = some (.int (x.getD (Hn.place r) 0)) := atI_mapI (Mx.getD_eq (by omega))
    have i2 : L2.atI (r.map T.int) ((Hn.place r : Nat) : Int) = some (.int (Hn.ld r)) := atI_mapI (Mx.getD_eq (by omega))
    have hsl : (Mx.sub x (Mx.smul (x.getD (Hn.place r) 0 / Hn.ld r) r)).length = k := Mx.sub_len hx (by rw [Mx.smul_len, hrl])
    have rn : rng1 s [.int ((r.length : Nat) : Int)] = some (natsT r.length, []) := rng1_nat (n := r.length) (by omega) s
    -- the place
    have lp : lcL [] [6] (gN 6) (dTest (dEq tNe (dOp false tIx (dVar 3) (dVar 6)) (dC (.int 0)))) L__law_b_rest_1 (natsT r.length) [] [some a, some b, some (eL x), some (eL r), o4, o5, none, none, none] s = .ok (((List.range r.length).filter fun i => decide (r.getD i 0 ≠ 0)).map fun (i : Nat) => T.int (i : Int)) [some a, some b, some (eL x), some (eL r), o4, o5, none, none, none] s := by
      have h := lc_filter (ks := []) (own := [6]) (g := gN 6) (tt := dTest (dEq tNe (dOp false tIx (dVar 3) (dVar 6)) (dC (.int 0)))) (el := L__law_b_rest_1) (e0 := [some a, some b, some (eL x), some (eL r), o4, o5, none, none, none]) (s := s) (f := fun (i : Nat) => T.int (i : Int)) (k := fun (i : Nat) => T.int (i : Int)) (p := fun i => decide (r.getD i 0 ≠ 0)) trivial (xs := List.range r.length) (acc := []) (by rw [List.length_nil, List.length_range]; omega) (fun i hi => by
        have hir := List.mem_range.mp hi
        have ix : L2.atI (r.map T.int) ((i : Nat) : Int) = some (.int (r.getD i 0)) := atI_mapI (Mx.getD_eq hir)
        generalize r.getD i 0 = z at *
        refine ⟨[some a, some b, some (eL x), some (eL r), o4, o5, some (.int (i : Nat)), none, none], [some a, some b, some (eL x), some (eL r), o4, o5, some (.int (i : Nat)), none, none], rfl, ?_, fun _ => rfl, fun _ => ⟨_, by
          show dVar 6 _ s = _
          rfl, rfl⟩⟩
        by_cases hz : z = 0
        · subst hz
          simp [-Int.natCast_ediv, -Int.natCast_emod, -Int.natCast_mul, -Int.natCast_add, ix]
        · simp [-Int.natCast_ediv, -Int.natCast_emod, -Int.natCast_mul, -Int.natCast_add, ix, hz])
      rw [List.nil_append] at h
      exact h
    have at0 : L2.atI (((List.range r.length).filter fun i => decide (r.getD i 0 ≠ 0)).map fun (i : Nat) => T.int (i : Int)) 0 = some (.int (Hn.place r : Nat)) := by
      have h := atI_natE (((List.range r.length).filter fun i => decide (r.getD i 0 ≠ 0)).map fun (i : Nat) => T.int (i : Int)) 0
      rw [List.getElem?_map, filter_first (q := Hn.place r) (by omega) (fun i hi => by rw [Hn.ahead0 hi]; rfl) (by
        have : r.getD (Hn.place r) 0 ≠ 0 := by
          have : Hn.ld r = r.getD (Hn.place r) 0 := rfl
          omega
        exact decide_eq_true this)] at h
      exact h
    -- what is left
    generalize hm : x.getD (Hn.place r) 0 / Hn.ld r = m at *
    have hz : zip2 s [eL x, eL r] = some ((List.zip x r).map (fun p => .tup [.int p.1, .int p.2]), []) := by
      show some (zipT (x.map .int) (r.map .int), []) = _
      rw [zipT_ints]
    have h4 := lc_map (ks := []) (own := [7, 8]) (g := gT 2 (gCon (gN 7) (gCon (gN 8) gNils))) (el := L__law_b_rest_2) (e0 := [some a, some b, some (eL x), some (eL r), some (.int (Hn.place r : Nat)), some (.int m), none, none, none]) (s := s) (f := fun (p : Int × Int) => .tup [.int p.1, .int p.2]) (k := fun p => T.int (p.1 - m * p.2)) trivial (xs := List.zip x r) (acc := []) (by rw [List.length_nil, List.length_zip]; omega) (fun p hp => ⟨[some a, some b, some (eL x), some (eL r), some (.int (Hn.place r : Nat)), some (.int m), none, some (.int p.1), some (.int p.2)], [some a, some b, some (eL x), some (eL r), some (.int (Hn.place r : Nat)), some (.int m), none, some (.int p.1), some (.int p.2)], by rfl, by
      have mo : tMul (.int m) (.int p.2) = some (.v (.int (m * p.2))) := tMul_int (h2 _ (List.of_mem_zip hp).2)
      simp [-Int.natCast_ediv, -Int.natCast_emod, -Int.natCast_mul, -Int.natCast_add, L__law_b_rest_2, mo], rfl⟩)
    rw [List.nil_append] at h4
    have es : (List.zip x r).map (fun p => T.int (p.1 - m * p.2)) = (Mx.sub x (Mx.smul m r)).map .int := by
      rw [map_zipI fun u v => u - m * v]
      congr 1
      unfold Mx.sub Mx.smul
      rw [List.zipWith_map_right]
    rw [es] at h4
    obtain ⟨o3', o4', o5', ih⟩ := brest_loop (s := s) (a := a) (b := b) hk1 rows (Mx.sub x (Mx.smul m r)) (some (eL r)) (some (.int (Hn.place r : Nat))) (some (.int m)) hu.tail hsl h3
    refine ⟨o3', o4', o5', ?_⟩
    unfold Hn.led
    dsimp only
    rw [List.map_cons, hm]
    refine Eq.trans (forL_step (ks := []) trivial ?_) ih
    generalize Mx.sub x (Mx.smul m r) = y at *
    generalize ((List.range r.length).filter fun i => decide (r.getD i 0 ≠ 0)).map (fun (i : Nat) => T.int (i : Int)) = ps at *
    generalize x.getD (Hn.place r) 0 = u at *
    generalize Hn.ld r = v at *
    have rn' : rng1 s [.int (((r.map T.int).length : Nat) : Int)] = some (natsT r.length, []) := by rw [List.length_map]; exact rn
    simp [-Int.natCast_ediv, -Int.natCast_emod, -Int.natCast_mul, -Int.natCast_add, -rng1_i, -List.length_map, B__law_b_rest_4, Z__law_b_rest_1_1, rn', lp, at0, i1, i2, hdv, hz, h4]
theorem brest_ok {k : Nat} {F : List Mx.Row} {x : Mx.Row} (s : Sto) (hk : k ≤ 1000) (hu : Hn.Up k F) (hx : x.length = k) (ho : LedOk F x) : G__law_b_rest [eM F, eL x] s = .ok (eL (Hn.led F x).2) s := by
  obtain ⟨o3, o4, o5, h⟩ := brest_loop (s := s) (a := eM F) (b := eL x) hk F x none none none hu hx ho
  exact dFn_rt0 (by simp [-Int.natCast_ediv, -Int.natCast_emod, -Int.natCast_mul, -Int.natCast_add, Z__law_b_rest_1_1, Z__law_b_rest_1, D__law_b_rest, h]) (rs_ints _ _ _ _)
-- need: _law_b_made
theorem bmade_ok {k : Nat} {F : List Mx.Row} {x : Mx.Row} (s : Sto) (hk : k ≤ 1000) (hu : Hn.Up k F) (hx : x.length = k) (ho : LedOk F x) : ∃ b : Bool, G__law_b_made [eM F, eL x] s = .ok (.bl b) s ∧ (b = true ↔ Hn.Lat k F x) := by
  have h := brest_ok s hk hu hx ho
  have hl : (Hn.led F x).2.length = k := (led_len hu.len hx).2
  have hz := Hn.led_zer hu hx
  generalize (Hn.led F x).2 = w at *
  refine ⟨!(w.any fun i => i != 0), dFn_rt0 ⟨[some (eM F), some (eL x)], by simp [-Int.natCast_ediv, -Int.natCast_emod, -Int.natCast_mul, -Int.natCast_add, D__law_b_made, h, any_ints]⟩ (rs_bl _ _ _ _), ?_⟩
  rw [← hz]
  constructor
  · intro q
    refine Mx.ext_row hl (Mx.zer_len k) fun i hi => ?_
    rw [Mx.zer_at]
    rw [Bool.not_eq_true', List.any_eq_false] at q
    have hm : w.getD i 0 ∈ w := List.mem_of_getElem? (Mx.getD_eq (by omega))
    have := q _ hm
    simpa using this
  · intro q
    subst q
    rw [Bool.not_eq_true', List.any_eq_false]
    intro y hy
    rw [List.eq_of_mem_replicate hy]
    simp

-- uses: St Mx Hn Lt Lc Sc Sg Sh Tl Pp Md Sn Sq Sv Ix Tw Th Er Rp Xk purses.in rungs.in shared.in stairs.in stairs2.in tape.in meetsw.in indexw.in lstair.in ltools.in bsum.in pair.in bmade.in
def fuel : Nat := 2 ^ 1000000
theorem hfu2 : 2 ^ 500000 ≤ fuel := Nat.pow_le_pow_right (by omega) (by omega)
theorem lk_small (n : Nat) (h : n ≤ 100) : lenOk n = true := lenOk_mk (by omega)
theorem word_told (s : Sto) : G__law_b_word [.non] s = .ok (.str (Str.ofString "told")) s := dFn_rt0 ⟨[some .non, none], by simp [-Int.natCast_ediv, -Int.natCast_emod, -Int.natCast_mul, -Int.natCast_add, D__law_b_word]⟩ (rs_str _ _ _ _)
theorem kinds_part {s : Sto} {i : Nat} (h : s[i]? = some (.x 2)) : G__law_b_kinds [.ref i] s = .ok (.lst [.bl false, .bl true, .bl false, .bl false, .bl false, .bl false, .bl false, .bl false, .bl false]) s := dFn_rt0 ⟨[some (.ref i), some (.lst [.bl false, .bl true, .bl false, .bl false, .bl false, .bl false, .bl false, .bl false])], by
  have a1 : ∀ a b c d e f g h : T, tAdd (.lst [a, b, c, d]) (.lst [e, f, g, h]) = some (.l [a, b, c, d, e, f, g, h]) := fun a b c d e f g h => by
    show (if lenOk (4 + 4) = true then _ else _) = _
    rw [if_pos (lenOk_mk (by omega))]
    rfl
  have a2 : ∀ a b c d e f g h i : T, tAdd (.lst [a, b, c, d, e, f, g, h]) (.lst [i]) = some (.l [a, b, c, d, e, f, g, h, i]) := fun a b c d e f g h i => by
    show (if lenOk (8 + 1) = true then _ else _) = _
    rw [if_pos (lenOk_mk (by omega))]
    rfl
  simp [-Int.natCast_ediv, -Int.natCast_emod, -Int.natCast_mul, -Int.natCast_add, Z__law_b_kinds_1, D__law_b_kinds, keptC, h, kbE, a1, a2]⟩ (by simp [rs_lst, mapO])
theorem word_part {s : Sto} {i : Nat} (h : s[i]? = some (.x 2)) : G__law_b_word [.ref i] s = .ok (.str (Str.ofString "part")) s := dFn_rt0 ⟨[some (.ref i), some (.lst [.bl false, .bl true, .bl false, .bl false, .bl false, .bl false, .bl false, .bl false, .bl false])], by
  have h1 := kinds_part h
  have h2 : ∀ a b c d e f g h i : T, L2.atI [a, b, c, d, e, f, g, h, i] 1 = some b := fun _ _ _ _ _ _ _ _ _ => rfl
  have c1 : tCntB (.lst [.bl false, .bl true, .bl false, .bl false, .bl false, .bl false, .bl false, .bl false, .bl false]) (.bl true) = some (.v (.int 1)) := rfl
  have c2 : tIdxB (.lst [.bl false, .bl true, .bl false, .bl false, .bl false, .bl false, .bl false, .bl false, .bl false]) (.bl true) = some (.v (.int 1)) := rfl
  simp [-Int.natCast_ediv, -Int.natCast_emod, -Int.natCast_mul, -Int.natCast_add, Z__law_b_word_2, Z__law_b_word_1, D__law_b_word, keptC, h, kbE, h1, h2, c1, c2, isLs]⟩ (rs_str _ _ _ _)
structure Gd (k : Nat) (A : List Mx.Row) : Prop where
  up : Hn.Up k A
  bd : ∀ r ∈ A, Hn.Bd 1140 r
theorem Gd.n {k : Nat} {A : List Mx.Row} (h : Gd k A) (hk : k ≤ 6) : A.length ≤ 6 := Nat.le_trans h.up.le_k hk
theorem lies34 {k : Nat} {A B : List Mx.Row} (s : Sto) (hA : Gd k A) (hB : Gd k B) (hk : k ≤ 6) : ∃ b : Bool, G_lies_in [eM A, eM B, .int (k : Nat)] s = .ok (.bl b) s ∧ (b = true ↔ ∀ r ∈ A, Hn.Lat k B r) := by
  have := hA.n hk
  have := hB.n hk
  have e : B.length * (1140 + 1) ≤ 6 * (1140 + 1) := Nat.mul_le_mul_right _ (by omega)
  exact lies_ok (B := 1140) (X := 1140) s hA.up.len hA.bd (by omega) (by omega) hB.up hB.bd (by omega) (by omega)
theorem made34 {k : Nat} {B : List Mx.Row} {x : Mx.Row} (s : Sto) (hB : Gd k B) (hx : x.length = k) (bx : Hn.Bd 1140 x) (hk : k ≤ 6) : ∃ b : Bool, G__law_b_made [eM B, eL x] s = .ok (.bl b) s ∧ (b = true ↔ Hn.Lat k B x) := by
  have := hB.n hk
  have e : B.length * (1140 + 1) ≤ 6 * (1140 + 1) := Nat.mul_le_mul_right _ (by omega)
  exact bmade_ok s (by omega) hB.up hx (ledOk_any (B := 1140) (X := 1140) hB.up hx bx hB.bd (by omega) (by omega))
/-- whether it is told, or refused as no part -/
theorem asked34 {k : Nat} {A B : List Mx.Row} (s : Sto) (hA : Gd k A) (hB : Gd k B) (hk : k ≤ 6) (d : Bool) (hd : d = true ↔ ∀ r ∈ A, Hn.Lat k B r) : G__law_b_asked [eM A, eM B, .int (k : Nat)] s = .ok (.str (if d then Str.ofString "told" else Str.ofString "part")) s := by
  cases d with
  | true =>
    have hin := hd.mp rfl
    have := hB.n hk
    have e : B.length * (1140 + 1) ≤ 6 * (1140 + 1) := Nat.mul_le_mul_right _ (by omega)
    have hb := beside_ok (B := 1140) (X := 1140) s hA.up hA.bd (by omega) hB.up hB.bd (by omega) (by omega) (by omega) (by omega) (by omega) hin
    have ht : dTryK [1, 2] 4 3 0 T__law_b_asked_1 [some (eM A), some (eM B), some (.int (k : Nat)), some .non, none] s = .ok .nx [some (eM A), some (eM B), some (.int (k : Nat)), some .non, none] s := by
      simp [-Int.natCast_ediv, -Int.natCast_emod, -Int.natCast_mul, -Int.natCast_add, T__law_b_asked_1, hb]
    have w := word_told s
    refine dFn_rt0 ⟨[some (eM A), some (eM B), some (.int (k : Nat)), some .non, none], ?_⟩ (rs_str _ _ _ _)
    show D__law_b_asked [some (eM A), some (eM B), some (.int (k : Nat)), none, none] s = _
    unfold D__law_b_asked
    rw [seq_nx (e' := [some (eM A), some (eM B), some (.int (k : Nat)), some .non, none]) (s' := s) (by simp [-Int.natCast_ediv, -Int.natCast_emod, -Int.natCast_mul, -Int.natCast_add, ])]
    unfold Z__law_b_asked_1
    rw [seq_nx ht]
    simp [-Int.natCast_ediv, -Int.natCast_emod, -Int.natCast_mul, -Int.natCast_add, w]
  | false =>
    obtain ⟨b, l1, l2⟩ := lies34 s hA hB hk
    have hbf : b = false := by
      cases b with
      | false => rfl
      | true => exact absurd (hd.mpr (l2.mp rfl)) Bool.false_ne_true
    subst hbf
    have hb : G_beside [eM A, eM B, .int (k : Nat)] s = .ex 2 s := dFn_ex (l := []) ⟨[some (eM A), some (eM B), some (.int (k : Nat))], by
      rw [List.append_nil]
      simp [-Int.natCast_ediv, -Int.natCast_emod, -Int.natCast_mul, -Int.natCast_add, Z_beside_1, D_beside, l1]⟩
    have ht : dTryK [1, 2] 4 3 0 T__law_b_asked_1 [some (eM A), some (eM B), some (.int (k : Nat)), some .non, none] s = .ok .nx [some (eM A), some (eM B), some (.int (k : Nat)), some (.ref s.length), none] (s ++ [.x 2]) := by
      simp [-Int.natCast_ediv, -Int.natCast_emod, -Int.natCast_mul, -Int.natCast_add, T__law_b_asked_1, hb, sbE]
    have w := word_part (s := s ++ [.x 2]) (i := s.length) (sto_at _ _ _)
    refine dFn_rt (l := [.x 2]) (r := .str (Str.ofString "part")) ⟨[some (eM A), some (eM B), some (.int (k : Nat)), some (.ref s.length), none], ?_⟩ (rs_str _ _ _ _)
    show D__law_b_asked [some (eM A), some (eM B), some (.int (k : Nat)), none, none] s = _
    unfold D__law_b_asked
    rw [seq_nx (e' := [some (eM A), some (eM B), some (.int (k : Nat)), some .non, none]) (s' := s) (by simp [-Int.natCast_ediv, -Int.natCast_emod, -Int.natCast_mul, -Int.natCast_add, ])]
    unfold Z__law_b_asked_1
    rw [seq_nx ht]
    simp [-Int.natCast_ediv, -Int.natCast_emod, -Int.natCast_mul, -Int.natCast_add, w]
theorem nbl (a b : Bool) : tNe (.bl a) (.bl b) = some (.v (.bl (!(a == b)))) := by
  unfold tNe
  rw [if_pos ⟨(okN_bl 0 a).ok (by omega), (okN_bl 0 b).ok (by omega)⟩]
  cases a <;> cases b <;> rfl
open Classical in
theorem right34 {k : Nat} {A B : List Mx.Row} (s : Sto) (hA : Gd k A) (hB : Gd k B) (hk : k ≤ 6) : G__law_b_right [eM A, eM B, .int (k : Nat)] s = .ok (.bl true) s := by
  have nA := hA.n hk
  have nB := hB.n hk
  obtain ⟨d, l1, l2⟩ := lies34 s hA hB hk
  have as := asked34 s hA hB hk d l2
  have c1 := lcopy_ok (Rws.lst s A) (by omega)
  have c2 := lcopy_ok (Rws.lst s B) (by omega)
  -- due
  obtain ⟨m, hm⟩ : ∃ m : Mx.Row → Bool, ∀ r, r.length = k → Hn.Bd 1140 r → (G__law_b_made [eM B, eL r] s = .ok (.bl (m r)) s ∧ (m r = true ↔ Hn.Lat k B r)) :=
    ⟨fun r => if h : r.length = k ∧ Hn.Bd 1140 r then Classical.choose (made34 s hB h.1 h.2 hk) else false, fun r h1 h2 => by
      dsimp only
      rw [dif_pos ⟨h1, h2⟩]
      exact Classical.choose_spec (made34 s hB h1 h2 hk)⟩
  have lc := lc_map (ks := []) (own := [7]) (g := gN 7) (el := L__law_b_right_1) (e0 := [some (eM A), some (eM B), some (.int (k : Nat)), none, none, none, none, none]) (s := s) (f := eL) (k := fun r => T.bl (m r)) trivial (xs := A) (acc := []) (by rw [List.length_nil]; omega) (fun r hr => by
    have h1 := (hm r (hA.up.len r hr) (hA.bd r hr)).1
    exact ⟨_, [some (eM A), some (eM B), some (.int (k : Nat)), none, none, none, none, some (eL r)], rfl, by simp [-Int.natCast_ediv, -Int.natCast_emod, -Int.natCast_mul, -Int.natCast_add, L__law_b_right_1, h1], rfl⟩)
  rw [List.nil_append] at lc
  have al := all_bools (A.map m)
  rw [List.map_map] at al
  have al : tAll [.lst (A.map fun r => T.bl (m r))] = some (.v (.bl ((A.map m).all id))) := al
  have ed : (A.map m).all id = d := by
    rw [Bool.eq_iff_iff, l2, List.all_eq_true]
    constructor
    · intro h r hr
      exact ((hm r (hA.up.len r hr) (hA.bd r hr)).2).mp (h _ (List.mem_map_of_mem hr))
    · intro h b hb
      obtain ⟨r, hr, rfl⟩ := List.mem_map.mp hb
      exact ((hm r (hA.up.len r hr) (hA.bd r hr)).2).mpr (h r hr)
  rw [ed] at al
  have r2 : ∀ s, rng1 s [.int 2] = some (natsT 2, []) := rng1_nat (n := 2) (by omega)
  have i0 : L2.atI [eM A, eM B] 0 = some (eM A) := rfl
  have i1 : L2.atI [eM A, eM B] 1 = some (eM B) := rfl
  have ne2 := fun e => dNe_two A B e s
  have eq2 := fun e => dEq_two A B e s
  have nb := nbl d d
  have dbl : ∀ e, dRs tNe (.bl d) (.bl d) e s = .ok (.bl false) e s := fun e => by
    rw [dRs_bl, nb]
    simp
  obtain ⟨e', s', loop, ⟨o5, o6, rfl⟩, rfl⟩ := forL_inv (ks := []) (g := gN 5) (b := B__law_b_right_2) (fun _ e S => (∃ o5 o6, e = [some (eM A), some (eM B), some (.int (k : Nat)), some (.bl d), some (.lst [eM A, eM B]), o5, o6, none]) ∧ S = s) (natsT 2) 0 (e := [some (eM A), some (eM B), some (.int (k : Nat)), some (.bl d), some (.lst [eM A, eM B]), none, none, none]) (s := s) ⟨⟨_, _, rfl⟩, rfl⟩ (fun _ _ _ _ => trivial) (by
    rintro i x e S hx ⟨⟨o5, o6, rfl⟩, rfl⟩
    exact ⟨[some (eM A), some (eM B), some (.int (k : Nat)), some (.bl d), some (.lst [eM A, eM B]), some x, some (.bl d), none], S, by simp [-Int.natCast_ediv, -Int.natCast_emod, -Int.natCast_mul, -Int.natCast_add, B__law_b_right_2, i0, i1, l1, dbl, ne2], ⟨_, _, rfl⟩, rfl⟩)
  have wd : L2.atI [T.str (Str.ofString "part"), .str (Str.ofString "told")] (if d = true then 1 else 0) = some (.str (if d then Str.ofString "told" else Str.ofString "part")) := by
    cases d <;> rfl
  have sok : PyData.strOk (if d then Str.ofString "told" else Str.ofString "part") = true := by
    cases d
    · exact strOk_of _
    · exact strOk_of _
  have te := tEq_str sok sok
  generalize (if d then Str.ofString "told" else Str.ofString "part") = w at *
  refine dFn_rt0 ⟨[some (eM A), some (eM B), some (.int (k : Nat)), some (.bl d), some (.lst [eM A, eM B]), o5, o6, none], ?_⟩ (rs_bl _ _ _ _)
  show D__law_b_right [some (eM A), some (eM B), some (.int (k : Nat)), none, none, none, none, none] s' = _
  unfold D__law_b_right
  rw [seq_nx (e' := [some (eM A), some (eM B), some (.int (k : Nat)), some (.bl d), none, none, none, none]) (s' := s') (by simp [-Int.natCast_ediv, -Int.natCast_emod, -Int.natCast_mul, -Int.natCast_add, lc, al])]
  unfold Z__law_b_right_1
  rw [seq_nx (e' := [some (eM A), some (eM B), some (.int (k : Nat)), some (.bl d), some (.lst [eM A, eM B]), none, none, none]) (s' := s') (by simp [-Int.natCast_ediv, -Int.natCast_emod, -Int.natCast_mul, -Int.natCast_add, c1, c2])]
  unfold Z__law_b_right_2
  rw [seq_nx (e' := [some (eM A), some (eM B), some (.int (k : Nat)), some (.bl d), some (.lst [eM A, eM B]), o5, o6, none]) (s' := s') (by simp [-Int.natCast_ediv, -Int.natCast_emod, -Int.natCast_mul, -Int.natCast_add, -rng1_i, r2, loop])]
  simp [-Int.natCast_ediv, -Int.natCast_emod, -Int.natCast_mul, -Int.natCast_add, i0, i1, as, wd, te, eq2]
abbrev E34 (ns : List Int) (a2 a3 a4 a5 a6 a7 a8 : Option T) : En := [some (.scr ns), some (.ref 0), a2, a3, a4, a5, a6, a7, a8, none, none]
def Ie (ns : List Int) (e : En) : Prop := ∃ a2 a3 a4 a5 a6 a7 a8 : Option T, e = E34 ns a2 a3 a4 a5 a6 a7 a8
theorem every_lc {k : Nat} {ns : List Int} {a2 a3 a4 a6 a7 a8 : Option T} (s : Sto) (hk : k ≤ 100) : lcL [] [9] (gN 9) dYes (L_law_2 fuel) (natsT k) [] (E34 ns a2 a3 a4 (some (.int (k : Nat))) a6 a7 a8) s = .ok ((every k).map eL) (E34 ns a2 a3 a4 (some (.int (k : Nat))) a6 a7 a8) s := by
  have rk := rng1_nat (n := k) (by omega)
  have h := lc_map (ks := []) (own := [9]) (g := gN 9) (el := L_law_2 fuel) (e0 := E34 ns a2 a3 a4 (some (.int (k : Nat))) a6 a7 a8) (s := s) (f := fun (c : Nat) => T.int (c : Nat)) (k := fun c => eL (Hn.unit k c)) trivial (xs := List.range k) (acc := []) (by rw [List.length_range, List.length_nil]; omega) (fun c _ => ⟨_, [some (.scr ns), some (.ref 0), a2, a3, a4, some (.int (k : Nat)), a6, a7, a8, some (.int (c : Nat)), none], rfl, by
    have h := lc_map (ks := []) (own := [10]) (g := gN 10) (el := L_law_1 fuel) (e0 := [some (.scr ns), some (.ref 0), a2, a3, a4, some (.int (k : Nat)), a6, a7, a8, some (.int (c : Nat)), none]) (s := s) (f := fun (j : Nat) => T.int (j : Nat)) (k := fun (j : Nat) => T.int (if j = c then 1 else 0)) trivial (xs := List.range k) (acc := []) (by rw [List.length_range, List.length_nil]; omega) (fun j _ => ⟨_, [some (.scr ns), some (.ref 0), a2, a3, a4, some (.int (k : Nat)), a6, a7, a8, some (.int (c : Nat)), some (.int (j : Nat))], rfl, by
      by_cases q : j = c
      · subst q
        simp [-Int.natCast_ediv, -Int.natCast_emod, -Int.natCast_mul, -Int.natCast_add, L_law_1]
      · have q2 : ¬ c = j := fun z => q z.symm
        simp [-Int.natCast_ediv, -Int.natCast_emod, -Int.natCast_mul, -Int.natCast_add, L_law_1, q, q2]
        omega, rfl⟩)
    rw [List.nil_append] at h
    have e : (List.range k).map (fun (j : Nat) => T.int (if j = c then 1 else 0)) = (Hn.unit k c).map T.int := by
      unfold Hn.unit
      rw [List.map_map]
      rfl
    rw [e] at h
    have h : lcL [] [10] (gN 10) dYes (L_law_1 fuel) (natsT k) [] _ s = _ := h
    generalize Hn.unit k c = u at *
    simp [-Int.natCast_ediv, -Int.natCast_emod, -Int.natCast_mul, -Int.natCast_add, L_law_2, -rng1_i, rk, h], rfl⟩)
  rw [List.nil_append] at h
  have e : (List.range k).map (fun c => eL (Hn.unit k c)) = (every k).map eL := by
    unfold every
    rw [List.map_map]
    rfl
  rw [e] at h
  exact h
theorem in_map {L : List (List Mx.Row)} {i : Nat} {x : T} (h : (L.map eM)[i]? = some x) : ∃ A ∈ L, x = eM A := by
  obtain ⟨A, h1, h2⟩ := List.mem_map.mp (List.mem_of_getElem? h)
  exact ⟨A, h1, h2.symm⟩
/-- all pairs of the four -/
theorem pairs34 {ns : List Int} {k : Nat} {F G E : List Mx.Row} {a2 a4 a8 : Option T} (s : Sto) (hk : k ≤ 6) (hF : Gd k F) (hG : Gd k G) (hE : Gd k E) : ∃ a4' a8', forL [] (gN 4) (B_law_4 fuel) [eM F, eM G, eM E, .lst []] (E34 ns a2 (some (eM E)) a4 (some (.int (k : Nat))) (some (eM F)) (some (eM G)) a8) s = .ok .nx (E34 ns a2 (some (eM E)) a4' (some (.int (k : Nat))) (some (eM F)) (some (eM G)) a8') s := by
  have all : ∀ A ∈ [F, G, E, []], Gd k A := fun A h => by
    simp only [List.mem_cons, List.not_mem_nil, or_false] at h
    rcases h with rfl | rfl | rfl | rfl
    · exact hF
    · exact hG
    · exact hE
    · exact ⟨⟨fun r hr => by simp at hr, fun r hr => by simp at hr, fun r hr => by simp at hr, List.Pairwise.nil⟩, fun r hr => by simp at hr⟩
  have inner : ∀ A, Gd k A → ∀ a8, ∃ a8', forL [] (gN 8) (B_law_3 fuel) ([F, G, E, []].map eM) (E34 ns a2 (some (eM E)) (some (eM A)) (some (.int (k : Nat))) (some (eM F)) (some (eM G)) a8) s = .ok .nx (E34 ns a2 (some (eM E)) (some (eM A)) (some (.int (k : Nat))) (some (eM F)) (some (eM G)) a8') s := fun A hA a8 => by
    obtain ⟨e', s', h1, ⟨o, rfl⟩, rfl⟩ := forL_inv (ks := []) (g := gN 8) (b := B_law_3 fuel) (fun _ e S => (∃ o, e = E34 ns a2 (some (eM E)) (some (eM A)) (some (.int (k : Nat))) (some (eM F)) (some (eM G)) o) ∧ S = s) ([F, G, E, []].map eM) 0 (e := E34 ns a2 (some (eM E)) (some (eM A)) (some (.int (k : Nat))) (some (eM F)) (some (eM G)) a8) (s := s) ⟨⟨_, rfl⟩, rfl⟩ (fun _ _ _ _ => trivial) (by
      rintro i x e S hx ⟨⟨o, rfl⟩, rfl⟩
      obtain ⟨B, hB, rfl⟩ := in_map hx
      have r := right34 S hA (all B hB) hk
      exact ⟨E34 ns a2 (some (eM E)) (some (eM A)) (some (.int (k : Nat))) (some (eM F)) (some (eM G)) (some (eM B)), S, by simp [-Int.natCast_ediv, -Int.natCast_emod, -Int.natCast_mul, -Int.natCast_add, B_law_3, E34, r], ⟨_, rfl⟩, rfl⟩)
    exact ⟨o, h1⟩
  obtain ⟨e', s', h1, ⟨o4, o8, rfl⟩, rfl⟩ := forL_inv (ks := []) (g := gN 4) (b := B_law_4 fuel) (fun _ e S => (∃ o4 o8, e = E34 ns a2 (some (eM E)) o4 (some (.int (k : Nat))) (some (eM F)) (some (eM G)) o8) ∧ S = s) ([F, G, E, []].map eM) 0 (e := E34 ns a2 (some (eM E)) a4 (some (.int (k : Nat))) (some (eM F)) (some (eM G)) a8) (s := s) ⟨⟨_, _, rfl⟩, rfl⟩ (fun _ _ _ _ => trivial) (by
    rintro i x e S hx ⟨⟨o4, o8, rfl⟩, rfl⟩
    obtain ⟨A, hA, rfl⟩ := in_map hx
    obtain ⟨o8', h2⟩ := inner A (all A hA) o8
    have h2 : forL [] (gN 8) (B_law_3 fuel) [eM F, eM G, eM E, .lst []] (E34 ns a2 (some (eM E)) (some (eM A)) (some (.int (k : Nat))) (some (eM F)) (some (eM G)) o8) S = _ := h2
    refine ⟨E34 ns a2 (some (eM E)) (some (eM A)) (some (.int (k : Nat))) (some (eM F)) (some (eM G)) o8', S, ?_, ⟨_, _, rfl⟩, rfl⟩
    simp only [E34] at h2 ⊢
    simp [-Int.natCast_ediv, -Int.natCast_emod, -Int.natCast_mul, -Int.natCast_add, B_law_4, h2])
  exact ⟨o4, o8, h1⟩
theorem round34 {ns : List Int} {b : Nat} {e : En} {S : Sto} (hl : ns.length ≤ 1000) (he : Ie ns e) (h : Tp ns 0 b S) (hb : b ≤ 5000) : Nx (fun e s => Ie ns e ∧ Tp ns 0 (b + 1000) s) (Z_law_1_1 fuel e S) := by
  obtain ⟨a2, a3, a4, a5, a6, a7, a8, rfl⟩ := he
  obtain ⟨k, F, G, S1, S2, T1, p1, hk, cF, bF, n1, cG, n2, bG, tp1, gr1⟩ := pair_ok (fuel := fuel) (K := 6) (by omega) hfu2 h hb hl
  have p1 : G__law_b_pair fuel [.ref 0, .int 6] S = .ok (.tup [.int (k : Nat), eM F, eM G]) T1 := p1
  have hF : Gd k F := ⟨cF.up, fun r hr => (bF r hr).le (by omega)⟩
  have hG : Gd k G := ⟨cG.up, bG⟩
  have hE : Gd k (every k) := ⟨(every_up k).1, fun r hr => (every_bd k r hr).le (by omega)⟩
  have elc := every_lc (ns := ns) (k := k) (a2 := a2) (a3 := a3) (a4 := a4) (a6 := some (eM F)) (a7 := some (eM G)) (a8 := a8) T1 (by omega)
  obtain ⟨a4', a8', loop⟩ := pairs34 (ns := ns) (a2 := a2) (a4 := a4) (a8 := a8) T1 hk hF hG hE
  obtain ⟨d1, l1, l2⟩ := lies34 T1 hF hF hk
  have e1 : d1 = true := l2.mpr fun r hr => .row hr
  subst e1
  obtain ⟨d3, l5, l6⟩ := lies34 T1 hF hE hk
  have e3 : d3 = true := l6.mpr fun r hr => every_lat (cF.up.len r hr)
  subst e3
  have rk := rng1_nat (n := k) (by omega)
  refine ⟨E34 ns a2 (some (eM (every k))) a4' (some (.int (k : Nat))) (some (eM F)) (some (eM G)) a8', T1, ?_, ⟨_, _, _, _, _, _, _, rfl⟩, tp1.le (by omega)⟩
  generalize every k = Ev at *
  unfold Z_law_1_1
  rw [seq_nx (e' := E34 ns a2 a3 a4 (some (.int (k : Nat))) (some (eM F)) (some (eM G)) a8) (s' := T1) (by simp [-Int.natCast_ediv, -Int.natCast_emod, -Int.natCast_mul, -Int.natCast_add, E34, p1])]
  unfold Z_law_1_2
  rw [seq_nx (e' := E34 ns a2 (some (eM Ev)) a4 (some (.int (k : Nat))) (some (eM F)) (some (eM G)) a8) (s' := T1) (by
    simp only [E34] at elc ⊢
    simp [-Int.natCast_ediv, -Int.natCast_emod, -Int.natCast_mul, -Int.natCast_add, -rng1_i, rk, elc])]
  unfold Z_law_1_3
  rw [seq_nx (e' := E34 ns a2 (some (eM Ev)) a4' (some (.int (k : Nat))) (some (eM F)) (some (eM G)) a8') (s' := T1) (by
    simp only [E34] at loop ⊢
    simp [-Int.natCast_ediv, -Int.natCast_emod, -Int.natCast_mul, -Int.natCast_add, loop])]
  simp [-Int.natCast_ediv, -Int.natCast_emod, -Int.natCast_mul, -Int.natCast_add, E34, l1, l5]
theorem law_true (ns : List Int) (hl : ns.length ≤ 63) : G_law fuel [.scr ns] [] = .ok (.bl true) [] := by
  refine law_tru ?_
  unfold D_law
  first | apply tru_run | apply gv_run | apply nx_run | apply seq_run
  · simp [-Int.natCast_ediv, -Int.natCast_emod, -Int.natCast_mul, -Int.natCast_add, ] <;> exact rfl
  dsimp only [seqK]
  have r3 : ∀ s, rng1 s [.int 4] = some (natsT 4, []) := rng1_nat (n := 4) (by omega)
  have loop := forL_srch (ks := []) (g := gN 2) (b := B_law_8 fuel) (fun n e S => Ie ns e ∧ Tp ns 0 (n * 1000) S) (fun e _ => Ie ns e) (fun _ => True) (fun _ _ _ _ => False) (natsT 4) 0 (e := E34 ns none none none none none none none) (s := [Cell.l [.scr ns, .int 0, .int 0]]) ⟨⟨_, _, _, _, _, _, _, rfl⟩, 0, 0, by omega, rfl⟩ (fun _ _ _ _ => trivial) (by
    rintro n x e S hx ⟨he, hT⟩
    obtain ⟨hn, rfl⟩ := natsT_at hx
    rw [Nat.zero_add] at *
    obtain ⟨a2, a3, a4, a5, a6, a7, a8, rfl⟩ := he
    have hg : gN 2 (.int (n : Nat)) (E34 ns a2 a3 a4 a5 a6 a7 a8) S = .ok () (E34 ns (some (.int (n : Nat))) a3 a4 a5 a6 a7 a8) S := rfl
    rw [bind_ok hg]
    obtain ⟨a, r, h1, h2⟩ := id hT
    have j1 : ∀ x y z : T, L2.atI [x, y, z] 1 = some y := fun _ _ _ => rfl
    by_cases hbr : 1 < n ∧ ns.length ≤ a
    · right
      left
      have q1 : (1 : Int) < ((n : Nat) : Int) := by omega
      have q2 : ((ns.length : Nat) : Int) ≤ ((a : Nat) : Int) := by omega
      refine ⟨E34 ns (some (.int (n : Nat))) a3 a4 a5 a6 a7 a8, S, ?_, ⟨_, _, _, _, _, _, _, rfl⟩⟩
      unfold B_law_8
      obtain ⟨q3, q4⟩ := hbr
      simp [-Int.natCast_ediv, -Int.natCast_emod, -Int.natCast_mul, -Int.natCast_add, E34, h2, j1, q1, q2, q3, q4]
    · left
      have st : dIf (dAndT (dTest (dOp false tGt (dVar 2) (dC (.int 1)))) (dTest (dOp false tGe (dOp false tIx (dVar 1) (dC (.int 1))) (dB false tLen [(dVar 0)])))) dBreak dSkip (E34 ns (some (.int (n : Nat))) a3 a4 a5 a6 a7 a8) S = .ok .nx (E34 ns (some (.int (n : Nat))) a3 a4 a5 a6 a7 a8) S := by
        by_cases q1 : 1 < n
        · have q2 : ¬ ns.length ≤ a := fun z => hbr ⟨q1, z⟩
          have q3 : (1 : Int) < ((n : Nat) : Int) := by omega
          have q4 : ¬ ((ns.length : Nat) : Int) ≤ ((a : Nat) : Int) := by omega
          simp [-Int.natCast_ediv, -Int.natCast_emod, -Int.natCast_mul, -Int.natCast_add, E34, h2, j1, q1, q2, q3, q4]
        · have q3 : ¬ (1 : Int) < ((n : Nat) : Int) := by omega
          simp [-Int.natCast_ediv, -Int.natCast_emod, -Int.natCast_mul, -Int.natCast_add, E34, q1, q3]
      obtain ⟨e', S', g1, g2, g3⟩ := round34 (b := n * 1000) (by omega) (⟨_, _, _, _, _, _, _, rfl⟩ : Ie ns (E34 ns (some (.int (n : Nat))) a3 a4 a5 a6 a7 a8)) hT (by omega)
      refine ⟨e', S', ?_, ⟨g2, g3.le (by omega)⟩, trivial⟩
      unfold B_law_8
      rw [seq_nx st]
      exact g1)
  unfold Z_law_1
  simp only [E34] at loop
  rcases loop with ⟨e', s', g1, _, _⟩ | ⟨e', s', g1, _⟩ | ⟨_, _, _, _, _, _, hf, _⟩
  · skip
    first | apply tru_run | apply gv_run | apply nx_run | apply seq_run
    · simp [-Int.natCast_ediv, -Int.natCast_emod, -Int.natCast_mul, -Int.natCast_add, -rng1_i, r3, g1] <;> exact rfl
    dsimp only [seqK]
    simp [-Int.natCast_ediv, -Int.natCast_emod, -Int.natCast_mul, -Int.natCast_add, ]
  · skip
    first | apply tru_run | apply gv_run | apply nx_run | apply seq_run
    · simp [-Int.natCast_ediv, -Int.natCast_emod, -Int.natCast_mul, -Int.natCast_add, -rng1_i, r3, g1] <;> exact rfl
    dsimp only [seqK]
    simp [-Int.natCast_ediv, -Int.natCast_emod, -Int.natCast_mul, -Int.natCast_add, ]
  · exact hf.elim

section
def topS (i : Nat) : Stmt := PySem.Challenge.pw_swapmart_k34_lies_in.main.body.getD i (.Pass ⟨0, 0, 0, 0⟩)
abbrev s_refuse_unlike : Stmt := topS 14
theorem sc_refuse_unlike : FnScope ["one", "other"] ["one", "other"] (defScope s_refuse_unlike) := ⟨rfl, rfl, rfl, by decide +kernel, rfl, by decide +kernel, by decide +kernel⟩
abbrev s_less : Stmt := topS 12
theorem sc_less : FnScope ["one", "other", "mine", "away"] ["one", "other"] (defScope s_less) := ⟨rfl, rfl, rfl, by decide +kernel, rfl, by decide +kernel, by decide +kernel⟩
abbrev s_taken : Stmt := topS 13
theorem sc_taken : FnScope ["purse", "many", "number"] ["purse", "many"] (defScope s_taken) := ⟨rfl, rfl, rfl, by decide +kernel, rfl, by decide +kernel, by decide +kernel⟩
abbrev s_refuse_misfits : Stmt := topS 15
theorem sc_refuse_misfits : FnScope ["purses", "k", "purse"] ["purses", "k"] (defScope s_refuse_misfits) := ⟨rfl, rfl, rfl, by decide +kernel, rfl, by decide +kernel, by decide +kernel⟩
abbrev s_place_of : Stmt := topS 19
theorem sc_place_of : FnScope ["purse", "at", "number"] ["purse"] (defScope s_place_of) := ⟨rfl, rfl, rfl, by decide +kernel, rfl, by decide +kernel, by decide +kernel⟩
abbrev s_led : Stmt := topS 17
theorem sc_led : FnScope ["rungs", "purse", "rung", "often", "rest", "at", "many"] ["rungs", "purse"] (defScope s_led) := ⟨rfl, rfl, rfl, by decide +kernel, rfl, by decide +kernel, by decide +kernel⟩
abbrev s_is_made : Stmt := topS 18
theorem sc_is_made : FnScope ["rungs", "purse"] ["rungs", "purse"] (defScope s_is_made) := ⟨rfl, rfl, rfl, by decide +kernel, rfl, by decide +kernel, by decide +kernel⟩
abbrev s_leads : Stmt := topS 20
theorem sc_leads : FnScope ["rungs", "rung"] ["rungs"] (defScope s_leads) := ⟨rfl, rfl, rfl, by decide +kernel, rfl, by decide +kernel, by decide +kernel⟩
abbrev s_multiplied : Stmt := topS 22
theorem sc_multiplied : FnScope ["numbers", "told", "number"] ["numbers"] (defScope s_multiplied) := ⟨rfl, rfl, rfl, by decide +kernel, rfl, by decide +kernel, by decide +kernel⟩
abbrev s_lies_in : Stmt := topS 24
theorem sc_lies_in : FnScope ["inner", "outer", "k", "row"] ["inner", "outer", "k"] (defScope s_lies_in) := ⟨rfl, rfl, rfl, by decide +kernel, rfl, by decide +kernel, by decide +kernel⟩
abbrev s_beside : Stmt := topS 25
theorem sc_beside : FnScope ["inner", "outer", "k"] ["inner", "outer", "k"] (defScope s_beside) := ⟨rfl, rfl, rfl, by decide +kernel, rfl, by decide +kernel, by decide +kernel⟩
abbrev s__law_b_mixed : Stmt := topS 27
theorem sc__law_b_mixed : FnScope ["cell", "at", "one", "two", "three"] ["cell", "at"] (defScope s__law_b_mixed) := ⟨rfl, rfl, rfl, by decide +kernel, rfl, by decide +kernel, by decide +kernel⟩
abbrev s__law_b_take : Stmt := topS 28
theorem sc__law_b_take : FnScope ["tape", "many", "found", "at", "cell"] ["tape", "many"] (defScope s__law_b_take) := ⟨rfl, rfl, rfl, by decide +kernel, rfl, by decide +kernel, by decide +kernel⟩
abbrev s__law_b_rows : Stmt := topS 29
theorem sc__law_b_rows : FnScope ["tape", "many", "k", "far", "found", "turn", "by", "c"] ["tape", "many", "k"] (defScope s__law_b_rows) := ⟨rfl, rfl, rfl, by decide +kernel, rfl, by decide +kernel, by decide +kernel⟩
abbrev s__law_b_copy : Stmt := topS 30
theorem sc__law_b_copy : FnScope ["rows", "row"] ["rows"] (defScope s__law_b_copy) := ⟨rfl, rfl, rfl, by decide +kernel, rfl, by decide +kernel, by decide +kernel⟩
abbrev s__law_b_stair : Stmt := topS 31
theorem sc__law_b_stair : FnScope ["rows", "k", "left", "found", "place", "some", "low", "row", "sizes", "at", "rest", "many", "lesser", "number", "a", "b"] ["rows", "k"] (defScope s__law_b_stair) := ⟨rfl, rfl, rfl, by decide +kernel, rfl, by decide +kernel, by decide +kernel⟩
abbrev s__law_b_rest : Stmt := topS 32
theorem sc__law_b_rest : FnScope ["rungs", "purse", "rest", "row", "place", "many", "c", "a", "b"] ["rungs", "purse"] (defScope s__law_b_rest) := ⟨rfl, rfl, rfl, by decide +kernel, rfl, by decide +kernel, by decide +kernel⟩
abbrev s__law_b_made : Stmt := topS 33
theorem sc__law_b_made : FnScope ["rungs", "purse"] ["rungs", "purse"] (defScope s__law_b_made) := ⟨rfl, rfl, rfl, by decide +kernel, rfl, by decide +kernel, by decide +kernel⟩
abbrev s__law_b_sum : Stmt := topS 34
theorem sc__law_b_sum : FnScope ["counts", "rows", "k", "total", "count", "row", "a", "b"] ["counts", "rows", "k"] (defScope s__law_b_sum) := ⟨rfl, rfl, rfl, by decide +kernel, rfl, by decide +kernel, by decide +kernel⟩
abbrev s__law_b_pair : Stmt := topS 35
theorem sc__law_b_pair : FnScope ["tape", "kinds", "k", "one", "rows", "turn", "row", "number"] ["tape", "kinds"] (defScope s__law_b_pair) := ⟨rfl, rfl, rfl, by decide +kernel, rfl, by decide +kernel, by decide +kernel⟩
abbrev s__law_b_kinds : Stmt := topS 36
theorem sc__law_b_kinds : FnScope ["e", "some"] ["e"] (defScope s__law_b_kinds) := ⟨rfl, rfl, rfl, by decide +kernel, rfl, by decide +kernel, by decide +kernel⟩
abbrev s__law_b_word : Stmt := topS 37
theorem sc__law_b_word : FnScope ["e", "some"] ["e"] (defScope s__law_b_word) := ⟨rfl, rfl, rfl, by decide +kernel, rfl, by decide +kernel, by decide +kernel⟩
abbrev s__law_b_asked : Stmt := topS 38
theorem sc__law_b_asked : FnScope ["inner", "outer", "k", "caught", "e"] ["inner", "outer", "k"] (defScope s__law_b_asked) := ⟨rfl, rfl, rfl, by decide +kernel, rfl, by decide +kernel, by decide +kernel⟩
abbrev s__law_b_right : Stmt := topS 39
theorem sc__law_b_right : FnScope ["inner", "outer", "k", "due", "handed", "turn", "found", "row"] ["inner", "outer", "k"] (defScope s__law_b_right) := ⟨rfl, rfl, rfl, by decide +kernel, rfl, by decide +kernel, by decide +kernel⟩
abbrev s_law : Stmt := topS 40
theorem sc_law : FnScope ["script", "tape", "turn", "every", "inner", "k", "one", "other", "outer", "c", "j"] ["script"] (defScope s_law) := ⟨rfl, rfl, rfl, by decide +kernel, rfl, by decide +kernel, by decide +kernel⟩
variable {P : Program} {w : World} {K : PySem.W.Frag} {mg : Str → Option Value} {base : Heap} {cls : Nat → Value}
set_option maxHeartbeats 4000000 in
theorem ok_refuse_unlike {f : Addr} {fd : FuncData} (sy : Sy P base) (F : Fun K "refuse_unlike" "refuse_unlike" s_refuse_unlike f fd) {C_NoFit : Addr} (m_len : mg "len" = none) (E_NoFit : ExK K mg cls "NoFit" 1 C_NoFit) : FnG P w K mg base 35 f fd ["one", "other"] (spT K cls 2 (dFn 2 (D_refuse_unlike))) := by
  refine fn_ok (k := 34) F sc_refuse_unlike fun cdv A outer s H E hr tk po => ?_
  have nd := sc_refuse_unlike.nd
  have hu : (A.deeper (envOfC "refuse_unlike" (defScope s_refuse_unlike) s.heap.objs.size f cdv)).units + 64 < cLine := hr.units
  exact ⟨_, (sone (sif (yne hu (xb call_len_seq bs_len m_len (acons (xv 0) anil)) (xb call_len_seq bs_len m_len (acons (xv 1) anil))) (sone (sraise E_NoFit rfl tk (xjoin (jcons xstr (jcons (xfmt (xb call_len_seq bs_len m_len (acons (xv 0) anil))) (jcons xstr (jcons (xfmt (xb call_len_seq bs_len m_len (acons (xv 1) anil))) jnil))))))) snil))⟩
set_option maxHeartbeats 4000000 in
theorem ok_less {f : Addr} {fd : FuncData} (sy : Sy P base) (F : Fun K "less" "less" s_less f fd) (K_refuse_unlike : Fk P w K mg base cls "refuse_unlike" 35 2 (G_refuse_unlike)) (m_zip : mg "zip" = none) : FnG P w K mg base 36 f fd ["one", "other"] (spT K cls 2 (dFn 4 (D_less))) := by
  refine fn_ok (k := 35) F sc_less fun cdv A outer s H E hr tk po => ?_
  have nd := sc_less.nd
  have hu : (A.deeper (envOfC "less" (defScope s_less) s.heap.objs.size f cdv)).units + 64 < cLine := hr.units
  exact ⟨_, (scons (sexpr (xcall K_refuse_unlike hr tk (acons (xv 0) (acons (xv 1) anil))))
  (sone (sret (by exact (xlc [("mine", 2), ("away", 3)] rfl nd (izip m_zip (acons (xv 0) (acons (xv 1) anil))) (blkOk_by (N := ["one", "other", "mine", "away"]) (sc := defScope s_less) (by decide +kernel)) (own_tup (own_cons (by decide) (own_cons (by decide) own_nil))) (fun _ _ _ _ _ => (gtup rfl (gscons (gname 2 nd) (gscons (gname 3 nd) gsnil)))) (fun _ _ _ _ _ => tsnil) (fun _ _ _ _ _ => (xsub (xv 2) (xv 3))))))))⟩
set_option maxHeartbeats 4000000 in
theorem ok_taken {f : Addr} {fd : FuncData} (sy : Sy P base) (F : Fun K "taken" "taken" s_taken f fd) : FnG P w K mg base 35 f fd ["purse", "many"] (spT K cls 2 (dFn 3 (D_taken))) := by
  refine fn_ok (k := 34) F sc_taken fun cdv A outer s H E hr tk po => ?_
  have nd := sc_taken.nd
  have hu : (A.deeper (envOfC "taken" (defScope s_taken) s.heap.objs.size f cdv)).units + 64 < cLine := hr.units
  exact ⟨_, (sone (sret (by exact (xlc [("number", 2)] rfl nd (iit (xv 0)) (blkOk_by (N := ["purse", "many", "number"]) (sc := defScope s_taken) (by decide +kernel)) (own_name (by decide)) (fun _ _ _ _ _ => (gname 2 nd)) (fun _ _ _ _ _ => tsnil) (fun _ _ _ _ _ => (xmul (xv 1) (xv 2)))))))⟩
set_option maxHeartbeats 4000000 in
theorem ok_refuse_misfits {f : Addr} {fd : FuncData} (sy : Sy P base) (F : Fun K "refuse_misfits" "refuse_misfits" s_refuse_misfits f fd) {C_NoFit : Addr} (m_len : mg "len" = none) (E_NoFit : ExK K mg cls "NoFit" 1 C_NoFit) : FnG P w K mg base 35 f fd ["purses", "k"] (spT K cls 2 (dFn 3 (D_refuse_misfits))) := by
  refine fn_ok (k := 34) F sc_refuse_misfits fun cdv A outer s H E hr tk po => ?_
  have nd := sc_refuse_misfits.nd
  have hu : (A.deeper (envOfC "refuse_misfits" (defScope s_refuse_misfits) s.heap.objs.size f cdv)).units + 64 < cLine := hr.units
  exact ⟨_, (sone (sfor po rfl (iit (xv 0)) (gname 2 nd)
  (sone (sif (yne hu (xb call_len_seq bs_len m_len (acons (xv 2) anil)) (xv 1)) (sone (sraise E_NoFit rfl tk (xjoin (jcons xstr (jcons (xfmt (xb call_len_seq bs_len m_len (acons (xv 2) anil))) (jcons xstr (jcons (xfmt (xv 1)) jnil))))))) snil))))⟩
set_option maxHeartbeats 4000000 in
theorem ok_place_of {f : Addr} {fd : FuncData} (sy : Sy P base) (F : Fun K "place_of" "place_of" s_place_of f fd) (m_enumerate : mg "enumerate" = none) (m_len : mg "len" = none) : FnG P w K mg base 35 f fd ["purse"] (spT K cls 1 (dFn 3 (D_place_of))) := by
  refine fn_ok (k := 34) F sc_place_of fun cdv A outer s H E hr tk po => ?_
  have nd := sc_place_of.nd
  have hu : (A.deeper (envOfC "place_of" (defScope s_place_of) s.heap.objs.size f cdv)).units + 64 < cLine := hr.units
  exact ⟨_, (scons (sfor po rfl (ienum m_enumerate (acons (xv 0) anil)) (gtup rfl (gscons (gname 1 nd) (gscons (gname 2 nd) gsnil)))
  (sone (sif (yne hu (xv 2) xint) (sone (sret (xv 1))) snil)))
  (sone (sret (xb call_len_seq bs_len m_len (acons (xv 0) anil)))))⟩
set_option maxHeartbeats 4000000 in
theorem ok_led {f : Addr} {fd : FuncData} (sy : Sy P base) (F : Fun K "led" "led" s_led f fd) (K_less : Fk P w K mg base cls "less" 36 2 (G_less)) (K_place_of : Fk P w K mg base cls "place_of" 36 1 (G_place_of)) (K_refuse_unlike : Fk P w K mg base cls "refuse_unlike" 36 2 (G_refuse_unlike)) (K_taken : Fk P w K mg base cls "taken" 36 2 (G_taken)) (m_list : mg "list" = none) : FnG P w K mg base 37 f fd ["rungs", "purse"] (spT K cls 2 (dFn 7 (D_led))) := by
  refine fn_ok (k := 36) F sc_led fun cdv A outer s H E hr tk po => ?_
  have nd := sc_led.nd
  have py : Pyl (cxOf (L2.CX P w) P w K mg base ["script", "tape", "turn", "every", "inner", "k", "one", "other", "outer", "c", "j"] "led" (defScope s_led) f cdv A outer s H E) := pyl_of sy hr (by decide) rfl rfl
  have hu : (A.deeper (envOfC "led" (defScope s_led) s.heap.objs.size f cdv)).units + 64 < cLine := hr.units
  exact ⟨_, (scons (sfor po rfl (iit (xv 0)) (gname 2 nd)
  (sone (sexpr (xcall K_refuse_unlike hr tk (acons (xv 2) (acons (xv 1) anil))))))
  (scons (spar 3 4 rfl nd (xlst anil) (xbT call_list_of bs_list m_list (acons (xv 1) anil)))
  (scons (sfor po rfl (iit (xv 0)) (gname 2 nd)
  (scons (sset 5 nd (xcall K_place_of hr tk (acons (xv 2) anil)))
  (scons (sset 6 nd (xfdiv py (xix (xv 4) (xv 5)) (xix (xv 2) (xv 5))))
  (scons (sapp (xv 3) (xv 6))
  (sone (sif (yne hu (xv 6) xint) (sone (sset 4 nd (xcall K_less hr tk (acons (xv 4) (acons (xcall K_taken hr tk (acons (xv 2) (acons (xv 6) anil))) anil))))) snil))))))
  (sone (sret (xtup (acons (xv 3) (acons (xv 4) anil))))))))⟩
set_option maxHeartbeats 4000000 in
theorem ok_is_made {f : Addr} {fd : FuncData} (sy : Sy P base) (F : Fun K "is_made" "is_made" s_is_made f fd) (K_led : Fk P w K mg base cls "led" 37 2 (G_led)) (m_any : mg "any" = none) : FnG P w K mg base 38 f fd ["rungs", "purse"] (spT K cls 2 (dFn 2 (D_is_made))) := by
  refine fn_ok (k := 37) F sc_is_made fun cdv A outer s H E hr tk po => ?_
  have nd := sc_is_made.nd
  have hu : (A.deeper (envOfC "is_made" (defScope s_is_made) s.heap.objs.size f cdv)).units + 64 < cLine := hr.units
  exact ⟨_, (sone (sret (xnot (xb (cr_anyM rfl) bs_any m_any (acons (xix (xcall K_led hr tk (acons (xv 0) (acons (xv 1) anil))) xint) anil)))))⟩
set_option maxHeartbeats 4000000 in
theorem ok_leads {f : Addr} {fd : FuncData} (sy : Sy P base) (F : Fun K "leads" "leads" s_leads f fd) (K_place_of : Fk P w K mg base cls "place_of" 35 1 (G_place_of)) : FnG P w K mg base 36 f fd ["rungs"] (spT K cls 1 (dFn 2 (D_leads))) := by
  refine fn_ok (k := 35) F sc_leads fun cdv A outer s H E hr tk po => ?_
  have nd := sc_leads.nd
  have hu : (A.deeper (envOfC "leads" (defScope s_leads) s.heap.objs.size f cdv)).units + 64 < cLine := hr.units
  exact ⟨_, (sone (sret (by exact (xlc [("rung", 1)] rfl nd (iit (xv 0)) (blkOk_by (N := ["rungs", "rung"]) (sc := defScope s_leads) (by decide +kernel)) (own_name (by decide)) (fun _ _ _ _ _ => (gname 1 nd)) (fun _ _ _ _ _ => tsnil) (fun _ _ _ _ _ => (xix (xv 1) (xcall K_place_of hr takes0 (acons (xv 1) anil))))))))⟩
set_option maxHeartbeats 4000000 in
theorem ok_multiplied {f : Addr} {fd : FuncData} (sy : Sy P base) (F : Fun K "multiplied" "multiplied" s_multiplied f fd) : FnG P w K mg base 35 f fd ["numbers"] (spT K cls 1 (dFn 3 (D_multiplied))) := by
  refine fn_ok (k := 34) F sc_multiplied fun cdv A outer s H E hr tk po => ?_
  have nd := sc_multiplied.nd
  have hu : (A.deeper (envOfC "multiplied" (defScope s_multiplied) s.heap.objs.size f cdv)).units + 64 < cLine := hr.units
  exact ⟨_, (scons (sset 1 nd xint)
  (scons (sfor po rfl (iit (xv 0)) (gname 2 nd)
  (sone (sset 1 nd (xmul (xv 1) (xv 2)))))
  (sone (sret (xv 1)))))⟩
set_option maxHeartbeats 4000000 in
theorem ok_lies_in {f : Addr} {fd : FuncData} (sy : Sy P base) (F : Fun K "lies_in" "lies_in" s_lies_in f fd) (K_is_made : Fk P w K mg base cls "is_made" 38 2 (G_is_made)) (K_refuse_misfits : Fk P w K mg base cls "refuse_misfits" 38 2 (G_refuse_misfits)) (m_all : mg "all" = none) : FnG P w K mg base 39 f fd ["inner", "outer", "k"] (spT K cls 3 (dFn 4 (D_lies_in))) := by
  refine fn_ok (k := 38) F sc_lies_in fun cdv A outer s H E hr tk po => ?_
  have nd := sc_lies_in.nd
  have hu : (A.deeper (envOfC "lies_in" (defScope s_lies_in) s.heap.objs.size f cdv)).units + 64 < cLine := hr.units
  exact ⟨_, (scons (sexpr (xcall K_refuse_misfits hr tk (acons (xadd (xv 0) (xv 1)) (acons (xv 2) anil))))
  (sone (sret (xb (cr_allM rfl) bs_all m_all (acons (by exact (xlc [("row", 3)] rfl nd (iit (xv 0)) (blkOk_by (N := ["inner", "outer", "k", "row"]) (sc := defScope s_lies_in) (by decide +kernel)) (own_name (by decide)) (fun _ _ _ _ _ => (gname 3 nd)) (fun _ _ _ _ _ => tsnil) (fun _ _ _ _ _ => (xcall K_is_made hr takes0 (acons (xv 1) (acons (xv 3) anil)))))) anil)))))⟩
set_option maxHeartbeats 4000000 in
theorem ok_beside {f : Addr} {fd : FuncData} (sy : Sy P base) (F : Fun K "beside" "beside" s_beside f fd) {C_NoPart : Addr} (K_leads : Fk P w K mg base cls "leads" 39 1 (G_leads)) (K_lies_in : Fk P w K mg base cls "lies_in" 39 3 (G_lies_in)) (K_multiplied : Fk P w K mg base cls "multiplied" 39 1 (G_multiplied)) (m_len : mg "len" = none) (E_NoPart : ExK K mg cls "NoPart" 2 C_NoPart) : FnG P w K mg base 40 f fd ["inner", "outer", "k"] (spT K cls 3 (dFn 3 (D_beside))) := by
  refine fn_ok (k := 39) F sc_beside fun cdv A outer s H E hr tk po => ?_
  have nd := sc_beside.nd
  have py : Pyl (cxOf (L2.CX P w) P w K mg base ["script", "tape", "turn", "every", "inner", "k", "one", "other", "outer", "c", "j"] "beside" (defScope s_beside) f cdv A outer s H E) := pyl_of sy hr (by decide) rfl rfl
  have hu : (A.deeper (envOfC "beside" (defScope s_beside) s.heap.objs.size f cdv)).units + 64 < cLine := hr.units
  exact ⟨_, (scons (sif (ynot (ytru (xcall K_lies_in hr tk (acons (xv 0) (acons (xv 1) (acons (xv 2) anil)))))) (sone (sraise E_NoPart rfl tk xstr)) snil)
  (scons (sif (yne hu (xb call_len_seq bs_len m_len (acons (xv 0) anil)) (xb call_len_seq bs_len m_len (acons (xv 1) anil))) (sone (sret xint)) snil)
  (sone (sret (xfdiv py (xcall K_multiplied hr tk (acons (xcall K_leads hr tk (acons (xv 0) anil)) anil)) (xcall K_multiplied hr tk (acons (xcall K_leads hr tk (acons (xv 1) anil)) anil)))))))⟩
set_option maxHeartbeats 4000000 in
theorem ok__law_b_mixed {f : Addr} {fd : FuncData} (sy : Sy P base) (F : Fun K "_law_b_mixed" "_law_b_mixed" s__law_b_mixed f fd) : FnG P w K mg base 35 f fd ["cell", "at"] (spT K cls 2 (dFn 5 (D__law_b_mixed))) := by
  refine fn_ok (k := 34) F sc__law_b_mixed fun cdv A outer s H E hr tk po => ?_
  have nd := sc__law_b_mixed.nd
  have hu : (A.deeper (envOfC "_law_b_mixed" (defScope s__law_b_mixed) s.heap.objs.size f cdv)).units + 64 < cLine := hr.units
  exact ⟨_, (scons (sif (yge (xv 0) (xpow xint xint)) (sone (sret (xv 0))) snil)
  (scons (sset 2 nd (xmod (xadd (xadd (xmul (xmod (xv 0) xint) xint) (xmul (xv 1) xint)) xint) xint))
  (scons (sset 3 nd (xmod (xadd (xadd (xmul (xv 2) (xv 2)) (xmul xint (xv 1))) xint) xint))
  (scons (sset 4 nd (xmod (xadd (xadd (xmul (xv 3) (xv 3)) (xmul xint (xv 2))) (xv 1)) xint))
  (sone (sret (xadd (xmul (xv 3) xint) (xv 4))))))))⟩
set_option maxHeartbeats 4000000 in
theorem ok__law_b_take {f : Addr} {fd : FuncData} (sy : Sy P base) (F : Fun K "_law_b_take" "_law_b_take" s__law_b_take f fd) (K__law_b_mixed : Fk P w K mg base cls "_law_b_mixed" 35 2 (G__law_b_mixed)) (m_len : mg "len" = none) : FnG P w K mg base 36 f fd ["tape", "many"] (spT K cls 2 (dFnR 5 (D__law_b_take))) := by
  refine fn_okR (k := 35) F sc__law_b_take fun cdv A outer s H E hr tk po => ?_
  have nd := sc__law_b_take.nd
  have py : Pyl (cxOf (L2.CX P w) P w K mg base ["script", "tape", "turn", "every", "inner", "k", "one", "other", "outer", "c", "j"] "_law_b_take" (defScope s__law_b_take) f cdv A outer s H E) := pyl_of sy hr (by decide) rfl rfl
  have hu : (A.deeper (envOfC "_law_b_take" (defScope s__law_b_take) s.heap.objs.size f cdv)).units + 64 < cLine := hr.units
  exact ⟨_, (scons (sif (ylt (xix (xv 0) xint) (xv 1)) (scons (sset 3 nd (xix (xv 0) xint))
  (scons (sset 4 nd (xadd (xmul xint (xv 3)) xint))
  (scons (sif (ylt (xv 3) (xb call_len_seq bs_len m_len (acons (xix (xv 0) xint) anil))) (sone (sset 4 nd (xix (xix (xv 0) xint) (xv 3)))) (sone (sif (yne hu (xix (xv 0) xint) (xlst anil)) (sone (sset 4 nd (xadd (xmod (xix (xix (xv 0) xint) (xmod (xmul (xv 3) xint) (xb call_len_seq bs_len m_len (acons (xix (xv 0) xint) anil)))) xint) (xmul (xv 3) xint)))) snil)))
  (scons (ssetI (xv 0) (xadd (xv 3) xint) xint)
  (sone (ssetI (xv 0) (xcall K__law_b_mixed hr tk (acons (xv 4) (acons (xv 3) anil))) xint)))))) snil)
  (scons (sset 2 nd (xmod (xix (xv 0) xint) (xv 1)))
  (scons (ssetI (xv 0) (xfdiv py (xix (xv 0) xint) (xv 1)) xint)
  (sone (sret (xv 2))))))⟩
set_option maxHeartbeats 4000000 in
theorem ok__law_b_rows {f : Addr} {fd : FuncData} (sy : Sy P base) (F : Fun K "_law_b_rows" "_law_b_rows" s__law_b_rows f fd) (K__law_b_take : Fk P w K mg base cls "_law_b_take" 36 2 (G__law_b_take)) (m_range : mg "range" = none) : FnG P w K mg base 37 f fd ["tape", "many", "k"] (spT K cls 3 (dFnR 8 (D__law_b_rows))) := by
  refine fn_okR (k := 36) F sc__law_b_rows fun cdv A outer s H E hr tk po => ?_
  have nd := sc__law_b_rows.nd
  have hu : (A.deeper (envOfC "_law_b_rows" (defScope s__law_b_rows) s.heap.objs.size f cdv)).units + 64 < cLine := hr.units
  exact ⟨_, (scons (sset 3 nd (xix (xlst (acons xint (acons xint (acons xint (acons xint (acons xint (acons (xpow xint xint) anil))))))) (xcall K__law_b_take hr tk (acons (xv 0) (acons xint anil)))))
  (scons (sset 4 nd (xlst anil))
  (scons (sfor po rfl (irng1 m_range (acons (xv 1) anil)) (gname 5 nd)
  (scons (sset 6 nd (xix (xlst (acons xint (acons xint (acons xint (acons xint (acons xint (acons xint (acons xint (acons xint anil))))))))) (xcall K__law_b_take hr tk (acons (xv 0) (acons xint anil)))))
  (sone (sapp (xv 4) (by exact (xlc [("c", 7)] rfl nd (irng1 m_range (acons (xv 2) anil)) (blkOk_by (N := ["tape", "many", "k", "far", "found", "turn", "by", "c"]) (sc := defScope s__law_b_rows) (by decide +kernel)) (own_name (by decide)) (fun _ _ _ _ _ => (gname 7 nd)) (fun _ _ _ _ _ => tsnil) (fun _ _ _ _ _ => (xmul (xv 6) (xsub (xcall K__law_b_take hr takes0 (acons (xv 0) (acons (xadd (xmul xint (xv 3)) xint) anil))) (xv 3))))))))))
  (sone (sret (xv 4))))))⟩
set_option maxHeartbeats 4000000 in
theorem ok__law_b_copy {f : Addr} {fd : FuncData} (sy : Sy P base) (F : Fun K "_law_b_copy" "_law_b_copy" s__law_b_copy f fd) (m_list : mg "list" = none) : FnG P w K mg base 35 f fd ["rows"] (spT K cls 1 (dFn 2 (D__law_b_copy))) := by
  refine fn_ok (k := 34) F sc__law_b_copy fun cdv A outer s H E hr tk po => ?_
  have nd := sc__law_b_copy.nd
  have hu : (A.deeper (envOfC "_law_b_copy" (defScope s__law_b_copy) s.heap.objs.size f cdv)).units + 64 < cLine := hr.units
  exact ⟨_, (sone (sret (by exact (xlc [("row", 1)] rfl nd (iit (xv 0)) (blkOk_by (N := ["rows", "row"]) (sc := defScope s__law_b_copy) (by decide +kernel)) (own_name (by decide)) (fun _ _ _ _ _ => (gname 1 nd)) (fun _ _ _ _ _ => tsnil) (fun _ _ _ _ _ => (xbT call_list_of bs_list m_list (acons (xv 1) anil)))))))⟩
set_option maxHeartbeats 4000000 in
theorem ok__law_b_stair (fuel : Nat) {f : Addr} {fd : FuncData} (sy : Sy P base) (F : Fun K "_law_b_stair" "_law_b_stair" s__law_b_stair f fd) (m_abs : mg "abs" = none) (m_len : mg "len" = none) (m_list : mg "list" = none) (m_min : mg "min" = none) (m_range : mg "range" = none) (m_zip : mg "zip" = none) : FnG P w K mg base 35 f fd ["rows", "k"] (spT K cls 2 (dFn 16 (D__law_b_stair fuel))) := by
  refine fn_ok (k := 34) F sc__law_b_stair fun cdv A outer s H E hr tk po => ?_
  have nd := sc__law_b_stair.nd
  have py : Pyl (cxOf (L2.CX P w) P w K mg base ["script", "tape", "turn", "every", "inner", "k", "one", "other", "outer", "c", "j"] "_law_b_stair" (defScope s__law_b_stair) f cdv A outer s H E) := pyl_of sy hr (by decide) rfl rfl
  have hu : (A.deeper (envOfC "_law_b_stair" (defScope s__law_b_stair) s.heap.objs.size f cdv)).units + 64 < cLine := hr.units
  exact ⟨_, (scons (ssetLc 2 [("row", 7)] rfl nd (iit (xv 0)) (blkOk_by (N := ["rows", "k", "left", "found", "place", "some", "low", "row", "sizes", "at", "rest", "many", "lesser", "number", "a", "b"]) (sc := defScope s__law_b_stair) (by decide +kernel)) (own_name (by decide)) (fun _ _ _ _ _ => (gname 7 nd)) (fun _ _ _ _ _ => tsnil) (fun _ _ _ _ _ => (xbT call_list_of bs_list m_list (acons (xv 7) anil))))
  (scons (sset 3 nd (xlst anil))
  (scons (sfor po rfl (irng1 m_range (acons (xv 1) anil)) (gname 4 nd)
  (scons (ssetLc 5 [("row", 7)] rfl nd (iit (xv 2)) (blkOk_by (N := ["rows", "k", "left", "found", "place", "some", "low", "row", "sizes", "at", "rest", "many", "lesser", "number", "a", "b"]) (sc := defScope s__law_b_stair) (by decide +kernel)) (own_name (by decide)) (fun _ _ _ _ _ => (gname 7 nd)) (fun _ _ _ _ _ => (tsone (yne hu (xix (xv 7) (xv 4)) xint))) (fun _ _ _ _ _ => (xv 7)))
  (scons (ssetLc 2 [("row", 7)] rfl nd (iit (xv 2)) (blkOk_by (N := ["rows", "k", "left", "found", "place", "some", "low", "row", "sizes", "at", "rest", "many", "lesser", "number", "a", "b"]) (sc := defScope s__law_b_stair) (by decide +kernel)) (own_name (by decide)) (fun _ _ _ _ _ => (gname 7 nd)) (fun _ _ _ _ _ => (tsone (yeq hu (xix (xv 7) (xv 4)) xint))) (fun _ _ _ _ _ => (xv 7)))
  (scons (swhile fuel po (ygt (xb call_len_seq bs_len m_len (acons (xv 5) anil)) xint)
  (scons (ssetLc 8 [("row", 7)] rfl nd (iit (xv 5)) (blkOk_by (N := ["rows", "k", "left", "found", "place", "some", "low", "row", "sizes", "at", "rest", "many", "lesser", "number", "a", "b"]) (sc := defScope s__law_b_stair) (by decide +kernel)) (own_name (by decide)) (fun _ _ _ _ _ => (gname 7 nd)) (fun _ _ _ _ _ => tsnil) (fun _ _ _ _ _ => (xb call_abs bs_abs m_abs (acons (xix (xv 7) (xv 4)) anil))))
  (scons (sset 9 nd (xindex (xv 8) (xb (cr_min rfl) bs_minL m_min (acons (xv 8) anil))))
  (scons (sset 6 nd (xix (xv 5) (xv 9)))
  (scons (sset 10 nd (xadd (xslc (xv 5) ono (osm (xv 9))) (xslc (xv 5) (osm (xadd (xv 9) xint)) ono)))
  (scons (sset 5 nd (xlst (acons (xv 6) anil)))
  (sone (sfor po rfl (iit (xv 10)) (gname 7 nd)
  (scons (sset 11 nd (xfdiv py (xix (xv 7) (xv 4)) (xix (xv 6) (xv 4))))
  (scons (ssetLc 12 [("a", 14), ("b", 15)] rfl nd (izip m_zip (acons (xv 7) (acons (xv 6) anil))) (blkOk_by (N := ["rows", "k", "left", "found", "place", "some", "low", "row", "sizes", "at", "rest", "many", "lesser", "number", "a", "b"]) (sc := defScope s__law_b_stair) (by decide +kernel)) (own_tup (own_cons (by decide) (own_cons (by decide) own_nil))) (fun _ _ _ _ _ => (gtup rfl (gscons (gname 14 nd) (gscons (gname 15 nd) gsnil)))) (fun _ _ _ _ _ => tsnil) (fun _ _ _ _ _ => (xsub (xv 14) (xmul (xv 11) (xv 15)))))
  (sone (sif (yeq hu (xix (xv 12) (xv 4)) xint) (sone (sapp (xv 2) (xv 12))) (sone (sapp (xv 5) (xv 12)))))))))))))))
  (sone (sfor po rfl (iit (xv 5)) (gname 6 nd)
  (scons (sif (ylt (xix (xv 6) (xv 4)) xint) (sone (sset 6 nd (xlc [("number", 13)] rfl nd (iit (xv 6)) (blkOk_by (N := ["rows", "k", "left", "found", "place", "some", "low", "row", "sizes", "at", "rest", "many", "lesser", "number", "a", "b"]) (sc := defScope s__law_b_stair) (by decide +kernel)) (own_name (by decide)) (fun _ _ _ _ _ => (gname 13 nd)) (fun _ _ _ _ _ => tsnil) (fun _ _ _ _ _ => (xsub xint (xv 13)))))) snil)
  (sone (sset 3 nd (xadd (by exact (xlc [("row", 7)] rfl nd (iit (xv 3)) (blkOk_by (N := ["rows", "k", "left", "found", "place", "some", "low", "row", "sizes", "at", "rest", "many", "lesser", "number", "a", "b"]) (sc := defScope s__law_b_stair) (by decide +kernel)) (own_name (by decide)) (fun _ _ _ _ _ => (gname 7 nd)) (fun _ _ _ _ _ => tsnil) (fun _ _ _ _ _ => (by exact (xlc [("a", 14), ("b", 15)] rfl nd (izip m_zip (acons (xv 7) (acons (xv 6) anil))) (blkOk_by (N := ["rows", "k", "left", "found", "place", "some", "low", "row", "sizes", "at", "rest", "many", "lesser", "number", "a", "b"]) (by first | rfl | with_unfolding_all rfl)) (own_tup (own_cons (by decide) (own_cons (by decide) own_nil))) (fun _ _ _ _ _ => (gtup rfl (gscons (gname 14 nd) (gscons (gname 15 nd) gsnil)))) (fun _ _ _ _ _ => tsnil) (fun _ _ _ _ _ => (xsub (xv 14) (xmul (xfdiv py (xix (xv 7) (xv 4)) (xix (xv 6) (xv 4))) (xv 15))))))))) (xlst (acons (xv 6) anil))))))))))))
  (sone (sret (xv 3))))))⟩
set_option maxHeartbeats 4000000 in
theorem ok__law_b_rest {f : Addr} {fd : FuncData} (sy : Sy P base) (F : Fun K "_law_b_rest" "_law_b_rest" s__law_b_rest f fd) (m_len : mg "len" = none) (m_list : mg "list" = none) (m_range : mg "range" = none) (m_zip : mg "zip" = none) : FnG P w K mg base 35 f fd ["rungs", "purse"] (spT K cls 2 (dFn 9 (D__law_b_rest))) := by
  refine fn_ok (k := 34) F sc__law_b_rest fun cdv A outer s H E hr tk po => ?_
  have nd := sc__law_b_rest.nd
  have py : Pyl (cxOf (L2.CX P w) P w K mg base ["script", "tape", "turn", "every", "inner", "k", "one", "other", "outer", "c", "j"] "_law_b_rest" (defScope s__law_b_rest) f cdv A outer s H E) := pyl_of sy hr (by decide) rfl rfl
  have hu : (A.deeper (envOfC "_law_b_rest" (defScope s__law_b_rest) s.heap.objs.size f cdv)).units + 64 < cLine := hr.units
  exact ⟨_, (scons (sset 2 nd (xbT call_list_of bs_list m_list (acons (xv 1) anil)))
  (scons (sfor po rfl (iit (xv 0)) (gname 3 nd)
  (scons (sset 4 nd (xix (by exact (xlc [("c", 6)] rfl nd (irng1 m_range (acons (xb call_len_seq bs_len m_len (acons (xv 3) anil)) anil)) (blkOk_by (N := ["rungs", "purse", "rest", "row", "place", "many", "c", "a", "b"]) (sc := defScope s__law_b_rest) (by decide +kernel)) (own_name (by decide)) (fun _ _ _ _ _ => (gname 6 nd)) (fun _ _ _ _ _ => (tsone (yne hu (xix (xv 3) (xv 6)) xint))) (fun _ _ _ _ _ => (xv 6)))) xint))
  (scons (sset 5 nd (xfdiv py (xix (xv 2) (xv 4)) (xix (xv 3) (xv 4))))
  (sone (ssetLc 2 [("a", 7), ("b", 8)] rfl nd (izip m_zip (acons (xv 2) (acons (xv 3) anil))) (blkOk_by (N := ["rungs", "purse", "rest", "row", "place", "many", "c", "a", "b"]) (sc := defScope s__law_b_rest) (by decide +kernel)) (own_tup (own_cons (by decide) (own_cons (by decide) own_nil))) (fun _ _ _ _ _ => (gtup rfl (gscons (gname 7 nd) (gscons (gname 8 nd) gsnil)))) (fun _ _ _ _ _ => tsnil) (fun _ _ _ _ _ => (xsub (xv 7) (xmul (xv 5) (xv 8)))))))))
  (sone (sret (xv 2)))))⟩
set_option maxHeartbeats 4000000 in
theorem ok__law_b_made {f : Addr} {fd : FuncData} (sy : Sy P base) (F : Fun K "_law_b_made" "_law_b_made" s__law_b_made f fd) (K__law_b_rest : Fk P w K mg base cls "_law_b_rest" 35 2 (G__law_b_rest)) (m_any : mg "any" = none) : FnG P w K mg base 36 f fd ["rungs", "purse"] (spT K cls 2 (dFn 2 (D__law_b_made))) := by
  refine fn_ok (k := 35) F sc__law_b_made fun cdv A outer s H E hr tk po => ?_
  have nd := sc__law_b_made.nd
  have hu : (A.deeper (envOfC "_law_b_made" (defScope s__law_b_made) s.heap.objs.size f cdv)).units + 64 < cLine := hr.units
  exact ⟨_, (sone (sret (xnot (xb (cr_anyM rfl) bs_any m_any (acons (xcall K__law_b_rest hr tk (acons (xv 0) (acons (xv 1) anil))) anil)))))⟩
set_option maxHeartbeats 4000000 in
theorem ok__law_b_sum {f : Addr} {fd : FuncData} (sy : Sy P base) (F : Fun K "_law_b_sum" "_law_b_sum" s__law_b_sum f fd) (m_zip : mg "zip" = none) : FnG P w K mg base 35 f fd ["counts", "rows", "k"] (spT K cls 3 (dFn 8 (D__law_b_sum))) := by
  refine fn_ok (k := 34) F sc__law_b_sum fun cdv A outer s H E hr tk po => ?_
  have nd := sc__law_b_sum.nd
  have hu : (A.deeper (envOfC "_law_b_sum" (defScope s__law_b_sum) s.heap.objs.size f cdv)).units + 64 < cLine := hr.units
  exact ⟨_, (scons (sset 3 nd (xmul (xlst (acons xint anil)) (xv 2)))
  (scons (sfor po rfl (izip m_zip (acons (xv 0) (acons (xv 1) anil))) (gtup rfl (gscons (gname 4 nd) (gscons (gname 5 nd) gsnil)))
  (sone (ssetLc 3 [("a", 6), ("b", 7)] rfl nd (izip m_zip (acons (xv 3) (acons (xv 5) anil))) (blkOk_by (N := ["counts", "rows", "k", "total", "count", "row", "a", "b"]) (sc := defScope s__law_b_sum) (by decide +kernel)) (own_tup (own_cons (by decide) (own_cons (by decide) own_nil))) (fun _ _ _ _ _ => (gtup rfl (gscons (gname 6 nd) (gscons (gname 7 nd) gsnil)))) (fun _ _ _ _ _ => tsnil) (fun _ _ _ _ _ => (xadd (xv 6) (xmul (xv 4) (xv 7)))))))
  (sone (sret (xv 3)))))⟩
set_option maxHeartbeats 4000000 in
theorem ok__law_b_pair (fuel : Nat) {f : Addr} {fd : FuncData} (sy : Sy P base) (F : Fun K "_law_b_pair" "_law_b_pair" s__law_b_pair f fd) (K__law_b_rows : Fk P w K mg base cls "_law_b_rows" 37 3 (G__law_b_rows)) (K__law_b_stair : Fk P w K mg base cls "_law_b_stair" 37 2 (G__law_b_stair fuel)) (K__law_b_sum : Fk P w K mg base cls "_law_b_sum" 37 3 (G__law_b_sum)) (K__law_b_take : Fk P w K mg base cls "_law_b_take" 37 2 (G__law_b_take)) (m_range : mg "range" = none) : FnG P w K mg base 38 f fd ["tape", "kinds"] (spT K cls 2 (dFnR 8 (D__law_b_pair fuel))) := by
  refine fn_okR (k := 37) F sc__law_b_pair fun cdv A outer s H E hr tk po => ?_
  have nd := sc__law_b_pair.nd
  have hu : (A.deeper (envOfC "_law_b_pair" (defScope s__law_b_pair) s.heap.objs.size f cdv)).units + 64 < cLine := hr.units
  exact ⟨_, (scons (sset 2 nd (xcall K__law_b_take hr tk (acons (xv 0) (acons (xadd (xv 1) xint) anil))))
  (scons (sset 3 nd (xcall K__law_b_stair hr tk (acons (xcall K__law_b_rows hr tk (acons (xv 0) (acons (xcall K__law_b_take hr tk (acons (xv 0) (acons xint anil))) (acons (xv 2) anil)))) (acons (xv 2) anil))))
  (scons (sset 4 nd (xcall K__law_b_rows hr tk (acons (xv 0) (acons (xcall K__law_b_take hr tk (acons (xv 0) (acons xint anil))) (acons (xv 2) anil)))))
  (scons (sif (yeq hu (xcall K__law_b_take hr tk (acons (xv 0) (acons xint anil))) xint) (sone (ssetLc 4 [("turn", 5)] rfl nd (irng1 m_range (acons xint anil)) (blkOk_by (N := ["tape", "kinds", "k", "one", "rows", "turn", "row", "number"]) (sc := defScope s__law_b_pair) (by decide +kernel)) (own_name (by decide)) (fun _ _ _ _ _ => (gname 5 nd)) (fun _ _ _ _ _ => tsnil) (fun _ _ _ _ _ => (xcall K__law_b_sum hr takes0 (acons (by exact (xlc [("row", 6)] rfl nd (iit (xv 3)) (blkOk_by (N := ["tape", "kinds", "k", "one", "rows", "turn", "row", "number"]) (by first | rfl | with_unfolding_all rfl)) (own_name (by decide)) (fun _ _ _ _ _ => (gname 6 nd)) (fun _ _ _ _ _ => tsnil) (fun _ _ _ _ _ => (xsub (xcall K__law_b_take hr takes0 (acons (xv 0) (acons xint anil))) xint)))) (acons (xv 3) (acons (xv 2) anil))))))) snil)
  (scons (sif (yeq hu (xcall K__law_b_take hr tk (acons (xv 0) (acons xint anil))) xint) (sone (sset 4 nd (xadd (xslc (xv 4) ono (osm xint)) (by exact (xlc [("row", 6)] rfl nd (iit (xv 3)) (blkOk_by (N := ["tape", "kinds", "k", "one", "rows", "turn", "row", "number"]) (sc := defScope s__law_b_pair) (by decide +kernel)) (own_name (by decide)) (fun _ _ _ _ _ => (gname 6 nd)) (fun _ _ _ _ _ => tsnil) (fun _ _ _ _ _ => (by exact (xlc [("number", 7)] rfl nd (iit (xv 6)) (blkOk_by (N := ["tape", "kinds", "k", "one", "rows", "turn", "row", "number"]) (by first | rfl | with_unfolding_all rfl)) (own_name (by decide)) (fun _ _ _ _ _ => (gname 7 nd)) (fun _ _ _ _ _ => tsnil) (fun _ _ _ _ _ => (xmul (xadd xint (xcall K__law_b_take hr takes0 (acons (xv 0) (acons xint anil)))) (xv 7))))))))))) snil)
  (sone (sret (xtup (acons (xv 2) (acons (xv 3) (acons (xcall K__law_b_stair hr tk (acons (xv 4) (acons (xv 2) anil))) anil)))))))))))⟩
set_option maxHeartbeats 4000000 in
theorem ok__law_b_kinds {f : Addr} {fd : FuncData} (sy : Sy P base) (F : Fun K "_law_b_kinds" "_law_b_kinds" s__law_b_kinds f fd) {C_Endless : Addr} {C_NoFit : Addr} {C_NoName : Addr} {C_NoPart : Addr} {C_NoRow : Addr} {C_NoTariff : Addr} {C_NoText : Addr} {C_TooMany : Addr} {C_Twice : Addr} (m_isinstance : mg "isinstance" = none) (I_Endless : ClK K mg cls [1, 2] "Endless" 5 (.ref C_Endless) (.ref C_Endless)) (I_NoFit : ClK K mg cls [1, 2] "NoFit" 1 (.ref C_NoFit) (.ref C_NoFit)) (I_NoName : ClK K mg cls [1, 2] "NoName" 7 (.ref C_NoName) (.ref C_NoName)) (I_NoPart : ClK K mg cls [1, 2] "NoPart" 2 (.ref C_NoPart) (.ref C_NoPart)) (I_NoRow : ClK K mg cls [1, 2] "NoRow" 8 (.ref C_NoRow) (.ref C_NoRow)) (I_NoTariff : ClK K mg cls [1, 2] "NoTariff" 3 (.ref C_NoTariff) (.ref C_NoTariff)) (I_NoText : ClK K mg cls [1, 2] "NoText" 6 (.ref C_NoText) (.ref C_NoText)) (I_TooMany : ClK K mg cls [1, 2] "TooMany" 4 (.ref C_TooMany) (.ref C_TooMany)) (I_Twice : ClK K mg cls [1, 2] "Twice" 9 (.ref C_Twice) (.ref C_Twice)) : FnG P w K mg base 35 f fd ["e"] (spT K cls 1 (dFn 2 (D__law_b_kinds))) := by
  refine fn_ok (k := 34) F sc__law_b_kinds fun cdv A outer s H E hr tk po => ?_
  have nd := sc__law_b_kinds.nd
  have hu : (A.deeper (envOfC "_law_b_kinds" (defScope s__law_b_kinds) s.heap.objs.size f cdv)).units + 64 < cLine := hr.units
  exact ⟨_, (scons (sset 1 nd (xlst (acons (xisK 0 1 I_NoFit m_isinstance) (acons (xisK 0 2 I_NoPart m_isinstance) (acons (xisK 0 3 I_NoTariff m_isinstance) (acons (xisK 0 4 I_TooMany m_isinstance) anil))))))
  (scons (sset 1 nd (xadd (xv 1) (xlst (acons (xisK 0 5 I_Endless m_isinstance) (acons (xisK 0 6 I_NoText m_isinstance) (acons (xisK 0 7 I_NoName m_isinstance) (acons (xisK 0 8 I_NoRow m_isinstance) anil)))))))
  (sone (sret (xadd (xv 1) (xlst (acons (xisK 0 9 I_Twice m_isinstance) anil)))))))⟩
set_option maxHeartbeats 4000000 in
theorem ok__law_b_word {f : Addr} {fd : FuncData} (sy : Sy P base) (F : Fun K "_law_b_word" "_law_b_word" s__law_b_word f fd) {C_MartError : Addr} (K__law_b_kinds : Fk P w K mg base cls "_law_b_kinds" 35 1 (G__law_b_kinds)) (m_isinstance : mg "isinstance" = none) (I_MartError : ClK K mg cls [1, 2] "MartError" 0 (.ref C_MartError) (.ref C_MartError)) (I_ValueError : ClK K mg cls [1, 2] "ValueError" 12 (.ty "ValueError") (.type "ValueError")) : FnG P w K mg base 36 f fd ["e"] (spT K cls 1 (dFn 2 (D__law_b_word))) := by
  refine fn_ok (k := 35) F sc__law_b_word fun cdv A outer s H E hr tk po => ?_
  have nd := sc__law_b_word.nd
  have hu : (A.deeper (envOfC "_law_b_word" (defScope s__law_b_word) s.heap.objs.size f cdv)).units + 64 < cLine := hr.units
  exact ⟨_, (scons (sif (yisN (xv 0) xnon) (sone (sret xstr)) snil)
  (scons (sset 1 nd (xcall K__law_b_kinds hr tk (acons (xv 0) anil)))
  (scons (sif (yw (wor (yne hu (xcountB (xv 1) xbl) xint) (wor (ynot (ytru (xisK 0 0 I_MartError m_isinstance))) (wor1 (ynot (ytru (xisK 0 12 I_ValueError m_isinstance))))))) (sone (sret xstr)) snil)
  (sone (sret (xix (xlst (acons xstr (acons xstr (acons xstr (acons xstr (acons xstr (acons xstr (acons xstr (acons xstr (acons xstr anil)))))))))) (xindexB (xv 1) xbl)))))))⟩
set_option maxHeartbeats 4000000 in
theorem ok__law_b_asked {f : Addr} {fd : FuncData} (sy : Sy P base) (F : Fun K "_law_b_asked" "_law_b_asked" s__law_b_asked f fd) {C_MartError : Addr} (K__law_b_word : Fk P w K mg base cls "_law_b_word" 40 1 (G__law_b_word)) (K_beside : Fk P w K mg base cls "beside" 40 3 (G_beside)) (H_MartError : HdK K mg cls [1, 2] "MartError" 0 C_MartError) : FnG P w K mg base 41 f fd ["inner", "outer", "k"] (spT K cls 3 (dFn 5 (D__law_b_asked))) := by
  refine fn_ok (k := 40) F sc__law_b_asked fun cdv A outer s H E hr tk po => ?_
  have nd := sc__law_b_asked.nd
  have hu : (A.deeper (envOfC "_law_b_asked" (defScope s__law_b_asked) s.heap.objs.size f cdv)).units + 64 < cLine := hr.units
  exact ⟨_, (scons (sset 3 nd xnon)
  (scons (stryK (rc := [1, 2]) 4 3 0 H_MartError (fun W pn xe tk po => (sone (sexpr (xcall K_beside hr tk (acons (xv 0) (acons (xv 1) (acons (xv 2) anil))))))) nd)
  (sone (sret (xcall K__law_b_word hr tk (acons (xv 3) anil))))))⟩
set_option maxHeartbeats 4000000 in
theorem ok__law_b_right {f : Addr} {fd : FuncData} (sy : Sy P base) (F : Fun K "_law_b_right" "_law_b_right" s__law_b_right f fd) (K__law_b_asked : Fk P w K mg base cls "_law_b_asked" 41 3 (G__law_b_asked)) (K__law_b_copy : Fk P w K mg base cls "_law_b_copy" 41 1 (G__law_b_copy)) (K__law_b_made : Fk P w K mg base cls "_law_b_made" 41 2 (G__law_b_made)) (K_lies_in : Fk P w K mg base cls "lies_in" 41 3 (G_lies_in)) (m_all : mg "all" = none) (m_bool : mg "bool" = none) (m_int : mg "int" = none) (m_isinstance : mg "isinstance" = none) (m_range : mg "range" = none) : FnG P w K mg base 42 f fd ["inner", "outer", "k"] (spT K cls 3 (dFn 8 (D__law_b_right))) := by
  refine fn_ok (k := 41) F sc__law_b_right fun cdv A outer s H E hr tk po => ?_
  have nd := sc__law_b_right.nd
  have hu : (A.deeper (envOfC "_law_b_right" (defScope s__law_b_right) s.heap.objs.size f cdv)).units + 64 < cLine := hr.units
  exact ⟨_, (scons (sset 3 nd (xb (cr_allM rfl) bs_all m_all (acons (by exact (xlc [("row", 7)] rfl nd (iit (xv 0)) (blkOk_by (N := ["inner", "outer", "k", "due", "handed", "turn", "found", "row"]) (sc := defScope s__law_b_right) (by decide +kernel)) (own_name (by decide)) (fun _ _ _ _ _ => (gname 7 nd)) (fun _ _ _ _ _ => tsnil) (fun _ _ _ _ _ => (xcall K__law_b_made hr takes0 (acons (xv 1) (acons (xv 7) anil)))))) anil)))
  (scons (sset 4 nd (xlst (acons (xcall K__law_b_copy hr tk (acons (xv 0) anil)) (acons (xcall K__law_b_copy hr tk (acons (xv 1) anil)) anil))))
  (scons (sfor po rfl (irng1 m_range (acons xint anil)) (gname 5 nd)
  (scons (sset 6 nd (xcall K_lies_in hr tk (acons (xix (xv 4) xint) (acons (xix (xv 4) xint) (acons (xv 2) anil)))))
  (sone (sif (yw (wor (ynot (ytru (xis m_isinstance m_bool (xv 6)))) (wor (yne hu (xv 6) (xv 3)) (wor1 (yne hu (xv 4) (xlst (acons (xv 0) (acons (xv 1) anil)))))))) (sone (sret xbl)) snil))))
  (sone (sret (xand (xeq hu (xcall K__law_b_asked hr tk (acons (xix (xv 4) xint) (acons (xix (xv 4) xint) (acons (xv 2) anil)))) (xix (xlst (acons xstr (acons xstr anil))) (xbT call_int1 bs_int1 m_int (acons (xv 3) anil)))) (xone (xeq hu (xv 4) (xlst (acons (xv 0) (acons (xv 1) anil)))))))))))⟩
set_option maxHeartbeats 4000000 in
theorem ok_law (fuel : Nat) {f : Addr} {fd : FuncData} (sy : Sy P base) (F : Fun K "law" "law" s_law f fd) (K__law_b_pair : Fk P w K mg base cls "_law_b_pair" 42 2 (G__law_b_pair fuel)) (K__law_b_right : Fk P w K mg base cls "_law_b_right" 42 3 (G__law_b_right)) (K_lies_in : Fk P w K mg base cls "lies_in" 42 3 (G_lies_in)) (m_int : mg "int" = none) (m_len : mg "len" = none) (m_range : mg "range" = none) : FnG P w K mg base 43 f fd ["script"] (spT K cls 1 (dFn 11 (D_law fuel))) := by
  refine fn_ok (k := 42) F sc_law fun cdv A outer s H E hr tk po => ?_
  have nd := sc_law.nd
  have hu : (A.deeper (envOfC "law" (defScope s_law) s.heap.objs.size f cdv)).units + 64 < cLine := hr.units
  exact ⟨_, (scons (sset 1 nd (xlst (acons (xv 0) (acons xint (acons xint anil)))))
  (scons (sfor po rfl (irng1 m_range (acons xint anil)) (gname 2 nd)
  (scons (sif (yw (wand (ygt (xv 2) xint) (wand1 (yge (xix (xv 1) xint) (xb call_len_seq bs_len m_len (acons (xv 0) anil)))))) (sone sbreak) snil)
  (scons (sasg (xcall K__law_b_pair hr tk (acons (xv 1) (acons xint anil))) (gtup rfl (gscons (gname 5 nd) (gscons (gname 6 nd) (gscons (gname 7 nd) gsnil)))))
  (scons (ssetLc 3 [("c", 9)] rfl nd (irng1 m_range (acons (xv 5) anil)) (blkOk_by (N := ["script", "tape", "turn", "every", "inner", "k", "one", "other", "outer", "c", "j"]) (sc := defScope s_law) (by decide +kernel)) (own_name (by decide)) (fun _ _ _ _ _ => (gname 9 nd)) (fun _ _ _ _ _ => tsnil) (fun _ _ _ _ _ => (by exact (xlc [("j", 10)] rfl nd (irng1 m_range (acons (xv 5) anil)) (blkOk_by (N := ["script", "tape", "turn", "every", "inner", "k", "one", "other", "outer", "c", "j"]) (by first | rfl | with_unfolding_all rfl)) (own_name (by decide)) (fun _ _ _ _ _ => (gname 10 nd)) (fun _ _ _ _ _ => tsnil) (fun _ _ _ _ _ => (xbT call_int1 bs_int1 m_int (acons (xeq hu (xv 9) (xv 10)) anil)))))))
  (scons (sfor po rfl (iit (xlst (acons (xv 6) (acons (xv 7) (acons (xv 3) (acons (xlst anil) anil)))))) (gname 4 nd)
  (sone (sfor po rfl (iit (xlst (acons (xv 6) (acons (xv 7) (acons (xv 3) (acons (xlst anil) anil)))))) (gname 8 nd)
  (sone (sif (ynot (ytru (xcall K__law_b_right hr tk (acons (xv 4) (acons (xv 8) (acons (xv 5) anil)))))) (sone (sret xbl)) snil)))))
  (sone (sif (yw (wor (yisnB (xcall K_lies_in hr tk (acons (xv 6) (acons (xv 6) (acons (xv 5) anil)))) xbl) (wor1 (yisnB (xcall K_lies_in hr tk (acons (xv 6) (acons (xv 3) (acons (xv 5) anil)))) xbl)))) (sone (sret xbl)) snil)))))))
  (sone (sret xbl))))⟩
theorem all_mk {l : PySem.W.OpenLaw} {w : World} {K : PySem.W.Frag} {h : Heap} {mg : Str → Option Value} {fa : Addr} (fuel : Nat) (X : K.In h) (G : h.Ns mainGlobals mg) (hfa : mg "law" = some (.ref fa))
    {od1 an1 : Option Addr} {sl1 : Array (Option Value)} {oc1 kV1 dc1 pm1 cd1 ct1 : Value} {f1 : Addr}
    (a1 : PySem.W.nsIn K mainGlobals "refuse_unlike" = some (some (.ref f1))) (l1 : K.lookup f1 = some ⟨oc1, od1, .func (PySem.W.fnOf "refuse_unlike" "refuse_unlike" (defArgs s_refuse_unlike) (defBody s_refuse_unlike) (defScope s_refuse_unlike) .none kV1 dc1 pm1 an1 cd1 ct1), sl1⟩) (c1 : PySem.W.codeIn K cd1 "refuse_unlike" = true) (k1 : PySem.W.keepIn K (.ref f1) = true)
    {od2 an2 : Option Addr} {sl2 : Array (Option Value)} {oc2 kV2 dc2 pm2 cd2 ct2 : Value} {f2 : Addr}
    (a2 : PySem.W.nsIn K mainGlobals "less" = some (some (.ref f2))) (l2 : K.lookup f2 = some ⟨oc2, od2, .func (PySem.W.fnOf "less" "less" (defArgs s_less) (defBody s_less) (defScope s_less) .none kV2 dc2 pm2 an2 cd2 ct2), sl2⟩) (c2 : PySem.W.codeIn K cd2 "less" = true) (k2 : PySem.W.keepIn K (.ref f2) = true)
    {od3 an3 : Option Addr} {sl3 : Array (Option Value)} {oc3 kV3 dc3 pm3 cd3 ct3 : Value} {f3 : Addr}
    (a3 : PySem.W.nsIn K mainGlobals "taken" = some (some (.ref f3))) (l3 : K.lookup f3 = some ⟨oc3, od3, .func (PySem.W.fnOf "taken" "taken" (defArgs s_taken) (defBody s_taken) (defScope s_taken) .none kV3 dc3 pm3 an3 cd3 ct3), sl3⟩) (c3 : PySem.W.codeIn K cd3 "taken" = true) (k3 : PySem.W.keepIn K (.ref f3) = true)
    {od4 an4 : Option Addr} {sl4 : Array (Option Value)} {oc4 kV4 dc4 pm4 cd4 ct4 : Value} {f4 : Addr}
    (a4 : PySem.W.nsIn K mainGlobals "refuse_misfits" = some (some (.ref f4))) (l4 : K.lookup f4 = some ⟨oc4, od4, .func (PySem.W.fnOf "refuse_misfits" "refuse_misfits" (defArgs s_refuse_misfits) (defBody s_refuse_misfits) (defScope s_refuse_misfits) .none kV4 dc4 pm4 an4 cd4 ct4), sl4⟩) (c4 : PySem.W.codeIn K cd4 "refuse_misfits" = true) (k4 : PySem.W.keepIn K (.ref f4) = true)
    {od5 an5 : Option Addr} {sl5 : Array (Option Value)} {oc5 kV5 dc5 pm5 cd5 ct5 : Value} {f5 : Addr}
    (a5 : PySem.W.nsIn K mainGlobals "place_of" = some (some (.ref f5))) (l5 : K.lookup f5 = some ⟨oc5, od5, .func (PySem.W.fnOf "place_of" "place_of" (defArgs s_place_of) (defBody s_place_of) (defScope s_place_of) .none kV5 dc5 pm5 an5 cd5 ct5), sl5⟩) (c5 : PySem.W.codeIn K cd5 "place_of" = true) (k5 : PySem.W.keepIn K (.ref f5) = true)
    {od6 an6 : Option Addr} {sl6 : Array (Option Value)} {oc6 kV6 dc6 pm6 cd6 ct6 : Value} {f6 : Addr}
    (a6 : PySem.W.nsIn K mainGlobals "led" = some (some (.ref f6))) (l6 : K.lookup f6 = some ⟨oc6, od6, .func (PySem.W.fnOf "led" "led" (defArgs s_led) (defBody s_led) (defScope s_led) .none kV6 dc6 pm6 an6 cd6 ct6), sl6⟩) (c6 : PySem.W.codeIn K cd6 "led" = true) (k6 : PySem.W.keepIn K (.ref f6) = true)
    {od7 an7 : Option Addr} {sl7 : Array (Option Value)} {oc7 kV7 dc7 pm7 cd7 ct7 : Value} {f7 : Addr}
    (a7 : PySem.W.nsIn K mainGlobals "is_made" = some (some (.ref f7))) (l7 : K.lookup f7 = some ⟨oc7, od7, .func (PySem.W.fnOf "is_made" "is_made" (defArgs s_is_made) (defBody s_is_made) (defScope s_is_made) .none kV7 dc7 pm7 an7 cd7 ct7), sl7⟩) (c7 : PySem.W.codeIn K cd7 "is_made" = true) (k7 : PySem.W.keepIn K (.ref f7) = true)
    {od8 an8 : Option Addr} {sl8 : Array (Option Value)} {oc8 kV8 dc8 pm8 cd8 ct8 : Value} {f8 : Addr}
    (a8 : PySem.W.nsIn K mainGlobals "leads" = some (some (.ref f8))) (l8 : K.lookup f8 = some ⟨oc8, od8, .func (PySem.W.fnOf "leads" "leads" (defArgs s_leads) (defBody s_leads) (defScope s_leads) .none kV8 dc8 pm8 an8 cd8 ct8), sl8⟩) (c8 : PySem.W.codeIn K cd8 "leads" = true) (k8 : PySem.W.keepIn K (.ref f8) = true)
    {od9 an9 : Option Addr} {sl9 : Array (Option Value)} {oc9 kV9 dc9 pm9 cd9 ct9 : Value} {f9 : Addr}
    (a9 : PySem.W.nsIn K mainGlobals "multiplied" = some (some (.ref f9))) (l9 : K.lookup f9 = some ⟨oc9, od9, .func (PySem.W.fnOf "multiplied" "multiplied" (defArgs s_multiplied) (defBody s_multiplied) (defScope s_multiplied) .none kV9 dc9 pm9 an9 cd9 ct9), sl9⟩) (c9 : PySem.W.codeIn K cd9 "multiplied" = true) (k9 : PySem.W.keepIn K (.ref f9) = true)
    {od10 an10 : Option Addr} {sl10 : Array (Option Value)} {oc10 kV10 dc10 pm10 cd10 ct10 : Value} {f10 : Addr}
    (a10 : PySem.W.nsIn K mainGlobals "lies_in" = some (some (.ref f10))) (l10 : K.lookup f10 = some ⟨oc10, od10, .func (PySem.W.fnOf "lies_in" "lies_in" (defArgs s_lies_in) (defBody s_lies_in) (defScope s_lies_in) .none kV10 dc10 pm10 an10 cd10 ct10), sl10⟩) (c10 : PySem.W.codeIn K cd10 "lies_in" = true) (k10 : PySem.W.keepIn K (.ref f10) = true)
    {od11 an11 : Option Addr} {sl11 : Array (Option Value)} {oc11 kV11 dc11 pm11 cd11 ct11 : Value} {f11 : Addr}
    (a11 : PySem.W.nsIn K mainGlobals "beside" = some (some (.ref f11))) (l11 : K.lookup f11 = some ⟨oc11, od11, .func (PySem.W.fnOf "beside" "beside" (defArgs s_beside) (defBody s_beside) (defScope s_beside) .none kV11 dc11 pm11 an11 cd11 ct11), sl11⟩) (c11 : PySem.W.codeIn K cd11 "beside" = true) (k11 : PySem.W.keepIn K (.ref f11) = true)
    {od12 an12 : Option Addr} {sl12 : Array (Option Value)} {oc12 kV12 dc12 pm12 cd12 ct12 : Value} {f12 : Addr}
    (a12 : PySem.W.nsIn K mainGlobals "_law_b_mixed" = some (some (.ref f12))) (l12 : K.lookup f12 = some ⟨oc12, od12, .func (PySem.W.fnOf "_law_b_mixed" "_law_b_mixed" (defArgs s__law_b_mixed) (defBody s__law_b_mixed) (defScope s__law_b_mixed) .none kV12 dc12 pm12 an12 cd12 ct12), sl12⟩) (c12 : PySem.W.codeIn K cd12 "_law_b_mixed" = true) (k12 : PySem.W.keepIn K (.ref f12) = true)
    {od13 an13 : Option Addr} {sl13 : Array (Option Value)} {oc13 kV13 dc13 pm13 cd13 ct13 : Value} {f13 : Addr}
    (a13 : PySem.W.nsIn K mainGlobals "_law_b_take" = some (some (.ref f13))) (l13 : K.lookup f13 = some ⟨oc13, od13, .func (PySem.W.fnOf "_law_b_take" "_law_b_take" (defArgs s__law_b_take) (defBody s__law_b_take) (defScope s__law_b_take) .none kV13 dc13 pm13 an13 cd13 ct13), sl13⟩) (c13 : PySem.W.codeIn K cd13 "_law_b_take" = true) (k13 : PySem.W.keepIn K (.ref f13) = true)
    {od14 an14 : Option Addr} {sl14 : Array (Option Value)} {oc14 kV14 dc14 pm14 cd14 ct14 : Value} {f14 : Addr}
    (a14 : PySem.W.nsIn K mainGlobals "_law_b_rows" = some (some (.ref f14))) (l14 : K.lookup f14 = some ⟨oc14, od14, .func (PySem.W.fnOf "_law_b_rows" "_law_b_rows" (defArgs s__law_b_rows) (defBody s__law_b_rows) (defScope s__law_b_rows) .none kV14 dc14 pm14 an14 cd14 ct14), sl14⟩) (c14 : PySem.W.codeIn K cd14 "_law_b_rows" = true) (k14 : PySem.W.keepIn K (.ref f14) = true)
    {od15 an15 : Option Addr} {sl15 : Array (Option Value)} {oc15 kV15 dc15 pm15 cd15 ct15 : Value} {f15 : Addr}
    (a15 : PySem.W.nsIn K mainGlobals "_law_b_copy" = some (some (.ref f15))) (l15 : K.lookup f15 = some ⟨oc15, od15, .func (PySem.W.fnOf "_law_b_copy" "_law_b_copy" (defArgs s__law_b_copy) (defBody s__law_b_copy) (defScope s__law_b_copy) .none kV15 dc15 pm15 an15 cd15 ct15), sl15⟩) (c15 : PySem.W.codeIn K cd15 "_law_b_copy" = true) (k15 : PySem.W.keepIn K (.ref f15) = true)
    {od16 an16 : Option Addr} {sl16 : Array (Option Value)} {oc16 kV16 dc16 pm16 cd16 ct16 : Value} {f16 : Addr}
    (a16 : PySem.W.nsIn K mainGlobals "_law_b_stair" = some (some (.ref f16))) (l16 : K.lookup f16 = some ⟨oc16, od16, .func (PySem.W.fnOf "_law_b_stair" "_law_b_stair" (defArgs s__law_b_stair) (defBody s__law_b_stair) (defScope s__law_b_stair) .none kV16 dc16 pm16 an16 cd16 ct16), sl16⟩) (c16 : PySem.W.codeIn K cd16 "_law_b_stair" = true) (k16 : PySem.W.keepIn K (.ref f16) = true)
    {od17 an17 : Option Addr} {sl17 : Array (Option Value)} {oc17 kV17 dc17 pm17 cd17 ct17 : Value} {f17 : Addr}
    (a17 : PySem.W.nsIn K mainGlobals "_law_b_rest" = some (some (.ref f17))) (l17 : K.lookup f17 = some ⟨oc17, od17, .func (PySem.W.fnOf "_law_b_rest" "_law_b_rest" (defArgs s__law_b_rest) (defBody s__law_b_rest) (defScope s__law_b_rest) .none kV17 dc17 pm17 an17 cd17 ct17), sl17⟩) (c17 : PySem.W.codeIn K cd17 "_law_b_rest" = true) (k17 : PySem.W.keepIn K (.ref f17) = true)
    {od18 an18 : Option Addr} {sl18 : Array (Option Value)} {oc18 kV18 dc18 pm18 cd18 ct18 : Value} {f18 : Addr}
    (a18 : PySem.W.nsIn K mainGlobals "_law_b_made" = some (some (.ref f18))) (l18 : K.lookup f18 = some ⟨oc18, od18, .func (PySem.W.fnOf "_law_b_made" "_law_b_made" (defArgs s__law_b_made) (defBody s__law_b_made) (defScope s__law_b_made) .none kV18 dc18 pm18 an18 cd18 ct18), sl18⟩) (c18 : PySem.W.codeIn K cd18 "_law_b_made" = true) (k18 : PySem.W.keepIn K (.ref f18) = true)
    {od19 an19 : Option Addr} {sl19 : Array (Option Value)} {oc19 kV19 dc19 pm19 cd19 ct19 : Value} {f19 : Addr}
    (a19 : PySem.W.nsIn K mainGlobals "_law_b_sum" = some (some (.ref f19))) (l19 : K.lookup f19 = some ⟨oc19, od19, .func (PySem.W.fnOf "_law_b_sum" "_law_b_sum" (defArgs s__law_b_sum) (defBody s__law_b_sum) (defScope s__law_b_sum) .none kV19 dc19 pm19 an19 cd19 ct19), sl19⟩) (c19 : PySem.W.codeIn K cd19 "_law_b_sum" = true) (k19 : PySem.W.keepIn K (.ref f19) = true)
    {od20 an20 : Option Addr} {sl20 : Array (Option Value)} {oc20 kV20 dc20 pm20 cd20 ct20 : Value} {f20 : Addr}
    (a20 : PySem.W.nsIn K mainGlobals "_law_b_pair" = some (some (.ref f20))) (l20 : K.lookup f20 = some ⟨oc20, od20, .func (PySem.W.fnOf "_law_b_pair" "_law_b_pair" (defArgs s__law_b_pair) (defBody s__law_b_pair) (defScope s__law_b_pair) .none kV20 dc20 pm20 an20 cd20 ct20), sl20⟩) (c20 : PySem.W.codeIn K cd20 "_law_b_pair" = true) (k20 : PySem.W.keepIn K (.ref f20) = true)
    {od21 an21 : Option Addr} {sl21 : Array (Option Value)} {oc21 kV21 dc21 pm21 cd21 ct21 : Value} {f21 : Addr}
    (a21 : PySem.W.nsIn K mainGlobals "_law_b_kinds" = some (some (.ref f21))) (l21 : K.lookup f21 = some ⟨oc21, od21, .func (PySem.W.fnOf "_law_b_kinds" "_law_b_kinds" (defArgs s__law_b_kinds) (defBody s__law_b_kinds) (defScope s__law_b_kinds) .none kV21 dc21 pm21 an21 cd21 ct21), sl21⟩) (c21 : PySem.W.codeIn K cd21 "_law_b_kinds" = true) (k21 : PySem.W.keepIn K (.ref f21) = true)
    {od22 an22 : Option Addr} {sl22 : Array (Option Value)} {oc22 kV22 dc22 pm22 cd22 ct22 : Value} {f22 : Addr}
    (a22 : PySem.W.nsIn K mainGlobals "_law_b_word" = some (some (.ref f22))) (l22 : K.lookup f22 = some ⟨oc22, od22, .func (PySem.W.fnOf "_law_b_word" "_law_b_word" (defArgs s__law_b_word) (defBody s__law_b_word) (defScope s__law_b_word) .none kV22 dc22 pm22 an22 cd22 ct22), sl22⟩) (c22 : PySem.W.codeIn K cd22 "_law_b_word" = true) (k22 : PySem.W.keepIn K (.ref f22) = true)
    {od23 an23 : Option Addr} {sl23 : Array (Option Value)} {oc23 kV23 dc23 pm23 cd23 ct23 : Value} {f23 : Addr}
    (a23 : PySem.W.nsIn K mainGlobals "_law_b_asked" = some (some (.ref f23))) (l23 : K.lookup f23 = some ⟨oc23, od23, .func (PySem.W.fnOf "_law_b_asked" "_law_b_asked" (defArgs s__law_b_asked) (defBody s__law_b_asked) (defScope s__law_b_asked) .none kV23 dc23 pm23 an23 cd23 ct23), sl23⟩) (c23 : PySem.W.codeIn K cd23 "_law_b_asked" = true) (k23 : PySem.W.keepIn K (.ref f23) = true)
    {od24 an24 : Option Addr} {sl24 : Array (Option Value)} {oc24 kV24 dc24 pm24 cd24 ct24 : Value} {f24 : Addr}
    (a24 : PySem.W.nsIn K mainGlobals "_law_b_right" = some (some (.ref f24))) (l24 : K.lookup f24 = some ⟨oc24, od24, .func (PySem.W.fnOf "_law_b_right" "_law_b_right" (defArgs s__law_b_right) (defBody s__law_b_right) (defScope s__law_b_right) .none kV24 dc24 pm24 an24 cd24 ct24), sl24⟩) (c24 : PySem.W.codeIn K cd24 "_law_b_right" = true) (k24 : PySem.W.keepIn K (.ref f24) = true)
    {od25 an25 : Option Addr} {sl25 : Array (Option Value)} {oc25 kV25 dc25 pm25 cd25 ct25 : Value} {f25 : Addr}
    (a25 : PySem.W.nsIn K mainGlobals "law" = some (some (.ref f25))) (l25 : K.lookup f25 = some ⟨oc25, od25, .func (PySem.W.fnOf "law" "law" (defArgs s_law) (defBody s_law) (defScope s_law) .none kV25 dc25 pm25 an25 cd25 ct25), sl25⟩) (c25 : PySem.W.codeIn K cd25 "law" = true) (k25 : PySem.W.keepIn K (.ref f25) = true)
    (z_abs : PySem.W.nsIn K mainGlobals "abs" = some none)
    (z_all : PySem.W.nsIn K mainGlobals "all" = some none)
    (z_any : PySem.W.nsIn K mainGlobals "any" = some none)
    (z_bool : PySem.W.nsIn K mainGlobals "bool" = some none)
    (z_enumerate : PySem.W.nsIn K mainGlobals "enumerate" = some none)
    (z_int : PySem.W.nsIn K mainGlobals "int" = some none)
    (z_isinstance : PySem.W.nsIn K mainGlobals "isinstance" = some none)
    (z_len : PySem.W.nsIn K mainGlobals "len" = some none)
    (z_list : PySem.W.nsIn K mainGlobals "list" = some none)
    (z_min : PySem.W.nsIn K mainGlobals "min" = some none)
    (z_range : PySem.W.nsIn K mainGlobals "range" = some none)
    (z_zip : PySem.W.nsIn K mainGlobals "zip" = some none)
    {C_Endless : Addr} (y_Endless : PySem.W.nsIn K mainGlobals "Endless" = some (some (.ref C_Endless)))
    {C_MartError : Addr} (y_MartError : PySem.W.nsIn K mainGlobals "MartError" = some (some (.ref C_MartError)))
    {C_NoFit : Addr} (y_NoFit : PySem.W.nsIn K mainGlobals "NoFit" = some (some (.ref C_NoFit)))
    {C_NoName : Addr} (y_NoName : PySem.W.nsIn K mainGlobals "NoName" = some (some (.ref C_NoName)))
    {C_NoPart : Addr} (y_NoPart : PySem.W.nsIn K mainGlobals "NoPart" = some (some (.ref C_NoPart)))
    {C_NoRow : Addr} (y_NoRow : PySem.W.nsIn K mainGlobals "NoRow" = some (some (.ref C_NoRow)))
    {C_NoTariff : Addr} (y_NoTariff : PySem.W.nsIn K mainGlobals "NoTariff" = some (some (.ref C_NoTariff)))
    {C_NoText : Addr} (y_NoText : PySem.W.nsIn K mainGlobals "NoText" = some (some (.ref C_NoText)))
    {C_TooMany : Addr} (y_TooMany : PySem.W.nsIn K mainGlobals "TooMany" = some (some (.ref C_TooMany)))
    {C_Twice : Addr} (y_Twice : PySem.W.nsIn K mainGlobals "Twice" = some (some (.ref C_Twice)))
    (ex_NoFit : PySem.W.excIn K C_NoFit [.type "ValueError", .type "Exception", .type "BaseException", .type "object"] "ValueError.__new__" = true) (kp_NoFit : PySem.W.keepIn K (.ref C_NoFit) = true)
    (ex_NoPart : PySem.W.excIn K C_NoPart [.type "ValueError", .type "Exception", .type "BaseException", .type "object"] "ValueError.__new__" = true) (kp_NoPart : PySem.W.keepIn K (.ref C_NoPart) = true)
    (sb_MartError : PySem.W.subIn K (.ref C_MartError) (.type "BaseException") = some true) (ty_MartError : PySem.W.typeIn K (.ref C_MartError) = some (.type "type"))
    (sb_NoFit : PySem.W.subIn K (.ref C_NoFit) (.type "BaseException") = some true) (ty_NoFit : PySem.W.typeIn K (.ref C_NoFit) = some (.type "type"))
    (sb_NoPart : PySem.W.subIn K (.ref C_NoPart) (.type "BaseException") = some true) (ty_NoPart : PySem.W.typeIn K (.ref C_NoPart) = some (.type "type"))
    (hd_MartError : PySem.W.hasDictIn K C_MartError = true)
    (sub_NoFit_MartError : PySem.W.subIn K (.ref C_NoFit) (.ref C_MartError) = some true)
    (sub_NoPart_MartError : PySem.W.subIn K (.ref C_NoPart) (.ref C_MartError) = some true)
    (xg_NoFit : PySem.W.findIn K (.ref C_NoFit) "__getattribute__" = some (some (.builtin "BaseException.__getattribute__")))
    (xk_NoFit : PySem.W.findIn K (.ref C_NoFit) "__getattr__" = some none)
    (xs_NoFit : PySem.W.subIn K (.ref C_NoFit) (.type "BaseException") = some true)
    (xd_NoFit : PySem.W.hasDictIn K C_NoFit = true)
    (xa_NoFit : PySem.W.findIn K (.ref C_NoFit) "__class__" = some (some (.builtin "object.__class__")))
    (xm_NoFit : PySem.W.mroIn K C_NoFit (.type "object") = some true)
    (xg_NoPart : PySem.W.findIn K (.ref C_NoPart) "__getattribute__" = some (some (.builtin "BaseException.__getattribute__")))
    (xk_NoPart : PySem.W.findIn K (.ref C_NoPart) "__getattr__" = some none)
    (xs_NoPart : PySem.W.subIn K (.ref C_NoPart) (.type "BaseException") = some true)
    (xd_NoPart : PySem.W.hasDictIn K C_NoPart = true)
    (xa_NoPart : PySem.W.findIn K (.ref C_NoPart) "__class__" = some (some (.builtin "object.__class__")))
    (xm_NoPart : PySem.W.mroIn K C_NoPart (.type "object") = some true)
    (xn : PySem.W.specialIn K (.builtin "object.__class__") "__get__" = some (some (.builtin "getset_descriptor.__get__"))) (xt : PySem.W.takesIn K (.builtin "object.__class__") = some true)
    (ks_NoFit_Endless : PySem.W.subIn K (.ref C_NoFit) (.ref C_Endless) = some false)
    (ks_NoPart_Endless : PySem.W.subIn K (.ref C_NoPart) (.ref C_Endless) = some false)
    (kc_Endless : PySem.W.isClsIn K C_Endless = true) (kt_Endless : PySem.W.typeIn K (.ref C_Endless) = some (.type "type")) (kf_Endless : PySem.W.selfFirst K C_Endless = true)
    (ks_NoFit_MartError : PySem.W.subIn K (.ref C_NoFit) (.ref C_MartError) = some true)
    (ks_NoPart_MartError : PySem.W.subIn K (.ref C_NoPart) (.ref C_MartError) = some true)
    (kc_MartError : PySem.W.isClsIn K C_MartError = true) (kt_MartError : PySem.W.typeIn K (.ref C_MartError) = some (.type "type")) (kf_MartError : PySem.W.selfFirst K C_MartError = true)
    (ks_NoFit_NoFit : PySem.W.subIn K (.ref C_NoFit) (.ref C_NoFit) = some true)
    (ks_NoPart_NoFit : PySem.W.subIn K (.ref C_NoPart) (.ref C_NoFit) = some false)
    (kc_NoFit : PySem.W.isClsIn K C_NoFit = true) (kt_NoFit : PySem.W.typeIn K (.ref C_NoFit) = some (.type "type")) (kf_NoFit : PySem.W.selfFirst K C_NoFit = true)
    (ks_NoFit_NoName : PySem.W.subIn K (.ref C_NoFit) (.ref C_NoName) = some false)
    (ks_NoPart_NoName : PySem.W.subIn K (.ref C_NoPart) (.ref C_NoName) = some false)
    (kc_NoName : PySem.W.isClsIn K C_NoName = true) (kt_NoName : PySem.W.typeIn K (.ref C_NoName) = some (.type "type")) (kf_NoName : PySem.W.selfFirst K C_NoName = true)
    (ks_NoFit_NoPart : PySem.W.subIn K (.ref C_NoFit) (.ref C_NoPart) = some false)
    (ks_NoPart_NoPart : PySem.W.subIn K (.ref C_NoPart) (.ref C_NoPart) = some true)
    (kc_NoPart : PySem.W.isClsIn K C_NoPart = true) (kt_NoPart : PySem.W.typeIn K (.ref C_NoPart) = some (.type "type")) (kf_NoPart : PySem.W.selfFirst K C_NoPart = true)
    (ks_NoFit_NoRow : PySem.W.subIn K (.ref C_NoFit) (.ref C_NoRow) = some false)
    (ks_NoPart_NoRow : PySem.W.subIn K (.ref C_NoPart) (.ref C_NoRow) = some false)
    (kc_NoRow : PySem.W.isClsIn K C_NoRow = true) (kt_NoRow : PySem.W.typeIn K (.ref C_NoRow) = some (.type "type")) (kf_NoRow : PySem.W.selfFirst K C_NoRow = true)
    (ks_NoFit_NoTariff : PySem.W.subIn K (.ref C_NoFit) (.ref C_NoTariff) = some false)
    (ks_NoPart_NoTariff : PySem.W.subIn K (.ref C_NoPart) (.ref C_NoTariff) = some false)
    (kc_NoTariff : PySem.W.isClsIn K C_NoTariff = true) (kt_NoTariff : PySem.W.typeIn K (.ref C_NoTariff) = some (.type "type")) (kf_NoTariff : PySem.W.selfFirst K C_NoTariff = true)
    (ks_NoFit_NoText : PySem.W.subIn K (.ref C_NoFit) (.ref C_NoText) = some false)
    (ks_NoPart_NoText : PySem.W.subIn K (.ref C_NoPart) (.ref C_NoText) = some false)
    (kc_NoText : PySem.W.isClsIn K C_NoText = true) (kt_NoText : PySem.W.typeIn K (.ref C_NoText) = some (.type "type")) (kf_NoText : PySem.W.selfFirst K C_NoText = true)
    (ks_NoFit_TooMany : PySem.W.subIn K (.ref C_NoFit) (.ref C_TooMany) = some false)
    (ks_NoPart_TooMany : PySem.W.subIn K (.ref C_NoPart) (.ref C_TooMany) = some false)
    (kc_TooMany : PySem.W.isClsIn K C_TooMany = true) (kt_TooMany : PySem.W.typeIn K (.ref C_TooMany) = some (.type "type")) (kf_TooMany : PySem.W.selfFirst K C_TooMany = true)
    (ks_NoFit_Twice : PySem.W.subIn K (.ref C_NoFit) (.ref C_Twice) = some false)
    (ks_NoPart_Twice : PySem.W.subIn K (.ref C_NoPart) (.ref C_Twice) = some false)
    (kc_Twice : PySem.W.isClsIn K C_Twice = true) (kt_Twice : PySem.W.typeIn K (.ref C_Twice) = some (.type "type")) (kf_Twice : PySem.W.selfFirst K C_Twice = true)
    (ks_NoFit_ValueError : PySem.W.subIn K (.ref C_NoFit) (.type "ValueError") = some true)
    (ks_NoPart_ValueError : PySem.W.subIn K (.ref C_NoPart) (.type "ValueError") = some true)
    (z_ValueError : PySem.W.nsIn K mainGlobals "ValueError" = some none) :
    ∃ fd : FuncData, (∀ (s : Shared) (v : Value), BindsTo s fd ⟨[v], []⟩ [("script", v)]) ∧ ∀ base : Heap, Sy l.prog base → K.In base → base.Ns mainGlobals mg → FnG l.prog w K mg base 43 fa fd ["script"] (spL K (G_law fuel)) := by
  have e := hfa.symm.trans (PySem.W.mg_of X G a25)
  cases e
  have F1 := fun_mk (st := s_refuse_unlike) l1 c1 k1
  have F2 := fun_mk (st := s_less) l2 c2 k2
  have F3 := fun_mk (st := s_taken) l3 c3 k3
  have F4 := fun_mk (st := s_refuse_misfits) l4 c4 k4
  have F5 := fun_mk (st := s_place_of) l5 c5 k5
  have F6 := fun_mk (st := s_led) l6 c6 k6
  have F7 := fun_mk (st := s_is_made) l7 c7 k7
  have F8 := fun_mk (st := s_leads) l8 c8 k8
  have F9 := fun_mk (st := s_multiplied) l9 c9 k9
  have F10 := fun_mk (st := s_lies_in) l10 c10 k10
  have F11 := fun_mk (st := s_beside) l11 c11 k11
  have F12 := fun_mk (st := s__law_b_mixed) l12 c12 k12
  have F13 := fun_mk (st := s__law_b_take) l13 c13 k13
  have F14 := fun_mk (st := s__law_b_rows) l14 c14 k14
  have F15 := fun_mk (st := s__law_b_copy) l15 c15 k15
  have F16 := fun_mk (st := s__law_b_stair) l16 c16 k16
  have F17 := fun_mk (st := s__law_b_rest) l17 c17 k17
  have F18 := fun_mk (st := s__law_b_made) l18 c18 k18
  have F19 := fun_mk (st := s__law_b_sum) l19 c19 k19
  have F20 := fun_mk (st := s__law_b_pair) l20 c20 k20
  have F21 := fun_mk (st := s__law_b_kinds) l21 c21 k21
  have F22 := fun_mk (st := s__law_b_word) l22 c22 k22
  have F23 := fun_mk (st := s__law_b_asked) l23 c23 k23
  have F24 := fun_mk (st := s__law_b_right) l24 c24 k24
  have F25 := fun_mk (st := s_law) l25 c25 k25
  refine ⟨PySem.W.fnOf "law" "law" (defArgs s_law) (defBody s_law) (defScope s_law) .none kV25 dc25 pm25 an25 cd25 ct25, fun s v => .of_eq rfl, fun base sy _ _ => ?_⟩
  have m_abs := PySem.W.mg_none_of X G z_abs
  have m_all := PySem.W.mg_none_of X G z_all
  have m_any := PySem.W.mg_none_of X G z_any
  have m_bool := PySem.W.mg_none_of X G z_bool
  have m_enumerate := PySem.W.mg_none_of X G z_enumerate
  have m_int := PySem.W.mg_none_of X G z_int
  have m_isinstance := PySem.W.mg_none_of X G z_isinstance
  have m_len := PySem.W.mg_none_of X G z_len
  have m_list := PySem.W.mg_none_of X G z_list
  have m_min := PySem.W.mg_none_of X G z_min
  have m_range := PySem.W.mg_none_of X G z_range
  have m_zip := PySem.W.mg_none_of X G z_zip
  have E_NoFit : ExK K mg (clsOf K) "NoFit" 1 C_NoFit := ⟨clsOf_of rfl y_NoFit, PySem.W.mg_of X G y_NoFit, ex_NoFit, kp_NoFit, sb_NoFit, ty_NoFit⟩
  have E_NoPart : ExK K mg (clsOf K) "NoPart" 2 C_NoPart := ⟨clsOf_of rfl y_NoPart, PySem.W.mg_of X G y_NoPart, ex_NoPart, kp_NoPart, sb_NoPart, ty_NoPart⟩
  have H_MartError : HdK K mg (clsOf K) [1, 2] "MartError" 0 C_MartError := hdk_mk (PySem.W.mg_of X G y_MartError) (List.forall_mem_cons.mpr ⟨(by rw [clsOf_of rfl y_NoFit]; exact PySem.W.exm_ref sb_MartError hd_MartError ty_MartError sub_NoFit_MartError), List.forall_mem_cons.mpr ⟨(by rw [clsOf_of rfl y_NoPart]; exact PySem.W.exm_ref sb_MartError hd_MartError ty_MartError sub_NoPart_MartError), List.forall_mem_nil _⟩⟩)
  have X_NoFit : ExcC K C_NoFit := ⟨xg_NoFit, xk_NoFit, xs_NoFit, xd_NoFit, xa_NoFit, xn, xt, xm_NoFit⟩
  have X_NoPart : ExcC K C_NoPart := ⟨xg_NoPart, xk_NoPart, xs_NoPart, xd_NoPart, xa_NoPart, xn, xt, xm_NoPart⟩
  have I_Endless : ClK K mg (clsOf K) [1, 2] "Endless" 5 (.ref C_Endless) (.ref C_Endless) := clk_b (.own _) (.inl ⟨PySem.W.mg_of X G y_Endless, rfl⟩) (List.forall_mem_cons.mpr ⟨⟨_, clsOf_of rfl y_NoFit, X_NoFit, kitOne_cls kc_Endless kt_Endless kf_Endless ks_NoFit_Endless⟩, List.forall_mem_cons.mpr ⟨⟨_, clsOf_of rfl y_NoPart, X_NoPart, kitOne_cls kc_Endless kt_Endless kf_Endless ks_NoPart_Endless⟩, List.forall_mem_nil _⟩⟩)
  have I_MartError : ClK K mg (clsOf K) [1, 2] "MartError" 0 (.ref C_MartError) (.ref C_MartError) := clk_b (.own _) (.inl ⟨PySem.W.mg_of X G y_MartError, rfl⟩) (List.forall_mem_cons.mpr ⟨⟨_, clsOf_of rfl y_NoFit, X_NoFit, kitOne_cls kc_MartError kt_MartError kf_MartError ks_NoFit_MartError⟩, List.forall_mem_cons.mpr ⟨⟨_, clsOf_of rfl y_NoPart, X_NoPart, kitOne_cls kc_MartError kt_MartError kf_MartError ks_NoPart_MartError⟩, List.forall_mem_nil _⟩⟩)
  have I_NoFit : ClK K mg (clsOf K) [1, 2] "NoFit" 1 (.ref C_NoFit) (.ref C_NoFit) := clk_b (.own _) (.inl ⟨PySem.W.mg_of X G y_NoFit, rfl⟩) (List.forall_mem_cons.mpr ⟨⟨_, clsOf_of rfl y_NoFit, X_NoFit, kitOne_cls kc_NoFit kt_NoFit kf_NoFit ks_NoFit_NoFit⟩, List.forall_mem_cons.mpr ⟨⟨_, clsOf_of rfl y_NoPart, X_NoPart, kitOne_cls kc_NoFit kt_NoFit kf_NoFit ks_NoPart_NoFit⟩, List.forall_mem_nil _⟩⟩)
  have I_NoName : ClK K mg (clsOf K) [1, 2] "NoName" 7 (.ref C_NoName) (.ref C_NoName) := clk_b (.own _) (.inl ⟨PySem.W.mg_of X G y_NoName, rfl⟩) (List.forall_mem_cons.mpr ⟨⟨_, clsOf_of rfl y_NoFit, X_NoFit, kitOne_cls kc_NoName kt_NoName kf_NoName ks_NoFit_NoName⟩, List.forall_mem_cons.mpr ⟨⟨_, clsOf_of rfl y_NoPart, X_NoPart, kitOne_cls kc_NoName kt_NoName kf_NoName ks_NoPart_NoName⟩, List.forall_mem_nil _⟩⟩)
  have I_NoPart : ClK K mg (clsOf K) [1, 2] "NoPart" 2 (.ref C_NoPart) (.ref C_NoPart) := clk_b (.own _) (.inl ⟨PySem.W.mg_of X G y_NoPart, rfl⟩) (List.forall_mem_cons.mpr ⟨⟨_, clsOf_of rfl y_NoFit, X_NoFit, kitOne_cls kc_NoPart kt_NoPart kf_NoPart ks_NoFit_NoPart⟩, List.forall_mem_cons.mpr ⟨⟨_, clsOf_of rfl y_NoPart, X_NoPart, kitOne_cls kc_NoPart kt_NoPart kf_NoPart ks_NoPart_NoPart⟩, List.forall_mem_nil _⟩⟩)
  have I_NoRow : ClK K mg (clsOf K) [1, 2] "NoRow" 8 (.ref C_NoRow) (.ref C_NoRow) := clk_b (.own _) (.inl ⟨PySem.W.mg_of X G y_NoRow, rfl⟩) (List.forall_mem_cons.mpr ⟨⟨_, clsOf_of rfl y_NoFit, X_NoFit, kitOne_cls kc_NoRow kt_NoRow kf_NoRow ks_NoFit_NoRow⟩, List.forall_mem_cons.mpr ⟨⟨_, clsOf_of rfl y_NoPart, X_NoPart, kitOne_cls kc_NoRow kt_NoRow kf_NoRow ks_NoPart_NoRow⟩, List.forall_mem_nil _⟩⟩)
  have I_NoTariff : ClK K mg (clsOf K) [1, 2] "NoTariff" 3 (.ref C_NoTariff) (.ref C_NoTariff) := clk_b (.own _) (.inl ⟨PySem.W.mg_of X G y_NoTariff, rfl⟩) (List.forall_mem_cons.mpr ⟨⟨_, clsOf_of rfl y_NoFit, X_NoFit, kitOne_cls kc_NoTariff kt_NoTariff kf_NoTariff ks_NoFit_NoTariff⟩, List.forall_mem_cons.mpr ⟨⟨_, clsOf_of rfl y_NoPart, X_NoPart, kitOne_cls kc_NoTariff kt_NoTariff kf_NoTariff ks_NoPart_NoTariff⟩, List.forall_mem_nil _⟩⟩)
  have I_NoText : ClK K mg (clsOf K) [1, 2] "NoText" 6 (.ref C_NoText) (.ref C_NoText) := clk_b (.own _) (.inl ⟨PySem.W.mg_of X G y_NoText, rfl⟩) (List.forall_mem_cons.mpr ⟨⟨_, clsOf_of rfl y_NoFit, X_NoFit, kitOne_cls kc_NoText kt_NoText kf_NoText ks_NoFit_NoText⟩, List.forall_mem_cons.mpr ⟨⟨_, clsOf_of rfl y_NoPart, X_NoPart, kitOne_cls kc_NoText kt_NoText kf_NoText ks_NoPart_NoText⟩, List.forall_mem_nil _⟩⟩)
  have I_TooMany : ClK K mg (clsOf K) [1, 2] "TooMany" 4 (.ref C_TooMany) (.ref C_TooMany) := clk_b (.own _) (.inl ⟨PySem.W.mg_of X G y_TooMany, rfl⟩) (List.forall_mem_cons.mpr ⟨⟨_, clsOf_of rfl y_NoFit, X_NoFit, kitOne_cls kc_TooMany kt_TooMany kf_TooMany ks_NoFit_TooMany⟩, List.forall_mem_cons.mpr ⟨⟨_, clsOf_of rfl y_NoPart, X_NoPart, kitOne_cls kc_TooMany kt_TooMany kf_TooMany ks_NoPart_TooMany⟩, List.forall_mem_nil _⟩⟩)
  have I_Twice : ClK K mg (clsOf K) [1, 2] "Twice" 9 (.ref C_Twice) (.ref C_Twice) := clk_b (.own _) (.inl ⟨PySem.W.mg_of X G y_Twice, rfl⟩) (List.forall_mem_cons.mpr ⟨⟨_, clsOf_of rfl y_NoFit, X_NoFit, kitOne_cls kc_Twice kt_Twice kf_Twice ks_NoFit_Twice⟩, List.forall_mem_cons.mpr ⟨⟨_, clsOf_of rfl y_NoPart, X_NoPart, kitOne_cls kc_Twice kt_Twice kf_Twice ks_NoPart_Twice⟩, List.forall_mem_nil _⟩⟩)
  have I_ValueError : ClK K mg (clsOf K) [1, 2] "ValueError" 12 (.ty "ValueError") (.type "ValueError") := clk_b (.ty _) (.inr ⟨PySem.W.mg_none_of X G z_ValueError, by decide +kernel, rfl, by decide⟩) (List.forall_mem_cons.mpr ⟨⟨_, clsOf_of rfl y_NoFit, X_NoFit, kitOne_ty (by decide +kernel) ks_NoFit_ValueError⟩, List.forall_mem_cons.mpr ⟨⟨_, clsOf_of rfl y_NoPart, X_NoPart, kitOne_ty (by decide +kernel) ks_NoPart_ValueError⟩, List.forall_mem_nil _⟩⟩)
  have b1 := F1.binds (ps := ["one", "other"]) fun _ _ _ _ _ _ us hl => match us, hl with | [_, _], _ => rfl
  have K_refuse_unlike : Fk l.prog w K mg base (clsOf K) "refuse_unlike" 35 2 (G_refuse_unlike) := Fk.mk' (PySem.W.mg_of X G a1) F1.kp b1 rfl (ok_refuse_unlike sy F1 m_len E_NoFit)
  have b2 := F2.binds (ps := ["one", "other"]) fun _ _ _ _ _ _ us hl => match us, hl with | [_, _], _ => rfl
  have K_less : Fk l.prog w K mg base (clsOf K) "less" 36 2 (G_less) := Fk.mk' (PySem.W.mg_of X G a2) F2.kp b2 rfl (ok_less sy F2 (K_refuse_unlike.up (by decide)) m_zip)
  have b3 := F3.binds (ps := ["purse", "many"]) fun _ _ _ _ _ _ us hl => match us, hl with | [_, _], _ => rfl
  have K_taken : Fk l.prog w K mg base (clsOf K) "taken" 35 2 (G_taken) := Fk.mk' (PySem.W.mg_of X G a3) F3.kp b3 rfl (ok_taken sy F3)
  have b4 := F4.binds (ps := ["purses", "k"]) fun _ _ _ _ _ _ us hl => match us, hl with | [_, _], _ => rfl
  have K_refuse_misfits : Fk l.prog w K mg base (clsOf K) "refuse_misfits" 35 2 (G_refuse_misfits) := Fk.mk' (PySem.W.mg_of X G a4) F4.kp b4 rfl (ok_refuse_misfits sy F4 m_len E_NoFit)
  have b5 := F5.binds (ps := ["purse"]) fun _ _ _ _ _ _ us hl => match us, hl with | [_], _ => rfl
  have K_place_of : Fk l.prog w K mg base (clsOf K) "place_of" 35 1 (G_place_of) := Fk.mk' (PySem.W.mg_of X G a5) F5.kp b5 rfl (ok_place_of sy F5 m_enumerate m_len)
  have b6 := F6.binds (ps := ["rungs", "purse"]) fun _ _ _ _ _ _ us hl => match us, hl with | [_, _], _ => rfl
  have K_led : Fk l.prog w K mg base (clsOf K) "led" 37 2 (G_led) := Fk.mk' (PySem.W.mg_of X G a6) F6.kp b6 rfl (ok_led sy F6 (K_less.up (by decide)) (K_place_of.up (by decide)) (K_refuse_unlike.up (by decide)) (K_taken.up (by decide)) m_list)
  have b7 := F7.binds (ps := ["rungs", "purse"]) fun _ _ _ _ _ _ us hl => match us, hl with | [_, _], _ => rfl
  have K_is_made : Fk l.prog w K mg base (clsOf K) "is_made" 38 2 (G_is_made) := Fk.mk' (PySem.W.mg_of X G a7) F7.kp b7 rfl (ok_is_made sy F7 (K_led.up (by decide)) m_any)
  have b8 := F8.binds (ps := ["rungs"]) fun _ _ _ _ _ _ us hl => match us, hl with | [_], _ => rfl
  have K_leads : Fk l.prog w K mg base (clsOf K) "leads" 36 1 (G_leads) := Fk.mk' (PySem.W.mg_of X G a8) F8.kp b8 rfl (ok_leads sy F8 (K_place_of.up (by decide)))
  have b9 := F9.binds (ps := ["numbers"]) fun _ _ _ _ _ _ us hl => match us, hl with | [_], _ => rfl
  have K_multiplied : Fk l.prog w K mg base (clsOf K) "multiplied" 35 1 (G_multiplied) := Fk.mk' (PySem.W.mg_of X G a9) F9.kp b9 rfl (ok_multiplied sy F9)
  have b10 := F10.binds (ps := ["inner", "outer", "k"]) fun _ _ _ _ _ _ us hl => match us, hl with | [_, _, _], _ => rfl
  have K_lies_in : Fk l.prog w K mg base (clsOf K) "lies_in" 39 3 (G_lies_in) := Fk.mk' (PySem.W.mg_of X G a10) F10.kp b10 rfl (ok_lies_in sy F10 (K_is_made.up (by decide)) (K_refuse_misfits.up (by decide)) m_all)
  have b11 := F11.binds (ps := ["inner", "outer", "k"]) fun _ _ _ _ _ _ us hl => match us, hl with | [_, _, _], _ => rfl
  have K_beside : Fk l.prog w K mg base (clsOf K) "beside" 40 3 (G_beside) := Fk.mk' (PySem.W.mg_of X G a11) F11.kp b11 rfl (ok_beside sy F11 (K_leads.up (by decide)) (K_lies_in.up (by decide)) (K_multiplied.up (by decide)) m_len E_NoPart)
  have b12 := F12.binds (ps := ["cell", "at"]) fun _ _ _ _ _ _ us hl => match us, hl with | [_, _], _ => rfl
  have K__law_b_mixed : Fk l.prog w K mg base (clsOf K) "_law_b_mixed" 35 2 (G__law_b_mixed) := Fk.mk' (PySem.W.mg_of X G a12) F12.kp b12 rfl (ok__law_b_mixed sy F12)
  have b13 := F13.binds (ps := ["tape", "many"]) fun _ _ _ _ _ _ us hl => match us, hl with | [_, _], _ => rfl
  have K__law_b_take : Fk l.prog w K mg base (clsOf K) "_law_b_take" 36 2 (G__law_b_take) := Fk.mk' (PySem.W.mg_of X G a13) F13.kp b13 rfl (ok__law_b_take sy F13 (K__law_b_mixed.up (by decide)) m_len)
  have b14 := F14.binds (ps := ["tape", "many", "k"]) fun _ _ _ _ _ _ us hl => match us, hl with | [_, _, _], _ => rfl
  have K__law_b_rows : Fk l.prog w K mg base (clsOf K) "_law_b_rows" 37 3 (G__law_b_rows) := Fk.mk' (PySem.W.mg_of X G a14) F14.kp b14 rfl (ok__law_b_rows sy F14 (K__law_b_take.up (by decide)) m_range)
  have b15 := F15.binds (ps := ["rows"]) fun _ _ _ _ _ _ us hl => match us, hl with | [_], _ => rfl
  have K__law_b_copy : Fk l.prog w K mg base (clsOf K) "_law_b_copy" 35 1 (G__law_b_copy) := Fk.mk' (PySem.W.mg_of X G a15) F15.kp b15 rfl (ok__law_b_copy sy F15 m_list)
  have b16 := F16.binds (ps := ["rows", "k"]) fun _ _ _ _ _ _ us hl => match us, hl with | [_, _], _ => rfl
  have K__law_b_stair : Fk l.prog w K mg base (clsOf K) "_law_b_stair" 35 2 (G__law_b_stair fuel) := Fk.mk' (PySem.W.mg_of X G a16) F16.kp b16 rfl (ok__law_b_stair fuel sy F16 m_abs m_len m_list m_min m_range m_zip)
  have b17 := F17.binds (ps := ["rungs", "purse"]) fun _ _ _ _ _ _ us hl => match us, hl with | [_, _], _ => rfl
  have K__law_b_rest : Fk l.prog w K mg base (clsOf K) "_law_b_rest" 35 2 (G__law_b_rest) := Fk.mk' (PySem.W.mg_of X G a17) F17.kp b17 rfl (ok__law_b_rest sy F17 m_len m_list m_range m_zip)
  have b18 := F18.binds (ps := ["rungs", "purse"]) fun _ _ _ _ _ _ us hl => match us, hl with | [_, _], _ => rfl
  have K__law_b_made : Fk l.prog w K mg base (clsOf K) "_law_b_made" 36 2 (G__law_b_made) := Fk.mk' (PySem.W.mg_of X G a18) F18.kp b18 rfl (ok__law_b_made sy F18 (K__law_b_rest.up (by decide)) m_any)
  have b19 := F19.binds (ps := ["counts", "rows", "k"]) fun _ _ _ _ _ _ us hl => match us, hl with | [_, _, _], _ => rfl
  have K__law_b_sum : Fk l.prog w K mg base (clsOf K) "_law_b_sum" 35 3 (G__law_b_sum) := Fk.mk' (PySem.W.mg_of X G a19) F19.kp b19 rfl (ok__law_b_sum sy F19 m_zip)
  have b20 := F20.binds (ps := ["tape", "kinds"]) fun _ _ _ _ _ _ us hl => match us, hl with | [_, _], _ => rfl
  have K__law_b_pair : Fk l.prog w K mg base (clsOf K) "_law_b_pair" 38 2 (G__law_b_pair fuel) := Fk.mk' (PySem.W.mg_of X G a20) F20.kp b20 rfl (ok__law_b_pair fuel sy F20 (K__law_b_rows.up (by decide)) (K__law_b_stair.up (by decide)) (K__law_b_sum.up (by decide)) (K__law_b_take.up (by decide)) m_range)
  have b21 := F21.binds (ps := ["e"]) fun _ _ _ _ _ _ us hl => match us, hl with | [_], _ => rfl
  have K__law_b_kinds : Fk l.prog w K mg base (clsOf K) "_law_b_kinds" 35 1 (G__law_b_kinds) := Fk.mk' (PySem.W.mg_of X G a21) F21.kp b21 rfl (ok__law_b_kinds sy F21 m_isinstance I_Endless I_NoFit I_NoName I_NoPart I_NoRow I_NoTariff I_NoText I_TooMany I_Twice)
  have b22 := F22.binds (ps := ["e"]) fun _ _ _ _ _ _ us hl => match us, hl with | [_], _ => rfl
  have K__law_b_word : Fk l.prog w K mg base (clsOf K) "_law_b_word" 36 1 (G__law_b_word) := Fk.mk' (PySem.W.mg_of X G a22) F22.kp b22 rfl (ok__law_b_word sy F22 (K__law_b_kinds.up (by decide)) m_isinstance I_MartError I_ValueError)
  have b23 := F23.binds (ps := ["inner", "outer", "k"]) fun _ _ _ _ _ _ us hl => match us, hl with | [_, _, _], _ => rfl
  have K__law_b_asked : Fk l.prog w K mg base (clsOf K) "_law_b_asked" 41 3 (G__law_b_asked) := Fk.mk' (PySem.W.mg_of X G a23) F23.kp b23 rfl (ok__law_b_asked sy F23 (K__law_b_word.up (by decide)) (K_beside.up (by decide)) H_MartError)
  have b24 := F24.binds (ps := ["inner", "outer", "k"]) fun _ _ _ _ _ _ us hl => match us, hl with | [_, _, _], _ => rfl
  have K__law_b_right : Fk l.prog w K mg base (clsOf K) "_law_b_right" 42 3 (G__law_b_right) := Fk.mk' (PySem.W.mg_of X G a24) F24.kp b24 rfl (ok__law_b_right sy F24 (K__law_b_asked.up (by decide)) (K__law_b_copy.up (by decide)) (K__law_b_made.up (by decide)) (K_lies_in.up (by decide)) m_all m_bool m_int m_isinstance m_range)
  have ok := ok_law (P := l.prog) (w := w) (base := base) (cls := clsOf K) fuel sy F25 (K__law_b_pair.up (by decide)) (K__law_b_right.up (by decide)) (K_lies_in.up (by decide)) m_int m_len m_range
  exact ok
end
end Lw
open PySem PySem.W PyProof.Rows
set_option maxRecDepth 100000 in
set_option maxHeartbeats 0 in
theorem PySem.Challenge.cw_swapmart_k34_lies_in_holds : PySem.Challenge.rw_swapmart_k34_lies_in.Holds := by
  w_on; o_law; k_head; (case hw => w_witness2)
  k_fill
  refine Sr.walkN (l := PySem.Challenge.rw_swapmart_k34_lies_in) (n := 63) (k := 43) (x := "script") (g := Lw.G_law Lw.fuel) rfl (by decide) rfl ⟨rfl, by decide, by decide⟩ rfl (by decide +kernel) (fun w h Y => PySem.W.kIn_of Y) ?F Lw.law_true
  case F =>
    intro w mg fa h KX G hmg
    refine' Lw.all_mk Lw.fuel KX G hmg ?a1 ?l1 ?c1 ?k1 ?a2 ?l2 ?c2 ?k2 ?a3 ?l3 ?c3 ?k3 ?a4 ?l4 ?c4 ?k4 ?a5 ?l5 ?c5 ?k5 ?a6 ?l6 ?c6 ?k6 ?a7 ?l7 ?c7 ?k7 ?a8 ?l8 ?c8 ?k8 ?a9 ?l9 ?c9 ?k9 ?a10 ?l10 ?c10 ?k10 ?a11 ?l11 ?c11 ?k11 ?a12 ?l12 ?c12 ?k12 ?a13 ?l13 ?c13 ?k13 ?a14 ?l14 ?c14 ?k14 ?a15 ?l15 ?c15 ?k15 ?a16 ?l16 ?c16 ?k16 ?a17 ?l17 ?c17 ?k17 ?a18 ?l18 ?c18 ?k18 ?a19 ?l19 ?c19 ?k19 ?a20 ?l20 ?c20 ?k20 ?a21 ?l21 ?c21 ?k21 ?a22 ?l22 ?c22 ?k22 ?a23 ?l23 ?c23 ?k23 ?a24 ?l24 ?c24 ?k24 ?a25 ?l25 ?c25 ?k25 ?z_abs ?z_all ?z_any ?z_bool ?z_enumerate ?z_int ?z_isinstance ?z_len ?z_list ?z_min ?z_range ?z_zip ?y_Endless ?y_MartError ?y_NoFit ?y_NoName ?y_NoPart ?y_NoRow ?y_NoTariff ?y_NoText ?y_TooMany ?y_Twice ?ex_NoFit ?kp_NoFit ?ex_NoPart ?kp_NoPart ?sb_MartError ?ty_MartError ?sb_NoFit ?ty_NoFit ?sb_NoPart ?ty_NoPart ?hd_MartError ?sub_NoFit_MartError ?sub_NoPart_MartError ?xg_NoFit ?xk_NoFit ?xs_NoFit ?xd_NoFit ?xa_NoFit ?xm_NoFit ?xg_NoPart ?xk_NoPart ?xs_NoPart ?xd_NoPart ?xa_NoPart ?xm_NoPart ?xn ?xt ?ks_NoFit_Endless ?ks_NoPart_Endless ?kc_Endless ?kt_Endless ?kf_Endless ?ks_NoFit_MartError ?ks_NoPart_MartError ?kc_MartError ?kt_MartError ?kf_MartError ?ks_NoFit_NoFit ?ks_NoPart_NoFit ?kc_NoFit ?kt_NoFit ?kf_NoFit ?ks_NoFit_NoName ?ks_NoPart_NoName ?kc_NoName ?kt_NoName ?kf_NoName ?ks_NoFit_NoPart ?ks_NoPart_NoPart ?kc_NoPart ?kt_NoPart ?kf_NoPart ?ks_NoFit_NoRow ?ks_NoPart_NoRow ?kc_NoRow ?kt_NoRow ?kf_NoRow ?ks_NoFit_NoTariff ?ks_NoPart_NoTariff ?kc_NoTariff ?kt_NoTariff ?kf_NoTariff ?ks_NoFit_NoText ?ks_NoPart_NoText ?kc_NoText ?kt_NoText ?kf_NoText ?ks_NoFit_TooMany ?ks_NoPart_TooMany ?kc_TooMany ?kt_TooMany ?kf_TooMany ?ks_NoFit_Twice ?ks_NoPart_Twice ?kc_Twice ?kt_Twice ?kf_Twice ?ks_NoFit_ValueError ?ks_NoPart_ValueError ?z_ValueError
    (case a1 => k_is); (case l1 => k_is); (case c1 => k_is); (case k1 => k_is); (case a2 => k_is); (case l2 => k_is); (case c2 => k_is); (case k2 => k_is); (case a3 => k_is); (case l3 => k_is); (case c3 => k_is); (case k3 => k_is); (case a4 => k_is); (case l4 => k_is); (case c4 => k_is); (case k4 => k_is); (case a5 => k_is); (case l5 => k_is); (case c5 => k_is); (case k5 => k_is); (case a6 => k_is); (case l6 => k_is); (case c6 => k_is); (case k6 => k_is); (case a7 => k_is); (case l7 => k_is); (case c7 => k_is); (case k7 => k_is); (case a8 => k_is); (case l8 => k_is); (case c8 => k_is); (case k8 => k_is); (case a9 => k_is); (case l9 => k_is); (case c9 => k_is); (case k9 => k_is); (case a10 => k_is); (case l10 => k_is); (case c10 => k_is); (case k10 => k_is); (case a11 => k_is); (case l11 => k_is); (case c11 => k_is); (case k11 => k_is); (case a12 => k_is); (case l12 => k_is); (case c12 => k_is); (case k12 => k_is); (case a13 => k_is); (case l13 => k_is); (case c13 => k_is); (case k13 => k_is); (case a14 => k_is); (case l14 => k_is); (case c14 => k_is); (case k14 => k_is); (case a15 => k_is); (case l15 => k_is); (case c15 => k_is); (case k15 => k_is); (case a16 => k_is); (case l16 => k_is); (case c16 => k_is); (case k16 => k_is); (case a17 => k_is); (case l17 => k_is); (case c17 => k_is); (case k17 => k_is); (case a18 => k_is); (case l18 => k_is); (case c18 => k_is); (case k18 => k_is); (case a19 => k_is); (case l19 => k_is); (case c19 => k_is); (case k19 => k_is); (case a20 => k_is); (case l20 => k_is); (case c20 => k_is); (case k20 => k_is); (case a21 => k_is); (case l21 => k_is); (case c21 => k_is); (case k21 => k_is); (case a22 => k_is); (case l22 => k_is); (case c22 => k_is); (case k22 => k_is); (case a23 => k_is); (case l23 => k_is); (case c23 => k_is); (case k23 => k_is); (case a24 => k_is); (case l24 => k_is); (case c24 => k_is); (case k24 => k_is); (case a25 => k_is); (case l25 => k_is); (case c25 => k_is); (case k25 => k_is); (case z_abs => k_is); (case z_all => k_is); (case z_any => k_is); (case z_bool => k_is); (case z_enumerate => k_is); (case z_int => k_is); (case z_isinstance => k_is); (case z_len => k_is); (case z_list => k_is); (case z_min => k_is); (case z_range => k_is); (case z_zip => k_is); (case y_Endless => k_is); (case y_MartError => k_is); (case y_NoFit => k_is); (case y_NoName => k_is); (case y_NoPart => k_is); (case y_NoRow => k_is); (case y_NoTariff => k_is); (case y_NoText => k_is); (case y_TooMany => k_is); (case y_Twice => k_is); (case kp_NoFit => k_is); (case kp_NoPart => k_is); (case sb_MartError => k_is); (case ty_MartError => k_is); (case sb_NoFit => k_is); (case ty_NoFit => k_is); (case sb_NoPart => k_is); (case ty_NoPart => k_is); (case hd_MartError => k_is); (case sub_NoFit_MartError => k_is); (case sub_NoPart_MartError => k_is); (case xg_NoFit => k_is); (case xk_NoFit => k_is); (case xs_NoFit => k_is); (case xd_NoFit => k_is); (case xa_NoFit => k_is); (case xm_NoFit => k_is); (case xg_NoPart => k_is); (case xk_NoPart => k_is); (case xs_NoPart => k_is); (case xd_NoPart => k_is); (case xa_NoPart => k_is); (case xm_NoPart => k_is); (case xn => k_is); (case xt => k_is); (case ks_NoFit_Endless => k_is); (case ks_NoPart_Endless => k_is); (case kc_Endless => k_is); (case kt_Endless => k_is); (case kf_Endless => k_is); (case ks_NoFit_MartError => k_is); (case ks_NoPart_MartError => k_is); (case kc_MartError => k_is); (case kt_MartError => k_is); (case kf_MartError => k_is); (case ks_NoFit_NoFit => k_is); (case ks_NoPart_NoFit => k_is); (case kc_NoFit => k_is); (case kt_NoFit => k_is); (case kf_NoFit => k_is); (case ks_NoFit_NoName => k_is); (case ks_NoPart_NoName => k_is); (case kc_NoName => k_is); (case kt_NoName => k_is); (case kf_NoName => k_is); (case ks_NoFit_NoPart => k_is); (case ks_NoPart_NoPart => k_is); (case kc_NoPart => k_is); (case kt_NoPart => k_is); (case kf_NoPart => k_is); (case ks_NoFit_NoRow => k_is); (case ks_NoPart_NoRow => k_is); (case kc_NoRow => k_is); (case kt_NoRow => k_is); (case kf_NoRow => k_is); (case ks_NoFit_NoTariff => k_is); (case ks_NoPart_NoTariff => k_is); (case kc_NoTariff => k_is); (case kt_NoTariff => k_is); (case kf_NoTariff => k_is); (case ks_NoFit_NoText => k_is); (case ks_NoPart_NoText => k_is); (case kc_NoText => k_is); (case kt_NoText => k_is); (case kf_NoText => k_is); (case ks_NoFit_TooMany => k_is); (case ks_NoPart_TooMany => k_is); (case kc_TooMany => k_is); (case kt_TooMany => k_is); (case kf_TooMany => k_is); (case ks_NoFit_Twice => k_is); (case ks_NoPart_Twice => k_is); (case kc_Twice => k_is); (case kt_Twice => k_is); (case kf_Twice => k_is); (case ks_NoFit_ValueError => k_is); (case ks_NoPart_ValueError => k_is); (case z_ValueError => k_is); (case ex_NoFit => k_exc); (case ex_NoPart => k_exc)
