import PyProof.Rows.All
import Wide.All
import OpenK.AllK
import Wide.FinOn
import HandS.ForMost
import HandS.Wide
import HandS.Style
import HandS.Deep
import HandS.TupAny
import HandS.Zip
import HandS.Iter
import PyProof.ReprRoads
import HandS.SortInts
import HandS.TupMul
import HandS.Conv
import PyProof.P3In
import PyProof.CallFns
import HandS.GenCall
import HandS.JoinGen
import PyProof.TupleOfGen
import PyProof.CollectWalk
import HandS.GenList
import HandS.AnyAll
import PyProof.WalksMore
import HandS.SortRule
import HandS.Sort
import PyProof.Rows.SortKeyStr
import PyProof.StrBlock2
import PyProof.Rows.StrMeet
import HandS.More
import PyProof.TupleOfSeq
import HandS.Text
import HandS.List
import PyProof.SumWalkG
import HandS.StrMore
import HandS.SetTxt0
import HandS.Set
import HandS.SetBool
import HandS.Codes
import HandS.EndTab
import HandS.EndOwn
import HandS.NestedK
import PyProof.StrLawsRepr
import HandS.IsInst
import KE.GoesMore
import HandS.TupSets
import PyProof.CollectStr
import PyProof.ListCopy
import HandS.ExcInit
import HandS.ClsMeth
import HandS.Defaults
import KE.KExcIs
import HandS.WordsExc
import HandS.SetFor
import HandS.Strs
import HandS.FStr
import HandS.Star
import HandS.Dict
import PyProof.Rows.StrIntSpec
import PySem.Challenge.RW_lotkept_k48_scheme_text
set_option Elab.async false
set_option linter.all false
set_option maxRecDepth 100000
namespace Dl
open PySem PySem.Spec PyProof.Rows L2

/-! ### data -/
/-- a value as data; ref: an object that is only handed on -/
inductive D where
  | non | bl (b : Bool) | int (i : Int) | str (z : Str) | tup (l : List D) | lst (l : List D) | dct (l : List (D × D)) | ref (a : Addr)
/-- what a name holds: nothing, data, a list or dict that the name alone holds -/
inductive DV where
  | no | val (d : D) | own (d : D)
abbrev DEnv := List DV

def kD : Key → D
  | .inl i => .int i
  | .inr z => .str z
mutual
inductive Rep (S : Addr → Prop) (H : Hp) : V → D → Prop
  | non : Rep S H .non .non
  | bl (b : Bool) : Rep S H (.bl b) (.bl b)
  | int (i : Int) : Rep S H (.int i) (.int i)
  | str (z : Str) : Rep S H (.str z) (.str z)
  | ref (a : Addr) : Rep S H (.ref a) (.ref a)
  | lst {a : Addr} {vs : List V} {ds : List D} : H a = some (.lst vs) → ¬ S a → RepL S H vs ds → Rep S H (.ref a) (.lst ds)
  | tup {a : Addr} {vs : List V} {ds : List D} : H a = some (.tup vs) → RepL S H vs ds → Rep S H (.ref a) (.tup ds)
  | dK {a : Addr} {ks : List (Key × V)} {ds : List (D × D)} : H a = some (.dK ks) → ¬ S a → RepK S H ks ds → Rep S H (.ref a) (.dct ds)
  | dT {a : Addr} {ks : List (List Key × V)} {ds : List (D × D)} : H a = some (.dT ks) → ¬ S a → RepT S H ks ds → Rep S H (.ref a) (.dct ds)
inductive RepL (S : Addr → Prop) (H : Hp) : List V → List D → Prop
  | nil : RepL S H [] []
  | cons {v : V} {vs : List V} {d : D} {ds : List D} : Rep S H v d → RepL S H vs ds → RepL S H (v :: vs) (d :: ds)
inductive RepK (S : Addr → Prop) (H : Hp) : List (Key × V) → List (D × D) → Prop
  | nil : RepK S H [] []
  | cons {k : Key} {v : V} {vs : List (Key × V)} {d : D} {ds : List (D × D)} : Rep S H v d → RepK S H vs ds → RepK S H ((k, v) :: vs) ((kD k, d) :: ds)
inductive RepT (S : Addr → Prop) (H : Hp) : List (List Key × V) → List (D × D) → Prop
  | nil : RepT S H [] []
  | cons {k : List Key} {v : V} {vs : List (List Key × V)} {d : D} {ds : List (D × D)} : Rep S H v d → RepT S H vs ds → RepT S H ((k, v) :: vs) ((.tup (k.map kD), d) :: ds)
end

/-- from H to H': all but S's is kept; S' has no other old address -/
structure Step (S : Addr → Prop) (H : Hp) (S' : Addr → Prop) (H' : Hp) : Prop where
  keep : ∀ b o, ¬ S b → H b = some o → H' b = some o
  sub : ∀ b, S' b → S b ∨ H b = none
  trk : ∀ b, H b ≠ none → H' b ≠ none
  tup : ∀ b vs, H b = some (.tup vs) → H' b = some (.tup vs)
theorem Step.refl (S : Addr → Prop) (H : Hp) : Step S H S H := ⟨fun _ _ _ e => e, fun _ h => .inl h, fun _ h => h, fun _ _ h => h⟩
theorem Step.trans {S S1 S2 : Addr → Prop} {H H1 H2 : Hp} (a : Step S H S1 H1) (b : Step S1 H1 S2 H2) : Step S H S2 H2 where
  keep := fun c o n e => b.keep c o (fun h => (a.sub c h).elim n fun z => by rw [z] at e; cases e) (a.keep c o n e)
  sub := fun c h => (b.sub c h).elim (a.sub c) fun z => by
    by_cases q : H c = none
    · exact .inr q
    · exact absurd z (a.trk c q)
  trk := fun c h => b.trk c (a.trk c h)
  tup := fun c vs h => b.tup c vs (a.tup c vs h)
theorem Step.same {S : Addr → Prop} {H H' : Hp} (s : Same H H') : Step S H S H' :=
  ⟨fun b o _ e => s b o e, fun _ h => .inl h, fun b h => by
    cases q : H b with
    | none => exact absurd q h
    | some o => rw [s b o q]; exact (fun z => nomatch z), fun b vs e => s b _ e⟩
theorem Step.free {S S' : Addr → Prop} {H H' : Hp} (s : Step S H S' H') {p : Addr} (h : H' p = none) : H p = none := by
  cases q : H p with
  | none => rfl
  | some o => exact absurd h (s.trk p (by rw [q]; exact fun z => nomatch z))
theorem Step.at {S S' : Addr → Prop} {H H' : Hp} (s : Step S H S' H') {a : Addr} {o : HO} (e : H a = some o) (n : ¬ S a) : H' a = some o ∧ ¬ S' a :=
  ⟨s.keep a o n e, fun h => (s.sub a h).elim n fun z => by rw [z] at e; cases e⟩

section
variable {S S' : Addr → Prop} {H H' : Hp}
mutual
theorem Rep.go {v : V} {d : D} (h : Rep S H v d) (s : Step S H S' H') : Rep S' H' v d := by
  cases h with
  | non => exact .non
  | bl b => exact .bl b
  | int i => exact .int i
  | str z => exact .str z
  | ref a => exact .ref a
  | lst e n r => exact .lst (s.at e n).1 (s.at e n).2 (RepL.go r s)
  | tup e r => exact .tup (s.tup _ _ e) (RepL.go r s)
  | dK e n r => exact .dK (s.at e n).1 (s.at e n).2 (RepK.go r s)
  | dT e n r => exact .dT (s.at e n).1 (s.at e n).2 (RepT.go r s)
theorem RepL.go {v : List V} {d : List D} (h : RepL S H v d) (s : Step S H S' H') : RepL S' H' v d := by
  cases h with
  | nil => exact .nil
  | cons a b => exact .cons (Rep.go a s) (RepL.go b s)
theorem RepK.go {v : List (Key × V)} {d : List (D × D)} (h : RepK S H v d) (s : Step S H S' H') : RepK S' H' v d := by
  cases h with
  | nil => exact .nil
  | cons a b => exact .cons (Rep.go a s) (RepK.go b s)
theorem RepT.go {v : List (List Key × V)} {d : List (D × D)} (h : RepT S H v d) (s : Step S H S' H') : RepT S' H' v d := by
  cases h with
  | nil => exact .nil
  | cons a b => exact .cons (Rep.go a s) (RepT.go b s)
end
theorem RepL.length {v : List V} {d : List D} : RepL S H v d → v.length = d.length := by
  induction v generalizing d with
  | nil => intro h; cases h; rfl
  | cons x r ih => intro h; cases h with | cons a b => simp [ih b]
theorem RepL.get {v : List V} {d : List D} {i : Nat} {x : D} : RepL S H v d → d[i]? = some x → ∃ u, v[i]? = some u ∧ Rep S H u x := by
  induction v generalizing d i with
  | nil => intro h e; cases h; simp at e
  | cons y r ih =>
    intro h e
    cases h with
    | cons a b =>
      cases i with
      | zero => simp at e; subst e; exact ⟨_, rfl, a⟩
      | succ i => simpa using ih b (by simpa using e)
theorem RepL.get' {v : List V} {d : List D} {i : Nat} {u : V} : RepL S H v d → v[i]? = some u → ∃ x, d[i]? = some x ∧ Rep S H u x := by
  induction v generalizing d i with
  | nil => intro h e; simp at e
  | cons y r ih =>
    intro h e
    cases h with
    | cons a b =>
      cases i with
      | zero => simp at e; subst e; exact ⟨_, rfl, a⟩
      | succ i => simpa using ih b (by simpa using e)
theorem RepL.append {v w : List V} {d e : List D} (a : RepL S H v d) (b : RepL S H w e) : RepL S H (v ++ w) (d ++ e) := by
  induction v generalizing d with
  | nil => cases a; exact b
  | cons y r ih => cases a with | cons h t => exact .cons h (ih t)
theorem RepL.snoc {v : List V} {d : List D} {u : V} {x : D} (a : RepL S H v d) (b : Rep S H u x) : RepL S H (v ++ [u]) (d ++ [x]) := a.append (.cons b .nil)
theorem RepL.take {v : List V} {d : List D} (n : Nat) (a : RepL S H v d) : RepL S H (v.take n) (d.take n) := by
  induction v generalizing d n with
  | nil => cases a; simp; exact .nil
  | cons y r ih =>
    cases a with
    | cons h t =>
      cases n with
      | zero => exact .nil
      | succ n => exact .cons h (ih n t)
theorem RepL.drop {v : List V} {d : List D} (n : Nat) (a : RepL S H v d) : RepL S H (v.drop n) (d.drop n) := by
  induction v generalizing d n with
  | nil => cases a; simp; exact .nil
  | cons y r ih =>
    cases a with
    | cons h t =>
      cases n with
      | zero => exact .cons h t
      | succ n => exact ih n t
theorem RepL.rev {v : List V} {d : List D} (a : RepL S H v d) : RepL S H v.reverse d.reverse := by
  induction v generalizing d with
  | nil => cases a; exact .nil
  | cons y r ih => cases a with | cons h t => rw [List.reverse_cons, List.reverse_cons]; exact (ih t).snoc h
theorem RepL.nil_iff {v : List V} {d : List D} (a : RepL S H v d) : v = [] ↔ d = [] := by
  cases a with
  | nil => simp
  | cons _ _ => simp
theorem RepL.strs {zs : List Str} : RepL S H (zs.map V.str) (zs.map D.str) := by
  induction zs with
  | nil => exact .nil
  | cons z r ih => exact .cons (.str z) ih
theorem RepL.ints {zs : List Int} : RepL S H (zs.map V.int) (zs.map D.int) := by
  induction zs with
  | nil => exact .nil
  | cons z r ih => exact .cons (.int z) ih
theorem RepL.strs' {v : List V} {zs : List Str} : RepL S H v (zs.map D.str) → v = zs.map V.str := by
  induction zs generalizing v with
  | nil => intro h; cases h; rfl
  | cons z r ih =>
    intro h
    cases h with
    | cons a b => cases a; rw [ih b]; rfl
theorem RepL.ints' {v : List V} {zs : List Int} : RepL S H v (zs.map D.int) → v = zs.map V.int := by
  induction zs generalizing v with
  | nil => intro h; cases h; rfl
  | cons z r ih =>
    intro h
    cases h with
    | cons a b => cases a; rw [ih b]; rfl
end
end Dl
set_option maxRecDepth 100000
namespace Dl
open PySem PySem.Spec PyProof.Rows L2

/-! ### the world: what the program changes besides its own lists -/
structure Wd where
  W : Type
  mu : W → Addr → Prop
  rep : W → Hp → Prop
  trk : ∀ {w H b}, rep w H → mu w b → H b ≠ none
  stay : ∀ {w H H'}, rep w H → (∀ b o, mu w b → H b = some o → H' b = some o) → rep w H'

variable {L : Wd}
/-- a frame: what it may not touch, the world and the heap at its entry -/
structure Ph (L : Wd) where
  F : Addr → Prop
  w0 : L.W
  H0 : Hp
def Ph.add (Φ : Ph L) (a : Addr) : Ph L := { Φ with F := fun b => Φ.F b ∨ b = a }
def Sof (Φ : Ph L) (δ : DEnv) (σ : L2.St) (w : L.W) (b : Addr) : Prop := L.mu w b ∨ Φ.F b ∨ ∃ (i : Nat) (d : D), δ[i]? = some (DV.own d) ∧ σ[i]? = some (some (V.ref b))
/-- what the frame may change -/
def Mof (L : Wd) (δ : DEnv) (σ : L2.St) (w : L.W) (b : Addr) : Prop := L.mu w b ∨ ∃ (i : Nat) (d : D), δ[i]? = some (DV.own d) ∧ σ[i]? = some (some (V.ref b))
theorem Mof.S {Φ : Ph L} {δ : DEnv} {σ : L2.St} {w : L.W} {b : Addr} (h : Mof L δ σ w b) : Sof Φ δ σ w b := h.elim .inl fun h => .inr (.inr h)
theorem Sof.M {Φ : Ph L} {δ : DEnv} {σ : L2.St} {w : L.W} {b : Addr} (h : Sof Φ δ σ w b) : Mof L δ σ w b ∨ Φ.F b := by
  rcases h with h | h | h
  · exact .inl (.inl h)
  · exact .inr h
  · exact .inl (.inr h)
theorem Step.S {Φ : Ph L} {δ δ' : DEnv} {σ σ' : L2.St} {w w' : L.W} {H H' : Hp} (s : Step (Mof L δ σ w) H (Mof L δ' σ' w') H') : Step (Sof Φ δ σ w) H (Sof Φ δ' σ' w') H' :=
  ⟨fun b o n e => s.keep b o (fun h => n h.S) e, fun b h => by
    rcases h.M with h | h
    · exact (s.sub b h).imp Mof.S _root_.id
    · exact .inl (.inr (.inl h)), s.trk, s.tup⟩
/-- what stands at a list or dict that a name holds alone -/
def OwnAt (S : Addr → Prop) (H : Hp) (a : Addr) : D → Prop
  | .lst l => ∃ vs, H a = some (.lst vs) ∧ RepL S H vs l
  | .dct l => ∃ ks, H a = some (.dK ks) ∧ RepK S H ks l
  | _ => False
structure At (Φ : Ph L) (δ : DEnv) (w : L.W) (σ : L2.St) (H : Hp) : Prop where
  len : δ.length = σ.length
  rep : L.rep w H
  go : Step (L.mu Φ.w0) Φ.H0 (L.mu w) H
  trk : ∀ b, Φ.F b → H b ≠ none
  fm : ∀ b, Φ.F b → ¬ L.mu w b
  val : ∀ (i : Nat) (d : D), δ[i]? = some (.val d) → ∃ v, σ[i]? = some (some v) ∧ Rep (Sof Φ δ σ w) H v d
  own : ∀ (i : Nat) (d : D), δ[i]? = some (.own d) → ∃ a, σ[i]? = some (some (.ref a)) ∧ OwnAt (Sof Φ δ σ w) H a d ∧ ¬ L.mu w a ∧ ¬ Φ.F a ∧ Φ.H0 a = none
  dis : ∀ (i j : Nat) (d e : D) (a : Addr), δ[i]? = some (.own d) → δ[j]? = some (.own e) → σ[i]? = some (some (.ref a)) → σ[j]? = some (some (.ref a)) → i = j

section
variable {Φ : Ph L} {δ δ' : DEnv} {w w' : L.W} {σ σ' : L2.St} {H H' : Hp} {S S' : Addr → Prop}
theorem OwnAt.some {a : Addr} {d : D} (h : OwnAt S H a d) : H a ≠ none := by
  unfold OwnAt at h
  split at h
  · obtain ⟨vs, e, _⟩ := h; rw [e]; exact fun z => nomatch z
  · obtain ⟨vs, e, _⟩ := h; rw [e]; exact fun z => nomatch z
  · exact h.elim
theorem OwnAt.notTup {a : Addr} {d : D} (h : OwnAt S H a d) (us : List V) : H a ≠ Option.some (HO.tup us) := by
  unfold OwnAt at h
  split at h
  · obtain ⟨vs, e, _⟩ := h; rw [e]; exact fun z => nomatch z
  · obtain ⟨vs, e, _⟩ := h; rw [e]; exact fun z => nomatch z
  · exact h.elim
theorem OwnAt.go {a : Addr} {d : D} (h : OwnAt S H a d) (e : ∀ o, H a = .some o → H' a = .some o) (s : Step S H S' H') : OwnAt S' H' a d := by
  unfold OwnAt at h ⊢
  split at h
  · obtain ⟨vs, e1, r⟩ := h; exact ⟨vs, e _ e1, r.go s⟩
  · obtain ⟨vs, e1, r⟩ := h; exact ⟨vs, e _ e1, r.go s⟩
  · exact h.elim
theorem At.tr (A : At Φ δ w σ H) {b : Addr} (h : Sof Φ δ σ w b) : H b ≠ none := by
  rcases h with h | h | ⟨i, d, h1, h2⟩
  · exact L.trk A.rep h
  · exact A.trk b h
  · obtain ⟨a, e, o, _⟩ := A.own i d h1
    rw [h2] at e
    cases e
    exact o.some
/-- what is untracked is none of S's -/
theorem At.nS (A : At Φ δ w σ H) {p : Addr} (h : H p = none) : ¬ Sof Φ δ σ w p := fun z => A.tr z h
theorem At.new0 (A : At Φ δ w σ H) {p : Addr} (h : H p = none) : Φ.H0 p = none := by
  cases q : Φ.H0 p with
  | none => rfl
  | some o => exact absurd h (A.go.trk p (by rw [q]; exact fun z => nomatch z))
theorem sub_step (h : ∀ b, S' b → S b) (H : Hp) : Step S H S' H := ⟨fun _ _ _ e => e, fun b z => .inl (h b z), fun _ z => z, fun _ _ z => z⟩
/-- the heap grows -/
theorem At.same (A : At Φ δ w σ H) (s : Same H H') : At Φ δ w σ H' where
  len := A.len
  rep := L.stay A.rep fun b o _ e => s b o e
  go := A.go.trans (Step.same s)
  trk := fun b h => (Step.same (S := L.mu w) s).trk b (A.trk b h)
  fm := A.fm
  val := fun i d h => let ⟨v, e, r⟩ := A.val i d h; ⟨v, e, r.go (Step.same s)⟩
  own := fun i d h => let ⟨a, e, r, q⟩ := A.own i d h; ⟨a, e, r.go (fun o e => s a o e) (Step.same s), q⟩
  dis := A.dis
theorem same_new {p : Addr} {o : HO} (h : H p = none) : Same H (upd H p o) := fun b u e => by rw [upd_ne (ne_of_none e h)]; exact e
/-- a name is given data -/
theorem At.set (A : At Φ δ w σ H) {i : Nat} {v : V} {d : D} (hi : i < δ.length) (r : Rep (Sof Φ δ σ w) H v d) : At Φ (δ.set i (.val d)) w (σ.set i (some v)) H ∧ ∀ b, Mof L (δ.set i (.val d)) (σ.set i (some v)) w b → Mof L δ σ w b := by
  have hs : i < σ.length := by rw [← A.len]; exact hi
  have ow : ∀ (j : Nat) (e : D), (δ.set i (.val d))[j]? = some (.own e) → j ≠ i ∧ δ[j]? = some (.own e) := fun j e h => by
    by_cases q : i = j
    · subst q; rw [List.getElem?_set_self hi] at h; cases h
    · rw [List.getElem?_set_ne q] at h; exact ⟨Ne.symm q, h⟩
  have sg : ∀ (j : Nat), j ≠ i → (σ.set i (some v))[j]? = σ[j]? := fun j h => List.getElem?_set_ne (Ne.symm h)
  have sub0 : ∀ b, Mof L (δ.set i (.val d)) (σ.set i (some v)) w b → Mof L δ σ w b := fun b h => by
    rcases h with h | ⟨j, e, h1, h2⟩
    · exact .inl h
    · obtain ⟨n, h1⟩ := ow j e h1
      rw [sg j n] at h2
      exact .inr ⟨j, e, h1, h2⟩
  have sub : ∀ b, Sof Φ (δ.set i (.val d)) (σ.set i (some v)) w b → Sof Φ δ σ w b := fun b h => h.M.elim (fun h => (sub0 b h).S) fun h => .inr (.inl h)
  refine ⟨⟨by rw [List.length_set, List.length_set]; exact A.len, A.rep, A.go, A.trk, A.fm, fun j e h => ?_, fun j e h => ?_, fun j k e e' a h1 h2 h3 h4 => ?_⟩, sub0⟩
  · by_cases q : i = j
    · subst q
      rw [List.getElem?_set_self hi] at h
      cases h
      exact ⟨v, List.getElem?_set_self hs, r.go (sub_step sub H)⟩
    · rw [List.getElem?_set_ne q] at h
      obtain ⟨u, e1, r1⟩ := A.val j e h
      exact ⟨u, by rw [sg j (Ne.symm q)]; exact e1, r1.go (sub_step sub H)⟩
  · obtain ⟨n, h1⟩ := ow j e h
    obtain ⟨a, e1, r1, q1⟩ := A.own j e h1
    exact ⟨a, by rw [sg j n]; exact e1, r1.go (fun _ z => z) (sub_step sub H), q1⟩
  · obtain ⟨n1, h1⟩ := ow j e h1
    obtain ⟨n2, h2⟩ := ow k e' h2
    rw [sg j n1] at h3
    rw [sg k n2] at h4
    exact A.dis j k e e' a h1 h2 h3 h4
/-- the list at a, that none holds, may be forgotten -/
theorem At.drop {a : Addr} (A : At (Φ.add a) δ w σ H) : At Φ δ w σ H := by
  have sub : ∀ b, Sof Φ δ σ w b → Sof (Φ.add a) δ σ w b := fun b h => by
    rcases h with h | h | h
    · exact .inl h
    · exact .inr (.inl (.inl h))
    · exact .inr (.inr h)
  refine ⟨A.len, A.rep, A.go, fun b h => A.trk b (.inl h), fun b h => A.fm b (.inl h), fun i d h => ?_, fun i d h => ?_, A.dis⟩
  · obtain ⟨v, e, r⟩ := A.val i d h
    exact ⟨v, e, r.go (sub_step sub H)⟩
  · obtain ⟨b, e, r, q1, q2, q3⟩ := A.own i d h
    exact ⟨b, e, r.go (fun _ z => z) (sub_step sub H), q1, fun z => q2 (.inl z), q3⟩
theorem sub_drop {a : Addr} : ∀ b, Sof Φ δ σ w b → Sof (Φ.add a) δ σ w b := fun b h => by
  rcases h with h | h | h
  · exact .inl h
  · exact .inr (.inl (.inl h))
  · exact .inr (.inr h)
theorem sub_add {a b : Addr} (h : Sof (Φ.add a) δ σ w b) : Sof Φ δ σ w b ∨ b = a := by
  rcases h with h | h | h
  · exact .inl (.inl h)
  · rcases h with h | h
    · exact .inl (.inr (.inl h))
    · exact .inr h
  · exact .inl (.inr (.inr h))
/-- a new object at a is set apart -/
theorem At.add {a : Addr} {o : HO} (A : At Φ δ w σ H) (n : H a = none) : At (Φ.add a) δ w σ (upd H a o) := by
  have s : Same H (upd H a o) := same_new n
  have st : Step (Sof Φ δ σ w) H (Sof (Φ.add a) δ σ w) (upd H a o) := ⟨fun b u _ e => s b u e, fun b h => (sub_add h).imp id fun e => by rw [e]; exact n, (Step.same (S := L.mu w) s).trk, fun b vs e => s b _ e⟩
  have nm : ¬ L.mu w a := fun z => L.trk A.rep z n
  refine ⟨A.len, L.stay A.rep fun b u _ e => s b u e, A.go.trans (Step.same s), fun b h => ?_, fun b h => ?_, fun i d h => ?_, fun i d h => ?_, A.dis⟩
  · rcases h with h | h
    · exact (Step.same (S := L.mu w) s).trk b (A.trk b h)
    · rw [h, upd_same]; exact fun z => nomatch z
  · rcases h with h | h
    · exact A.fm b h
    · rw [h]; exact nm
  · obtain ⟨v, e, r⟩ := A.val i d h
    exact ⟨v, e, r.go st⟩
  · obtain ⟨b, e, r, q1, q2, q3⟩ := A.own i d h
    refine ⟨b, e, r.go (fun u z => s b u z) st, q1, fun z => ?_, q3⟩
    rcases z with z | z
    · exact q2 z
    · exact r.some (by rw [z]; exact n)
/-- a name is given a list that none else holds -/
theorem At.setOwn {a : Addr} {i : Nat} {d : D} (A : At (Φ.add a) δ w σ H) (hi : i < δ.length) (o : OwnAt (Sof (Φ.add a) δ σ w) H a d) (n : ¬ Sof Φ δ σ w a) (h0 : Φ.H0 a = none) :
    At Φ (δ.set i (.own d)) w (σ.set i (some (.ref a))) H ∧ ∀ b, Mof L (δ.set i (.own d)) (σ.set i (some (.ref a))) w b → Mof L δ σ w b ∨ b = a := by
  have hs : i < σ.length := by rw [← A.len]; exact hi
  have sg : ∀ (j : Nat), j ≠ i → (σ.set i (some (V.ref a)))[j]? = σ[j]? := fun j h => List.getElem?_set_ne (Ne.symm h)
  have ow : ∀ (j : Nat) (e : D), (δ.set i (.own d))[j]? = some (.own e) → (j = i ∧ e = d) ∨ (j ≠ i ∧ δ[j]? = some (.own e)) := fun j e h => by
    by_cases q : i = j
    · subst q; rw [List.getElem?_set_self hi] at h; cases h; exact .inl ⟨rfl, rfl⟩
    · rw [List.getElem?_set_ne q] at h; exact .inr ⟨Ne.symm q, h⟩
  have sub0 : ∀ b, Mof L (δ.set i (.own d)) (σ.set i (some (.ref a))) w b → Mof L δ σ w b ∨ b = a := fun b h => by
    rcases h with h | ⟨j, e, h1, h2⟩
    · exact .inl (.inl h)
    · rcases ow j e h1 with ⟨rfl, rfl⟩ | ⟨n, h1⟩
      · rw [List.getElem?_set_self hs] at h2
        cases h2
        exact .inr rfl
      · rw [sg j n] at h2
        exact .inl (.inr ⟨j, e, h1, h2⟩)
  have sub : ∀ b, Sof Φ (δ.set i (.own d)) (σ.set i (some (.ref a))) w b → Sof Φ δ σ w b ∨ b = a := fun b h => h.M.elim (fun h => (sub0 b h).imp Mof.S _root_.id) fun h => .inl (.inr (.inl h))
  have sub2 : ∀ b, Sof Φ (δ.set i (.own d)) (σ.set i (some (.ref a))) w b → Sof (Φ.add a) δ σ w b := fun b h => (sub b h).elim (fun h => sub_drop b h) fun e => .inr (.inl (.inr e))
  have st := sub_step sub2 H
  refine ⟨⟨by rw [List.length_set, List.length_set]; exact A.len, A.rep, A.go, fun b h => A.trk b (.inl h), fun b h => A.fm b (.inl h), fun j e h => ?_, fun j e h => ?_, fun j k e e' b h1 h2 h3 h4 => ?_⟩, sub0⟩
  · have q : i ≠ j := fun q => by subst q; rw [List.getElem?_set_self hi] at h; cases h
    rw [List.getElem?_set_ne q] at h
    obtain ⟨u, e1, r1⟩ := A.val j e h
    exact ⟨u, by rw [sg j (Ne.symm q)]; exact e1, r1.go st⟩
  · rcases ow j e h with ⟨rfl, rfl⟩ | ⟨q, h1⟩
    · exact ⟨a, List.getElem?_set_self hs, o.go (fun _ z => z) st, fun z => n (.inl z), fun z => n (.inr (.inl z)), h0⟩
    · obtain ⟨b, e1, r1, q1, q2, q3⟩ := A.own j e h1
      exact ⟨b, by rw [sg j q]; exact e1, r1.go (fun _ z => z) st, q1, fun z => q2 (.inl z), q3⟩
  · have key : ∀ (j k : Nat) (e' : D), j = i → k ≠ i → δ[k]? = some (.own e') → (σ.set i (some (V.ref a)))[j]? = some (some (.ref b)) → (σ.set i (some (V.ref a)))[k]? = some (some (.ref b)) → False := fun j k f hj hk m2 m3 m4 => by
      rw [hj, List.getElem?_set_self hs] at m3
      cases m3
      rw [sg k hk] at m4
      exact n (.inr (.inr ⟨k, f, m2, m4⟩))
    rcases ow j e h1 with ⟨q1, _⟩ | ⟨q1, g1⟩ <;> rcases ow k e' h2 with ⟨q2, _⟩ | ⟨q2, g2⟩
    · rw [q1, q2]
    · exact (key j k e' q1 q2 g2 h3 h4).elim
    · exact (key k j e q2 q1 g1 h4 h3).elim
    · rw [sg j q1] at h3
      rw [sg k q2] at h4
      exact A.dis j k e e' b g1 g2 h3 h4
/-- a list that a name holds alone becomes plain data -/
theorem At.freeze {i : Nat} {l : List D} (A : At Φ δ w σ H) (h : δ[i]? = some (.own (.lst l))) : At Φ (δ.set i (.val (.lst l))) w σ H ∧ ∀ b, Mof L (δ.set i (.val (.lst l))) σ w b → Mof L δ σ w b := by
  have hi : i < δ.length := (List.getElem?_eq_some_iff.mp h).1
  obtain ⟨a, ea, ⟨vs, eH, rl⟩, qm, qF, q0⟩ := A.own i _ h
  have ow : ∀ (j : Nat) (e : D), (δ.set i (.val (.lst l)))[j]? = some (.own e) → j ≠ i ∧ δ[j]? = some (.own e) := fun j e h => by
    by_cases q : i = j
    · subst q; rw [List.getElem?_set_self hi] at h; cases h
    · rw [List.getElem?_set_ne q] at h; exact ⟨Ne.symm q, h⟩
  have sub0 : ∀ b, Mof L (δ.set i (.val (.lst l))) σ w b → Mof L δ σ w b := fun b h => by
    rcases h with h | ⟨j, e, h1, h2⟩
    · exact .inl h
    · exact .inr ⟨j, e, (ow j e h1).2, h2⟩
  have sub : ∀ b, Sof Φ (δ.set i (.val (.lst l))) σ w b → Sof Φ δ σ w b := fun b h => h.M.elim (fun h => (sub0 b h).S) fun h => .inr (.inl h)
  have na : ¬ Sof Φ (δ.set i (.val (.lst l))) σ w a := fun z => by
    rcases z with z | z | ⟨j, e, h1, h2⟩
    · exact qm z
    · exact qF z
    · obtain ⟨n, h1⟩ := ow j e h1
      exact n (A.dis j i e _ a h1 h h2 ea)
  have st := sub_step sub H
  refine ⟨⟨by rw [List.length_set]; exact A.len, A.rep, A.go, A.trk, A.fm, fun j e h' => ?_, fun j e h' => ?_, fun j k e e' b h1 h2 h3 h4 => A.dis j k e e' b (ow j e h1).2 (ow k e' h2).2 h3 h4⟩, sub0⟩
  · by_cases q : i = j
    · subst q
      rw [List.getElem?_set_self hi] at h'
      cases h'
      exact ⟨_, ea, .lst eH na (rl.go st)⟩
    · rw [List.getElem?_set_ne q] at h'
      obtain ⟨u, e1, r1⟩ := A.val j e h'
      exact ⟨u, e1, r1.go st⟩
  · obtain ⟨b, e1, r1, q⟩ := A.own j e (ow j e h').2
    exact ⟨b, e1, r1.go (fun _ z => z) st, q⟩
/-- a list that a name holds alone changes -/
theorem At.chg {i : Nat} {a : Addr} {d d' : D} {o : HO} (A : At Φ δ w σ H) (h : δ[i]? = some (.own d)) (ea : σ[i]? = some (some (.ref a))) (hn : OwnAt (Sof Φ δ σ w) (upd H a o) a d') :
    At Φ (δ.set i (.own d')) w σ (upd H a o) ∧ (∀ b, Sof Φ (δ.set i (.own d')) σ w b ↔ Sof Φ δ σ w b) ∧ Step (Mof L δ σ w) H (Mof L (δ.set i (.own d')) σ w) (upd H a o) := by
  have hi : i < δ.length := (List.getElem?_eq_some_iff.mp h).1
  obtain ⟨a', ea', oa, qm, qF, q0⟩ := A.own i _ h
  rw [ea] at ea'
  cases ea'
  have ow : ∀ (j : Nat), (∃ e, (δ.set i (.own d'))[j]? = some (.own e)) ↔ ∃ e, δ[j]? = some (.own e) := fun j => by
    by_cases q : i = j
    · subst q; rw [List.getElem?_set_self hi, h]; exact ⟨fun _ => ⟨_, rfl⟩, fun _ => ⟨_, rfl⟩⟩
    · rw [List.getElem?_set_ne q]
  have sub : ∀ b, Sof Φ (δ.set i (.own d')) σ w b ↔ Sof Φ δ σ w b := fun b => by
    unfold Sof
    refine or_congr Iff.rfl (or_congr Iff.rfl ⟨fun ⟨j, e, h1, h2⟩ => ?_, fun ⟨j, e, h1, h2⟩ => ?_⟩)
    · obtain ⟨e', h1'⟩ := (ow j).mp ⟨e, h1⟩; exact ⟨j, e', h1', h2⟩
    · obtain ⟨e', h1'⟩ := (ow j).mpr ⟨e, h1⟩; exact ⟨j, e', h1', h2⟩
  have Sa : Mof L δ σ w a := .inr ⟨i, d, h, ea⟩
  have subM : ∀ b, Mof L (δ.set i (.own d')) σ w b → Mof L δ σ w b := fun b z => by
    rcases z with z | ⟨j, e, h1, h2⟩
    · exact .inl z
    · obtain ⟨e', h1'⟩ := (ow j).mp ⟨e, h1⟩; exact .inr ⟨j, e', h1', h2⟩
  have tk : ∀ b, H b ≠ none → upd H a o b ≠ none := fun b z => by
    by_cases e : b = a
    · rw [e, upd_same]; exact fun z => nomatch z
    · rw [upd_ne e]; exact z
  have tp : ∀ b vs, H b = some (.tup vs) → upd H a o b = some (.tup vs) := fun b vs e => by rw [upd_ne fun z => OwnAt.notTup oa vs (by rw [← z]; exact e)]; exact e
  have st0 : Step (Mof L δ σ w) H (Mof L (δ.set i (.own d')) σ w) (upd H a o) := ⟨fun b u n e => by rw [upd_ne fun z => n (by rw [z]; exact Sa)]; exact e, fun b z => .inl (subM b z), tk, tp⟩
  have st : Step (Sof Φ δ σ w) H (Sof Φ (δ.set i (.own d')) σ w) (upd H a o) := st0.S
  have nm : ∀ b, L.mu w b → b ≠ a := fun b z e => qm (e ▸ z)
  refine ⟨⟨by rw [List.length_set]; exact A.len, L.stay A.rep fun b u z e => by rw [upd_ne (nm b z)]; exact e, ⟨fun b u n e => ?_, A.go.sub, fun b z => tk b (A.go.trk b z), fun b vs e => tp b vs (A.go.tup b vs e)⟩, fun b z => tk b (A.trk b z), A.fm, fun j e h' => ?_, fun j e h' => ?_, fun j k e e' b h1 h2 h3 h4 => ?_⟩, sub, st0⟩
  · rw [upd_ne fun z => by rw [z, q0] at e; cases e]
    exact A.go.keep b u n e
  · have q : i ≠ j := fun q => by subst q; rw [List.getElem?_set_self hi] at h'; cases h'
    rw [List.getElem?_set_ne q] at h'
    obtain ⟨u, e1, r1⟩ := A.val j e h'
    exact ⟨u, e1, r1.go st⟩
  · by_cases q : i = j
    · subst q
      rw [List.getElem?_set_self hi] at h'
      cases h'
      exact ⟨a, ea, hn.go (fun _ z => z) (sub_step (fun b z => (sub b).mp z) _), qm, qF, q0⟩
    · rw [List.getElem?_set_ne q] at h'
      obtain ⟨b, e1, r1, q1⟩ := A.own j e h'
      refine ⟨b, e1, r1.go (fun u z => ?_) st, q1⟩
      rw [upd_ne fun z => q (A.dis i j d e a h h' ea (by rw [← z]; exact e1))]
      exact z
  · obtain ⟨e1, h1⟩ := (ow j).mp ⟨e, h1⟩
    obtain ⟨e2, h2⟩ := (ow k).mp ⟨e', h2⟩
    exact A.dis j k e1 e2 b h1 h2 h3 h4
end
end Dl
set_option maxRecDepth 100000
namespace Dl
open PySem PySem.Spec PyProof.Rows L2

abbrev DE (L : Wd) := DEnv → L.W → (D → DEnv → L.W → Prop) → Prop
abbrev DT (L : Wd) := DEnv → L.W → (Bool → DEnv → L.W → Prop) → Prop
abbrev DA (L : Wd) := DEnv → L.W → (List D → DEnv → L.W → Prop) → Prop
structure DEnds (L : Wd) where
  nx : DEnv → L.W → Prop
  rt : D → L.W → Prop
  bk : DEnv → L.W → Prop
  ct : DEnv → L.W → Prop
abbrev DS (L : Wd) := DEnds L → DEnv → L.W → Prop
abbrev DG := D → DEnv → (DEnv → Prop) → Prop

variable {L : Wd}
section
variable {Φ : Ph L} {δ δ' : DEnv} {w w' : L.W} {σ σ' : L2.St} {H H' : Hp}
theorem At.setF {a : Addr} {o : HO} (A : At Φ δ w σ H) (hF : Φ.F a) (h0 : Φ.H0 a = none) (nt : ∀ vs, H a ≠ some (.tup vs)) : At Φ δ w σ (upd H a o) ∧ Step (Sof Φ δ σ w) H (Sof Φ δ σ w) (upd H a o) := by
  have tk : ∀ b, H b ≠ none → upd H a o b ≠ none := fun b z => by
    by_cases e : b = a
    · rw [e, upd_same]; exact fun z => nomatch z
    · rw [upd_ne e]; exact z
  have tp : ∀ b vs, H b = some (.tup vs) → upd H a o b = some (.tup vs) := fun b vs e => by rw [upd_ne fun z => nt vs (by rw [← z]; exact e)]; exact e
  have Sa : Sof Φ δ σ w a := .inr (.inl hF)
  have st : Step (Sof Φ δ σ w) H (Sof Φ δ σ w) (upd H a o) := ⟨fun b u n e => by rw [upd_ne fun z => n (by rw [z]; exact Sa)]; exact e, fun b z => .inl z, tk, tp⟩
  refine ⟨⟨A.len, L.stay A.rep fun b u z e => by rw [upd_ne fun q => A.fm a hF (by rw [← q]; exact z)]; exact e, ⟨fun b u n e => ?_, A.go.sub, fun b z => tk b (A.go.trk b z), fun b vs e => tp b vs (A.go.tup b vs e)⟩, fun b z => tk b (A.trk b z), A.fm, fun j e h' => ?_, fun j e h' => ?_, A.dis⟩, st⟩
  · rw [upd_ne fun z => by rw [z, h0] at e; cases e]
    exact A.go.keep b u n e
  · obtain ⟨u, e1, r1⟩ := A.val j e h'
    exact ⟨u, e1, r1.go st⟩
  · obtain ⟨b, e1, r1, q1, q2, q3⟩ := A.own j e h'
    exact ⟨b, e1, r1.go (fun u z => by rw [upd_ne fun q => q2 (by rw [q]; exact hF)]; exact z) st, q1, q2, q3⟩
end

/-- an expression's reading, from what it means in data -/
def TD (d : DE L) : TE := fun σ H Q => ∃ (Φ : Ph L) (δ : DEnv) (w : L.W) (R : D → DEnv → L.W → Prop), At Φ δ w σ H ∧ d δ w R ∧
  ∀ x δ' w' v H', R x δ' w' → At Φ δ' w' σ H' → Step (Mof L δ σ w) H (Mof L δ' σ w') H' → Rep (Sof Φ δ' σ w') H' v x → Q v H'
def TDT (d : DT L) : TT := fun σ H Q => ∃ (Φ : Ph L) (δ : DEnv) (w : L.W) (R : Bool → DEnv → L.W → Prop), At Φ δ w σ H ∧ d δ w R ∧
  ∀ x δ' w' H', R x δ' w' → At Φ δ' w' σ H' → Step (Mof L δ σ w) H (Mof L δ' σ w') H' → Q x H'
def TDA (d : DA L) : TA := fun σ H Q => ∃ (Φ : Ph L) (δ : DEnv) (w : L.W) (R : List D → DEnv → L.W → Prop), At Φ δ w σ H ∧ d δ w R ∧
  ∀ x δ' w' v H', R x δ' w' → At Φ δ' w' σ H' → Step (Mof L δ σ w) H (Mof L δ' σ w') H' → RepL (Sof Φ δ' σ w') H' v x → Q v H'
/-- an expression that makes a list: none else holds it -/
def TF (d : DA L) : TE := fun σ H Q => ∃ (Φ : Ph L) (δ : DEnv) (w : L.W) (R : List D → DEnv → L.W → Prop), At Φ δ w σ H ∧ d δ w R ∧
  ∀ l δ' w' a vs H', R l δ' w' → At (Φ.add a) δ' w' σ H' → ¬ Sof Φ δ' σ w' a → H a = none → H' a = some (.lst vs) → RepL (Sof (Φ.add a) δ' σ w') H' vs l → Step (Mof L δ σ w) H (Mof L δ' σ w') H' → Q (.ref a) H'
theorem peI {X : Cx} {e : Expr} {t t' : TE} (h : PE X e t) (i : ∀ σ H Q, t' σ H Q → t σ H Q) : PE X e t' := ⟨fun pins s σ H Q I q => h.run pins s σ H Q I (i _ _ _ q)⟩
theorem ptI {X : Cx} {e : Expr} {t t' : TT} (h : PT X e t) (i : ∀ σ H Q, t' σ H Q → t σ H Q) : PT X e t' := ⟨fun pins s σ H Q I q => h.run pins s σ H Q I (i _ _ _ q)⟩
theorem pwI {X : Cx} {e : Expr} {t t' : TT} (h : PW X e t) (i : ∀ σ H Q, t' σ H Q → t σ H Q) : PW X e t' := ⟨fun wh pins s σ H Q I q => h.run wh pins s σ H Q I (i _ _ _ q)⟩
theorem paI {X : Cx} {e : List Expr} {t t' : TA} (h : PA X e t) (i : ∀ σ H Q, t' σ H Q → t σ H Q) : PA X e t' := ⟨fun p pins s σ H Q I q => h.run p pins s σ H Q I (i _ _ _ q)⟩
theorem psI {X : Cx} {e : Stmt} {t t' : TS} (h : PS X e t) (i : ∀ D σ H, t' D σ H → t D σ H) : PS X e t' := ⟨fun pins s σ H D I q => h.run pins s σ H D I (i _ _ _ q)⟩
theorem pssI {X : Cx} {e : List Stmt} {t t' : TS} (h : PSs X e t) (i : ∀ D σ H, t' D σ H → t D σ H) : PSs X e t' := ⟨fun pins s σ H D I q => h.run pins s σ H D I (i _ _ _ q)⟩

/-! ### names and constants -/
def deVar (i : Nat) : DE L := fun δ w Q => match δ[i]? with
  | some (.val d) => Q d δ w
  | _ => False
def deC (d : D) : DE L := fun δ w Q => Q d δ w
section
variable {X : Cx}
theorem pd_var {i : Nat} {e : Expr} (h : PE X e (tVar i)) : PE X e (TD (deVar (L := L) i)) := by
  refine peI h fun σ H Q ⟨Φ, δ, w, R, A, hd, q⟩ => ?_
  unfold deVar at hd
  split at hd
  · rename_i d e
    obtain ⟨v, ev, r⟩ := A.val i d e
    exact ⟨v, ev, q _ _ _ _ _ hd A (Step.refl _ _) r⟩
  · exact hd.elim
theorem pd_c {e : Expr} {v : V} {d : D} (h : PE X e (tC v)) (r : ∀ S H, Rep S H v d) : PE X e (TD (deC (L := L) d)) := by
  refine peI h fun σ H Q ⟨Φ, δ, w, R, A, hd, q⟩ => ?_
  exact q _ _ _ _ _ hd A (Step.refl _ _) (r _ _)
theorem pd_int {i j pos} : PE X (.Constant (.int i) j pos) (TD (deC (L := L) (.int i))) := pd_c pe_int fun _ _ => .int i
theorem pd_bl {b j pos} : PE X (.Constant (.bool b) j pos) (TD (deC (L := L) (.bl b))) := pd_c pe_bl fun _ _ => .bl b
theorem pd_non {j pos} : PE X (.Constant .none j pos) (TD (deC (L := L) .non)) := pd_c pe_non fun _ _ => .non
theorem pd_str {z j pos} : PE X (.Constant (.str z) j pos) (TD (deC (L := L) (.str z))) := pd_c pe_str fun _ _ => .str z

/-! ### argument lists, displays -/
def daNil : DA L := fun δ w Q => Q [] δ w
def daCons (d : DE L) (r : DA L) : DA L := fun δ w Q => d δ w fun x δ1 w1 => r δ1 w1 fun xs δ2 w2 => Q (x :: xs) δ2 w2
variable {e : Expr} {es : List Expr} {d : DE L} {da : DA L} {pos : Pos}
theorem pd_nil : PA X [] (TDA (daNil (L := L))) := by
  refine paI pa_nil fun σ H Q ⟨Φ, δ, w, R, A, hd, q⟩ => ?_
  exact q _ _ _ _ _ hd A (Step.refl _ _) .nil
theorem pd_cons (ha : PE X e (TD d)) (hr : PA X es (TDA da)) (hs : starEach (e :: es) X.env = (false, eval e X.env) :: starEach es X.env := by rfl) : PA X (e :: es) (TDA (daCons d da)) := by
  refine paI (pa_cons ha hr hs) fun σ H Q ⟨Φ, δ, w, R, A, hd, q⟩ => ?_
  refine ⟨Φ, δ, w, _, A, hd, fun x δ1 w1 v H1 h1 A1 s1 r1 => ⟨Φ, δ1, w1, _, A1, h1, fun xs δ2 w2 vs H2 h2 A2 s2 r2 => ?_⟩⟩
  exact q _ _ _ _ _ h2 A2 (s1.trans s2) (.cons (r1.go s2.S) r2)
def deTup (da : DA L) : DE L := fun δ w Q => da δ w fun xs δ1 w1 => xs.length ≤ sizeLine ∧ Q (.tup xs) δ1 w1
theorem pd_tup {x1} (h : PA X es (TDA da)) : PE X (.Tuple es x1 pos) (TD (deTup da)) := by
  refine peI (pe_tup h) fun σ H Q ⟨Φ, δ, w, R, A, hd, q⟩ => ?_
  refine ⟨Φ, δ, w, _, A, hd, fun xs δ1 w1 vs H1 ⟨hz, h1⟩ A1 s1 r1 => ⟨by rw [r1.length]; exact hz, fun p np => ?_⟩⟩
  have sm : Same H1 (upd H1 p (.tup vs)) := same_new np
  exact q _ _ _ _ _ h1 (A1.same sm) (s1.trans (Step.same sm)) (.tup upd_same (r1.go (Step.same sm)))
def dfLst (da : DA L) : DA L := fun δ w Q => da δ w fun xs δ1 w1 => xs.length ≤ sizeLine ∧ Q xs δ1 w1
/-- a new list at p -/
theorem fresh_at {Φ : Ph L} {δ δ' : DEnv} {w w' : L.W} {σ : L2.St} {H H1 : Hp} {vs : List V} {xs : List D} {p : Addr} (A : At Φ δ' w' σ H1) (st : Step (Mof L δ σ w) H (Mof L δ' σ w') H1) (r : RepL (Sof Φ δ' σ w') H1 vs xs) (np : H1 p = none) :
    At (Φ.add p) δ' w' σ (upd H1 p (.lst vs)) ∧ ¬ Sof Φ δ' σ w' p ∧ H p = none ∧ (upd H1 p (.lst vs)) p = some (.lst vs) ∧ RepL (Sof (Φ.add p) δ' σ w') (upd H1 p (.lst vs)) vs xs ∧ Step (Mof L δ σ w) H (Mof L δ' σ w') (upd H1 p (.lst vs)) := by
  have sm : Same H1 (upd H1 p (.lst vs)) := same_new np
  refine ⟨A.add np, A.nS np, st.free np, upd_same, r.go ⟨fun b u _ e => sm b u e, fun b h => (sub_add h).imp _root_.id fun e => by rw [e]; exact np, (Step.same (S := L.mu w) sm).trk, fun b vs e => sm b _ e⟩, st.trans (Step.same sm)⟩
theorem pf_lst (h : PA X es (TDA da)) : PE X (.List es pos) (TF (dfLst da)) := by
  refine peI (pe_lst h) fun σ H Q ⟨Φ, δ, w, R, A, hd, q⟩ => ?_
  refine ⟨Φ, δ, w, _, A, hd, fun xs δ1 w1 vs H1 ⟨hz, h1⟩ A1 s1 r1 => ⟨by rw [r1.length]; exact hz, fun p np => ?_⟩⟩
  obtain ⟨z1, z2, z3, z4, z5, z6⟩ := fresh_at A1 s1 r1 np
  exact q _ _ _ _ _ _ h1 z1 z2 z3 z4 z5 z6
/-- .. as plain data -/
def deF (da : DA L) : DE L := fun δ w Q => da δ w fun xs δ1 w1 => Q (.lst xs) δ1 w1
theorem pd_F (h : PE X e (TF da)) : PE X e (TD (deF da)) := by
  refine peI h fun σ H Q ⟨Φ, δ, w, R, A, hd, q⟩ => ?_
  refine ⟨Φ, δ, w, _, A, hd, fun l δ1 w1 a vs H1 h1 A1 n1 _ e1 r1 s1 => ?_⟩
  exact q _ _ _ _ _ h1 A1.drop s1 (.lst e1 n1 (r1.go (sub_step sub_drop H1)))

/-! ### operators, subscripts -/
abbrev DO := D → D → (D → Prop) → Prop
/-- what an operator means in data -/
def OpD (r : R2) (f : DO) : Prop := ∀ (S : Addr → Prop) (H : Hp) (x y : D) (u v : V) (k : D → Prop) (Q : VK), (∀ b, S b → H b ≠ none) → Rep S H u x → Rep S H v y → f x y k →
  (∀ z v' H', k z → Same H H' → Rep S H' v' z → Q v' H') → r u v H Q
def deOp (f : DO) (a b : DE L) : DE L := fun δ w Q => a δ w fun x δ1 w1 => b δ1 w1 fun y δ2 w2 => f x y fun z => Q z δ2 w2
theorem TD_op {r : R2} {f : DO} {da db : DE L} (h : OpD r f) : ∀ σ H Q, TD (deOp f da db) σ H Q → tOp r (TD da) (TD db) σ H Q := fun σ H Q ⟨Φ, δ, w, R, A, hd, q⟩ => by
  refine ⟨Φ, δ, w, _, A, hd, fun x δ1 w1 v H1 h1 A1 s1 r1 => ⟨Φ, δ1, w1, _, A1, h1, fun y δ2 w2 u H2 h2 A2 s2 r2 => ?_⟩⟩
  refine h _ H2 x y v u _ _ (fun b => A2.tr) (r1.go s2.S) r2 h2 fun z v' H3 h3 sm r3 => ?_
  exact q _ _ _ _ _ h3 (A2.same sm) (s1.trans (s2.trans (Step.same sm))) r3
theorem OpD.or {r r' : R2} {f f' : DO} (h : OpD r f) (h' : OpD r' f') : OpD (fun x y H Q => r x y H Q ∨ r' x y H Q) (fun x y k => f x y k ∨ f' x y k) := fun S H x y u v k Q hS hu hv hf q => by
  rcases hf with hf | hf
  · exact .inl (h S H x y u v k Q hS hu hv hf q)
  · exact .inr (h' S H x y u v k Q hS hu hv hf q)
theorem OpD.imp {r : R2} {f f' : DO} (h : OpD r f) (i : ∀ x y k, f' x y k → f x y k) : OpD r f' := fun S H x y u v k Q hS hu hv hf q => h S H x y u v k Q hS hu hv (i _ _ _ hf) q
variable {a b : Expr} {da' db' : DE L}
theorem pd_op {op : Operator} {r : R2} {f : DO} (ho : OpR X (binaryOp op) r) (h : OpD r f) (ha : PE X a (TD da')) (hb : PE X b (TD db')) : PE X (.BinOp a op b pos) (TD (deOp f da' db')) := peI (pe_op ho ha hb) (TD_op h)
theorem pd_cmp {op : CmpOp} {r : R2} {f : DO} (ho : OpR X (compareOp op) r) (h : OpD r f) (ha : PE X a (TD da')) (hb : PE X b (TD db')) (hm : behindInMarks op b = false) : PE X (.Compare a [op] [b] pos) (TD (deOp f da' db')) := peI (pe_cmpR ho ha hb hm) (TD_op h)
theorem pd_ix {r : R2} {f : DO} (ho : IxR X r) (h : OpD r f) (ha : PE X a (TD da')) (hb : PE X b (TD db')) (hs : PlainIx b) : PE X (.Subscript a b pos) (TD (deOp f da' db')) := peI (pe_ix ho ha hb hs) (TD_op h)
/-- a value that is True or False, as a test -/
def dtOf (d : DE L) : DT L := fun δ w Q => d δ w fun x δ1 w1 => match x with
  | .bl c => Q c δ1 w1
  | _ => False
theorem TD_test {d : DE L} {t : TE} (h : ∀ σ H Q, TD d σ H Q → t σ H Q) : ∀ σ H Q, TDT (dtOf d) σ H Q → t σ H fun x H' => ∃ k, x = .bl k ∧ Q k H' := fun σ H Q ⟨Φ, δ, w, R, A, hd, q⟩ => by
  refine h _ _ _ ⟨Φ, δ, w, _, A, hd, fun x δ1 w1 v H1 h1 A1 s1 r1 => ?_⟩
  cases r1 with
  | bl c => exact ⟨c, rfl, q _ _ _ _ h1 A1 s1⟩
  | _ => exact h1.elim
theorem pdt_cmp {op : CmpOp} {r : R2} {f : DO} (ho : OpR X (compareOp op) r) (h : OpD r f) (ha : PE X a (TD da')) (hb : PE X b (TD db')) (hm : behindInMarks op b = false) : PT X (.Compare a [op] [b] pos) (TDT (dtOf (deOp f da' db'))) :=
  ptI (pt_cmpR ho ha hb hm) (TD_test (TD_op h))
theorem pdt_val {e : Expr} {d : DE L} (h : PE X e (TD d)) (he : ∀ whole, isTrue e X.env whole = (do let v ← whole; standAt e.pos; holding [v] (truthy v)) := by intro _; rfl) : PT X e (TDT (dtOf d)) :=
  ptI (pt_val h he) (TD_test fun _ _ _ z => z)

/-! ### and, or, not, if -/
variable {t u : DT L} {rest : List Expr}
def dtAnd (t u : DT L) : DT L := fun δ w Q => t δ w fun c δ1 w1 => if c = true then u δ1 w1 Q else Q false δ1 w1
def dtOr (t u : DT L) : DT L := fun δ w Q => t δ w fun c δ1 w1 => if c = true then Q true δ1 w1 else u δ1 w1 Q
def dtNot (t : DT L) : DT L := fun δ w Q => t δ w fun c δ1 w1 => Q (!c) δ1 w1
theorem pdw_and (ha : PT X a (TDT t)) (hb : PW X (.BoolOp .And (b :: rest) pos) (TDT u)) : PW X (.BoolOp .And (a :: b :: rest) pos) (TDT (dtAnd t u)) := by
  refine pwI (pw_and ha hb) fun σ H Q ⟨Φ, δ, w, R, A, hd, q⟩ => ⟨Φ, δ, w, _, A, hd, fun c δ1 w1 H1 h1 A1 s1 => ?_⟩
  cases c with
  | true => exact ⟨Φ, δ1, w1, R, A1, h1, fun x δ2 w2 H2 h2 A2 s2 => q _ _ _ _ h2 A2 (s1.trans s2)⟩
  | false => exact q _ _ _ _ h1 A1 s1
theorem pdw_or (ha : PT X a (TDT t)) (hb : PW X (.BoolOp .Or (b :: rest) pos) (TDT u)) : PW X (.BoolOp .Or (a :: b :: rest) pos) (TDT (dtOr t u)) := by
  refine pwI (pw_or ha hb) fun σ H Q ⟨Φ, δ, w, R, A, hd, q⟩ => ⟨Φ, δ, w, _, A, hd, fun c δ1 w1 H1 h1 A1 s1 => ?_⟩
  cases c with
  | true => exact q _ _ _ _ h1 A1 s1
  | false => exact ⟨Φ, δ1, w1, R, A1, h1, fun x δ2 w2 H2 h2 A2 s2 => q _ _ _ _ h2 A2 (s1.trans s2)⟩
theorem pdt_not (ha : PT X a (TDT t)) : PT X (.UnaryOp .Not a pos) (TDT (dtNot t)) := by
  refine ptI (pt_not ha) fun σ H Q ⟨Φ, δ, w, R, A, hd, q⟩ => ⟨Φ, δ, w, _, A, hd, fun c δ1 w1 H1 h1 A1 s1 => q _ _ _ _ h1 A1 s1⟩
def deAnd (a b : DE L) : DE L := fun δ w Q => dtOf a δ w fun c δ1 w1 => if c = true then b δ1 w1 Q else Q (.bl false) δ1 w1
def deOr (a b : DE L) : DE L := fun δ w Q => dtOf a δ w fun c δ1 w1 => if c = true then Q (.bl true) δ1 w1 else b δ1 w1 Q
def deNot (a : DE L) : DE L := fun δ w Q => dtOf a δ w fun c δ1 w1 => Q (.bl (!c)) δ1 w1
theorem pd_and (ha : PE X a (TD da')) (hb : PE X (.BoolOp .And (b :: rest) pos) (TD db')) : PE X (.BoolOp .And (a :: b :: rest) pos) (TD (deAnd da' db')) := by
  refine peI (pe_and ha hb) fun σ H Q ⟨Φ, δ, w, R, A, hd, q⟩ => ⟨Φ, δ, w, _, A, hd, fun x δ1 w1 v H1 h1 A1 s1 r1 => ?_⟩
  cases r1 with
  | bl c =>
    refine ⟨c, rfl, ?_⟩
    cases c with
    | true => exact ⟨Φ, δ1, w1, R, A1, h1, fun x δ2 w2 v H2 h2 A2 s2 r2 => q _ _ _ _ _ h2 A2 (s1.trans s2) r2⟩
    | false => exact q _ _ _ _ _ h1 A1 s1 (.bl _)
  | _ => exact h1.elim
theorem pd_or (ha : PE X a (TD da')) (hb : PE X (.BoolOp .Or (b :: rest) pos) (TD db')) : PE X (.BoolOp .Or (a :: b :: rest) pos) (TD (deOr da' db')) := by
  refine peI (pe_or ha hb) fun σ H Q ⟨Φ, δ, w, R, A, hd, q⟩ => ⟨Φ, δ, w, _, A, hd, fun x δ1 w1 v H1 h1 A1 s1 r1 => ?_⟩
  cases r1 with
  | bl c =>
    refine ⟨c, rfl, ?_⟩
    cases c with
    | false => exact ⟨Φ, δ1, w1, R, A1, h1, fun x δ2 w2 v H2 h2 A2 s2 r2 => q _ _ _ _ _ h2 A2 (s1.trans s2) r2⟩
    | true => exact q _ _ _ _ _ h1 A1 s1 (.bl _)
  | _ => exact h1.elim
theorem pd_not (ha : PE X a (TD da')) : PE X (.UnaryOp .Not a pos) (TD (deNot da')) := by
  refine peI (pe_not ha) fun σ H Q ⟨Φ, δ, w, R, A, hd, q⟩ => ⟨Φ, δ, w, _, A, hd, fun x δ1 w1 v H1 h1 A1 s1 r1 => ?_⟩
  cases r1 with
  | bl c => exact ⟨c, rfl, q _ _ _ _ _ h1 A1 s1 (.bl _)⟩
  | _ => exact h1.elim
def deIf (t : DT L) (a b : DE L) : DE L := fun δ w Q => t δ w fun c δ1 w1 => if c = true then a δ1 w1 Q else b δ1 w1 Q
theorem pd_if {c : Expr} (hc : PT X c (TDT t)) (ha : PE X a (TD da')) (hb : PE X b (TD db')) : PE X (.IfExp c a b pos) (TD (deIf t da' db')) := by
  refine peI (pe_ifExp hc ha hb) fun σ H Q ⟨Φ, δ, w, R, A, hd, q⟩ => ⟨Φ, δ, w, _, A, hd, fun c δ1 w1 H1 h1 A1 s1 => ?_⟩
  cases c with
  | true => exact ⟨Φ, δ1, w1, R, A1, h1, fun x δ2 w2 v H2 h2 A2 s2 r2 => q _ _ _ _ _ h2 A2 (s1.trans s2) r2⟩
  | false => exact ⟨Φ, δ1, w1, R, A1, h1, fun x δ2 w2 v H2 h2 A2 s2 r2 => q _ _ _ _ _ h2 A2 (s1.trans s2) r2⟩

/-! ### calls -/
/-- a call of a built-in, of a method: in data -/
abbrev DC := List D → (D → Prop) → Prop
def CallD (r : List V → Hp → VK → Prop) (f : DC) : Prop := ∀ (S : Addr → Prop) (H : Hp) (xs : List D) (vs : List V) (k : D → Prop) (Q : VK), (∀ b, S b → H b ≠ none) → RepL S H vs xs → f xs k →
  (∀ z v' H', k z → Same H H' → Rep S H' v' z → Q v' H') → r vs H Q
def deCB (f : DC) (da : DA L) : DE L := fun δ w Q => da δ w fun xs δ1 w1 => f xs fun z => Q z δ1 w1
theorem TD_cb {r : List V → Hp → VK → Prop} {f : DC} {da : DA L} (h : CallD r f) : ∀ σ H Q, TD (deCB f da) σ H Q → tCB r (TDA da) σ H Q := fun σ H Q ⟨Φ, δ, w, R, A, hd, q⟩ => by
  refine ⟨Φ, δ, w, _, A, hd, fun x δ1 w1 v H1 h1 A1 s1 r1 => ?_⟩
  exact h _ H1 x v _ _ (fun b => A1.tr) r1 h1 fun z v' H3 h3 sm r3 => q _ _ _ _ _ h3 (A1.same sm) (s1.trans (Step.same sm)) r3
/-- .. whose answer is a list just made -/
def CallF (r : List V → Hp → VK → Prop) (f : List D → (List D → Prop) → Prop) : Prop := ∀ (S : Addr → Prop) (H : Hp) (xs : List D) (vs : List V) (k : List D → Prop) (Q : VK), (∀ b, S b → H b ≠ none) → RepL S H vs xs → f xs k →
  (∀ l us p, k l → H p = none → RepL S H us l → Q (.ref p) (upd H p (.lst us))) → r vs H Q
def dfCB (f : List D → (List D → Prop) → Prop) (da : DA L) : DA L := fun δ w Q => da δ w fun xs δ1 w1 => f xs fun z => Q z δ1 w1
theorem TF_cb {r : List V → Hp → VK → Prop} {f : List D → (List D → Prop) → Prop} {da : DA L} (h : CallF r f) : ∀ σ H Q, TF (dfCB f da) σ H Q → tCB r (TDA da) σ H Q := fun σ H Q ⟨Φ, δ, w, R, A, hd, q⟩ => by
  refine ⟨Φ, δ, w, _, A, hd, fun x δ1 w1 v H1 h1 A1 s1 r1 => ?_⟩
  refine h _ H1 x v _ _ (fun b => A1.tr) r1 h1 fun l us p h3 np r3 => ?_
  obtain ⟨z1, z2, z3, z4, z5, z6⟩ := fresh_at A1 s1 r3 np
  exact q _ _ _ _ _ _ h3 z1 z2 z3 z4 z5 z6
end
end Dl
set_option maxRecDepth 100000
namespace Dl
open PySem PySem.Spec PyProof.Rows L2

variable {L : Wd}
/-- the end of a frame: what goes out -/
structure Fin (Φ : Ph L) (w : L.W) (v : V) (H : Hp) (x : D) : Prop where
  rep : L.rep w H
  go : Step (L.mu Φ.w0) Φ.H0 (L.mu w) H
  val : Rep (fun b => L.mu w b ∨ Φ.F b) H v x
theorem At.fin {Φ : Ph L} {δ : DEnv} {w : L.W} {σ : L2.St} {H : Hp} {v : V} {x : D} (A : At Φ δ w σ H) (r : Rep (Sof Φ δ σ w) H v x) : Fin Φ w v H x :=
  ⟨A.rep, A.go, r.go (sub_step (fun b h => h.elim .inl fun h => .inr (.inl h)) H)⟩
/-- a statement's reading -/
def TDS (d : DS L) : TS := fun D σ H => ∃ (Φ : Ph L) (δ : DEnv) (w : L.W) (E : DEnds L), At Φ δ w σ H ∧ d E δ w ∧
  (∀ δ' w' σ' H', E.nx δ' w' → At Φ δ' w' σ' H' → Step (Mof L δ σ w) H (Mof L δ' σ' w') H' → D.nx σ' H') ∧
  (∀ δ' w' σ' H', E.bk δ' w' → At Φ δ' w' σ' H' → Step (Mof L δ σ w) H (Mof L δ' σ' w') H' → D.bk σ' H') ∧
  (∀ δ' w' σ' H', E.ct δ' w' → At Φ δ' w' σ' H' → Step (Mof L δ σ w) H (Mof L δ' σ' w') H' → D.ct σ' H') ∧
  (∀ x w' v H', E.rt x w' → Fin Φ w' v H' x → D.rt v H')
section
variable {X : Cx} {st : Stmt} {sts : List Stmt} {pos : Pos} {d e : DS L} {ex : Expr} {de : DE L} {da : DA L}
def dsNext : DS L := fun E δ w => E.nx δ w
def dsSeq (d e : DS L) : DS L := fun E δ w => d { E with nx := e E } δ w
theorem pds_nil : PSs X [] (TDS (dsNext (L := L))) := pssI pss_nil fun D σ H ⟨Φ, δ, w, E, A, hd, h1, _⟩ => h1 _ _ _ _ hd A (Step.refl _ _)
theorem pds_cons (h1 : PS X st (TDS d)) (h2 : PSs X sts (TDS e)) : PSs X (st :: sts) (TDS (dsSeq d e)) := by
  refine pssI (pss_cons h1 h2) fun D σ H ⟨Φ, δ, w, E, A, hd, h1, h2, h3, h4⟩ => ?_
  refine ⟨Φ, δ, w, { E with nx := e E }, A, hd, fun δ' w' σ' H' q A' s => ?_, h2, h3, h4⟩
  exact ⟨Φ, δ', w', E, A', q, fun _ _ _ _ q2 A2 s2 => h1 _ _ _ _ q2 A2 (s.trans s2), fun _ _ _ _ q2 A2 s2 => h2 _ _ _ _ q2 A2 (s.trans s2), fun _ _ _ _ q2 A2 s2 => h3 _ _ _ _ q2 A2 (s.trans s2), h4⟩
theorem pds_one (h1 : PS X st (TDS d)) : PSs X [st] (TDS d) := pss_one h1
theorem pds_pass : PS X (.Pass pos) (TDS (dsNext (L := L))) := psI ps_pass fun D σ H ⟨Φ, δ, w, E, A, hd, h1, _⟩ => h1 _ _ _ _ hd A (Step.refl _ _)
def dsBreak : DS L := fun E δ w => E.bk δ w
def dsCont : DS L := fun E δ w => E.ct δ w
theorem pds_break : PS X (.Break pos) (TDS (dsBreak (L := L))) := psI ps_break fun D σ H ⟨Φ, δ, w, E, A, hd, _, h2, _⟩ => h2 _ _ _ _ hd A (Step.refl _ _)
theorem pds_cont : PS X (.Continue pos) (TDS (dsCont (L := L))) := psI ps_continue fun D σ H ⟨Φ, δ, w, E, A, hd, _, _, h3, _⟩ => h3 _ _ _ _ hd A (Step.refl _ _)
def dsNever : DS L := fun _ _ _ => False
theorem pds_never : PS X st (TDS (dsNever (L := L))) := psI ps_never fun D σ H ⟨Φ, δ, w, E, A, hd, _⟩ => hd.elim
def dsRet (d : DE L) : DS L := fun E δ w => d δ w fun x _ w' => E.rt x w'
theorem pds_ret (h : PE X ex (TD de)) : PS X (.Return (some ex) pos) (TDS (dsRet de)) := by
  refine psI (ps_ret h) fun D σ H ⟨Φ, δ, w, E, A, hd, _, _, _, h4⟩ => ⟨Φ, δ, w, _, A, hd, fun x δ' w' v H' q A' s r => h4 _ _ _ _ q (A'.fin r)⟩
def dsRetN : DS L := fun E _ w => E.rt .non w
theorem pds_retN : PS X (.Return none pos) (TDS (dsRetN (L := L))) := by
  refine psI ps_retN fun D σ H ⟨Φ, δ, w, E, A, hd, _, _, _, h4⟩ => h4 _ _ _ _ hd (A.fin .non)
def dsExpr (d : DE L) : DS L := fun E δ w => d δ w fun _ δ' w' => E.nx δ' w'
theorem pds_expr (h : PE X ex (TD de)) (hs : swapsWith ex none pos.line X.env = pure false := by rfl) : PS X (.Expr ex pos) (TDS (dsExpr de)) := by
  refine psI (ps_expr h hs) fun D σ H ⟨Φ, δ, w, E, A, hd, h1, _⟩ => ⟨Φ, δ, w, _, A, hd, fun x δ' w' v H' q A' s r => h1 _ _ _ _ q A' s⟩
theorem pds_doc {x j pos pos'} : PS X (.Expr (.Constant (.str x) j pos) pos') (TDS (dsNext (L := L))) := psI ps_doc fun D σ H ⟨Φ, δ, w, E, A, hd, h1, _⟩ => h1 _ _ _ _ hd A (Step.refl _ _)
def dsIf (t : DT L) (d e : DS L) : DS L := fun E δ w => t δ w fun c δ' w' => if c = true then d E δ' w' else e E δ' w'
theorem pds_if {c : Expr} {a b : List Stmt} {t : DT L} (hc : PT X c (TDT t)) (ha : PSs X a (TDS d)) (hb : PSs X b (TDS e)) : PS X (.If c a b pos) (TDS (dsIf t d e)) := by
  refine psI (ps_if hc ha hb) fun D σ H ⟨Φ, δ, w, E, A, hd, h1, h2, h3, h4⟩ => ⟨Φ, δ, w, _, A, hd, fun c δ' w' H' q A' s => ?_⟩
  have k : ∀ (d : DS L), d E δ' w' → TDS d D σ H' := fun d q => ⟨Φ, δ', w', E, A', q, fun _ _ _ _ q2 A2 s2 => h1 _ _ _ _ q2 A2 (s.trans s2), fun _ _ _ _ q2 A2 s2 => h2 _ _ _ _ q2 A2 (s.trans s2), fun _ _ _ _ q2 A2 s2 => h3 _ _ _ _ q2 A2 (s.trans s2), h4⟩
  cases c with
  | true => exact k d q
  | false => exact k e q
/-- a list that a name holds alone is plain data from here on -/
def dsFrz (i : Nat) (d : DS L) : DS L := fun E δ w => match δ[i]? with
  | some (.own (.lst l)) => d E (δ.set i (.val (.lst l))) w
  | _ => False
theorem pds_frz {i : Nat} (h : PSs X sts (TDS d)) : PSs X sts (TDS (dsFrz i d)) := by
  refine pssI h fun D σ H ⟨Φ, δ, w, E, A, hd, h1, h2, h3, h4⟩ => ?_
  unfold dsFrz at hd
  split at hd
  · rename_i l e
    obtain ⟨A', sub⟩ := A.freeze e
    have s := sub_step sub H
    exact ⟨Φ, _, w, E, A', hd, fun _ _ _ _ q2 A2 s2 => h1 _ _ _ _ q2 A2 (s.trans s2), fun _ _ _ _ q2 A2 s2 => h2 _ _ _ _ q2 A2 (s.trans s2), fun _ _ _ _ q2 A2 s2 => h3 _ _ _ _ q2 A2 (s.trans s2), h4⟩
  · exact hd.elim

/-! ### targets -/
/-- a target's reading; ts: the slots that it may change -/
def TDG (L : Wd) (ts : List Nat) (g : DG) : TG := fun v σ H Q => ∃ (Φ : Ph L) (δ : DEnv) (w : L.W) (x : D) (R : DEnv → Prop), At Φ δ w σ H ∧ Rep (Sof Φ δ σ w) H v x ∧ g x δ R ∧
  ∀ δ' σ', R δ' → At Φ δ' w σ' H → Step (Mof L δ σ w) H (Mof L δ' σ' w) H → (σ'.length = σ.length ∧ ∀ i, i ∉ ts → σ'[i]? = σ[i]?) → Q σ' H
theorem pgI {X : Cx} {e : Expr} {t t' : TG} (h : PG X e t) (i : ∀ v σ H Q, t' v σ H Q → t v σ H Q) : PG X e t' := ⟨fun pins s σ H v u Q I r q => h.run pins s σ H v u Q I r (i _ _ _ _ q)⟩
theorem pgsI {X : Cx} {e : List Expr} {t t' : TGs} (h : PGs X e t) (i : ∀ v σ H Q, t' v σ H Q → t v σ H Q) : PGs X e t' := ⟨fun pins s σ H v u Q I r q => h.run pins s σ H v u Q I r (i _ _ _ _ q)⟩
def dgName (i : Nat) : DG := fun x δ k => i < δ.length ∧ k (δ.set i (.val x))
variable {tg : Expr}
theorem pdg_name {i : Nat} (h : PG X tg (L2.gName i)) : PG X tg (TDG L [i] (dgName i)) := by
  refine pgI h fun v σ H Q ⟨Φ, δ, w, x, R, A, r, ⟨hi, hg⟩, q⟩ => ?_
  obtain ⟨A', sub⟩ := A.set hi r
  exact q _ _ hg A' (sub_step sub H) ⟨List.length_set, fun j hj => List.getElem?_set_ne fun e => hj (by rw [e]; exact List.mem_singleton.mpr rfl)⟩
abbrev DGs := List D → DEnv → (DEnv → Prop) → Prop
def TDGs (L : Wd) (ts : List Nat) (g : DGs) : TGs := fun v σ H Q => ∃ (Φ : Ph L) (δ : DEnv) (w : L.W) (x : List D) (R : DEnv → Prop), At Φ δ w σ H ∧ RepL (Sof Φ δ σ w) H v x ∧ g x δ R ∧
  ∀ δ' σ', R δ' → At Φ δ' w σ' H → Step (Mof L δ σ w) H (Mof L δ' σ' w) H → (σ'.length = σ.length ∧ ∀ i, i ∉ ts → σ'[i]? = σ[i]?) → Q σ' H
def dgsNil : DGs := fun xs δ k => xs = [] ∧ k δ
def dgsCons (g : DG) (gs : DGs) : DGs := fun xs δ k => match xs with
  | x :: r => g x δ fun δ' => gs r δ' k
  | [] => False
variable {tgs : List Expr}
theorem pdgs_nil : PGs X [] (TDGs L [] dgsNil) := by
  refine pgsI pgs_nil fun v σ H Q ⟨Φ, δ, w, x, R, A, r, ⟨hx, hg⟩, q⟩ => ?_
  subst hx
  cases r
  exact ⟨rfl, q _ _ hg A (Step.refl _ _) ⟨rfl, fun _ _ => rfl⟩⟩
theorem pdgs_cons {ts us : List Nat} {g : DG} {gs : DGs} (h1 : PG X tg (TDG L ts g)) (h2 : PGs X tgs (TDGs L us gs)) (hs : (assignEach (tg :: tgs) X.env).map (·.2) = assign tg X.env :: (assignEach tgs X.env).map (·.2) := by rfl) : PGs X (tg :: tgs) (TDGs L (ts ++ us) (dgsCons g gs)) := by
  refine pgsI (pgs_cons h1 h2 hs) fun v σ H Q ⟨Φ, δ, w, x, R, A, r, hg, q⟩ => ?_
  cases r with
  | nil => exact hg.elim
  | cons r1 r2 =>
    refine ⟨_, _, rfl, Φ, δ, w, _, _, A, r1, hg, fun δ' σ' hr A' s f => ⟨Φ, δ', w, _, R, A', r2.go s.S, hr, fun δ2 σ2 hr2 A2 s2 f2 => ?_⟩⟩
    exact q _ _ hr2 A2 (s.trans s2) ⟨f2.1.trans f.1, fun i hi => (f2.2 i fun z => hi (List.mem_append_right _ z)).trans (f.2 i fun z => hi (List.mem_append_left _ z))⟩
def dgTup (n : Nat) (gs : DGs) : DG := fun x δ k => match x with
  | .tup l => l.length = n ∧ gs l δ k
  | _ => False
theorem pdg_tup {k n : Nat} {ts : List Nat} {gs : DGs} (hc : X.calm = true) (h : PGs X tgs (TDGs L ts gs)) (hn : (assignEach tgs X.env).length = n := by rfl) (hst : (assignEach tgs X.env).findIdx? (·.1) = none := by rfl) : PG X (.Tuple tgs k pos) (TDG L ts (dgTup n gs)) := by
  refine pgI (pg_tup hc h hn hst) fun v σ H Q ⟨Φ, δ, w, x, R, A, r, hg, q⟩ => ?_
  unfold dgTup at hg
  split at hg
  · cases r with
    | tup e1 r1 => exact ⟨_, _, rfl, SqT.of e1, by rw [r1.length]; exact hg.1, Φ, δ, w, _, R, A, r1, hg.2, q⟩
  · exact hg.elim

/-! ### assignments -/
def dsAsg (d : DE L) (g : DG) : DS L := fun E δ w => d δ w fun x δ' w' => g x δ' fun δ'' => E.nx δ'' w'
theorem TDS_asg {ts : List Nat} {g : DG} {te : TE} (h : ∀ σ H Q, TD de σ H Q → te σ H Q) : ∀ D σ H, TDS (dsAsg de g) D σ H → tAsg te (TDG L ts g) D σ H := fun D σ H ⟨Φ, δ, w, E, A, hd, h1, _⟩ => by
  refine h _ _ _ ⟨Φ, δ, w, _, A, hd, fun x δ' w' v H' q A' s r => ⟨Φ, δ', w', x, _, A', r, q, fun δ2 σ2 q2 A2 s2 _ => h1 _ _ _ _ q2 A2 (s.trans s2)⟩⟩
theorem pds_asg {ts : List Nat} {g : DG} (he : PE X ex (TD de)) (hg : PG X tg (TDG L ts g)) (hs : swapsWithSole [tg] ex pos.line X.env = pure false := by rfl) (hw : swappedStores [tg] ex X.env = pure none := by rfl)
    (h1 : (assignEach [tg] X.env).map (·.2) = [assign tg X.env] := by rfl) : PS X (.Assign [tg] ex pos) (TDS (dsAsg de g)) := psI (ps_asg he hg hs hw h1) (TDS_asg fun _ _ _ z => z)
def dsSet (i : Nat) (d : DE L) : DS L := fun E δ w => d δ w fun x δ' w' => i < δ'.length ∧ E.nx (δ'.set i (.val x)) w'
theorem TDS_set {i : Nat} {te : TE} (h : ∀ σ H Q, TD de σ H Q → te σ H Q) : ∀ D σ H, TDS (dsSet i de) D σ H → tAsg te (L2.gName i) D σ H := fun D σ H ⟨Φ, δ, w, E, A, hd, h1, _⟩ => by
  refine h _ _ _ ⟨Φ, δ, w, _, A, hd, fun x δ' w' v H' ⟨hi, q⟩ A' s r => ?_⟩
  obtain ⟨A2, sub⟩ := A'.set hi r
  exact h1 _ _ _ _ q A2 (s.trans (sub_step sub H'))
theorem pds_set {i : Nat} (h : ∀ te, PE X ex te → PS X st (tAsg te (L2.gName i))) (he : PE X ex (TD de)) : PS X st (TDS (dsSet i de)) := psI (h _ he) (TDS_set fun _ _ _ z => z)
/-- a list just made is given to a name that may change it -/
def dsOwn (i : Nat) (d : DA L) : DS L := fun E δ w => d δ w fun l δ' w' => i < δ'.length ∧ E.nx (δ'.set i (.own (.lst l))) w'
theorem TDS_own {i : Nat} {te : TE} (h : ∀ σ H Q, TF da σ H Q → te σ H Q) : ∀ D σ H, TDS (dsOwn i da) D σ H → tAsg te (L2.gName i) D σ H := fun D σ H ⟨Φ, δ, w, E, A, hd, h1, _⟩ => by
  refine h _ _ _ ⟨Φ, δ, w, _, A, hd, fun l δ' w' a vs H' ⟨hi, q⟩ A' n h0 e1 r s => ?_⟩
  obtain ⟨A2, sub⟩ := A'.setOwn (d := .lst l) hi ⟨vs, e1, r⟩ n (A.new0 h0)
  have st : Step (Mof L δ σ w) H (Mof L (δ'.set i (.own (.lst l))) (σ.set i (some (.ref a))) w') H' := ⟨s.keep, fun b hb => (sub b hb).elim (s.sub b) fun e => .inr ?_, s.trk, s.tup⟩
  · exact h1 _ _ _ _ q A2 st
  · rw [e]
    exact h0
theorem pds_own {i : Nat} (h : ∀ te, PE X ex te → PS X st (tAsg te (L2.gName i))) (he : PE X ex (TF da)) : PS X st (TDS (dsOwn i da)) := psI (h _ he) (TDS_own fun _ _ _ z => z)
end
end Dl
set_option maxRecDepth 100000
namespace Dl
open PySem PySem.Spec PyProof.Rows L2

variable {L : Wd}
/-! ### what is walked -/
/-- J hands out the items, whatever happens meanwhile -/
structure Walk (J : It) (S : Addr → Prop) (H : Hp) (xs : List D) : Prop where
  stop : ∀ S' H', Step S H S' H' → J.stop xs.length H'
  go : ∀ (i : Nat) S' H', i < xs.length → Step S H S' H' → J.go i H'
  yld : ∀ (i : Nat) S' H' v H'', i < xs.length → Step S H S' H' → (∀ b, S' b → H' b ≠ none) → J.yld i H' v H'' → ∃ x, xs[i]? = some x ∧ Same H' H'' ∧ Rep S' H'' v x
theorem Walk.later {J : It} {S S' : Addr → Prop} {H H' : Hp} {xs : List D} (h : Walk J S H xs) (s : Step S H S' H') : Walk J S' H' xs :=
  ⟨fun S2 H2 t => h.stop S2 H2 (s.trans t), fun i S2 H2 hi t => h.go i S2 H2 hi (s.trans t), fun i S2 H2 v H3 hi t => h.yld i S2 H2 v H3 hi (s.trans t)⟩
/-- what a for or a comprehension walks -/
def TDI (it : DA L) : TI := fun σ H R => ∃ (Φ : Ph L) (δ : DEnv) (w : L.W) (R' : List D → DEnv → L.W → Prop), At Φ δ w σ H ∧ it δ w R' ∧
  ∀ xs δ' w' J H', R' xs δ' w' → At Φ δ' w' σ H' → Step (Mof L δ σ w) H (Mof L δ' σ w') H' → Walk J (Sof Φ δ' σ w') H' xs → R J H'
theorem piI {X : Cx} {tg e : Expr} {t t' : TI} (h : PI X tg e t) (i : ∀ σ H Q, t' σ H Q → t σ H Q) : PI X tg e t' := ⟨fun pins s σ H Q I q => h.run pins s σ H Q I (i _ _ _ q)⟩
section
variable {K : PySem.W.Frag} {S : Addr → Prop} {H : Hp}
theorem sql_of {a : Addr} {xs ys : List V} (h : H a = some (.lst xs)) (q : SqL K H a ys) (K0 : K.lookup a = none) : ys = xs := by
  rcases q with (q | ⟨o, q⟩) | ⟨o, its, n, q, _⟩
  · rw [h] at q; cases q; rfl
  · rw [h] at q; cases q
  · rw [K0] at q; cases q
end
/-- two readings at once, by the value -/
def iSeq (K : PySem.W.Frag) (tl : TE) : TI := fun σ H R => tl σ H fun x H1 => (∃ a xs, x = .ref a ∧ H1 a = some (.lst xs) ∧ (K.lookup a = none → R (Itl K a) H1)) ∨ (∃ a xs, x = .ref a ∧ H1 a = some (.tup xs) ∧ (K.lookup a = none → R (Itt K a) H1)) ∨ ∃ z, x = .str z ∧ R (Its z) H1
theorem Inv.unK {X : Cx} {pins : List (Addr × Obj)} {σ : L2.St} {H : Hp} {s : Shared} {a : Addr} {o : HO} (I : Inv X pins σ H s) (e : H a = some o) : X.K.lookup a = none := by
  cases q : X.K.lookup a with
  | none => rfl
  | some ob =>
    have z := (I.bs a ob (I.ok.mod.kin a ob q)).2
    rw [e] at z
    cases z
theorem pi_seq {X : Cx} {tg l : Expr} {tl : TE} (hl : PE X l tl) : PI X tg l (iSeq X.K tl) := by
  refine ⟨fun pins s σ H R I h => thn (hl.run pins s σ H _ I h) fun v s1 ⟨x, H1, I1, r1, q1⟩ => ?_⟩
  rcases q1 with ⟨a, xs, rfl, e, q⟩ | ⟨a, xs, rfl, e, q⟩ | ⟨z, rfl, q⟩
  · cases r1
    have q := q (Inv.unK I1 e)
    obtain ⟨its, rv, p, hz⟩ := I1.list (SqL.of e)
    refine wpAny_pyIter_list p.isList ⟨_, [s1.heap.objs.size], _, _, H1, rfl, I1.kept (t' := s1.toks) fun b o e => Heap.get?_push_of_some _ e, turn_list a _, ⟨_, Heap.get?_push_size _ rfl, rfl, rfl⟩, fun b hb => ?_, q⟩
    rw [List.mem_singleton.mp hb]
    exact I1.fpOk (Nat.le_refl _) (I1.hok.fresh (Nat.le_refl _))
  · cases r1
    have q := q (Inv.unK I1 e)
    obtain ⟨its, rv, p, hz⟩ := I1.tuple (SqT.of e)
    refine wpAny_pyIter_tuple (show s1.heap.IsTuple a its.toArray from p) ⟨_, [s1.heap.objs.size], _, _, H1, rfl, I1.kept (t' := s1.toks) fun b o e => Heap.get?_push_of_some _ e, turn_tuple a _, ⟨_, Heap.get?_push_size _ rfl, rfl, rfl⟩, fun b hb => ?_, q⟩
    rw [List.mem_singleton.mp hb]
    exact I1.fpOk (Nat.le_refl _) (I1.hok.fresh (Nat.le_refl _))
  · obtain ⟨t, rfl⟩ := r1
    cases ha : z.cps.all (· < 128)
    · exact wpAny_pyIter_wide ha (pi_one (tk := s1.toks) I1 _ (turn_str _ z t "str_iterator" (.inr rfl)) ⟨_, Heap.get?_push_size _ rfl, rfl, rfl⟩ q)
    · exact wpAny_pyIter_ascii ha (pi_one (tk := s1.toks) I1 _ (turn_str _ z t "str_ascii_iterator" (.inl rfl)) ⟨_, Heap.get?_push_size _ rfl, rfl, rfl⟩ q)
/-- the signs of a text -/
def signs (z : Str) : List D := z.cps.toList.map fun c => .str ⟨#[c]⟩
def diSeq (d : DE L) : DA L := fun δ w Q => d δ w fun x δ' w' => match x with
  | .lst l => Q l δ' w'
  | .tup l => Q l δ' w'
  | .str z => Q (signs z) δ' w'
  | _ => False
section
variable {K : PySem.W.Frag} {S : Addr → Prop} {H : Hp}
theorem walk_list {a : Addr} {vs : List V} {ds : List D} (e : H a = some (.lst vs)) (n : ¬ S a) (r : RepL S H vs ds) (K0 : K.lookup a = none) : Walk (Itl K a) S H ds where
  stop := fun S' H' s => ⟨vs, SqL.of (s.keep a _ n e), by rw [r.length]; exact Nat.le_refl _⟩
  go := fun i S' H' hi s => ⟨vs, vs[i]'(by rw [r.length]; exact hi), SqL.of (s.keep a _ n e), List.getElem?_eq_getElem _⟩
  yld := fun i S' H' v H'' hi s hS ⟨h1, h2⟩ => by
    subst h1
    have hv := h2 vs (SqL.of (s.keep a _ n e))
    obtain ⟨x, hx, rx⟩ := r.get' hv
    exact ⟨x, hx, Same.refl _, rx.go s⟩
theorem walk_tup {a : Addr} {vs : List V} {ds : List D} (e : H a = some (.tup vs)) (r : RepL S H vs ds) : Walk (Itt K a) S H ds where
  stop := fun S' H' s => ⟨vs, SqT.of (s.tup a _ e), by rw [r.length]; exact Nat.le_refl _⟩
  go := fun i S' H' hi s => ⟨vs, vs[i]'(by rw [r.length]; exact hi), SqT.of (s.tup a _ e), List.getElem?_eq_getElem _⟩
  yld := fun i S' H' v H'' hi s hS ⟨h1, h2⟩ => by
    subst h1
    have hv := h2 vs (SqT.of (s.tup a _ e))
    obtain ⟨x, hx, rx⟩ := r.get' hv
    exact ⟨x, hx, Same.refl _, rx.go s⟩
theorem walk_str {z : Str} : Walk (Its z) S H (signs z) where
  stop := fun S' H' s => by show z.cps.size ≤ _; simp [signs]
  go := fun i S' H' hi s => by show _ < z.cps.size; simpa [signs] using hi
  yld := fun i S' H' v H'' hi s hS ⟨h1, c, h2, h3⟩ => by
    subst h1 h3
    exact ⟨.str ⟨#[c]⟩, by simp [signs, h2], Same.refl _, .str _⟩
end
variable {X : Cx} {tg e : Expr} {d : DE L}
theorem pdi_seq (h : PE X e (TD d)) : PI X tg e (TDI (diSeq d)) := by
  refine piI (pi_seq h) fun σ H R ⟨Φ, δ, w, R', A, hd, q⟩ => ⟨Φ, δ, w, _, A, hd, fun x δ' w' v H' hx A' s r => ?_⟩
  split at hx
  · cases r with
    | lst e n rl => exact .inl ⟨_, _, rfl, e, fun k => q _ _ _ _ _ hx A' s (walk_list e n rl k)⟩
  · cases r with
    | tup e rl => exact .inr (.inl ⟨_, _, rfl, e, fun k => q _ _ _ _ _ hx A' s (walk_tup e rl)⟩)
  · cases r
    exact .inr (.inr ⟨_, rfl, q _ _ _ _ _ hx A' s walk_str⟩)
  · exact hx.elim
/-- range -/
def upTo (lo : Int) (n : Nat) : List D := (List.range n).map fun i => .int (lo + (i : Nat))
theorem walk_range {S : Addr → Prop} {H : Hp} {lo : Int} {n : Nat} : Walk (Itr lo n) S H (upTo lo n) where
  stop := fun S' H' s => by show n ≤ _; simp [upTo]
  go := fun i S' H' hi s => by show i < n; simpa [upTo] using hi
  yld := fun i S' H' v H'' hi s hS ⟨h1, h2⟩ => by
    subst h1 h2
    refine ⟨.int (lo + i), ?_, Same.refl _, .int _⟩
    have hi' : i < n := by simpa [upTo] using hi
    simp [upTo, hi']
def diRange1 (d : DE L) : DA L := fun δ w Q => d δ w fun x δ' w' => match x with
  | .int j => (-(2 ^ 62) ≤ j ∧ j < 2 ^ 62) ∧ Q (upTo 0 j.toNat) δ' w'
  | _ => False
def diRange2 (d e : DE L) : DA L := fun δ w Q => d δ w fun x δ1 w1 => e δ1 w1 fun y δ' w' => match x, y with
  | .int i, .int j => (-(2 ^ 62) ≤ i ∧ i < 2 ^ 62 ∧ -(2 ^ 62) ≤ j ∧ j < 2 ^ 62) ∧ Q (upTo i (j - i).toNat) δ' w'
  | _, _ => False
theorem pdi_range1 {p pos : Pos} (hg : Gl X "range") (hm : X.mg "range" = none) (h : PE X e (TD d)) (hs : starEach [e] X.env = (false, eval e X.env) :: starEach [] X.env := by rfl) (hs2 : starEach [e] X.env = [(false, eval e X.env)] := by rfl) : PI X tg (.Call (.Name "range" p) [e] [] pos) (TDI (diRange1 d)) := by
  refine piI (pi_range1 hg hm (pa_cons h pa_nil hs) hs2) fun σ H R ⟨Φ, δ, w, R', A, hd, q⟩ => ⟨Φ, δ, w, _, A, hd, fun x δ' w' v H' hx A' s r => ?_⟩
  split at hx
  · cases r
    exact ⟨_, rfl, hx.1.1, hx.1.2, q _ _ _ _ _ hx.2 A' s walk_range⟩
  · exact hx.elim
theorem pdi_range2 {e2 : Expr} {d2 : DE L} {p pos : Pos} (hg : Gl X "range") (hm : X.mg "range" = none) (h : PE X e (TD d)) (h2 : PE X e2 (TD d2)) (hs : starEach [e, e2] X.env = (false, eval e X.env) :: starEach [e2] X.env := by rfl) (hs1 : starEach [e2] X.env = (false, eval e2 X.env) :: starEach [] X.env := by rfl)
    (hs2 : starEach [e, e2] X.env = [(false, eval e X.env), (false, eval e2 X.env)] := by rfl) (hs3 : starEach [e2] X.env = [(false, eval e2 X.env)] := by rfl) : PI X tg (.Call (.Name "range" p) [e, e2] [] pos) (TDI (diRange2 d d2)) := by
  refine piI (pi_range2 hg hm (pa_cons h (pa_cons h2 pa_nil hs1) hs) hs2 hs3) fun σ H R ⟨Φ, δ, w, R', A, hd, q⟩ => ⟨Φ, δ, w, _, A, hd, fun x δ1 w1 v H1 hx A1 s1 r1 => ⟨Φ, δ1, w1, _, A1, hx, fun y δ' w' u H' hy A' s r => ?_⟩⟩
  split at hy
  · cases r
    cases r1
    exact ⟨_, _, rfl, hy.1, q _ _ _ _ _ hy.2 A' (s1.trans s) walk_range⟩
  · exact hy.elim
/-- enumerate of a list -/
def numbered (l : List D) : List D := l.zipIdx.map fun p => .tup [.int (p.2 : Nat), p.1]
theorem numbered_length (l : List D) : (numbered l).length = l.length := by simp [numbered]
theorem numbered_get {l : List D} {i : Nat} {x : D} (h : l[i]? = some x) : (numbered l)[i]? = some (.tup [.int (i : Nat), x]) := by
  simp [numbered, h]
theorem walk_enum {K : PySem.W.Frag} {S : Addr → Prop} {H : Hp} {a : Addr} {vs : List V} {ds : List D} (e : H a = some (.lst vs)) (n : ¬ S a) (r : RepL S H vs ds) : Walk (Ite K a) S H (numbered ds) where
  stop := fun S' H' s => ⟨vs, SqL.of (s.keep a _ n e), by rw [r.length, numbered_length]; exact Nat.le_refl _⟩
  go := fun i S' H' hi s => ⟨vs, vs[i]'(by rw [r.length, ← numbered_length]; exact hi), SqL.of (s.keep a _ n e), List.getElem?_eq_getElem _⟩
  yld := fun i S' H' v H'' hi s hS ⟨T, x, h1, h2, h3, h4⟩ => by
    subst h1 h3
    have hv := h4 vs (SqL.of (s.keep a _ n e))
    obtain ⟨y, hy, ry⟩ := r.get' hv
    have sm : Same H' (upd H' T (.tup [.int (i : Nat), x])) := same_new h2
    exact ⟨_, numbered_get hy, sm, .tup upd_same (.cons (.int _) (.cons ((ry.go s).go (Step.same sm)) .nil))⟩
def diEnum (d : DE L) : DA L := fun δ w Q => d δ w fun x δ' w' => match x with
  | .lst l => Q (numbered l) δ' w'
  | _ => False
theorem pdi_enum {p pos tpos : Pos} {elts : List Expr} {kk : Nat} (hg : Gl X "enumerate") (hm : X.mg "enumerate" = none) (h : PE X e (TD d)) (hs : starEach [e] X.env = (false, eval e X.env) :: starEach [] X.env := by rfl) (hs2 : starEach [e] X.env = [(false, eval e X.env)] := by rfl) :
    PI X (.Tuple elts kk tpos) (.Call (.Name "enumerate" p) [e] [] pos) (TDI (diEnum d)) := by
  refine piI (pi_enum hg hm (pa_cons h pa_nil hs) hs2) fun σ H R ⟨Φ, δ, w, R', A, hd, q⟩ => ⟨Φ, δ, w, _, A, hd, fun x δ' w' v H' hx A' s r => ?_⟩
  split at hx
  · cases r with
    | lst e1 n rl => exact ⟨_, _, rfl, SqL.of e1, q _ _ _ _ _ hx A' s (walk_enum e1 n rl)⟩
  · exact hx.elim
/-- zip of two lists, of two tuples -/
def pairs (l m : List D) : List D := (l.zip m).map fun p => .tup [p.1, p.2]
theorem pairs_length (l m : List D) : (pairs l m).length = min l.length m.length := by simp [pairs]
theorem pairs_get {l m : List D} {i : Nat} {x y : D} (h : l[i]? = some x) (h2 : m[i]? = some y) : (pairs l m)[i]? = some (.tup [x, y]) := by
  have e : (l.zip m)[i]? = some (x, y) := List.getElem?_zip_eq_some.mpr ⟨h, h2⟩
  simp [pairs, e]
theorem walk_zip {K : PySem.W.Frag} {S : Addr → Prop} {H : Hp} {a b : Addr} {vs us : List V} {ds es : List D} (e : H a = some (.lst vs)) (n : ¬ S a) (r : RepL S H vs ds) (e' : H b = some (.lst us)) (n' : ¬ S b) (r' : RepL S H us es) : Walk (Itz K a b) S H (pairs ds es) where
  stop := fun S' H' s => ⟨vs, us, SqL.of (s.keep a _ n e), SqL.of (s.keep b _ n' e'), by rw [r.length, r'.length, pairs_length]; omega⟩
  go := fun i S' H' hi s => by
    rw [pairs_length, ← r.length, ← r'.length] at hi
    exact ⟨vs, us, vs[i]'(by omega), us[i]'(by omega), SqL.of (s.keep a _ n e), SqL.of (s.keep b _ n' e'), List.getElem?_eq_getElem _, List.getElem?_eq_getElem _⟩
  yld := fun i S' H' v H'' hi s hS ⟨T, x, y, h1, h2, h3, h4, h5⟩ => by
    subst h1 h3
    obtain ⟨x', hx, rx⟩ := r.get' (h4 vs (SqL.of (s.keep a _ n e)))
    obtain ⟨y', hy, ry⟩ := r'.get' (h5 us (SqL.of (s.keep b _ n' e')))
    have sm : Same H' (upd H' T (.tup [x, y])) := same_new h2
    exact ⟨_, pairs_get hx hy, sm, .tup upd_same (.cons ((rx.go s).go (Step.same sm)) (.cons ((ry.go s).go (Step.same sm)) .nil))⟩
theorem walk_zipT {K : PySem.W.Frag} {S : Addr → Prop} {H : Hp} {a b : Addr} {vs us : List V} {ds es : List D} (e : H a = some (.tup vs)) (r : RepL S H vs ds) (e' : H b = some (.tup us)) (r' : RepL S H us es) : Walk (RZ.ItzT K a b) S H (pairs ds es) where
  stop := fun S' H' s => ⟨vs, us, SqT.of (s.tup a _ e), SqT.of (s.tup b _ e'), by rw [r.length, r'.length, pairs_length]; omega⟩
  go := fun i S' H' hi s => by
    rw [pairs_length, ← r.length, ← r'.length] at hi
    exact ⟨vs, us, vs[i]'(by omega), us[i]'(by omega), SqT.of (s.tup a _ e), SqT.of (s.tup b _ e'), List.getElem?_eq_getElem _, List.getElem?_eq_getElem _⟩
  yld := fun i S' H' v H'' hi s hS ⟨T, x, y, h1, h2, h3, h4, h5⟩ => by
    subst h1 h3
    obtain ⟨x', hx, rx⟩ := r.get' (h4 vs (SqT.of (s.tup a _ e)))
    obtain ⟨y', hy, ry⟩ := r'.get' (h5 us (SqT.of (s.tup b _ e')))
    have sm : Same H' (upd H' T (.tup [x, y])) := same_new h2
    exact ⟨_, pairs_get hx hy, sm, .tup upd_same (.cons ((rx.go s).go (Step.same sm)) (.cons ((ry.go s).go (Step.same sm)) .nil))⟩
def diZip (d e : DE L) : DA L := fun δ w Q => d δ w fun x δ1 w1 => e δ1 w1 fun y δ' w' => match x, y with
  | .lst l, .lst m => Q (pairs l m) δ' w'
  | .tup l, .tup m => Q (pairs l m) δ' w'
  | _, _ => False
theorem pdi_zip {e2 : Expr} {d2 : DE L} {p pos tpos : Pos} {elts : List Expr} {kk : Nat} (hg : Gl X "zip") (hm : X.mg "zip" = none) (h : PE X e (TD d)) (h2 : PE X e2 (TD d2)) (hs : starEach [e, e2] X.env = (false, eval e X.env) :: starEach [e2] X.env := by rfl) (hs1 : starEach [e2] X.env = (false, eval e2 X.env) :: starEach [] X.env := by rfl)
    (hpl : (backTo pos (starEach [e2] X.env)).any (·.1) = false := by rfl) : PI X (.Tuple elts kk tpos) (.Call (.Name "zip" p) [e, e2] [] pos) (TDI (diZip d d2)) := by
  refine piI (RZ.pi_zipA hg hm (pa_cons h (pa_cons h2 pa_nil hs1) hs) hs hpl) fun σ H R ⟨Φ, δ, w, R', A, hd, q⟩ => ⟨Φ, δ, w, _, A, hd, fun x δ1 w1 v H1 hx A1 s1 r1 => ⟨Φ, δ1, w1, _, A1, hx, fun y δ' w' u H' hy A' s r => ?_⟩⟩
  have r1 := r1.go s.S
  split at hy
  · cases r1 with
    | lst e1 n1 rl1 =>
      cases r with
      | lst e2 n2 rl2 => exact ⟨_, _, _, _, rfl, .inl ⟨SqL.of e1, SqL.of e2, q _ _ _ _ _ hy A' (s1.trans s) (walk_zip e1 n1 rl1 e2 n2 rl2)⟩⟩
  · cases r1 with
    | tup e1 rl1 =>
      cases r with
      | tup e2 rl2 => exact ⟨_, _, _, _, rfl, .inr ⟨SqT.of e1, SqT.of e2, q _ _ _ _ _ hy A' (s1.trans s) (walk_zipT e1 rl1 e2 rl2)⟩⟩
  · exact hy.elim
end Dl
set_option maxRecDepth 100000
namespace Dl
open PySem PySem.Spec PyProof.Rows L2

variable {L : Wd}
/-! ### for -/
/-- the turns of a for -/
def dFor (g : DG) (b : DS L) (E : DEnds L) : List D → DEnv → L.W → Prop
  | [], δ, w => E.nx δ w
  | x :: xs, δ, w => g x δ fun δ' => b { nx := dFor g b E xs, rt := E.rt, bk := E.nx, ct := dFor g b E xs } δ' w
def dsFor (it : DA L) (g : DG) (b : DS L) : DS L := fun E δ w => it δ w fun xs δ' w' => dFor g b E xs δ' w'
section
variable {X : Cx} {tg iter : Expr} {body : List Stmt} {pos : Pos} {it : DA L} {g : DG} {b : DS L} {ts : List Nat}
theorem pds_for (hp : PassesOwn (model X.prog X.w) X.A X.env X.xe) (hc : X.calm = true) (hi : PI X tg iter (TDI it)) (hg : PG X tg (TDG L ts g)) (hb : PSs X body (TDS b)) (hs : ∀ x, foldedSetIterable iter X.env x = pure x := by intro _; rfl) :
    PS X (.For tg iter body [] pos) (TDS (dsFor it g b)) := by
  refine psI (ps_for hp hc hi hg hb hs) fun D σ H ⟨Φ, δ, w, E, A, hd, h1, _, _, h4⟩ => ⟨Φ, δ, w, _, A, hd, fun xs δ1 w1 J H1 hx A1 s1 wk => ?_⟩
  refine ⟨fun i m σ' H' => m = xs.length - i ∧ i ≤ xs.length ∧ ∃ δ' w', At Φ δ' w' σ' H' ∧ Step (Mof L δ1 σ w1) H1 (Mof L δ' σ' w') H' ∧ dFor g b E (xs.drop i) δ' w', ⟨_, rfl, Nat.zero_le _, δ1, w1, A1, Step.refl _ _, hx⟩, ?_⟩
  rintro i m σ' H' ⟨rfl, hi, δ', w', A', s', hf⟩
  have wk' := wk.later s'.S
  by_cases hlt : i < xs.length
  · refine .inr ⟨wk'.go i _ _ hlt (Step.refl _ _), fun σ2 H2 => i + 1 ≤ xs.length ∧ ∃ δ2 w2, At Φ δ2 w2 σ2 H2 ∧ Step (Mof L δ1 σ w1) H1 (Mof L δ2 σ2 w2) H2 ∧ dFor g b E (xs.drop (i + 1)) δ2 w2, fun σ2 H2 h => ⟨_, by omega, rfl, h.1, h.2⟩, fun v H'' hy => ?_⟩
    obtain ⟨x, ex, sm, rx⟩ := wk'.yld i _ _ v H'' hlt (Step.refl _ _) (fun b => A'.tr) hy
    rw [List.drop_eq_getElem_cons hlt] at hf
    have ex2 : xs[i] = x := by rw [List.getElem?_eq_getElem hlt] at ex; exact Option.some.inj ex
    rw [ex2] at hf
    have s2 : Step (Mof L δ1 σ w1) H1 (Mof L δ' σ' w') H'' := s'.trans (Step.same sm)
    refine ⟨Φ, δ', w', x, _, A'.same sm, rx, hf, fun δ2 σ2 hb2 A2 st2 _ => ⟨Φ, δ2, w', _, A2, hb2, ?_, ?_, ?_, h4⟩⟩
    · exact fun δ3 w3 σ3 H3 q A3 s3 => ⟨hlt, δ3, w3, A3, (s2.trans st2).trans s3, q⟩
    · exact fun δ3 w3 σ3 H3 q A3 s3 => h1 _ _ _ _ q A3 (s1.trans ((s2.trans st2).trans s3))
    · exact fun δ3 w3 σ3 H3 q A3 s3 => ⟨hlt, δ3, w3, A3, (s2.trans st2).trans s3, q⟩
  · have e : i = xs.length := by omega
    subst e
    rw [List.drop_length] at hf
    exact .inl ⟨wk'.stop _ _ (Step.refl _ _), h1 _ _ _ _ hf A' (s1.trans s')⟩
/-! ### while -/
def dsWhile (t : DT L) (b : DS L) : DS L := fun E δ w => ∃ I : Nat → DEnv → L.W → Prop, (∃ m, I m δ w) ∧ ∀ m δ w, I m δ w → t δ w fun c δ' w' =>
  if c = true then b { nx := fun δ w => ∃ m', m' < m ∧ I m' δ w, rt := E.rt, bk := E.nx, ct := fun δ w => ∃ m', m' < m ∧ I m' δ w } δ' w' else E.nx δ' w'
theorem pds_while {c : Expr} {t : DT L} (hp : PassesOwn (model X.prog X.w) X.A X.env X.xe) (hc : PT X c (TDT t)) (hb : PSs X body (TDS b)) : PS X (.While c body [] pos) (TDS (dsWhile t b)) := by
  refine psI (ps_while hp hc hb) fun D σ H ⟨Φ, δ, w, E, A, ⟨I, ⟨m0, i0⟩, turn⟩, h1, _, _, h4⟩ => ?_
  refine ⟨fun m σ' H' => ∃ δ' w', At Φ δ' w' σ' H' ∧ Step (Mof L δ σ w) H (Mof L δ' σ' w') H' ∧ I m δ' w', ⟨m0, δ, w, A, Step.refl _ _, i0⟩, ?_⟩
  rintro m σ' H' ⟨δ', w', A', s', hi⟩
  refine ⟨Φ, δ', w', _, A', turn m δ' w' hi, fun k δ2 w2 H2 q A2 s2 => ?_⟩
  cases k with
  | false => exact h1 _ _ _ _ q A2 (s'.trans s2)
  | true =>
    refine ⟨fun σ3 H3 => ∃ m', m' < m ∧ ∃ δ3 w3, At Φ δ3 w3 σ3 H3 ∧ Step (Mof L δ σ w) H (Mof L δ3 σ3 w3) H3 ∧ I m' δ3 w3, fun σ3 H3 ⟨m', hm, h⟩ => ⟨m', hm, h⟩, Φ, δ2, w2, _, A2, q, ?_, ?_, ?_, h4⟩
    · exact fun δ3 w3 σ3 H3 ⟨m', hm, q⟩ A3 s3 => ⟨m', hm, δ3, w3, A3, (s'.trans s2).trans s3, q⟩
    · exact fun δ3 w3 σ3 H3 q A3 s3 => h1 _ _ _ _ q A3 ((s'.trans s2).trans s3)
    · exact fun δ3 w3 σ3 H3 ⟨m', hm, q⟩ A3 s3 => ⟨m', hm, δ3, w3, A3, (s'.trans s2).trans s3, q⟩
end

/-! ### list comprehensions -/
/-- from i on: what a says at vs, else b -/
def mixD (vs : List Nat) : Nat → DEnv → DEnv → DEnv
  | i, a :: r, b :: s => (if i ∈ vs then a else b) :: mixD vs (i + 1) r s
  | _, _, _ => []
/-- the slots of vs are forgotten -/
def wipeD (vs : List Nat) : Nat → DEnv → DEnv
  | i, a :: r => (if i ∈ vs then .no else a) :: wipeD vs (i + 1) r
  | _, [] => []
theorem mixD_length {vs : List Nat} : ∀ {i : Nat} {a b : DEnv}, a.length = b.length → (mixD vs i a b).length = a.length
  | _, [], [], _ => rfl
  | _, [], _ :: _, h => by simp at h
  | _, _ :: _, [], h => by simp at h
  | i, _ :: r, _ :: s, h => by simp [mixD, mixD_length (i := i + 1) (a := r) (b := s) (by simpa using h)]
theorem mixD_get {vs : List Nat} : ∀ {i j : Nat} {a b : DEnv}, a.length = b.length → (mixD vs i a b)[j]? = if i + j ∈ vs then a[j]? else b[j]?
  | _, _, [], [], _ => by simp [mixD]
  | _, _, [], _ :: _, h => by simp at h
  | _, _, _ :: _, [], h => by simp at h
  | i, 0, x :: r, y :: s, h => by
    simp only [mixD, List.getElem?_cons_zero, Nat.add_zero]
    split <;> rfl
  | i, j + 1, x :: r, y :: s, h => by
    simp only [mixD, List.getElem?_cons_succ]
    rw [mixD_get (by simpa using h), show i + 1 + j = i + (j + 1) by omega]
theorem wipeD_length {vs : List Nat} : ∀ {i : Nat} {a : DEnv}, (wipeD vs i a).length = a.length
  | _, [] => rfl
  | i, _ :: r => by simp [wipeD, wipeD_length (i := i + 1) (a := r)]
theorem wipeD_get {vs : List Nat} : ∀ {i j : Nat} {a : DEnv}, (wipeD vs i a)[j]? = if i + j ∈ vs then a[j]?.map fun _ => .no else a[j]?
  | _, _, [] => by simp [wipeD]
  | i, 0, x :: r => by
    simp only [wipeD, List.getElem?_cons_zero, Nat.add_zero]
    split <;> rfl
  | i, j + 1, x :: r => by
    simp only [wipeD, List.getElem?_cons_succ]
    rw [wipeD_get, show i + 1 + j = i + (j + 1) by omega]
/-- no name of vs holds a list alone -/
def NoOwn (vs : List Nat) (δ : DEnv) : Prop := ∀ i ∈ vs, ∀ d, δ[i]? ≠ some (DV.own d)
section
variable {Φ : Ph L} {δ δ' : DEnv} {w w' : L.W} {σ σ' : L2.St} {H H' : Hp} {vs : List Nat}
theorem At.wipe (A : At Φ δ w σ H) (h : NoOwn vs δ) : At Φ (wipeD vs 0 δ) w (L2.wipe σ vs) H ∧ ∀ b, Mof L (wipeD vs 0 δ) (L2.wipe σ vs) w b ↔ Mof L δ σ w b := by
  have ow : ∀ (j : Nat) (e : D), (wipeD vs 0 δ)[j]? = some (.own e) ↔ δ[j]? = some (.own e) := fun j e => by
    rw [wipeD_get, Nat.zero_add]
    by_cases q : j ∈ vs
    · rw [if_pos q]
      refine ⟨fun z => ?_, fun z => absurd z (h j q e)⟩
      cases g : δ[j]? with
      | none => rw [g] at z; cases z
      | some x => rw [g] at z; cases z
    · rw [if_neg q]
  have ns : ∀ (j : Nat) (e : D), δ[j]? = some (.own e) → j ∉ vs := fun j e z q => h j q e z
  have sub0 : ∀ b, Mof L (wipeD vs 0 δ) (L2.wipe σ vs) w b ↔ Mof L δ σ w b := fun b => by
    refine or_congr Iff.rfl ⟨fun ⟨j, e, h1, h2⟩ => ?_, fun ⟨j, e, h1, h2⟩ => ?_⟩
    · have h1 := (ow j e).mp h1
      rw [wipe_out (ns j e h1)] at h2
      exact ⟨j, e, h1, h2⟩
    · exact ⟨j, e, (ow j e).mpr h1, by rw [wipe_out (ns j e h1)]; exact h2⟩
  have sub : ∀ b, Sof Φ (wipeD vs 0 δ) (L2.wipe σ vs) w b ↔ Sof Φ δ σ w b := fun b => ⟨fun h => h.M.elim (fun h => ((sub0 b).mp h).S) fun h => .inr (.inl h), fun h => h.M.elim (fun h => ((sub0 b).mpr h).S) fun h => .inr (.inl h)⟩
  have st := sub_step (fun b z => (sub b).mp z) H
  refine ⟨⟨by rw [wipeD_length, wipe_length]; exact A.len, A.rep, A.go, A.trk, A.fm, fun j e z => ?_, fun j e z => ?_, fun j k e f a h1 h2 h3 h4 => ?_⟩, sub0⟩
  · have q : j ∉ vs := fun q => by
      rw [wipeD_get, Nat.zero_add, if_pos q] at z
      cases g : δ[j]? with
      | none => rw [g] at z; cases z
      | some x => rw [g] at z; cases z
    rw [wipeD_get, Nat.zero_add, if_neg q] at z
    obtain ⟨v, e1, r1⟩ := A.val j e z
    exact ⟨v, by rw [wipe_out q]; exact e1, r1.go st⟩
  · have z := (ow j e).mp z
    obtain ⟨a, e1, r1, q1⟩ := A.own j e z
    exact ⟨a, by rw [wipe_out (ns j e z)]; exact e1, r1.go (fun _ y => y) st, q1⟩
  · have h1 := (ow j e).mp h1
    have h2 := (ow k f).mp h2
    rw [wipe_out (ns j e h1)] at h3
    rw [wipe_out (ns k f h2)] at h4
    exact A.dis j k e f a h1 h2 h3 h4
/-- behind a turn: the block's own names are as they were outside -/
theorem At.mix (A : At Φ δ w σ H) (h : NoOwn vs δ) (A' : At Φ δ' w' σ' H') (st : Step (Mof L δ σ w) H (Mof L δ' σ' w') H') (fl : σ'.length = σ.length) (fr : ∀ j, j ∉ vs → σ'[j]? = σ[j]?) :
    At Φ (mixD vs 0 δ δ') w' σ H' ∧ NoOwn vs (mixD vs 0 δ δ') ∧ ∀ b, Mof L (mixD vs 0 δ δ') σ w' b → Mof L δ' σ' w' b := by
  have hl : δ.length = δ'.length := A.len.trans (fl.symm.trans A'.len.symm)
  have ow : ∀ (j : Nat) (e : D), (mixD vs 0 δ δ')[j]? = some (.own e) → δ'[j]? = some (.own e) ∧ j ∉ vs := fun j e z => by
    rw [mixD_get hl, Nat.zero_add] at z
    by_cases q : j ∈ vs
    · rw [if_pos q] at z
      exact absurd z (h j q e)
    · rw [if_neg q] at z
      exact ⟨z, q⟩
  have sub0 : ∀ b, Mof L (mixD vs 0 δ δ') σ w' b → Mof L δ' σ' w' b := fun b z => by
    rcases z with z | ⟨j, e, h1, h2⟩
    · exact .inl z
    · obtain ⟨h1, q⟩ := ow j e h1
      exact .inr ⟨j, e, h1, by rw [fr j q]; exact h2⟩
  have sub : ∀ b, Sof Φ (mixD vs 0 δ δ') σ w' b → Sof Φ δ' σ' w' b := fun b h => h.M.elim (fun h => (sub0 b h).S) fun h => .inr (.inl h)
  have s2 := sub_step sub H'
  refine ⟨⟨by rw [mixD_length hl]; exact A.len, A'.rep, A'.go, A'.trk, A'.fm, fun j e z => ?_, fun j e z => ?_, fun j k e f a h1 h2 h3 h4 => ?_⟩, fun j q e z => (ow j e z).2 q, sub0⟩
  · rw [mixD_get hl, Nat.zero_add] at z
    by_cases q : j ∈ vs
    · rw [if_pos q] at z
      obtain ⟨v, e1, r1⟩ := A.val j e z
      exact ⟨v, e1, (r1.go st.S).go s2⟩
    · rw [if_neg q] at z
      obtain ⟨v, e1, r1⟩ := A'.val j e z
      exact ⟨v, by rw [← fr j q]; exact e1, r1.go s2⟩
  · obtain ⟨z, q⟩ := ow j e z
    obtain ⟨a, e1, r1, q1⟩ := A'.own j e z
    exact ⟨a, by rw [← fr j q]; exact e1, r1.go (fun _ y => y) s2, q1⟩
  · obtain ⟨h1, q1⟩ := ow j e h1
    obtain ⟨h2, q2⟩ := ow k f h2
    rw [← fr j q1] at h3
    rw [← fr k q2] at h4
    exact A'.dis j k e f a h1 h2 h3 h4
end
/-- two states that agree outside of vs, wiped -/
theorem wipe_eq {σ σ' : L2.St} {vs : List Nat} (fl : σ'.length = σ.length) (fr : ∀ j, j ∉ vs → σ'[j]? = σ[j]?) : L2.wipe σ' vs = L2.wipe σ vs := by
  have key : ∀ (us : List Nat) (σ σ' : L2.St), σ'.length = σ.length → (∀ j, j ∉ us → σ'[j]? = σ[j]?) → L2.wipe σ' us = L2.wipe σ us := fun us => by
    induction us with
    | nil =>
      intro σ σ' _ f
      exact List.ext_getElem? fun j => f j (by simp)
    | cons u us ih =>
      intro σ σ' l f
      refine List.ext_getElem? fun j => ?_
      unfold L2.wipe
      by_cases q : u = j
      · subst q
        by_cases z : u < σ.length
        · rw [List.getElem?_set_self (by rw [wipe_length, l]; exact z), List.getElem?_set_self (by rw [wipe_length]; exact z)]
        · rw [List.getElem?_eq_none (by rw [List.length_set, wipe_length, l]; omega), List.getElem?_eq_none (by rw [List.length_set, wipe_length]; omega)]
      · rw [List.getElem?_set_ne q, List.getElem?_set_ne q]
        by_cases m : j ∈ us
        · -- both are forgotten, or lie beyond
          have g : ∀ (us : List Nat) (σ : L2.St), j ∈ us → (L2.wipe σ us)[j]? = if j < σ.length then some none else none := fun us => by
            induction us with
            | nil => intro σ h; simp at h
            | cons a us ih2 =>
              intro σ h
              unfold L2.wipe
              by_cases e : a = j
              · subst e
                by_cases z : a < σ.length
                · rw [List.getElem?_set_self (by rw [wipe_length]; exact z), if_pos z]
                · rw [List.getElem?_eq_none (by rw [List.length_set, wipe_length]; omega), if_neg z]
              · rw [List.getElem?_set_ne e]
                exact ih2 σ ((List.mem_cons.mp h).resolve_left fun z => e z.symm)
          rw [g us σ' m, g us σ m, l]
        · rw [wipe_out m, wipe_out m]
          exact f j fun z => (List.mem_cons.mp z).elim (fun z => q z.symm) m
  exact key vs σ σ' fl fr
end Dl
set_option maxRecDepth 100000
namespace Dl
open PySem PySem.Spec PyProof.Rows L2

variable {L : Wd}
/-- the turns of a list comprehension; acc: what stands in the new list -/
def dComp (vs : List Nat) (g : DG) (t : DT L) (e : DE L) (Q : List D → DEnv → L.W → Prop) : List D → List D → DEnv → L.W → Prop
  | [], acc, δ, w => Q acc δ w
  | x :: xs, acc, δ, w => g x (wipeD vs 0 δ) fun δ1 => t δ1 w fun c δ2 w2 =>
    if c = true then e δ2 w2 fun y δ3 w3 => acc.length < sizeLine ∧ dComp vs g t e Q xs (acc ++ [y]) (mixD vs 0 δ δ3) w3 else dComp vs g t e Q xs acc (mixD vs 0 δ δ2) w2
def dfLc (vs : List Nat) (it : DA L) (g : DG) (t : DT L) (e : DE L) : DA L := fun δ w Q => it δ w fun xs δ' w' => NoOwn vs δ' ∧ dComp vs g t e Q xs [] δ' w'
def TDTs (t : DT L) : TT := TDT t
def dtYes : DT L := fun δ w Q => Q true δ w
theorem ptsI {X : Cx} {e : List Expr} {t t' : TT} (h : PTs X e t) (i : ∀ σ H Q, t' σ H Q → t σ H Q) : PTs X e t' := ⟨fun pins s σ H Q I q => h.run pins s σ H Q I (i _ _ _ q)⟩
theorem pdts_nil {X : Cx} : PTs X [] (TDT (dtYes (L := L))) := ptsI pts_nil fun σ H Q ⟨Φ, δ, w, R, A, hd, q⟩ => q _ _ _ _ hd A (Step.refl _ _)
theorem pdts_one {X : Cx} {c : Expr} {t : DT L} (h : PT X c (TDT t)) : PTs X [c] (TDT t) := pts_one h
theorem wipe_wipe (σ : L2.St) (vs : List Nat) : L2.wipe (L2.wipe σ vs) vs = L2.wipe σ vs := wipe_eq (wipe_length _ _) fun j h => wipe_out h
theorem At.notS {Φ : Ph L} {δ : DEnv} {w : L.W} {σ : L2.St} {H : Hp} {a : Addr} (A : At (Φ.add a) δ w σ H) (h : ¬ Φ.F a) : ¬ Sof Φ δ σ w a := fun z => by
  rcases z with z | z | ⟨i, d, h1, h2⟩
  · exact A.fm a (.inr rfl) z
  · exact h z
  · obtain ⟨b, e, _, _, q, _⟩ := A.own i d h1
    rw [h2] at e
    cases e
    exact q (.inr rfl)
/-- a set and one more -/
def plus (M : Addr → Prop) (a : Addr) (b : Addr) : Prop := M b ∨ b = a
theorem Step.plus {M M' : Addr → Prop} {H H' : Hp} (s : Step M H M' H') (a : Addr) : Step (plus M a) H (plus M' a) H' :=
  ⟨fun b o n e => s.keep b o (fun z => n (.inl z)) e, fun b z => z.elim (fun z => (s.sub b z).imp .inl _root_.id) fun z => .inl (.inr z), s.trk, s.tup⟩
theorem Step.put {M : Addr → Prop} {H : Hp} {a : Addr} {o : HO} (nt : ∀ vs, H a ≠ some (.tup vs)) : Step (Dl.plus M a) H (Dl.plus M a) (upd H a o) :=
  ⟨fun b u n e => by rw [upd_ne fun z => n (.inr z)]; exact e, fun b z => .inl z, fun b z => by
    by_cases e : b = a
    · rw [e, upd_same]; exact fun z => nomatch z
    · rw [upd_ne e]; exact z, fun b vs e => by rw [upd_ne fun z => nt vs (by rw [← z]; exact e)]; exact e⟩
theorem sof_add {Φ : Ph L} {δ : DEnv} {σ : L2.St} {w : L.W} {a b : Addr} : plus (Sof Φ δ σ w) a b ↔ Sof (Φ.add a) δ σ w b :=
  ⟨fun h => h.elim (sub_drop b) fun e => .inr (.inl (.inr e)), sub_add⟩
/-- the reading of a list comprehension -/
theorem TF_lc {vs ts : List Nat} {it : DA L} {g : DG} {t : DT L} {e : DE L} (hts : ∀ i ∈ ts, i ∈ vs) : ∀ σ H Q, TF (dfLc vs it g t e) σ H Q → tLc (TDI it) (TDG L ts g) (TDT t) (TD e) vs σ H Q := fun σ H Q ⟨Φ, δ, w, R, A, hd, q⟩ => by
  refine ⟨Φ, δ, w, _, A, hd, fun xs δ1 w1 J H1 ⟨no, hx⟩ A1 s1 wk D nD => ?_⟩
  have nF : ¬ Φ.F D := fun z => A1.trk D z nD
  have h0 : Φ.H0 D = none := A1.new0 nD
  have HD : H D = none := s1.free nD
  have sm0 : Same H1 (upd H1 D (.lst [])) := same_new nD
  refine ⟨fun i m H' => m = xs.length - i ∧ i ≤ xs.length ∧ ∃ δ' w' acc us, At (Φ.add D) δ' w' σ H' ∧ NoOwn vs δ' ∧ H' D = some (.lst us) ∧ RepL (Sof (Φ.add D) δ' σ w') H' us acc ∧ Step (plus (Mof L δ1 σ w1) D) (upd H1 D (.lst [])) (plus (Mof L δ' σ w') D) H' ∧ dComp vs g t e R (xs.drop i) acc δ' w',
    ⟨_, rfl, Nat.zero_le _, δ1, w1, [], [], A1.add nD, no, upd_same, .nil, Step.refl _ _, hx⟩, ?_⟩
  rintro i m H' ⟨rfl, hi, δ', w', acc, us, A', no', eD, rl, st, hc⟩
  -- the walked thing stands
  have stS : Step (Sof Φ δ1 σ w1) H1 (Sof (Φ.add D) δ' σ w') H' := by
    refine ⟨fun b o n eb => st.keep b o (fun z => ?_) (sm0 b o eb), fun b z => ?_, fun b z => st.trk b ((Step.same (S := L.mu w) sm0).trk b z), fun b vs e => st.tup b vs (sm0 b _ e)⟩
    · rcases z with z | z
      · exact n z.S
      · rw [z, nD] at eb; cases eb
    · rcases z.M with z | z
      · rcases st.sub b (.inl z) with z | z
        · rcases z with z | z
          · exact .inl z.S
          · exact .inr (by rw [z]; exact nD)
        · by_cases e : b = D
          · exact .inr (by rw [e]; exact nD)
          · rw [upd_ne e] at z
            exact .inr z
      · rcases z with z | z
        · exact .inl (.inr (.inl z))
        · exact .inr (by rw [z]; exact nD)
  have wk' := wk.later stS
  by_cases hlt : i < xs.length
  · refine .inr ⟨wk'.go i _ _ hlt (Step.refl _ _), fun H2 => i + 1 ≤ xs.length ∧ ∃ δ2 w2 acc us, At (Φ.add D) δ2 w2 σ H2 ∧ NoOwn vs δ2 ∧ H2 D = some (.lst us) ∧ RepL (Sof (Φ.add D) δ2 σ w2) H2 us acc ∧ Step (plus (Mof L δ1 σ w1) D) (upd H1 D (.lst [])) (plus (Mof L δ2 σ w2) D) H2 ∧ dComp vs g t e R (xs.drop (i + 1)) acc δ2 w2,
      fun H2 h => ⟨_, by omega, rfl, h.1, h.2⟩, fun v H2 hy => ?_⟩
    obtain ⟨x, ex, sm, rx⟩ := wk'.yld i _ _ v H2 hlt (Step.refl _ _) (fun b => A'.tr) hy
    rw [List.drop_eq_getElem_cons hlt] at hc
    have ex2 : xs[i] = x := by rw [List.getElem?_eq_getElem hlt] at ex; exact Option.some.inj ex
    rw [ex2] at hc
    have A2 := A'.same sm
    have rl2 := rl.go (Step.same (S := Sof (Φ.add D) δ' σ w') sm)
    obtain ⟨A3, iff3⟩ := A2.wipe no'
    have toW : ∀ (H : Hp), Step (Mof L δ' σ w') H (Mof L (wipeD vs 0 δ') (L2.wipe σ vs) w') H := fun H => sub_step (fun b z => (iff3 b).mp z) H
    refine ⟨Φ.add D, _, w', x, _, A3, rx.go (toW H2).S, hc, fun δ3 σ3 hR A4 st4 ⟨fl, fr⟩ => ?_⟩
    have fl' : σ3.length = σ.length := by rw [fl, wipe_length]
    have fr' : ∀ j, j ∉ vs → σ3[j]? = σ[j]? := fun j hj => (fr j fun z => hj (hts j z)).trans (wipe_out hj)
    refine ⟨wipe_eq fl' fr', Φ.add D, δ3, w', _, A4, hR, fun c δ4 w4 H4 hq A5 st5 => ?_⟩
    have sA : Step (Mof L δ' σ w') H2 (Mof L δ4 σ3 w4) H4 := (toW H2).trans (st4.trans st5)
    -- a turn's end
    have fin : ∀ {δ5 : DEnv} {w5 : L.W} {H5 : Hp}, At (Φ.add D) δ5 w5 σ3 H5 → Step (Mof L δ' σ w') H2 (Mof L δ5 σ3 w5) H5 → At (Φ.add D) (mixD vs 0 δ' δ5) w5 σ H5 ∧ NoOwn vs (mixD vs 0 δ' δ5) ∧ Step (Mof L δ' σ w') H2 (Mof L (mixD vs 0 δ' δ5) σ w5) H5 := fun {δ5 w5 H5} A6 s6 => by
      obtain ⟨z1, z2, z3⟩ := A2.mix no' A6 s6 fl' fr'
      exact ⟨z1, z2, s6.trans (sub_step z3 H5)⟩
    have stD : ∀ {δ5 : DEnv} {w5 : L.W} {H5 : Hp}, Step (Mof L δ' σ w') H2 (Mof L δ5 σ w5) H5 → Step (plus (Mof L δ1 σ w1) D) (upd H1 D (.lst [])) (plus (Mof L δ5 σ w5) D) H5 := fun s6 => (st.trans (Step.same sm)).trans (s6.plus D)
    have keepD : ∀ {δ5 : DEnv} {w5 : L.W} {H5 : Hp}, Step (Mof L δ' σ w') H2 (Mof L δ5 σ w5) H5 → H5 D = some (.lst us) := fun {δ5 w5 H5} s6 => by
      refine s6.keep D _ (fun z => ?_) (sm D _ eD)
      exact A'.notS nF z.S
    cases c with
    | false =>
      obtain ⟨z1, z2, z3⟩ := fin A5 sA
      exact ⟨hlt, _, w4, acc, us, z1, z2, keepD z3, rl2.go z3.S, stD z3, hq⟩
    | true =>
      refine ⟨Φ.add D, δ4, w4, _, A5, hq, fun y δ5 w5 u H5 ⟨hz, hq5⟩ A6 st6 ry => ?_⟩
      obtain ⟨z1, z2, z3⟩ := fin A6 (sA.trans st6)
      have eD5 := keepD z3
      have hul : us.length < sizeLine := by rw [rl.length]; exact hz
      obtain ⟨A7, s7⟩ := z1.setF (a := D) (o := .lst (us ++ [u])) (.inr rfl) h0 (fun vs e => by rw [eD5] at e; cases e)
      have rl5 := rl2.go z3.S
      -- the element, as seen outside of the block
      have ry5 : Rep (Sof (Φ.add D) (mixD vs 0 δ' δ5) σ w5) H5 u y := by
        obtain ⟨_, _, z⟩ := A2.mix no' A6 (sA.trans st6) fl' fr'
        exact ry.go (sub_step z H5).S
      exact ⟨us, eD5, hul, hlt, _, w5, acc ++ [y], us ++ [u], A7, z2, upd_same, (rl5.snoc ry5).go s7, (stD z3).trans (Step.put fun vs e => by rw [eD5] at e; cases e), hq5⟩
  · have e1 : i = xs.length := by omega
    subst e1
    rw [List.drop_length] at hc
    refine .inl ⟨wk'.stop _ _ (Step.refl _ _), q _ _ _ D us H' hc A' (A'.notS nF) HD eD rl ?_⟩
    refine ⟨fun b o n eb => ?_, fun b z => ?_, fun b z => stS.trk b (s1.trk b z), fun b vs e => stS.tup b vs (s1.tup b vs e)⟩
    · have e2 := s1.keep b o n eb
      refine st.keep b o (fun z => ?_) (sm0 b o e2)
      rcases z with z | z
      · rcases s1.sub b z with z | z
        · exact n z
        · rw [z] at eb; cases eb
      · rw [z, nD] at e2; cases e2
    · rcases st.sub b (.inl z) with z2 | z2
      · rcases z2 with z2 | z2
        · exact s1.sub b z2
        · exact .inr (by rw [z2]; exact HD)
      · by_cases e3 : b = D
        · exact .inr (by rw [e3]; exact HD)
        · rw [upd_ne e3] at z2
          exact .inr (s1.free z2)
section
variable {X : Cx} {elt tg iter : Expr} {ifs : List Expr} {scope : Scope} {own : List (Str × Nat)} {pos spos : Pos} {it : DA L} {g : DG} {t : DT L} {e : DE L} {ts : List Nat}
theorem pf_lc (hc : X.calm = true) (hN : X.N.Nodup) (hi : PI X tg iter (TDI it)) (ok : BlkOk X.N X.env.scope scope own)
    (hg : ∀ (s : Shared) (H : Hp) (C : Addr) (cl : List (Str × Addr)) (fp : List Addr), PG (X.blk s H scope (compEnvC scope cl C X.env) fp) tg (TDG L ts g)) (ht : ∀ (s : Shared) (H : Hp) (C : Addr) (cl : List (Str × Addr)) (fp : List Addr), PTs (X.blk s H scope (compEnvC scope cl C X.env) fp) ifs (TDT t))
    (he : ∀ (s : Shared) (H : Hp) (C : Addr) (cl : List (Str × Addr)) (fp : List Addr), PE (X.blk s H scope (compEnvC scope cl C X.env) fp) elt (TD e)) (hts : ∀ i ∈ ts, i ∈ own.map (·.2) := by decide) (hs : ∀ x, foldedSetIterable iter X.env x = pure x := by intro _; rfl) :
    PE X (.ListComp elt [⟨tg, iter, ifs, 0⟩] scope pos) (TF (dfLc (own.map (·.2)) it g t e)) := peI (pe_lc hc hN hi ok hg ht he hs) (TF_lc hts)
/-- name = [..] -/
theorem pds_setLc {i : Nat} {y : Str} {py : Pos} (hc : X.calm = true) (hN : X.N.Nodup) (hy : X.N[i]? = some y) (hyl : X.env.scope.names.lookup y = some .local)
    (hsw : swapsWith (.ListComp elt [⟨tg, iter, ifs, 0⟩] scope pos) (some (.Name y py)) spos.line X.env = pure true) (hi : PI X tg iter (TDI it)) (ok : BlkOk X.N X.env.scope scope own)
    (hg : ∀ (s : Shared) (H : Hp) (C : Addr) (cl : List (Str × Addr)) (fp : List Addr), PG (X.blk s H scope (compEnvC scope cl C X.env) fp) tg (TDG L ts g)) (ht : ∀ (s : Shared) (H : Hp) (C : Addr) (cl : List (Str × Addr)) (fp : List Addr), PTs (X.blk s H scope (compEnvC scope cl C X.env) fp) ifs (TDT t))
    (he : ∀ (s : Shared) (H : Hp) (C : Addr) (cl : List (Str × Addr)) (fp : List Addr), PE (X.blk s H scope (compEnvC scope cl C X.env) fp) elt (TD e)) (hts : ∀ i ∈ ts, i ∈ own.map (·.2) := by decide) (hs : ∀ x, foldedSetIterable iter X.env x = pure x := by intro _; rfl) :
    PS X (.Assign [.Name y py] (.ListComp elt [⟨tg, iter, ifs, 0⟩] scope pos) spos) (TDS (dsSet i (deF (dfLc (own.map (·.2)) it g t e)))) :=
  psI (ps_setLc hc hN hy hyl hsw hi ok hg ht he hs) (TDS_set fun σ H Q h => by
    obtain ⟨Φ, δ, w, R, A, hd, q⟩ := h
    exact TF_lc hts σ H Q ⟨Φ, δ, w, _, A, hd, fun l δ1 w1 a vs H1 h1 A1 n1 _ e1 r1 s1 => q _ _ _ _ _ h1 A1.drop s1 (.lst e1 n1 (r1.go (sub_step sub_drop H1)))⟩)
theorem pds_ownLc {i : Nat} {y : Str} {py : Pos} (hc : X.calm = true) (hN : X.N.Nodup) (hy : X.N[i]? = some y) (hyl : X.env.scope.names.lookup y = some .local)
    (hsw : swapsWith (.ListComp elt [⟨tg, iter, ifs, 0⟩] scope pos) (some (.Name y py)) spos.line X.env = pure true) (hi : PI X tg iter (TDI it)) (ok : BlkOk X.N X.env.scope scope own)
    (hg : ∀ (s : Shared) (H : Hp) (C : Addr) (cl : List (Str × Addr)) (fp : List Addr), PG (X.blk s H scope (compEnvC scope cl C X.env) fp) tg (TDG L ts g)) (ht : ∀ (s : Shared) (H : Hp) (C : Addr) (cl : List (Str × Addr)) (fp : List Addr), PTs (X.blk s H scope (compEnvC scope cl C X.env) fp) ifs (TDT t))
    (he : ∀ (s : Shared) (H : Hp) (C : Addr) (cl : List (Str × Addr)) (fp : List Addr), PE (X.blk s H scope (compEnvC scope cl C X.env) fp) elt (TD e)) (hts : ∀ i ∈ ts, i ∈ own.map (·.2) := by decide) (hs : ∀ x, foldedSetIterable iter X.env x = pure x := by intro _; rfl) :
    PS X (.Assign [.Name y py] (.ListComp elt [⟨tg, iter, ifs, 0⟩] scope pos) spos) (TDS (dsOwn i (dfLc (own.map (·.2)) it g t e))) :=
  psI (ps_setLc hc hN hy hyl hsw hi ok hg ht he hs) (TDS_own (TF_lc hts))
end
end Dl
set_option maxRecDepth 100000
set_option maxHeartbeats 2000000
namespace Dl
open PySem PySem.Spec PyProof.Rows L2
/-! ### repr of data -/
def rRepr (K : PySem.W.Frag) : List V → Hp → VK → Prop := fun xs H Q => ∃ (a : Addr) (d : PyData), xs = [.ref a] ∧ Dp K H (.ref a) d ∧ d.showable = true ∧ d.hasDict = false ∧ d.depth ≤ 30 ∧ d.shown.length ≤ sizeLine ∧ Q (.str d.shown) H
theorem cr_repr {X : Cx} {k : Nat} (hr : Room k X.A) (hg : X.A.guards = some []) : CallR X (.builtin "repr") (rRepr X.K) := by
  intro pins s σ H xs us Q I r h
  obtain ⟨a, d, rfl, hd, h1, h2, h3, h4, q⟩ := h
  obtain ⟨u, rfl, ru⟩ := vals1 r
  obtain rfl : u = Value.ref a := ru
  obtain ⟨as, rd⟩ := Dp.reads I d (.ref a) (.ref a) hd rfl
  refine repr_of_reads' rd h1 (PySem.PyData.noDict_hsm h2) hg (by have := hr.un; omega) (fun b o e => e) (fun h' u tk hk => ?_) h4
  exact ⟨.str d.shown, H, I.kept (t' := tk) hk, ⟨u, rfl⟩, q⟩
/-! ### a def that wants the guards to be none -/
structure FnG (P : Program) (w : World) (K : PySem.W.Frag) (mg : Str → Option Value) (base : Heap) (k : Nat) (f : Addr) (fd : FuncData) (ps : List Str) (sp : Sp) : Prop where
  len : ∀ vs H Q E, sp vs H Q E → vs.length = ps.length
  run : ∀ (A : Around) (outer : List Env) (s : Shared) (H : Hp) (args : Args) (us : List Value) (vs : List V) (Q : VK) (E : XK), Room k A → A.guards = some [] → Env0 P w K mg base A outer s H → BindsTo s fd args (ps.zip us) → Vals vs us → sp vs H Q E →
    codeAny (model P w) A (.call (.ref f) args) (CR CX0 outer P w H s Q E) s
section
variable {P : Program} {w : World} {K : PySem.W.Frag} {mg : Str → Option Value} {base : Heap}
theorem okG {x qual : Str} {st : Stmt} {f : Addr} {fd : FuncData} {N ps : List Str} {k : Nat} {sp : Sp} (F : Fun K x qual st f fd) (S : FnScope N ps (defScope st)) (len : ∀ vs H Q E, sp vs H Q E → vs.length = ps.length)
    (hbody : ∀ (cdv : Value) (A : Around) (outer : List Env) (s : Shared) (H : Hp) (vs : List V) (Q : VK) (E : XK), Room k (A.deeper (envOfC qual (defScope st) s.heap.objs.size f cdv)) → (A.deeper (envOfC qual (defScope st) s.heap.objs.size f cdv)).guards = some [] → sp vs H Q E →
      ∃ t, PSs (cxOf CX0 P w K mg base N qual (defScope st) f cdv A outer s H E).nox (defBody st) t ∧ t { nx := fun _ H' => Q .non H', rt := Q } (start N vs) H) : FnG P w K mg base (k + 1) f fd ps sp := by
  obtain ⟨oc, od, kV, doc, pm, an, cdv, ct, osl, rfl, lk, hcd⟩ := F.ex
  refine ⟨len, fun A outer s H args us vs Q E hr hgu e0 hb r hsp => ?_⟩
  have KX : K.In s.heap := e0.mod.kin.keeps fun b o e => (e0.bs b o e).1
  refine codeAny_call_function hr.depth (KX _ _ lk) rfl S.co S.gen rfl (PySem.W.codeRec_of KX hcd) (hb _ _ _ _ ?_)
  refine wpAny_newFunctionEnv_cells S.kind (fun y hy => (S.par y.1 (List.of_mem_zip hy).1).imp id fun q => ⟨q, PySem.W.cellsFrom_some _ _ _ (.inl q)⟩) fun env he s1 x => ?_
  subst he
  refine ⟨(e0.mod.nolimit.keeps fun b o e => (e0.bs b o e).1).keeps x.toInCall.keep, codeAny_func ?_⟩
  obtain ⟨t, ht, hq⟩ := hbody cdv A outer s H vs Q E (hr.deeper _) hgu hsp
  refine wpAny_mono (ht.nox.run [] s1 (start N vs) H _ (inv_start S hr.hd e0 (len _ _ _ _ hsp) r x) hq) (fun fl s' hs => ?_) fun e s' hs => hs
  cases fl with
  | ret u =>
    obtain ⟨v, σ', H', J, rv, q⟩ := hs
    exact ⟨v, H', J.os, J.bare, J.base, J.hok, rv, q⟩
  | next =>
    obtain ⟨σ', H', J, q⟩ := hs
    exact ⟨V.non, H', J.os, J.bare, J.base, J.hok, (rfl : RelV V.non Value.none), q⟩
  | brk => exact hs.elim fun _ z => z.elim fun _ z => z.2.elim
  | cont => exact hs.elim fun _ z => z.elim fun _ z => z.2.elim
end
/-! ### a call of such a def -/
section
variable {X : Cx} {k : Nat} {f : Addr} {fd : FuncData} {ps : List Str} {sp : Sp} {E : XK} {x : Str} {p pos : Pos} {e : Expr} {es : List Expr} {t : TA}
theorem pe_callG (F : FnG X.prog X.w X.K X.mg X.base k f fd ps sp) (hr : Room k X.A) (hgu : X.A.guards = some []) (hg : Gl X x) (hm : X.mg x = some (.ref f)) (hk : PySem.W.keepIn X.K (.ref f) = true) (hb : Binds X.K fd ps []) (hx : Passes CX0 X E)
    (ha : PA X (e :: es) t) (hdb : (x == ("__debug__" : Str)) = false := by decide) (he : starEach (e :: es) X.env = (false, eval e X.env) :: starEach es X.env := by rfl) (hpl : (backTo pos (starEach es X.env)).any (·.1) = false := by rfl) :
    PE X (.Call (.Name x p) (e :: es) [] pos) (tCall sp [] E t) := by
  refine ⟨fun pins s σ H Q I h => ?_⟩
  refine wpAny_Call_Name_kw (ld_glob I hg hm ?_ hdb)
  refine PySem.W.callWith_K (h₀ := X.base) I.ok.mod.kin hk (thn (ha.run pos pins s σ H _ I h) fun us s1 ⟨vs, H1, I1, r, q⟩ => ⟨I1.kIn, ?_⟩) he hpl
  have q : sp (vs ++ []) H1 Q E := q
  rw [List.append_nil] at q
  have hl : us.length = ps.length := by rw [← r.length]; exact F.len _ _ _ _ q
  have hb' := hb s1 us I1.kIn (by rw [List.append_nil]; exact hl)
  rw [List.append_nil] at hb'
  refine wpAny_call (codeAny_mono (F.run X.A X.stack s1 H1 ⟨us, []⟩ us vs Q E hr hgu I1.env0 hb' r q) fun r s' hq => ?_)
  cases r with
  | error e => exact hx pins σ H1 s1 e s' I1 hq
  | ok fl =>
    cases fl with
    | ret u => exact I1.after hq
    | next => exact False.elim hq
    | brk => exact False.elim hq
    | cont => exact False.elim hq
end
/-! ### a call with keywords of such a def -/
section
variable {X : Cx} {k : Nat} {f : Addr} {fd : FuncData} {ps ks : List Str} {sp : Sp} {E : XK} {x : Str} {p pos : Pos} {e : Expr} {es : List Expr} {kws : List Keyword} {t tk : TA} {g : List Value → List Value → List Value} {gV : List V → List V → List V}
theorem run_G {pins : List (Addr × Obj)} {σ : L2.St} {H : Hp} {s : Shared} {Q : VK} {args : Args} {us : List Value} {vs : List V} (F : FnG X.prog X.w X.K X.mg X.base k f fd ps sp) (hr : Room k X.A) (hgu : X.A.guards = some []) (hb : BindsTo s fd args (ps.zip us)) (hx : Passes CX0 X E)
    (I : Inv X pins σ H s) (r : Vals vs us) (h : sp vs H Q E) : wpAny (model X.prog X.w) X.A (call (.ref f) args.pos args.kw) (EP X pins σ Q) X.xe s := by
  refine wpAny_call (codeAny_mono (F.run X.A X.stack s H _ us vs Q E hr hgu I.env0 hb r h) fun r s' hq => ?_)
  cases r with
  | error e => exact hx pins σ H s e s' I hq
  | ok fl =>
    cases fl with
    | ret u => exact I.after hq
    | next => exact False.elim hq
    | brk => exact False.elim hq
    | cont => exact False.elim hq
theorem pe_callKG (F : FnG X.prog X.w X.K X.mg X.base k f fd ps sp) (hr : Room k X.A) (hgu : X.A.guards = some []) (hg : Gl X x) (hm : X.mg x = some (.ref f)) (hk : PySem.W.keepIn X.K (.ref f) = true) (hb : KBinds X.K fd ps ks g gV) (hx : Passes CX0 X E)
    (ha : PA X (e :: es) t) (hkw : PK X kws tk) (hall : (backToKw pos (keywordEach kws X.env)).all (·.1.isSome) = true := by rfl) (hks : (backToKw pos (keywordEach kws X.env)).filterMap (·.1) = ks := by rfl)
    (hdb : (x == ("__debug__" : Str)) = false := by decide) (he : starEach (e :: es) X.env = (false, eval e X.env) :: starEach es X.env := by rfl)
    (hpl : ((backTo pos (starEach (e :: es) X.env)).any (·.1) || (backToKw pos (keywordEach kws X.env)).any (·.1.isNone)) = false := by rfl) :
    PE X (.Call (.Name x p) (e :: es) kws pos) (tCallK sp gV E t tk) := by
  refine ⟨fun pins s σ H Q I h => wpAny_Call_Name_kw (ld_glob I hg hm ?_ hdb)⟩
  refine PySem.W.callWith_KW (h₀ := X.base) I.ok.mod.kin hk hall (thn (ha.run pos pins s σ H _ I h) fun us s1 ⟨vs, H1, I1, r, q⟩ => thn (hkw.run pos pins s1 σ H1 _ I1 q) fun ws s2 ⟨zs, H2, I2, rz, q2⟩ => ⟨I2.kIn, ?_⟩) hpl he
  rw [hks]
  have r2 := hb.rel r rz
  exact run_G (args := ⟨us, ks.zip ws⟩) F hr hgu (hb.to s2 us ws I2.kIn (by rw [← r2.length]; exact F.len _ _ _ _ q2)) hx I2 r2 q2
theorem pe_callK0G (F : FnG X.prog X.w X.K X.mg X.base k f fd ps sp) (hr : Room k X.A) (hgu : X.A.guards = some []) (hg : Gl X x) (hm : X.mg x = some (.ref f)) (hk : PySem.W.keepIn X.K (.ref f) = true) (hb : KBinds X.K fd ps ks g gV) (hx : Passes CX0 X E)
    (hkw : PK X kws tk) (hall : (backToKw pos (keywordEach kws X.env)).all (·.1.isSome) = true := by rfl) (hks : (backToKw pos (keywordEach kws X.env)).filterMap (·.1) = ks := by rfl) (hdb : (x == ("__debug__" : Str)) = false := by decide)
    (hpl : ((backTo pos (starEach [] X.env)).any (·.1) || (backToKw pos (keywordEach kws X.env)).any (·.1.isNone)) = false := by rfl) :
    PE X (.Call (.Name x p) [] kws pos) (tCallK sp gV E tNil tk) := by
  refine ⟨fun pins s σ H Q I h => wpAny_Call_Name_kw (ld_glob I hg hm ?_ hdb)⟩
  refine PySem.W.callWith_KW0 (h₀ := X.base) I.ok.mod.kin hk hall (thn (hkw.run pos pins s σ H _ I h) fun ws s2 ⟨zs, H2, I2, rz, q2⟩ => ⟨I2.kIn, ?_⟩) hpl
  rw [hks]
  have r2 := hb.rel (.nil) rz
  exact run_G (args := ⟨[], ks.zip ws⟩) F hr hgu (hb.to s2 [] ws I2.kIn (by rw [← r2.length]; exact F.len _ _ _ _ q2)) hx I2 r2 q2
theorem pe_call0G (F : FnG X.prog X.w X.K X.mg X.base k f fd ps sp) (hr : Room k X.A) (hgu : X.A.guards = some []) (hg : Gl X x) (hm : X.mg x = some (.ref f)) (hk : PySem.W.keepIn X.K (.ref f) = true) (hb : Binds X.K fd ps []) (hx : Passes CX0 X E)
    (hdb : (x == ("__debug__" : Str)) = false := by decide) : PE X (.Call (.Name x p) [] [] pos) (tCall sp [] E tNil) := by
  refine ⟨fun pins s σ H Q I h => wpAny_Call_Name_kw (ld_glob I hg hm ?_ hdb)⟩
  have h : sp [] H Q E := h
  have hl : ([] : List Value).length = ps.length := F.len _ _ _ _ h
  exact PySem.W.callWith_K0 I.kIn hk (run_G (args := ⟨[], []⟩) F hr hgu (hb s [] I.kIn (by simpa using hl)) hx I .nil h)
end
end Dl
set_option maxRecDepth 100000
namespace Dl
open PySem PySem.Spec PyProof.Rows L2

variable {L : Wd}
/-- what a def means: arguments, world, what is wanted of the answer and the world -/
abbrev DF (L : Wd) := List D → L.W → (D → L.W → Prop) → Prop
def spD (L : Wd) (f : DF L) : Sp := fun vs H Q _ => ∃ (F : Addr → Prop) (ds : List D) (w : L.W) (R : D → L.W → Prop), RepL (fun b => L.mu w b ∨ F b) H vs ds ∧ L.rep w H ∧ (∀ b, F b → H b ≠ none ∧ ¬ L.mu w b) ∧ f ds w R ∧
  ∀ x w' v H', R x w' → L.rep w' H' → Step (L.mu w) H (L.mu w') H' → Rep (fun b => L.mu w' b ∨ F b) H' v x → Q v H'
/-- a def's body: n parameters, m names -/
def dfOf (n m : Nat) (b : DS L) : DF L := fun ds w R => ds.length = n ∧ b { nx := fun _ w' => R .non w', rt := R, bk := fun _ _ => False, ct := fun _ _ => False } (ds.map .val ++ List.replicate (m - n) .no) w
section
variable {P : Program} {W : World} {K : PySem.W.Frag} {mg : Str → Option Value} {base : Heap}
theorem start_at {F : Addr → Prop} {vs : List V} {ds : List D} {w : L.W} {H : Hp} {N : List Str} (r : RepL (fun b => L.mu w b ∨ F b) H vs ds) (hr : L.rep w H) (hF : ∀ b, F b → H b ≠ none ∧ ¬ L.mu w b) :
    At (⟨F, w, H⟩ : Ph L) (ds.map .val ++ List.replicate (N.length - ds.length) .no) w (start N vs) H := by
  have hl := r.length
  have no : ∀ (i : Nat) (d : D), (ds.map DV.val ++ List.replicate (N.length - ds.length) DV.no)[i]? ≠ some (.own d) := fun i d h => by
    by_cases q : i < ds.length
    · rw [List.getElem?_append_left (by simpa using q), List.getElem?_map, List.getElem?_eq_getElem q] at h
      cases h
    · rw [List.getElem?_append_right (by simp; omega), List.getElem?_replicate] at h
      split at h <;> cases h
  have sub : ∀ b, Sof (⟨F, w, H⟩ : Ph L) (ds.map .val ++ List.replicate (N.length - ds.length) .no) (start N vs) w b → L.mu w b ∨ F b := fun b h => by
    rcases h with h | h | ⟨i, d, h1, _⟩
    · exact .inl h
    · exact .inr h
    · exact (no i d h1).elim
  refine ⟨by simp [L2.start, hl], hr, Step.refl _ _, fun b h => (hF b h).1, fun b h => (hF b h).2, fun i d h => ?_, fun i d h => absurd h (no i d), fun i j d e a h => absurd h (no i d)⟩
  by_cases q : i < ds.length
  · rw [List.getElem?_append_left (by simpa using q), List.getElem?_map] at h
    cases e : ds[i]? with
    | none => rw [e] at h; cases h
    | some x =>
      rw [e] at h
      cases h
      obtain ⟨v, ev, rv⟩ := r.get e
      refine ⟨v, ?_, rv.go (sub_step sub H)⟩
      unfold L2.start
      rw [List.getElem?_append_left (by rw [List.length_map, hl]; exact q), List.getElem?_map, ev]
      rfl
  · rw [List.getElem?_append_right (by simp; omega), List.getElem?_replicate] at h
    split at h <;> cases h
/-- THE RULE for a def -/
theorem fnD {x qual : Str} {st : Stmt} {f : Addr} {fd : FuncData} {N ps : List Str} {k : Nat} {b : DS L} (F : Fun K x qual st f fd) (S : FnScope N ps (defScope st))
    (hbody : ∀ (cdv : Value) (A : Around) (outer : List Env) (s : Shared) (H : Hp) (E : XK), Room k (A.deeper (envOfC qual (defScope st) s.heap.objs.size f cdv)) → (A.deeper (envOfC qual (defScope st) s.heap.objs.size f cdv)).guards = some [] → PSs (cxOf CX0 P W K mg base N qual (defScope st) f cdv A outer s H E).nox (defBody st) (TDS b)) :
    FnG P W K mg base (k + 1) f fd ps (spD L (dfOf ps.length N.length b)) := by
  refine okG F S (fun vs H Q E h => ?_) (fun cdv A outer s H vs Q E hr hgu h => ?_)
  · obtain ⟨F, ds, w, R, r, _, _, ⟨hl, _⟩, _⟩ := h
    rw [r.length, hl]
  · obtain ⟨F, ds, w, R, r, h1, hF, ⟨hl, hb⟩, q⟩ := h
    have A0 := start_at (N := N) r h1 hF
    rw [hl] at A0
    refine ⟨_, hbody cdv A outer s H E hr hgu, ⟨F, w, H⟩, _, w, _, A0, hb, fun δ' w' σ' H' hq A' _ => ?_, fun _ _ _ _ z => z.elim, fun _ _ _ _ z => z.elim, fun x w' v H' hq fin => ?_⟩
    · exact q _ _ _ _ hq A'.rep A'.go .non
    · exact q _ _ _ _ hq fin.rep fin.go fin.val
theorem FnG.imp {f : Addr} {fd : FuncData} {ps : List Str} {k : Nat} {sp sp' : Sp} (F : FnG P W K mg base k f fd ps sp) (h : ∀ vs H Q E, sp' vs H Q E → sp vs H Q E) : FnG P W K mg base k f fd ps sp' :=
  ⟨fun vs H Q E q => F.len vs H Q E (h _ _ _ _ q), fun A outer s H args us vs Q E hr hgu he hb hv hs => F.run A outer s H args us vs Q E hr hgu he hb hv (h _ _ _ _ hs)⟩
/-- a def means g as well -/
theorem fnD_imp {f : Addr} {fd : FuncData} {ps : List Str} {k : Nat} {d g : DF L} (F : FnG P W K mg base k f fd ps (spD L d)) (h : ∀ ds w R, g ds w R → d ds w R) : FnG P W K mg base k f fd ps (spD L g) :=
  F.imp fun vs H Q E ⟨F, ds, w, R, r, h1, hF, hb, q⟩ => ⟨F, ds, w, R, r, h1, hF, h _ _ _ hb, q⟩
end
/-- a def of the module: where it stands, what it means -/
structure Gd (P : Program) (W : World) (K : PySem.W.Frag) (mg : Str → Option Value) (base : Heap) (L : Wd) (k : Nat) (x : Str) (ps : List Str) (f : DF L) : Prop where
  ex : ∃ a fd, FnG P W K mg base k a fd ps (spD L f) ∧ mg x = some (.ref a) ∧ PySem.W.keepIn K (.ref a) = true ∧ Binds K fd ps []
theorem Gd.imp {P : Program} {W : World} {K : PySem.W.Frag} {mg : Str → Option Value} {base : Heap} {k : Nat} {x : Str} {ps : List Str} {d g : DF L} (G : Gd P W K mg base L k x ps d) (h : ∀ ds w R, g ds w R → d ds w R) : Gd P W K mg base L k x ps g :=
  let ⟨a, fd, F, m⟩ := G.ex; ⟨a, fd, fnD_imp F h, m⟩
/-- behind a call -/
theorem At.called {Φ : Ph L} {δ : DEnv} {w w' : L.W} {σ : L2.St} {H H' : Hp} (A : At Φ δ w σ H) (hr : L.rep w' H') (s : Step (L.mu w) H (L.mu w') H') : At Φ δ w' σ H' ∧ Step (Mof L δ σ w) H (Mof L δ σ w') H' := by
  have sM : Step (Mof L δ σ w) H (Mof L δ σ w') H' := ⟨fun b o n e => s.keep b o (fun z => n (.inl z)) e, fun b z => by
    rcases z with z | z
    · exact (s.sub b z).imp .inl _root_.id
    · exact .inl (.inr z), s.trk, s.tup⟩
  refine ⟨⟨A.len, hr, A.go.trans s, fun b z => s.trk b (A.trk b z), fun b z y => ?_, fun i d h => ?_, fun i d h => ?_, A.dis⟩, sM⟩
  · exact (s.sub b y).elim (A.fm b z) (A.trk b z)
  · obtain ⟨v, e, r⟩ := A.val i d h
    exact ⟨v, e, r.go sM.S⟩
  · obtain ⟨a, e, r, q1, q2, q3⟩ := A.own i d h
    exact ⟨a, e, r.go (fun o z => s.keep a o q1 z) sM.S, fun y => (s.sub a y).elim q1 r.some, q2, q3⟩
def deCall (f : DF L) (da : DA L) : DE L := fun δ w Q => da δ w fun ds δ' w' => f ds w' fun x w'' => Q x δ' w''
theorem TD_call {f : DF L} {da : DA L} {E : XK} : ∀ σ H Q, TD (deCall f da) σ H Q → tCall (spD L f) [] E (TDA da) σ H Q := fun σ H Q ⟨Φ, δ, w, R, A, hd, q⟩ => by
  refine ⟨Φ, δ, w, _, A, hd, fun ds δ1 w1 vs H1 h1 A1 s1 r1 => ?_⟩
  show spD L f (vs ++ []) H1 Q E
  rw [List.append_nil]
  refine ⟨fun b => Φ.F b ∨ ∃ (i : Nat) (d : D), δ1[i]? = some (DV.own d) ∧ σ[i]? = some (some (V.ref b)), ds, w1, _, r1, A1.rep, fun b h => ⟨A1.tr (.inr h), fun z => ?_⟩, h1, fun x w' v H' hx hr st rx => ?_⟩
  · rcases h with h | ⟨i, d, h1, h2⟩
    · exact A1.fm b h z
    · obtain ⟨a, e, _, q1, _⟩ := A1.own i d h1
      rw [h2] at e
      cases e
      exact q1 z
  · obtain ⟨A2, s2⟩ := A1.called hr st
    exact q _ _ _ _ _ hx A2 (s1.trans s2) rx
section
variable {X : Cx} {x : Str} {p pos : Pos} {e : Expr} {es : List Expr} {da : DA L} {k : Nat} {ps : List Str} {f : DF L}
theorem pd_call (G : Gd X.prog X.w X.K X.mg X.base L k x ps f) (hr : Room k X.A) (hgu : X.A.guards = some []) (hg : Gl X x) (ha : PA X (e :: es) (TDA da)) (hdb : (x == ("__debug__" : Str)) = false := by decide) (he : starEach (e :: es) X.env = (false, eval e X.env) :: starEach es X.env := by rfl)
    (hpl : (backTo pos (starEach es X.env)).any (·.1) = false := by rfl) : PE X (.Call (.Name x p) (e :: es) [] pos) (TD (deCall f da)) := by
  obtain ⟨a, fd, F, m, kp, b⟩ := G.ex
  exact peI (pe_callG F hr hgu hg m kp b pass0 ha hdb he hpl) TD_call
theorem pd_call0 (G : Gd X.prog X.w X.K X.mg X.base L k x ps f) (hr : Room k X.A) (hgu : X.A.guards = some []) (hg : Gl X x) (hdb : (x == ("__debug__" : Str)) = false := by decide) : PE X (.Call (.Name x p) [] [] pos) (TD (deCall f daNil)) := by
  obtain ⟨a, fd, F, m, kp, b⟩ := G.ex
  refine peI (pe_call0G F hr hgu hg m kp b pass0 hdb) fun σ H Q h => ?_
  obtain ⟨Φ, δ, w, R, A, hd, q⟩ := TD_call (E := E0) σ H Q h
  exact q [] δ w [] H hd A (Step.refl _ _) .nil
/-- a builtin, by its name -/
theorem pd_B {id : String} {r : List V → Hp → VK → Prop} {c : DC} (hc : CallR X (.builtin id) r) (h : CallD r c) (hg : Gl X x) (hm : X.mg x = none) (hv : bootBuiltins x = some (.builtin id)) (ha : PA X (e :: es) (TDA da)) (hn : x ≠ "__name__" := by decide) (hdb : (x == ("__debug__" : Str)) = false := by decide)
    (he : starEach (e :: es) X.env = (false, eval e X.env) :: starEach es X.env := by rfl) (hpl : (backTo pos (starEach es X.env)).any (·.1) = false := by rfl) : PE X (.Call (.Name x p) (e :: es) [] pos) (TD (deCB c da)) := peI (pe_callB hc hg hm hv ha hn hdb he hpl) (TD_cb h)
theorem pd_Ty {T : String} {r : List V → Hp → VK → Prop} {c : DC} (hc : CallR X (.type T) r) (h : CallD r c) (hg : Gl X x) (hm : X.mg x = none) (hv : bootBuiltins x = some (.type T)) (ha : PA X (e :: es) (TDA da)) (hn : x ≠ "__name__" := by decide) (hdb : (x == ("__debug__" : Str)) = false := by decide)
    (he : starEach (e :: es) X.env = (false, eval e X.env) :: starEach es X.env := by rfl) (hpl : (backTo pos (starEach es X.env)).any (·.1) = false := by rfl) : PE X (.Call (.Name x p) (e :: es) [] pos) (TD (deCB c da)) := peI (pe_callTy hc hg hm hv ha hn hdb he hpl) (TD_cb h)
theorem pf_B {id : String} {r : List V → Hp → VK → Prop} {c : List D → (List D → Prop) → Prop} (hc : CallR X (.builtin id) r) (h : CallF r c) (hg : Gl X x) (hm : X.mg x = none) (hv : bootBuiltins x = some (.builtin id)) (ha : PA X (e :: es) (TDA da)) (hn : x ≠ "__name__" := by decide) (hdb : (x == ("__debug__" : Str)) = false := by decide)
    (he : starEach (e :: es) X.env = (false, eval e X.env) :: starEach es X.env := by rfl) (hpl : (backTo pos (starEach es X.env)).any (·.1) = false := by rfl) : PE X (.Call (.Name x p) (e :: es) [] pos) (TF (dfCB c da)) := peI (pe_callB hc hg hm hv ha hn hdb he hpl) (TF_cb h)
theorem pf_Ty {T : String} {r : List V → Hp → VK → Prop} {c : List D → (List D → Prop) → Prop} (hc : CallR X (.type T) r) (h : CallF r c) (hg : Gl X x) (hm : X.mg x = none) (hv : bootBuiltins x = some (.type T)) (ha : PA X (e :: es) (TDA da)) (hn : x ≠ "__name__" := by decide) (hdb : (x == ("__debug__" : Str)) = false := by decide)
    (he : starEach (e :: es) X.env = (false, eval e X.env) :: starEach es X.env := by rfl) (hpl : (backTo pos (starEach es X.env)).any (·.1) = false := by rfl) : PE X (.Call (.Name x p) (e :: es) [] pos) (TF (dfCB c da)) := peI (pe_callTy hc hg hm hv ha hn hdb he hpl) (TF_cb h)
end
end Dl
set_option maxRecDepth 100000
namespace Dl
open PySem PySem.Spec PyProof.Rows L2

/-! ### data as the library's plain data -/
mutual
def D.py : D → PyData
  | .non => .none
  | .bl b => .bool b
  | .int i => .int i
  | .str z => .str z
  | .tup l => .tuple (pyL l)
  | .lst l => .list (pyL l)
  | .dct _ => .none
  | .ref _ => .none
def pyL : List D → List PyData
  | [] => []
  | d :: r => d.py :: pyL r
end
mutual
/-- no dict, no object in it -/
def D.plain : D → Bool
  | .tup l => plainL l
  | .lst l => plainL l
  | .dct _ => false
  | .ref _ => false
  | _ => true
def plainL : List D → Bool
  | [] => true
  | d :: r => d.plain && plainL r
end
section
variable {S : Addr → Prop} {H : Hp} {K : PySem.W.Frag}
mutual
theorem Rep.dp {v : V} {d : D} (h : Rep S H v d) (p : d.plain = true) : Dp K H v d.py := by
  cases h with
  | non => exact .non
  | bl b => exact .bl b
  | int i => exact .int i
  | str z => exact .str z
  | lst e n r => exact .lst (SqL.of e) (RepL.dp r p)
  | tup e r => exact .tup (SqT.of e) (RepL.dp r p)
  | ref a => cases p
  | dK e n r => cases p
  | dT e n r => cases p
theorem RepL.dp {v : List V} {d : List D} (h : RepL S H v d) (p : plainL d = true) : DpAll K H v (pyL d) := by
  cases h with
  | nil => exact .nil
  | cons a b =>
    simp only [plainL, Bool.and_eq_true] at p
    exact .cons (Rep.dp a p.1) (RepL.dp b p.2)
end
end
/-- fit for == -/
def D.eqOk (d : D) : Bool := d.plain && SeqAt.shaped d.py
def dEq : DO := fun x y k => x.eqOk = true ∧ y.eqOk = true ∧ k (.bl (PyData.eqv x.py y.py))
def dNe : DO := fun x y k => x.eqOk = true ∧ y.eqOk = true ∧ k (.bl (!PyData.eqv x.py y.py))
theorem eq_D {K : PySem.W.Frag} : OpD (rEqD K) dEq := fun S H x y u v k Q hS hu hv ⟨h1, h2, hk⟩ q => by
  simp only [D.eqOk, Bool.and_eq_true] at h1 h2
  exact ⟨_, _, hu.dp h1.1, hv.dp h2.1, h1.2, h2.2, q _ _ _ hk (Same.refl _) (.bl _)⟩
theorem ne_D {K : PySem.W.Frag} : OpD (rNeD K) dNe := fun S H x y u v k Q hS hu hv ⟨h1, h2, hk⟩ q => by
  simp only [D.eqOk, Bool.and_eq_true] at h1 h2
  exact ⟨_, _, hu.dp h1.1, hv.dp h2.1, h1.2, h2.2, q _ _ _ hk (Same.refl _) (.bl _)⟩
/-! ### + - * // % ** -/
def dAdd : DO := fun x y k => match x, y with
  | .int i, .int j => k (.int (i + j))
  | .str a, .str b => a.length + b.length ≤ sizeLine ∧ k (.str (a ++ b))
  | .tup a, .tup b => a.length + b.length ≤ sizeLine ∧ k (.tup (a ++ b))
  | .lst a, .lst b => a.length + b.length ≤ sizeLine ∧ k (.lst (a ++ b))
  | _, _ => False
section
variable {X : Cx}
def rAddD (K : PySem.W.Frag) : R2 := fun x y H Q => (∃ i j, x = .int i ∧ y = .int j ∧ Q (.int (i + j)) H) ∨ (∃ i j, x = .str i ∧ y = .str j ∧ i.length + j.length ≤ sizeLine ∧ Q (.str (i ++ j)) H) ∨ rCatA K x y H Q ∨ rCat x y H Q
theorem op_addD : OpR X (binaryOp .Add) (rAddD X.K) := OpR.or op_add (OpR.or op_add_str (OpR.or op_catA op_cat))
theorem add_D {K : PySem.W.Frag} : OpD (rAddD K) dAdd := fun S H x y u v k Q hS hu hv hf q => by
  unfold dAdd at hf
  split at hf
  · cases hu; cases hv
    exact .inl ⟨_, _, rfl, rfl, q _ _ _ hf (Same.refl _) (.int _)⟩
  · cases hu; cases hv
    exact .inr (.inl ⟨_, _, rfl, rfl, hf.1, q _ _ _ hf.2 (Same.refl _) (.str _)⟩)
  · cases hu with
    | tup e1 r1 =>
      cases hv with
      | tup e2 r2 =>
        refine .inr (.inr (.inl ⟨_, _, _, _, rfl, rfl, SqT.of e1, SqT.of e2, by rw [r1.length, r2.length]; exact hf.1, fun z => ?_, fun z1 z2 => ?_, fun z1 z2 p np => ?_⟩))
        · subst z; cases r1
          exact q _ _ _ hf.2 (Same.refl _) (.tup e2 r2)
        · subst z2; cases r2
          rw [List.append_nil] at hf
          exact q _ _ _ hf.2 (Same.refl _) (.tup e1 r1)
        · exact q _ _ _ hf.2 (same_new np) (.tup upd_same ((r1.append r2).go (Step.same (same_new np))))
  · cases hu with
    | lst e1 n1 r1 =>
      cases hv with
      | lst e2 n2 r2 =>
        refine .inr (.inr (.inr ⟨_, _, _, _, rfl, rfl, e1, e2, by rw [r1.length, r2.length]; exact hf.1, fun p np => ?_⟩))
        exact q _ _ _ hf.2 (same_new np) (.lst upd_same (fun z => hS p z np) ((r1.append r2).go (Step.same (same_new np))))
  · exact hf.elim
/-- xs + ys, a list just made -/
def dfCat (a b : DE L) : DA L := fun δ w Q => a δ w fun x δ1 w1 => b δ1 w1 fun y δ2 w2 => match x, y with
  | .lst l, .lst m => l.length + m.length ≤ sizeLine ∧ Q (l ++ m) δ2 w2
  | _, _ => False
variable {a b : Expr} {da db : DE L} {pos : Pos}
theorem pf_cat (ha : PE X a (TD da)) (hb : PE X b (TD db)) : PE X (.BinOp a .Add b pos) (TF (dfCat da db)) := by
  refine peI (pe_op op_cat ha hb) fun σ H Q ⟨Φ, δ, w, R, A, hd, q⟩ => ⟨Φ, δ, w, _, A, hd, fun x δ1 w1 v H1 h1 A1 s1 r1 => ⟨Φ, δ1, w1, _, A1, h1, fun y δ2 w2 u H2 h2 A2 s2 r2 => ?_⟩⟩
  have r1 := r1.go s2.S
  split at h2
  · cases r1 with
    | lst e1 n1 l1 =>
      cases r2 with
      | lst e2 n2 l2 =>
        refine ⟨_, _, _, _, rfl, rfl, e1, e2, by rw [l1.length, l2.length]; exact h2.1, fun p np => ?_⟩
        obtain ⟨z1, z2, z3, z4, z5, z6⟩ := fresh_at A2 (s1.trans s2) (l1.append l2) np
        exact q _ _ _ _ _ _ h2.2 z1 z2 z3 z4 z5 z6
  · exact h2.elim
def dSub : DO := fun x y k => match x, y with
  | .int i, .int j => k (.int (i - j))
  | _, _ => False
theorem sub_D : OpD (rI0 fun i j => .int (i - j)) dSub := fun S H x y u v k Q hS hu hv hf q => by
  unfold dSub at hf
  split at hf
  · cases hu; cases hv
    exact ⟨_, _, rfl, rfl, q _ _ _ hf (Same.refl _) (.int _)⟩
  · exact hf.elim
def dMod : DO := fun x y k => match x, y with
  | .int i, .int j => 0 < j ∧ k (.int (i % j))
  | _, _ => False
theorem mod_D : OpD (rI (fun _ j => 0 < j) fun i j => .int (i % j)) dMod := fun S H x y u v k Q hS hu hv hf q => by
  unfold dMod at hf
  split at hf
  · cases hu; cases hv
    exact ⟨_, _, rfl, rfl, hf.1, q _ _ _ hf.2 (Same.refl _) (.int _)⟩
  · exact hf.elim
/-- of at most 200 bits -/
def Sm (i : Int) : Prop := i.natAbs < 2 ^ 200
def dDiv : DO := fun x y k => match x, y with
  | .int i, .int j => 0 < j ∧ Sm j ∧ k (.int (i / j))
  | _, _ => False
theorem div_D : OpD (rI CDivW fun i j => .int (i / j)) dDiv := fun S H x y u v k Q hS hu hv hf q => by
  unfold dDiv at hf
  split at hf
  · cases hu; cases hv
    exact ⟨_, _, rfl, rfl, wide_div hf.1 hf.2.1 (by decide) (by decide), q _ _ _ hf.2.2 (Same.refl _) (.int _)⟩
  · exact hf.elim
def dPow : DO := fun x y k => match x, y with
  | .int i, .int j => CPow i j ∧ k (.int (i ^ j.toNat))
  | _, _ => False
theorem pow_D : OpD (rI CPow fun i j => .int (i ^ j.toNat)) dPow := fun S H x y u v k Q hS hu hv hf q => by
  unfold dPow at hf
  split at hf
  · cases hu; cases hv
    exact ⟨_, _, rfl, rfl, hf.1, q _ _ _ hf.2 (Same.refl _) (.int _)⟩
  · exact hf.elim

/-! ### order -/
def dCmpI (f : Int → Int → Bool) (g : Str → Str → Bool) : DO := fun x y k => match x, y with
  | .int i, .int j => k (.bl (f i j))
  | .str i, .str j => k (.bl (g i j))
  | _, _ => False
theorem cmpI_D (f : Int → Int → Bool) (g : Str → Str → Bool) : OpD (fun x y H Q => (∃ i j, x = .int i ∧ y = .int j ∧ Q (.bl (f i j)) H) ∨ (∃ i j, x = .str i ∧ y = .str j ∧ Q (.bl (g i j)) H)) (dCmpI f g) := fun S H x y u v k Q hS hu hv hf q => by
  unfold dCmpI at hf
  split at hf
  · cases hu; cases hv
    exact .inl ⟨_, _, rfl, rfl, q _ _ _ hf (Same.refl _) (.bl _)⟩
  · cases hu; cases hv
    exact .inr ⟨_, _, rfl, rfl, q _ _ _ hf (Same.refl _) (.bl _)⟩
  · exact hf.elim
end
end Dl
set_option maxRecDepth 100000
namespace Dl
open PySem PySem.Spec PyProof.Rows L2

section
variable {X : Cx} {L : Wd}
/-! ### in, not in -/
def rInA (K : PySem.W.Frag) (neg : Bool) : R2 := fun x y H Q => ∃ d ds, Dp K H x d ∧ (Dp K H y (.list ds) ∨ Dp K H y (.tuple ds)) ∧ SeqAt.shaped d = true ∧ SeqAt.shaped (.list ds) = true ∧ Q (.bl (if neg then !ds.any fun z => PyData.eqv z d else ds.any fun z => PyData.eqv z d)) H
theorem op_inA (hu : X.A.units + 65 < cLine) : OpR X (compareOp .In) (rInA X.K false) := by
  intro pins s σ H x y v u Q I rx ry h
  obtain ⟨d, ds, hd, he, sd, se, q⟩ := h
  obtain ⟨as, r1⟩ := Dp.reads I d x v hd rx
  rcases he with he | he
  · obtain ⟨bs, r2⟩ := Dp.reads I (.list ds) y u he ry
    exact SeqAt.in_list_reads r2 r1 (SeqAt.canLay_of_shaped se) (SeqAt.canLay_of_shaped sd) (room_in_shaped sd hu) ⟨.bl _, H, I, rfl, q⟩
  · obtain ⟨bs, r2⟩ := Dp.reads I (.tuple ds) y u he ry
    exact SeqAt.in_tuple_reads r2 r1 (SeqAt.canLay_of_shaped se) (SeqAt.canLay_of_shaped sd) (room_in_shaped sd hu) ⟨.bl _, H, I, rfl, q⟩
theorem op_notInA (hu : X.A.units + 65 < cLine) : OpR X (compareOp .NotIn) (rInA X.K true) := by
  intro pins s σ H x y v u Q I rx ry h
  obtain ⟨d, ds, hd, he, sd, se, q⟩ := h
  obtain ⟨as, r1⟩ := Dp.reads I d x v hd rx
  rcases he with he | he
  · obtain ⟨bs, r2⟩ := Dp.reads I (.list ds) y u he ry
    exact SeqAt.notIn_list_reads r2 r1 (SeqAt.canLay_of_shaped se) (SeqAt.canLay_of_shaped sd) (room_in_shaped sd hu) ⟨.bl _, H, I, rfl, q⟩
  · obtain ⟨bs, r2⟩ := Dp.reads I (.tuple ds) y u he ry
    exact SeqAt.notIn_tuple_reads r2 r1 (SeqAt.canLay_of_shaped se) (SeqAt.canLay_of_shaped sd) (room_in_shaped sd hu) ⟨.bl _, H, I, rfl, q⟩
/-- the items of a list or a tuple -/
def D.items : D → Option (List D)
  | .lst l => some l
  | .tup l => some l
  | _ => none
def dIn (neg : Bool) : DO := fun x y k => x.eqOk = true ∧ match y with
  | .lst l => (D.lst l).eqOk = true ∧ k (.bl (if neg then !(pyL l).any fun z => PyData.eqv z x.py else (pyL l).any fun z => PyData.eqv z x.py))
  | .tup l => (D.lst l).eqOk = true ∧ k (.bl (if neg then !(pyL l).any fun z => PyData.eqv z x.py else (pyL l).any fun z => PyData.eqv z x.py))
  | _ => False
theorem in_D {K : PySem.W.Frag} (neg : Bool) : OpD (rInA K neg) (dIn neg) := fun S H x y u v k Q hS hu hv ⟨h1, h2⟩ q => by
  simp only [D.eqOk, Bool.and_eq_true] at h1
  split at h2
  · have h3 := h2.1
    simp only [D.eqOk, Bool.and_eq_true] at h3
    exact ⟨_, _, hu.dp h1.1, .inl (hv.dp h3.1), h1.2, h3.2, q _ _ _ h2.2 (Same.refl _) (.bl _)⟩
  · have h3 := h2.1
    simp only [D.eqOk, Bool.and_eq_true] at h3
    exact ⟨_, _, hu.dp h1.1, .inr (hv.dp h3.1), h1.2, h3.2, q _ _ _ h2.2 (Same.refl _) (.bl _)⟩
  · exact h2.elim
/-- is None, is not None -/
def D.isNon : D → Bool
  | .non => true
  | _ => false
def dIsN : DO := fun x y k => y.isNon = true ∧ k (.bl x.isNon)
def dNotN : DO := fun x y k => y.isNon = true ∧ k (.bl !x.isNon)
theorem isN_rep {S : Addr → Prop} {H : Hp} {v : V} {d : D} (r : Rep S H v d) : decide (v = .non) = d.isNon := by
  cases r <;> rfl
theorem isN_D : OpD (fun x y H Q => y = .non ∧ Q (.bl (decide (x = .non))) H) dIsN := fun S H x y u v k Q hS hu hv ⟨h1, h2⟩ q => by
  cases hv <;> first | cases h1 | skip
  rw [isN_rep hu]
  exact ⟨rfl, q _ _ _ h2 (Same.refl _) (.bl _)⟩
theorem notN_D : OpD (fun x y H Q => y = .non ∧ Q (.bl (!decide (x = .non))) H) dNotN := fun S H x y u v k Q hS hu hv ⟨h1, h2⟩ q => by
  cases hv <;> first | cases h1 | skip
  rw [isN_rep hu]
  exact ⟨rfl, q _ _ _ h2 (Same.refl _) (.bl _)⟩

/-! ### subscripts, slices -/
theorem RepL.atI {S : Addr → Prop} {H : Hp} {vs : List V} {ds : List D} {i : Int} {x : D} (r : RepL S H vs ds) (h : L2.atI ds i = some x) : ∃ v, L2.atI vs i = some v ∧ Rep S H v x := by
  unfold L2.atI at h ⊢
  rw [← r.length] at h
  cases e : ixN vs.length i with
  | none => rw [e] at h; cases h
  | some j =>
    rw [e] at h
    exact r.get h
def dIx : DO := fun x y k => match x, y with
  | .lst l, .int i => ∃ z, atI l i = some z ∧ k z
  | .tup l, .int i => ∃ z, atI l i = some z ∧ k z
  | .str s, .int i => s.length ≤ sizeLine ∧ ∃ c, atI s.cps.toList i = some c ∧ k (.str ⟨#[c]⟩)
  | _, _ => False
theorem ix_D {K : PySem.W.Frag} : OpD (rIx K) dIx := fun S H x y u v k Q hS hu hv hf q => by
  unfold dIx at hf
  split at hf
  · obtain ⟨z, hz, hk⟩ := hf
    cases hv
    cases hu with
    | lst e n r =>
      obtain ⟨w, e1, r1⟩ := r.atI hz
      exact .inl ⟨_, _, _, _, rfl, rfl, SqL.of e, e1, q _ _ _ hk (Same.refl _) r1⟩
  · obtain ⟨z, hz, hk⟩ := hf
    cases hv
    cases hu with
    | tup e r =>
      obtain ⟨w, e1, r1⟩ := r.atI hz
      exact .inr (.inl ⟨_, _, _, _, rfl, rfl, SqT.of e, e1, q _ _ _ hk (Same.refl _) r1⟩)
  · obtain ⟨hl, c, hc, hk⟩ := hf
    cases hv
    cases hu
    exact .inr (.inr ⟨_, _, _, rfl, rfl, hl, hc, q _ _ _ hk (Same.refl _) (.str _)⟩)
  · exact hf.elim
/-- a part of a slice -/
abbrev DPt (L : Wd) := DEnv → L.W → (Option Int → DEnv → L.W → Prop) → Prop
def TDO (d : DPt L) : TO := fun σ H Q => ∃ (Φ : Ph L) (δ : DEnv) (w : L.W) (R : Option Int → DEnv → L.W → Prop), At Φ δ w σ H ∧ d δ w R ∧
  ∀ i δ' w' H', R i δ' w' → At Φ δ' w' σ H' → Step (Mof L δ σ w) H (Mof L δ' σ w') H' → Q i H'
def dpNone : DPt L := fun δ w Q => Q none δ w
def dpSome (d : DE L) : DPt L := fun δ w Q => d δ w fun x δ' w' => match x with
  | .int i => Q (some i) δ' w'
  | _ => False
theorem poI {e : Option Expr} {t t' : TO} (h : PO X e t) (i : ∀ σ H Q, t' σ H Q → t σ H Q) : PO X e t' := ⟨fun pins s σ H Q I q => h.run pins s σ H Q I (i _ _ _ q)⟩
theorem pdo_none : PO X none (TDO (dpNone (L := L))) := poI po_none fun σ H Q ⟨Φ, δ, w, R, A, hd, q⟩ => q _ _ _ _ hd A (Step.refl _ _)
theorem pdo_some {e : Expr} {d : DE L} (h : PE X e (TD d)) : PO X (some e) (TDO (dpSome d)) := poI (po_some h) fun σ H Q ⟨Φ, δ, w, R, A, hd, q⟩ => ⟨Φ, δ, w, _, A, hd, fun x δ' w' v H' hx A' s r => by
  split at hx
  · cases r
    exact ⟨_, rfl, q _ _ _ _ hx A' s⟩
  · exact hx.elim⟩
/-- the items of a slice -/
def cutD (xs : List D) (lo hi : Option Int) : List D := (xs.drop (HT.sIx xs.length 0 lo)).take (HT.sIx xs.length xs.length hi - HT.sIx xs.length 0 lo)
theorem RepL.cut {S : Addr → Prop} {H : Hp} {vs : List V} {ds : List D} (r : RepL S H vs ds) (lo hi : Option Int) : RepL S H (cutV vs lo hi) (cutD ds lo hi) := by
  unfold cutV cutD
  rw [r.length]
  exact (r.drop _).take _
theorem cut_whole {xs : List D} {lo hi : Option Int} (h1 : HT.sIx xs.length 0 lo = 0) (h2 : HT.sIx xs.length xs.length hi = xs.length) : cutD xs lo hi = xs := by
  unfold cutD
  rw [h1, h2]
  simp
def rSlD (K : PySem.W.Frag) : V → Option Int → Option Int → Hp → VK → Prop := fun x lo hi H Q => rSlL K x lo hi H Q ∨ rSlA K x lo hi H Q ∨ rSlS x lo hi H Q
theorem sl_D0 : SlR X (rSlD X.K) := SlR.or sl_list (SlR.or sl_tupA sl_str)
def dSl (x : D) (lo hi : Option Int) (k : D → Prop) : Prop := match x with
  | .lst l => k (.lst (cutD l lo hi))
  | .tup l => k (.tup (cutD l lo hi))
  | .str z => z.length ≤ sizeLine ∧ k (.str (cutS z lo hi))
  | _ => False
def deSl (d : DE L) (lo hi : DPt L) : DE L := fun δ w Q => d δ w fun x δ1 w1 => lo δ1 w1 fun l δ2 w2 => hi δ2 w2 fun u δ3 w3 => dSl x l u fun z => Q z δ3 w3
variable {e : Expr} {lo hi : Option Expr} {d : DE L} {dl dh : DPt L} {pos p2 : Pos}
theorem pd_sl (he : PE X e (TD d)) (hl : PO X lo (TDO dl)) (hh : PO X hi (TDO dh)) : PE X (.Subscript e (.Slice lo hi none p2) pos) (TD (deSl d dl dh)) := by
  refine peI (pe_slice sl_D0 he hl hh) fun σ H Q ⟨Φ, δ, w, R, A, hd, q⟩ => ⟨Φ, δ, w, _, A, hd, fun x δ1 w1 v H1 h1 A1 s1 r1 => ⟨Φ, δ1, w1, _, A1, h1, fun l δ2 w2 H2 h2 A2 s2 => ⟨Φ, δ2, w2, _, A2, h2, fun u δ3 w3 H3 h3 A3 s3 => ?_⟩⟩⟩
  have r3 := r1.go (s2.trans s3).S
  have st := s1.trans (s2.trans s3)
  unfold dSl at h3
  split at h3
  · cases r3 with
    | lst e n r =>
      refine .inl ⟨_, _, rfl, SqL.of e, fun p np => ?_⟩
      exact q _ _ _ _ _ h3 (A3.same (same_new np)) (st.trans (Step.same (same_new np))) (.lst upd_same (A3.nS np) ((r.cut l u).go (Step.same (same_new np))))
  · cases r3 with
    | tup e r =>
      refine .inr (.inl ⟨_, _, rfl, SqT.of e, fun ⟨z1, z2⟩ => ?_, fun _ p np => ?_⟩)
      · rw [r.length] at z1 z2
        rw [cut_whole z1 z2] at h3
        exact q _ _ _ _ _ h3 A3 st (.tup e r)
      · exact q _ _ _ _ _ h3 (A3.same (same_new np)) (st.trans (Step.same (same_new np))) (.tup upd_same ((r.cut l u).go (Step.same (same_new np))))
  · cases r3
    exact .inr (.inr ⟨_, rfl, h3.1, q _ _ _ _ _ h3.2 A3 st (.str _)⟩)
  · exact h3.elim
/-- xs[::-1] of a list -/
def deRev (d : DE L) : DE L := fun δ w Q => d δ w fun x δ1 w1 => match x with
  | .lst l => Q (.lst l.reverse) δ1 w1
  | _ => False
theorem pd_rev {k : Nat} {p1 p2 p3 : Pos} (he : PE X e (TD d)) : PE X (.Subscript e (.Slice none none (some (.UnaryOp .USub (.Constant (.int 1) k p1) p2)) p3) pos) (TD (deRev d)) := by
  refine peI (pe_revL he) fun σ H Q ⟨Φ, δ, w, R, A, hd, q⟩ => ⟨Φ, δ, w, _, A, hd, fun x δ1 w1 v H1 h1 A1 s1 r1 => ?_⟩
  split at h1
  · cases r1 with
    | lst e n r =>
      refine ⟨_, _, rfl, SqL.of e, fun p np => ?_⟩
      exact q _ _ _ _ _ h1 (A1.same (same_new np)) (s1.trans (Step.same (same_new np))) (.lst upd_same (A1.nS np) (r.rev.go (Step.same (same_new np))))
  · exact h1.elim

/-! ### len, int, list, tuple, min -/
def dLen : DC := fun xs k => match xs with
  | [.lst l] => k (.int l.length)
  | [.tup l] => k (.int l.length)
  | [.str z] => z.length ≤ sizeLine ∧ k (.int z.length)
  | _ => False
theorem len_D {K : PySem.W.Frag} : CallD (fun xs H Q => ∃ x n, xs = [x] ∧ LenV K x H n ∧ Q (.int (n : Nat)) H) dLen := fun S H xs vs k Q hS r hf q => by
  unfold dLen at hf
  split at hf
  · cases r with
    | cons r1 r2 =>
      cases r2
      cases r1 with
      | lst e n rl => exact ⟨_, _, rfl, .inl ⟨_, SqL.of e, rl.length.symm⟩, q _ _ _ hf (Same.refl _) (.int _)⟩
  · cases r with
    | cons r1 r2 =>
      cases r2
      cases r1 with
      | tup e rl => exact ⟨_, _, rfl, .inr ⟨_, SqT.of e, rl.length.symm⟩, q _ _ _ hf (Same.refl _) (.int _)⟩
  · cases r with
    | cons r1 r2 =>
      cases r2
      cases r1
      exact ⟨_, _, rfl, ⟨hf.1, rfl⟩, q _ _ _ hf.2 (Same.refl _) (.int _)⟩
  · exact hf.elim
def dInt : DC := fun xs k => match xs with
  | [.int i] => k (.int i)
  | [.bl b] => k (.int (if b then 1 else 0))
  | _ => False
theorem int_D : CallD (fun xs H Q => (∃ i, xs = [.int i] ∧ Q (.int i) H) ∨ ∃ k, xs = [.bl k] ∧ Q (.int (if k then 1 else 0)) H) dInt := fun S H xs vs k Q hS r hf q => by
  unfold dInt at hf
  split at hf
  · cases r with
    | cons r1 r2 =>
      cases r2
      cases r1
      exact .inl ⟨_, rfl, q _ _ _ hf (Same.refl _) (.int _)⟩
  · cases r with
    | cons r1 r2 =>
      cases r2
      cases r1
      exact .inr ⟨_, rfl, q _ _ _ hf (Same.refl _) (.int _)⟩
  · exact hf.elim
def dMin2 : DC := fun xs k => match xs with
  | [.int i, .int j] => k (.int (if j < i then j else i))
  | _ => False
theorem min2_D : CallD (fun xs H Q => ∃ i j, xs = [.int i, .int j] ∧ Q (.int (if j < i then j else i)) H) dMin2 := fun S H xs vs k Q hS r hf q => by
  unfold dMin2 at hf
  split at hf
  · cases r with
    | cons r1 r2 =>
      cases r2 with
      | cons r2 r3 =>
        cases r3
        cases r1
        cases r2
        exact ⟨_, _, rfl, q _ _ _ hf (Same.refl _) (.int _)⟩
  · exact hf.elim
def dfList : List D → (List D → Prop) → Prop := fun xs k => match xs with
  | [.lst l] => k l
  | [.tup l] => k l
  | _ => False
theorem list_F {K : PySem.W.Frag} : CallF (fun xs H Q => ∃ p ys, xs = [.ref p] ∧ (SqL K H p ys ∨ SqT K H p ys) ∧ ∀ l, H l = none → Q (.ref l) (upd H l (.lst ys))) dfList := fun S H xs vs k Q hS r hf q => by
  unfold dfList at hf
  split at hf
  · cases r with
    | cons r1 r2 =>
      cases r2
      cases r1 with
      | lst e n rl => exact ⟨_, _, rfl, .inl (SqL.of e), fun p np => q _ _ _ hf np rl⟩
  · cases r with
    | cons r1 r2 =>
      cases r2
      cases r1 with
      | tup e rl => exact ⟨_, _, rfl, .inr (SqT.of e), fun p np => q _ _ _ hf np rl⟩
  · exact hf.elim
def dTuple : DC := fun xs k => match xs with
  | [.lst l] => k (.tup l)
  | [.tup l] => k (.tup l)
  | _ => False
theorem tuple_D {K : PySem.W.Frag} : CallD (fun xs H Q => ∃ p ys, xs = [.ref p] ∧ ((SqL K H p ys ∧ ∀ l, H l = none → Q (.ref l) (upd H l (.tup ys))) ∨ (SqT K H p ys ∧ Q (.ref p) H))) dTuple := fun S H xs vs k Q hS r hf q => by
  unfold dTuple at hf
  split at hf
  · cases r with
    | cons r1 r2 =>
      cases r2
      cases r1 with
      | lst e n rl => exact ⟨_, _, rfl, .inl ⟨SqL.of e, fun p np => q _ _ _ hf (same_new np) (.tup upd_same (rl.go (Step.same (same_new np))))⟩⟩
  · cases r with
    | cons r1 r2 =>
      cases r2
      cases r1 with
      | tup e rl => exact ⟨_, _, rfl, .inr ⟨SqT.of e, q _ _ _ hf (Same.refl _) (.tup e rl)⟩⟩
  · exact hf.elim
/-- repr of data -/
def D.showOk (d : D) : Bool := d.plain && d.py.showable && !d.py.hasDict && decide (d.py.depth ≤ 30)
def dRepr : DC := fun xs k => match xs with
  | [x] => x.showOk = true ∧ x.py.shown.length ≤ sizeLine ∧ k (.str x.py.shown)
  | _ => False
def rReprA (K : PySem.W.Frag) : List V → Hp → VK → Prop := fun xs H Q => ∃ (v : V) (d : PyData), xs = [v] ∧ Dp K H v d ∧ d.showable = true ∧ d.hasDict = false ∧ d.depth ≤ 30 ∧ d.shown.length ≤ sizeLine ∧ Q (.str d.shown) H
theorem cr_reprA {k : Nat} (hr : Room k X.A) (hg : X.A.guards = some []) : CallR X (.builtin "repr") (rReprA X.K) := by
  intro pins s σ H xs us Q I r h
  obtain ⟨v, d, rfl, hd, h1, h2, h3, h4, q⟩ := h
  obtain ⟨u, rfl, ru⟩ := vals1 r
  have asRef : ∀ a : Addr, v = .ref a → wpAny (model X.prog X.w) X.A (call (.builtin "repr") [u]) (EP X pins σ Q) X.xe s := fun a e => by
    subst e
    obtain ⟨as, rd⟩ := Dp.reads I d (.ref a) u hd ru
    obtain rfl : u = Value.ref a := ru
    refine repr_of_reads' rd h1 (PySem.PyData.noDict_hsm h2) hg (by have := hr.un; omega) (fun b o e => e) (fun h' u tk hk => ?_) h4
    exact ⟨.str d.shown, H, I.kept (t' := tk) hk, ⟨u, rfl⟩, q⟩
  cases hd with
  | non =>
    obtain rfl : u = Value.none := ru
    exact PySem.P.repr_of_none ⟨.str _, H, I.tok _, ⟨_, rfl⟩, q⟩
  | bl b =>
    obtain rfl : u = Value.bool b := ru
    exact PySem.P.repr_of_bool ⟨.str _, H, I.tok _, ⟨_, by cases b <;> rfl⟩, q⟩
  | int i =>
    obtain ⟨t, rfl⟩ := ru
    exact PySem.P.repr_of_int (by simpa [PyData.showable] using h1) ⟨.str _, H, I.tok _, ⟨_, rfl⟩, q⟩
  | str z =>
    obtain ⟨t, rfl⟩ := ru
    exact PySem.P.repr_of_str ⟨.str _, H, I.tok _, ⟨_, rfl⟩, q⟩ h4
  | lst _ _ => exact asRef _ rfl
  | tup _ _ => exact asRef _ rfl
theorem repr_D {K : PySem.W.Frag} : CallD (rReprA K) dRepr := fun S H xs vs k Q hS r hf q => by
  unfold dRepr at hf
  split at hf
  · obtain ⟨h1, h2, h3⟩ := hf
    cases r with
    | cons r1 r2 =>
      cases r2
      simp only [D.showOk, Bool.and_eq_true, Bool.not_eq_true', decide_eq_true_eq] at h1
      exact ⟨_, _, rfl, r1.dp h1.1.1.1, h1.1.1.2, h1.1.2, h1.2, h2, q _ _ _ h3 (Same.refl _) (.str _)⟩
  · exact hf.elim
end
end Dl
set_option maxRecDepth 100000
set_option maxHeartbeats 1000000
namespace Gx
open PySem PySem.Spec PyProof.Rows L2 GenW

theorem over_loop {A : Around} {elt tg iter : Expr} {ifs : List Expr} {scope : Scope} {pos : Pos} {it acc : Value} {env : Env} : A.over (.compLoop (.GeneratorExp elt [⟨tg, iter, ifs, 0⟩] scope pos) 0 it acc env) [] = A.deeper env := rfl
theorem over_start {A : Around} {elt tg iter : Expr} {ifs : List Expr} {scope : Scope} {pos : Pos} {it acc : Value} {env : Env} : A.over (.compStart (.GeneratorExp elt [⟨tg, iter, ifs, 0⟩] scope pos) 0 it acc env) [] = A.deeper env := rfl

/-- where a generator expression's code runs -/
abbrev gcx (X : Cx) (A : Around) (s : Shared) (H : Hp) (cenv : Env) (fp : List Addr) (pn : List (Addr × Obj)) : Cx :=
  { X with A := A, s_0 := s, H_0 := H, env := cenv, outer := X.stack, stack := cenv :: X.stack, ex := fp, fn := fun _ => false, calm := true, pn := pn, xe := fun _ _ => False }
/-- the names of its scope: none is captured from it -/
structure GOk (X : Cx) (scope : Scope) (own : List (Str × Nat)) : Prop where
  blk : BlkOk X.N X.env.scope scope own
  nd : X.N.Nodup
  co : scope.isCoroutine = false
  cell : ∀ y ∈ scope.names, y.2 ≠ .cell
  dot : scope.names.lookup (".0" : Str) = some NameKind.local
section
variable {X : Cx} {pins : List (Addr × Obj)} {σ : L2.St} {H : Hp} {s : Shared}
theorem free_at {scope : Scope} {own : List (Str × Nat)} (I : Inv X pins σ H s) (ok : GOk X scope own) : ∀ y ∈ scope.names, y.2 = .free → ∃ c, X.env.cells.lookup y.1 = some c := fun y hy e =>
  (ok.blk.free y hy e).elim (fun k => I.ok.has _ (.inl k)) fun k => I.ok.has _ (.inr k)
theorem gen_start {A : Around} {scope : Scope} {own : List (Str × Nat)} {fp : List Addr} {code : Value} {cenv : Env} {h' : Heap} {g' : Array GenState} {t' : Nat} {m : Str → Option Value} (I : Inv X pins σ H s) (ok : GOk X scope own)
    (hce : cenv = genEnv scope (cloFrom X.env.cells scope.names []) s.heap.objs.size code builtinsNs X.env) (hd : A.handled = none) (fr : A.frames = some (cenv :: X.stack)) (hfp : ∀ b ∈ fp, FpOk X pins H b ∧ b < s.heap.objs.size)
    (hn : h'.Ns s.heap.objs.size m) (hk : ∀ b o, s.heap.get? b = some o → h'.get? b = some o) (hg : AllBare g') :
    Inv (gcx X A s H cenv fp []) [] (L2.wipe σ (own.map (·.2))) H { s with heap := h', gens := g', toks := t' } := by
  have cL : cenv.locals = s.heap.objs.size := by rw [hce]; rfl
  have cC : cenv.cells = cloFrom X.env.cells scope.names [] := by rw [hce]; rfl
  have cS : cenv.scope = scope := by rw [hce]; rfl
  -- a cell of it is one of ours
  have old : ∀ {y c}, cenv.cells.lookup y = some c → scope.names.lookup y = some .free ∧ X.env.cells.lookup y = some c := fun {y c} e => by
    rw [cC] at e
    rcases cloFrom_mem (PySem.mem_of_lookup e) with z | ⟨z, e2⟩
    · cases z
    · obtain ⟨d, hd⟩ := free_at I ok _ z rfl
      refine ⟨ok.blk.uniq _ z, ?_⟩
      rw [hd] at e2 ⊢
      rw [e2]
      rfl
  have has : ∀ {y}, scope.names.lookup y = some .free → ∃ c, cenv.cells.lookup y = some c := fun {y} hl => by
    rw [cC]
    exact mem_lookup (cloFrom_has (PySem.mem_of_lookup hl))
  have oldlt : ∀ {y c}, cenv.cells.lookup y = some c → c < s.heap.objs.size := fun {y c} e => by
    obtain ⟨v, z⟩ := I.cell y c (old e).2
    exact z.lt
  have nocell : ∀ y, scope.names.lookup y ≠ some .cell := fun y z => ok.cell _ (PySem.mem_of_lookup z) rfl
  refine ⟨⟨I.ok.mod, by show cenv.scope.kind = _; rw [cS]; exact ok.blk.kind, by show cenv.globals = _; rw [hce]; exact I.ok.glob, by show cenv.builtins = _; rw [hce]; rfl, by show s.heap.objs.size ≤ cenv.locals; rw [cL]; exact Nat.le_refl _,
    fun y z c e1 e2 => I.ok.inj y z c (old e1).2 (old e2).2, fun y hy => ?_, fun y c z => (by cases z), fun _ => hd, fr, .inr ⟨rfl, by show cenv.frame = some cenv.locals; rw [hce]; rfl⟩, fun b hb => ⟨?_, fun y c e => ?_⟩, I.bs, Nat.le_trans I.ok.bsz I.sz,
    fun b o e hb => ?_, fun b hb z => ?_, I.stack, I.stkFree⟩, rfl, hg, Un.kept hk, ⟨m, by show Heap.Ns _ cenv.locals _; rw [cL]; exact hn, fun i y av e1 e2 e3 => ?_⟩, fun y c e => ?_, ?_, fun y c e => I.freeC y c (old e).2, fun p hp => (by cases hp), I.hok.kept hk, by rw [wipe_length]; exact I.len⟩
  · have e : scope.names.lookup y = some .cell ∨ scope.names.lookup y = some .free := by rw [← cS]; exact hy
    exact e.elim (fun e => (nocell y e).elim) has
  · show b ≠ cenv.locals
    rw [cL]; exact Nat.ne_of_lt (hfp b hb).2
  · exact (hfp b hb).1.2.2.2.2.1 y c (old e).2
  · rcases (hfp b hb).1.2.2.2.1 with z | z
    · exact I.ok.noex b o e z
    · exact absurd (Nat.lt_of_lt_of_le (Heap.lt_size e) (Nat.le_trans I.ok.bsz z)) (Nat.lt_irrefl _)
  · rcases List.mem_cons.mp (I.stkSub b z) with z | z
    · exact (hfp b hb).1.2.1 z
    · exact (hfp b hb).1.2.2.1 z
  · obtain ⟨e2, hne⟩ := wipe_some e2
    have e3 : Vis scope y := by
      have z : Vis cenv.scope y := e3
      rw [cS] at z
      exact z
    have hfree : scope.names.lookup y = some .free := by
      have no : ¬ (scope.names.lookup y = some .local ∨ scope.names.lookup y = some .cell) := fun hh => by
        have q : y ∈ own.map (·.1) ∨ y ∉ X.N := by
          rcases hh with hh | hh
          · exact ok.blk.own _ (PySem.mem_of_lookup hh) (.inl rfl)
          · exact ok.blk.own _ (PySem.mem_of_lookup hh) (.inr rfl)
        rcases q with q | q
        · obtain ⟨p, hp, hpy⟩ := List.mem_map.mp q
          have ep := ok.blk.ix p hp
          rw [show p.1 = y from hpy] at ep
          exact hne (List.mem_map.mpr ⟨p, hp, nodup_ix ok.nd ep e1⟩)
        · exact q (List.mem_of_getElem? e1)
      rcases e3 with e | e | e
      · exact (no (.inl e)).elim
      · exact (no (.inr e)).elim
      · exact e
    obtain ⟨_, _, hl⟩ := I.loc
    have vis : Vis X.env.scope y := (ok.blk.free _ (PySem.mem_of_lookup hfree) rfl).elim (fun k => .inr (.inl k)) fun k => .inr (.inr k)
    obtain ⟨u, r, q⟩ := hl i y av e1 e2 vis
    refine ⟨u, r, .inr ⟨.inr (by show cenv.scope.names.lookup y = _; rw [cS]; exact hfree), ?_⟩⟩
    obtain ⟨c, hc⟩ := has hfree
    obtain ⟨_, hx⟩ := old hc
    rcases q with ⟨k, _⟩ | ⟨_, c', e', z⟩
    · have k : X.env.scope.names.lookup y = some .local := k
      rcases ok.blk.free _ (PySem.mem_of_lookup hfree) rfl with k' | k'
      · rw [show X.env.scope.names.lookup y = _ from k'] at k; cases k
      · rw [show X.env.scope.names.lookup y = _ from k'] at k; cases k
    · rw [hx] at e'
      cases e'
      exact ⟨c, hc, z.keeps hk⟩
  · obtain ⟨v, z⟩ := I.cell y c (old e).2
    exact ⟨v, z.keeps hk⟩
  · show H cenv.locals = none
    rw [cL]
    exact I.hok.fresh (Nat.le_refl _)
end
/-- one more thing is pinned -/
theorem pinned_more {X : Cx} {A : Around} {s s1 : Shared} {H H' : Hp} {cenv : Env} {fp : List Addr} {pn pins : List (Addr × Obj)} {σ : L2.St} (I : Inv (gcx X A s H cenv fp []) [] σ H' s1)
    (h : ∀ p ∈ pn ++ pins, s1.heap.get? p.1 = some p.2 ∧ H' p.1 = none ∧ p.1 ≠ cenv.locals ∧ p.1 ∉ frs X.stack ∧ ∀ v, p.2.data ≠ .cell v) : Inv (gcx X A s H cenv fp pn) pins σ H' s1 :=
  ⟨⟨I.ok.mod, I.ok.kind, I.ok.glob, I.ok.blt, I.ok.above, I.ok.inj, I.ok.has, I.ok.cab, I.ok.hd, I.ok.frames, I.ok.stk, I.ok.exf, I.ok.bs, I.ok.bsz, I.ok.noex, I.ok.exfs, I.ok.funs, I.ok.frf⟩, I.os, I.bare, I.base, I.loc, I.cell, I.free, I.freeC, h, I.hok, I.len⟩
end Gx
set_option maxRecDepth 100000
set_option maxHeartbeats 1000000
namespace Gx
open PySem PySem.Spec PyProof.Rows L2 GenW

/-- between two turns: ys is out; Pn: what the consumer keeps (its pins) -/
def Hold (Z : Cx) (Pn : List V → List (Addr × Obj) → Prop) (ys : List V) (σ : L2.St) (H : Hp) (s : Shared) : Prop := ∃ pins, Pn ys pins ∧ Inv Z pins σ H s
/-- the turns of a generator expression: what is out, the place, a measure, the heap; C: what the consumer asks of an item before it asks for the next -/
abbrev WG := List V → Nat → Nat → Hp → Prop
def Turns (J : It) (g : TG) (tt : TT) (te : TE) (σw : L2.St) (vs : List Nat) (C : List V → V → Hp → Prop → Prop) (Qe : List V → Hp → Prop) (W : WG) : Prop := ∀ ys i m H, W ys i m H →
  (J.stop i H ∧ Qe ys H) ∨ (J.go i H ∧ ∃ Nx : List V → Hp → Prop, (∀ ys' H', Nx ys' H' → ∃ m', m' < m ∧ W ys' (i + 1) m' H') ∧ ∀ x H', J.yld i H x H' → g x σw H' fun σ2 H2 => L2.wipe σ2 vs = σw ∧ tt σ2 H2 fun b H3 =>
    if b = true then te σ2 H3 fun y H4 => C ys y H4 (Nx (ys ++ [y]) H4) else Nx ys H3)
/-- an item goes out -/
def GYd (Z : Cx) (Pn : List V → List (Addr × Obj) → Prop) (fp : List Addr) (tn : Nat → Heap → Prop) (σw : L2.St) (vs : List Nat) (C : List V → V → Hp → Prop → Prop) : Protocol := fun _ _ v s kap =>
  ∃ (ys : List V) (y : V) (σ : L2.St) (H : Hp) (i : Nat) (Nx : Prop), Hold Z Pn ys σ H s ∧ RelV y v ∧ L2.wipe σ vs = σw ∧ tn (i + 1) s.heap ∧ (∀ b ∈ fp, H b = none) ∧ C ys y H Nx ∧
    (Nx → ∀ s', Hold Z Pn (ys ++ [y]) σ H s' → tn (i + 1) s'.heap → kap (.send .none) s')
/-- the end of the turns -/
def GRd (Z : Cx) (Pn : List V → List (Addr × Obj) → Prop) (Qe : List V → Hp → Prop) : GenEnd := fun _ _ r s => r = .ok .next ∧ ∃ ys σ H, Hold Z Pn ys σ H s ∧ Qe ys H

section
variable {X : Cx} {A : Around} {s4 : Shared} {H2 : Hp} {cenv : Env} {fp : List Addr} {pn : List (Addr × Obj)} {Pn : List V → List (Addr × Obj) → Prop} {elt tg iter : Expr} {ifs : List Expr} {scope : Scope} {pos : Pos} {it : Addr} {tn : Nat → Heap → Prop} {J : It}
  {g : TG} {tt : TT} {te : TE} {σw : L2.St} {vs : List Nat} {C : List V → V → Hp → Prop → Prop} {Qe : List V → Hp → Prop} {W : WG}
theorem gen_loop (T : Turn X.prog X.w X.K tg J fp it tn) (hco : cenv.scope.isCoroutine = false) (hg : PG (gcx X (A.deeper cenv) s4 H2 cenv fp pn) tg g) (ht : PTs (gcx X (A.deeper cenv) s4 H2 cenv fp pn) ifs tt) (he : PE (gcx X (A.deeper cenv) s4 H2 cenv fp pn) elt te)
    (stat : ∀ (H : Hp) (ys : List V) (pins : List (Addr × Obj)), Pn ys pins → (∀ b ∈ fp, H b = none) → ∀ b ∈ fp, FpOk (gcx X (A.deeper cenv) s4 H2 cenv fp pn) pins H b) (turn : Turns J g tt te σw vs C Qe W) (hw : L2.wipe σw vs = σw) :
    ∀ (m n : Nat) (ys : List V) (i : Nat) (H : Hp) (s s₀ : Shared) (σ : L2.St), m < n → Hold (gcx X (A.deeper cenv) s4 H2 cenv fp pn) Pn ys σ H s → L2.wipe σ vs = σw → tn i s.heap → (∀ b ∈ fp, H b = none) → W ys i m H →
      Seg (model X.prog X.w) A (GRd (gcx X (A.deeper cenv) s4 H2 cenv fp pn) Pn Qe) (GYd (gcx X (A.deeper cenv) s4 H2 cenv fp pn) Pn fp tn σw vs C) n s₀ (.compLoop (.GeneratorExp elt [⟨tg, iter, ifs, 0⟩] scope pos) 0 (.ref it) .none cenv)
        ((model X.prog X.w).den (.compLoop (.GeneratorExp elt [⟨tg, iter, ifs, 0⟩] scope pos) 0 (.ref it) .none cenv)) [] s := by
  intro m
  induction m using Nat.strongRecOn with
  | _ m ih =>
    intro n ys i H s s₀ σ hmn hold hσ hst hfr w
    obtain ⟨pins, hp, I⟩ := hold
    have Iw : Inv (gcx X (A.deeper cenv) s4 H2 cenv fp pn) pins σw H s := by
      rw [← hσ]
      exact I.weak (wipe_length _ _) fun j v e => (wipe_some e).1
    show Seg _ A _ _ _ s₀ _ ((compTurn (.GeneratorExp elt [⟨tg, iter, ifs, 0⟩] scope pos) 0 (.ref it) .none cenv).onRaise (leaving cenv)) [] s
    rw [compTurn_gen, Sem.onRaise_eq_wrap]
    refine seg_bind_wrap (wpAny_standAt ?_)
    rcases turn ys i m H w with ⟨stop, qe⟩ | ⟨go, Nx, hNx, step⟩
    · refine seg_bind_wrap (wpAny_mono (T.done (gcx X (A.deeper cenv) s4 H2 cenv fp pn) rfl rfl rfl rfl i pins s σw H (fun _ _ => False) Iw (stat H ys pins hp hfr) hst stop) (fun r s6 hr => ?_) fun _ _ z => z.elim)
      obtain ⟨hr, I6⟩ := hr
      subst hr
      exact seg_end (.ok .next) ⟨rfl, ys, σw, H, ⟨pins, hp, I6⟩, qe⟩
    · refine seg_bind_wrap (wpAny_mono (T.item (gcx X (A.deeper cenv) s4 H2 cenv fp pn) rfl rfl rfl rfl i pins s σw H (fun _ _ => False) Iw (stat H ys pins hp hfr) hst go) (fun r s6 hr => ?_) fun _ _ z => z.elim)
      obtain ⟨u, hr, h6⟩ := hr
      subst hr
      refine seg_bind_wrap (wpAny_mono h6 (fun _ s7 h7 => ?_) fun _ _ z => z.elim)
      obtain ⟨x, H7, I7, r7, y7, st7, n7⟩ := h7
      have I7' := I7.pinned (stat H7 ys pins hp n7) (T.obj _ _ st7)
      refine seg_bind_wrap (wpAny_mono (hg.run _ s7 σw H7 x u _ I7' r7 (step x H7 y7)) (fun _ s8 h8 => ?_) fun _ _ z => z.elim)
      obtain ⟨σ8, H8, I8, hw8, q8⟩ := h8
      refine seg_bind_wrap (wpAny_mono (ht.run _ s8 σ8 H8 _ I8 q8) (fun ok s9 h9 => ?_) fun _ _ z => z.elim)
      obtain ⟨H9, I9, q9⟩ := h9
      -- the iterator behind what ran
      have back : ∀ {H' : Hp} {s' : Shared} {σ' : L2.St}, Inv (gcx X (A.deeper cenv) s4 H2 cenv fp pn) (pins ++ pinsAt fp s7.heap) σ' H' s' → Inv (gcx X (A.deeper cenv) s4 H2 cenv fp pn) pins σ' H' s' ∧ tn (i + 1) s'.heap ∧ ∀ b ∈ fp, H' b = none := fun {H' s' σ'} I' => by
        have pin' : ∀ b ∈ fp, ∀ o, s7.heap.get? b = some o → s'.heap.get? b = some o ∧ H' b = none := fun b hb o e =>
          let z := I'.pin (b, o) (List.mem_append_right _ (List.mem_append_right _ (mem_pinsAt hb e)))
          ⟨z.1, z.2.1⟩
        refine ⟨I'.unpinned, T.keep _ _ _ st7 fun b hb o e => (pin' b hb o e).1, fun b hb => ?_⟩
        obtain ⟨o, e, _⟩ := T.obj _ _ st7 b hb
        exact (pin' b hb o e).2
      cases ok with
      | false =>
        obtain ⟨I9', st9, n9⟩ := back I9
        obtain ⟨m', hm', w'⟩ := hNx _ _ q9
        simp only [Bool.false_eq_true, if_false]
        exact seg_again rfl (ih m' hm' n ys (i + 1) H9 s9 s₀ σ8 (by omega) ⟨pins, hp, I9'⟩ hw8 st9 n9 w')
      | true =>
        simp only [if_true]
        have hy : ∀ v, yieldOut cenv v = yieldValue v := fun v => by simp only [yieldOut, hco, Bool.false_eq_true, if_false]
        simp only [hy]
        rw [Sem.bind_eq_wrap', Sem.bind_eq_wrap', Sem.wrap_wrap, Sem.wrap_wrap]
        refine seg_wrap (wpAny_mono (he.run _ s9 σ8 H9 _ I9 q9) (fun z s10 h10 => ?_) fun _ _ z => z.elim)
        obtain ⟨y, H10, I10, ry, cq⟩ := h10
        obtain ⟨I10', st10, n10⟩ := back I10
        obtain ⟨n, rfl⟩ : ∃ k, n = k + 1 := ⟨n - 1, by omega⟩
        refine seg_at (seg_yield rfl rfl rfl ⟨ys, y, σ8, H10, i, _, ⟨pins, hp, I10'⟩, ry, hw8, st10, n10, cq, fun nx s' h' st' => ?_⟩)
        obtain ⟨m', hm', w'⟩ := hNx _ _ nx
        exact seg_again rfl (ih m' hm' n (ys ++ [y]) (i + 1) H10 s' s' σ8 (by omega) h' hw8 st' n10 w')
end
end Gx
set_option maxRecDepth 100000
set_option maxHeartbeats 1000000
namespace Gx
open PySem PySem.Spec PyProof.Rows L2 GenW

/-- a generator that sleeps; n: how many turns it may have yet -/
def Sleep (Z : Cx) (A : Around) (Pn : List V → List (Addr × Obj) → Prop) (fp : List Addr) (tn : Nat → Heap → Prop) (σw : L2.St) (vs : List Nat) (C : List V → V → Hp → Prop → Prop) (Qe : List V → Hp → Prop) (n : Nat) (gs : GenState) (ys : List V) (σ : L2.St) (H : Hp) (i : Nat) : Prop :=
  ∀ s', Hold Z Pn ys σ H s' → tn i s'.heap → gs.Goes (model Z.prog Z.w) A (GRd Z Pn Qe) (GYd Z Pn fp tn σw vs C) n (.send .none) s'
def After (M : Model) (A : Around) (R : GenEnd) (Y : Protocol) (gs : GenState) : Nat → Resume → Shared → Prop
  | 0 => fun _ _ => False
  | m + 1 => fun r s => gs.Goes M A R Y m r s
section
variable {Z : Cx} {A : Around} {Pn : List V → List (Addr × Obj) → Prop} {fp : List Addr} {tn : Nat → Heap → Prop} {σw : L2.St} {vs : List Nat} {C : List V → V → Hp → Prop → Prop} {Qe : List V → Hp → Prop} {ys : List V} {σ : L2.St} {H : Hp} {i : Nat} {s : Shared}
theorem hold_gens {g : Nat} {x : GenState} (hx : x.bare = true) (h : Hold Z Pn ys σ H s) : Hold Z Pn ys σ H (s.setGen g x) := by
  obtain ⟨pins, hp, I⟩ := h
  exact ⟨pins, hp, I.call' (ch := []) rfl (Un.kept fun _ _ e => e) I.hok (allBare_setGen I.bare hx) fun b z => by simp at z⟩
theorem hold_kept {h' : Heap} (hk : ∀ b o, s.heap.get? b = some o → h'.get? b = some o) (h : Hold Z Pn ys σ H s) : Hold Z Pn ys σ H { s with heap := h' } := by
  obtain ⟨pins, hp, I⟩ := h
  exact ⟨pins, hp, I.call' (ch := []) rfl (Un.kept hk) (I.hok.kept hk) I.bare fun b z => by simp at z⟩
/-- one turn of it -/
theorem gen_next {a : Addr} {g n : Nat} {gs : GenState} {E : Value → Shared → Prop} {Q : Option Value → Shared → Prop} (hh : A.handled = none) (hroom : A.depth < recursionLimit)
    (gen : ∀ ys σ H s, Hold Z Pn ys σ H s → s.heap.IsGen a g) (hold : Hold Z Pn ys σ H s) (hgs : s.gens[g]? = some gs) (sl : Sleep Z A.in1 Pn fp tn σw vs C Qe n gs ys σ H i) (ht : tn i s.heap)
    (hY : ∀ ys' y v σ' H' i' Nx gs' s1, Hold Z Pn ys' σ' H' s1 → s1.gens[g]? = some gs' → RelV y v → L2.wipe σ' vs = σw → tn i' s1.heap → (∀ b ∈ fp, H' b = none) → C ys' y H' Nx →
      (Nx → ∀ s', Hold Z Pn (ys' ++ [y]) σ' H' s' → tn i' s'.heap → After (model Z.prog Z.w) A.in1 (GRd Z Pn Qe) (GYd Z Pn fp tn σw vs C) gs' n (.send .none) s') → Q (some v) s1)
    (hP : ∀ ys' σ' H' s1, Hold Z Pn ys' σ' H' s1 → Qe ys' H' → Q none s1) : wpAny (model Z.prog Z.w) A (pyNext (.ref a)) Q E s := by
  have hsz : g < s.gens.size := (Array.getElem?_eq_some_iff.mp hgs).1
  have lim : s.heap.NoLimit := by obtain ⟨_, _, I⟩ := hold; exact I.nolimit
  refine wpAny_gsz (n := g + 1) hsz ?_
  refine wpAny_pyNext_genexpQ (P := fun n s₀ s₁ => ∃ ys σ H, Hold Z Pn ys σ H s₁ ∧ Qe ys H) hh lim hroom (gen _ _ _ _ hold) hgs (sl _ (hold_gens rfl hold) ht) (fun v s₁ gs' hb hv => ?_) (fun s₁ hp h' hk => ?_)
  · intro hs1
    obtain ⟨ys', y, σ', H', i', Nx, hold', ry, hw, ht', hf, c, nx⟩ := hv
    have hs1' : g < s₁.gens.size := by rw [setGen_size] at hs1; omega
    refine hY ys' y v σ' H' (i' + 1) Nx gs' _ (hold_gens hb hold') (setGen_at hs1') ry hw ht' hf c fun hn s' h1 h2 => ?_
    have z := nx hn s' h1 h2
    cases n with
    | zero => exact z
    | succ m => exact z
  · intro _
    obtain ⟨ys', σ', H', hold', q⟩ := hp
    exact hP ys' σ' H' _ (hold_kept hk (hold_gens rfl hold')) q

/-! ### any, all -/
def NoPins : List V → List (Addr × Obj) → Prop := fun _ pins => pins = []
def CAny (K : Bool → (Hp → Prop)) : List V → V → Hp → Prop → Prop := fun _ y H Nx => ∃ b, y = .bl b ∧ if b = true then K true H else Nx
def CAll (K : Bool → (Hp → Prop)) : List V → V → Hp → Prop → Prop := fun _ y H Nx => ∃ b, y = .bl b ∧ if b = true then Nx else K false H
theorem any_loop {a : Addr} {g : Nat} {K : Bool → (Hp → Prop)} {R : Result → Shared → Prop} (hh : A.handled = none) (hroom : A.depth < recursionLimit)
    (gen : ∀ ys σ H s, Hold Z NoPins ys σ H s → s.heap.IsGen a g) (hR : ∀ b ys σ H s, Hold Z NoPins ys σ H s → K b H → R (.ok (.ret (.bool b))) s) :
    ∀ (n : Nat) (gs : GenState) (ys : List V) (σ : L2.St) (H : Hp) (i : Nat) (s : Shared), Hold Z NoPins ys σ H s → s.gens[g]? = some gs → tn i s.heap → Sleep Z A.in1.in1 NoPins fp tn σw vs (CAny K) (fun _ => K false) n gs ys σ H i →
      codeAny (model Z.prog Z.w) A (.builtin "any.loop" ⟨[.ref a], []⟩) R s := by
  intro n
  induction n with
  | zero =>
    intro gs ys σ H i s hold hgs ht sl
    refine codeAny_builtin F.entry_any_loop ?_
    rw [Around.under_plainId F.plain_any_loop _]
    show wpAny _ A.in1 (pyNext (.ref a) >>= _) _ _ s
    refine wpAny_bind (gen_next (A := A.in1) hh hroom gen hold hgs sl ht (fun ys' y v σ' H' i' Nx gs' s1 h1 h2 h3 _ h4 _ h5 h6 => ?_) (fun ys' σ' H' s1 h1 h2 => ?_))
    · obtain ⟨b, rfl, c⟩ := h5
      cases h3
      refine wpAny_bind (wpAny_holding (wpAny_truthy_bool ?_))
      refine wpAny_bind (wpAny_letGo ?_)
      cases b with
      | false =>
        exact (h6 c s1 h1 h4).elim
      | true =>
        simp only [if_true]
        exact wpAny_bind (wpAny_rule (wpAny_pure (hR true _ _ _ _ h1 c)))
    · exact wpAny_bind (wpAny_rule (wpAny_pure (hR false _ _ _ _ h1 h2)))
  | succ n ih =>
    intro gs ys σ H i s hold hgs ht sl
    refine codeAny_builtin F.entry_any_loop ?_
    rw [Around.under_plainId F.plain_any_loop _]
    show wpAny _ A.in1 (pyNext (.ref a) >>= _) _ _ s
    refine wpAny_bind (gen_next (A := A.in1) hh hroom gen hold hgs sl ht (fun ys' y v σ' H' i' Nx gs' s1 h1 h2 h3 _ h4 _ h5 h6 => ?_) (fun ys' σ' H' s1 h1 h2 => ?_))
    · obtain ⟨b, rfl, c⟩ := h5
      cases h3
      refine wpAny_bind (wpAny_holding (wpAny_truthy_bool ?_))
      refine wpAny_bind (wpAny_letGo ?_)
      cases b with
      | false =>
        simp only [Bool.false_eq_true, if_false] at c ⊢
        exact wpAny_pure ⟨plainId_quiet F.plain_any_loop _, ih gs' (ys' ++ [.bl false]) σ' H' i' s1 h1 h2 h4 (h6 c)⟩
      | true =>
        simp only [if_true]
        exact wpAny_bind (wpAny_rule (wpAny_pure (hR true _ _ _ _ h1 c)))
    · exact wpAny_bind (wpAny_rule (wpAny_pure (hR false _ _ _ _ h1 h2)))
theorem all_loop {a : Addr} {g : Nat} {K : Bool → (Hp → Prop)} {R : Result → Shared → Prop} (hh : A.handled = none) (hroom : A.depth < recursionLimit)
    (gen : ∀ ys σ H s, Hold Z NoPins ys σ H s → s.heap.IsGen a g) (hR : ∀ b ys σ H s, Hold Z NoPins ys σ H s → K b H → R (.ok (.ret (.bool b))) s) :
    ∀ (n : Nat) (gs : GenState) (ys : List V) (σ : L2.St) (H : Hp) (i : Nat) (s : Shared), Hold Z NoPins ys σ H s → s.gens[g]? = some gs → tn i s.heap → Sleep Z A.in1.in1 NoPins fp tn σw vs (CAll K) (fun _ => K true) n gs ys σ H i →
      codeAny (model Z.prog Z.w) A (.builtin "all.loop" ⟨[.ref a], []⟩) R s := by
  intro n
  induction n with
  | zero =>
    intro gs ys σ H i s hold hgs ht sl
    refine codeAny_builtin F.entry_all_loop ?_
    rw [Around.under_plainId F.plain_all_loop _]
    show wpAny _ A.in1 (pyNext (.ref a) >>= _) _ _ s
    refine wpAny_bind (gen_next (A := A.in1) hh hroom gen hold hgs sl ht (fun ys' y v σ' H' i' Nx gs' s1 h1 h2 h3 _ h4 _ h5 h6 => ?_) (fun ys' σ' H' s1 h1 h2 => ?_))
    · obtain ⟨b, rfl, c⟩ := h5
      cases h3
      refine wpAny_bind (wpAny_holding (wpAny_truthy_bool ?_))
      refine wpAny_bind (wpAny_letGo ?_)
      cases b with
      | true =>
        exact (h6 c s1 h1 h4).elim
      | false =>
        simp only [Bool.false_eq_true, if_false]
        exact wpAny_bind (wpAny_rule (wpAny_pure (hR false _ _ _ _ h1 c)))
    · exact wpAny_bind (wpAny_rule (wpAny_pure (hR true _ _ _ _ h1 h2)))
  | succ n ih =>
    intro gs ys σ H i s hold hgs ht sl
    refine codeAny_builtin F.entry_all_loop ?_
    rw [Around.under_plainId F.plain_all_loop _]
    show wpAny _ A.in1 (pyNext (.ref a) >>= _) _ _ s
    refine wpAny_bind (gen_next (A := A.in1) hh hroom gen hold hgs sl ht (fun ys' y v σ' H' i' Nx gs' s1 h1 h2 h3 _ h4 _ h5 h6 => ?_) (fun ys' σ' H' s1 h1 h2 => ?_))
    · obtain ⟨b, rfl, c⟩ := h5
      cases h3
      refine wpAny_bind (wpAny_holding (wpAny_truthy_bool ?_))
      refine wpAny_bind (wpAny_letGo ?_)
      cases b with
      | true =>
        simp only [if_true] at c ⊢
        exact wpAny_pure ⟨plainId_quiet F.plain_all_loop _, ih gs' (ys' ++ [.bl true]) σ' H' i' s1 h1 h2 h4 (h6 c)⟩
      | false =>
        simp only [Bool.false_eq_true, if_false]
        exact wpAny_bind (wpAny_rule (wpAny_pure (hR false _ _ _ _ h1 c)))
    · exact wpAny_bind (wpAny_rule (wpAny_pure (hR true _ _ _ _ h1 h2)))
end
end Gx
set_option maxRecDepth 100000
set_option maxHeartbeats 1000000
namespace Gx
open PySem PySem.Spec PyProof.Rows L2 GenW

/-- a generator that has not begun, made by a generator expression -/
structure GNew (X : Cx) (pins : List (Addr × Obj)) (σ : L2.St) (elt tg iter : Expr) (ifs : List Expr) (scope : Scope) (pos : Pos) (J : It) (H2 : Hp) (a : Addr) (s5 : Shared) (g : Nat) (go : Obj) (cenv : Env) (it : Addr) (fp : List Addr) (tn : Nat → Heap → Prop) (s4 : Shared) : Prop where
  obj : s5.heap.get? a = some go
  gen : ∀ h : Heap, h.get? a = some go → h.IsGen a g
  nc : ∀ v, go.data ≠ .cell v
  st : s5.gens[g]? = some (.fresh (.compStart (.GeneratorExp elt [⟨tg, iter, ifs, 0⟩] scope pos) 0 (.ref it) .none cenv))
  turn : Turn X.prog X.w X.K tg J fp it tn
  tn0 : tn 0 s5.heap
  inv : Inv X pins σ H2 s4
  fp : ∀ b ∈ fp, FpOk X pins H2 b ∧ b < s4.heap.objs.size
  env : ∃ code, cenv = genEnv scope (cloFrom X.env.cells scope.names []) s4.heap.objs.size code builtinsNs X.env
  lo : s4.heap.objs.size < a
  hi : a < s5.heap.objs.size
  os : s5.os = s4.os
  bare : AllBare s5.gens
  kept : ∀ b o, s4.heap.get? b = some o → s5.heap.get? b = some o
  ns : ∃ m, s5.heap.Ns s4.heap.objs.size m
section
variable {X : Cx} {pins : List (Addr × Obj)} {σ : L2.St} {H : Hp} {s : Shared} {elt tg iter : Expr} {ifs : List Expr} {scope : Scope} {gpos : Pos} {own : List (Str × Nat)}
theorem gen_make {c P : Addr} {k : Nat} {wi : TI} {Q' : Value → Shared → Prop} (hr : Room k X.A) (TB : GxR.TabB X.base X.mg c P) (hcode : X.env.code = .ref c) (ok : GOk X scope own) (hi : PI X tg iter wi)
    (hs : ∀ v, genFold iter X.env v = pure v) (I : Inv X pins σ H s) {R : It → Hp → Prop} (h : wi σ H R)
    (hR : ∀ J H1, R J H1 → GxR.TabG H1 P ∧ ∀ s5 a H2 g go cenv it fp tn s4, GxR.Tabbed P H1 H2 → GNew X pins σ elt tg iter ifs scope gpos J H2 a s5 g go cenv it fp tn s4 → Q' (.ref a) s5) :
    wpAny (model X.prog X.w) X.A (eval (.GeneratorExp elt [⟨tg, iter, ifs, 0⟩] scope gpos) X.env) Q' X.xe s := by
  refine wpAny_GeneratorExp_make ok.co (closure_ok (free_at I ok)) ok.cell ok.dot ok.blk.kind (by have := hr.dp; omega) ?_ hs
  refine thn (hi.run pins s σ H _ I h) fun xv s1 hx => thn hx fun itv s2 h2 => ?_
  obtain ⟨it, fp, tn, J, H1, rfl, I2, T, st2, f2, q⟩ := h2
  obtain ⟨⟨ps, hP, ht⟩, hQ⟩ := hR J H1 q
  have hPs : s2.heap.get? P = some { cls := .none, data := .fields ps } := I2.hok P _ hP
  have cd : PySem.W.CodeHd s2.heap c P := TB.code.keeps fun b u e => I2.bk b u e
  have lim2 : s2.heap.NoLimit := I2.nolimit
  have hcP : cStatics ≠ P := fun e => by
    obtain ⟨_, hns, _⟩ := lim2
    obtain ⟨o', es, ep, ho, hd, _⟩ := hns
    rw [e, hPs] at ho
    cases ho
    cases hd
  have nP : ∀ b ∈ fp, b ≠ P := fun b hb e => by
    have z := (f2 b hb).1
    rw [e, hP] at z
    cases z
  have sz2 : ∀ b ∈ fp, b < s2.heap.objs.size := fun b hb => by
    obtain ⟨o, e, _⟩ := T.obj _ _ st2 b hb
    exact Heap.lt_size e
  have cont : ∀ (code : Value) (h3 : Heap) (tk : Nat) (ps' : Array Value), Heap.ExtBut P s2.heap h3 → s2.heap.objs.size ≤ h3.objs.size → h3.get? P = some { cls := .none, data := .fields ps' } → (∃ more, ps' = ps ++ more) → TriplesOk ps'.toList →
      wpAny (model X.prog X.w) X.A (builtinsFor X.env.globals X.env.builtins) (fun bi s₄ => ∀ h', h'.Ns s₄.heap.objs.size (fun y => if y = ".0" then some (.ref it) else none) → Heap.SameBut s₄.heap.objs.size (s₄.heap.push { cls := .type "frame", data := .dict #[] }) h' →
          Q' (.ref h'.objs.size) { s₄ with
            gens := s₄.gens.push (.fresh (.compStart (.GeneratorExp elt [⟨tg, iter, ifs, 0⟩] scope gpos) 0 (.ref it) .none (genEnv scope (cloFrom X.env.cells scope.names []) s₄.heap.objs.size code bi X.env))),
            toks := s₄.toks + 1 + 1 + 1,
            heap := h'.push { cls := .type "generator", data := .fields #[.int s₄.gens.size 0, .str "<genexpr>" (s₄.toks + 1), .str (X.env.qual ++ "<genexpr>") (s₄.toks + 1 + 1)] } }) X.xe { s2 with heap := h3, toks := tk } := by
    intro code h3 tk ps' hx hsz hP3 ⟨more, hmore⟩ ht3
    obtain ⟨bm, ob, e1, e2, e3, e4, e5, e6, e7, e8⟩ := TB.bm
    have keep3 : ∀ b u, b ≠ P → s2.heap.get? b = some u → h3.get? b = some u := fun b u hb e => hx b u hb e
    refine wpAny_builtinsFor (m := X.mg) (by rw [I2.ok.glob]; exact (I2.mod.glob.keeps I2.bk).extBut hx TB.gP) e1 e2 (keep3 _ _ e4 (I2.bk _ _ e5)) e6 e7 e8 ?_
    intro h' hn' hs'
    have hsz' : h'.objs.size = h3.objs.size + 1 := by rw [hs'.1]; show (h3.push _).objs.size = _; rw [Heap.size_push]
    subst hmore
    -- the table has grown
    have J4 : Inv X pins σ (upd H1 P (.tbl (ps ++ more))) { s2 with heap := h3, toks := tk } := by
      have J := GxR.inv_tab (more := more) (h' := h3) (g' := s2.gens) (d' := s2.drawn) (t' := tk) I2 hP keep3 hP3 I2.bare
      exact J
    have tb : GxR.Tabbed P H1 (upd H1 P (.tbl (ps ++ more))) := ⟨⟨ps ++ more, upd_same, ht3⟩, fun b hb => upd_ne hb⟩
    have keep' : ∀ b o, h3.get? b = some o → h'.get? b = some o := fun b o e => hs'.extBut b o (Nat.ne_of_lt (Heap.lt_size e)) (Heap.get?_push_of_some _ e)
    have keep5 : ∀ (go : Obj) b o, h3.get? b = some o → (h'.push go).get? b = some o := fun go b o e => Heap.get?_push_of_some _ (keep' b o e)
    have main : ∀ (go : Obj) (nm qn : Value) (tk2 : Nat), go.cls = .type "generator" → go.data = .fields #[.int s2.gens.size 0, nm, qn] → go.slots = #[] → (∀ h : Heap, (h.push go).get? h.objs.size = some go) →
        Q' (.ref h'.objs.size) { s2 with gens := s2.gens.push (.fresh (.compStart (.GeneratorExp elt [⟨tg, iter, ifs, 0⟩] scope gpos) 0 (.ref it) .none (genEnv scope (cloFrom X.env.cells scope.names []) h3.objs.size code builtinsNs X.env))), toks := tk2, heap := h'.push go } := by
      intro go nm qn tk2 hgc hgd hgs hgp
      refine hQ _ _ _ s2.gens.size go _ it fp tn { s2 with heap := h3, toks := tk } tb ⟨hgp h', fun h e => ⟨go, nm, qn, e, hgc, hgd, hgs⟩, fun v z => (by rw [hgd] at z; cases z), Array.getElem?_push_size .., T, ?_, J4, fun b hb => ⟨⟨?_, (f2 b hb).2⟩, ?_⟩, ⟨code, rfl⟩, ?_, ?_, rfl, I2.bare.push rfl, keep5 go, ⟨_, hn'.push _⟩⟩
      · exact T.keep _ _ _ st2 fun b hb o e => keep5 go b o (keep3 b o (nP b hb) e)
      · rw [upd_ne (nP b hb)]
        exact (f2 b hb).1
      · exact Nat.lt_of_lt_of_le (sz2 b hb) hsz
      · show h3.objs.size < h'.objs.size
        rw [hsz']
        exact Nat.lt_succ_self _
      · show h'.objs.size < (h'.push go).objs.size
        rw [Heap.size_push]
        exact Nat.lt_succ_self _
    exact main _ _ _ _ rfl rfl rfl fun h => Heap.get?_push_size _ rfl
  refine ⟨lim2, ?_⟩
  cases hf : codeAmong gpos ps.toList with
  | none =>
    refine wpAny_genexprCodeX hcode (cd.code hPs ht) (cd.tab hPs) hf fun c' h' tk hx hge hlt hco' _ htab' _ => ?_
    obtain ⟨o1, vs, f1, tf, fl, tg, inF, tx, tt, op, _, _, _, _, _, _, _, _, _, htr, _⟩ := hco'
    exact cont _ h' tk _ hx (Nat.le_trans hge (Nat.le_of_lt hlt)) htab'.2 ⟨_, rfl⟩ htr
  | some cv =>
    refine wpAny_genexprCode_hit hcode (cd.code hPs ht) hf ?_
    exact cont cv s2.heap s2.toks ps (Heap.ExtBut.refl _ _) (Nat.le_refl _) hPs ⟨#[], by simp⟩ ht
end
end Gx
set_option maxRecDepth 100000
set_option maxHeartbeats 1000000
namespace Gx
open PySem PySem.Spec PyProof.Rows L2 GenW

section
variable {X : Cx} {A : Around} {s4 : Shared} {H2 : Hp} {cenv : Env} {fp : List Addr} {pn : List (Addr × Obj)} {Pn : List V → List (Addr × Obj) → Prop} {elt tg iter : Expr} {ifs : List Expr} {scope : Scope} {pos : Pos} {it : Addr} {tn : Nat → Heap → Prop} {J : It}
  {g : TG} {tt : TT} {te : TE} {σw : L2.St} {vs : List Nat} {C : List V → V → Hp → Prop → Prop} {Qe : List V → Hp → Prop} {W : WG}
/-- its beginning -/
theorem gen_begin (T : Turn X.prog X.w X.K tg J fp it tn) (hco : cenv.scope.isCoroutine = false) (hg : PG (gcx X (A.deeper cenv) s4 H2 cenv fp pn) tg g) (ht : PTs (gcx X (A.deeper cenv) s4 H2 cenv fp pn) ifs tt) (he : PE (gcx X (A.deeper cenv) s4 H2 cenv fp pn) elt te)
    (stat : ∀ (H : Hp) (ys : List V) (pins : List (Addr × Obj)), Pn ys pins → (∀ b ∈ fp, H b = none) → ∀ b ∈ fp, FpOk (gcx X (A.deeper cenv) s4 H2 cenv fp pn) pins H b) (turn : Turns J g tt te σw vs C Qe W) (hw : L2.wipe σw vs = σw)
    {m n : Nat} {ys : List V} {i : Nat} {H : Hp} {s s₀ : Shared} {σ : L2.St} (hmn : m < n) (hold : Hold (gcx X (A.deeper cenv) s4 H2 cenv fp pn) Pn ys σ H s) (hσ : L2.wipe σ vs = σw) (hst : tn i s.heap) (hfr : ∀ b ∈ fp, H b = none) (w : W ys i m H) :
      Seg (model X.prog X.w) A (GRd (gcx X (A.deeper cenv) s4 H2 cenv fp pn) Pn Qe) (GYd (gcx X (A.deeper cenv) s4 H2 cenv fp pn) Pn fp tn σw vs C) n s₀ (.compStart (.GeneratorExp elt [⟨tg, iter, ifs, 0⟩] scope pos) 0 (.ref it) .none cenv)
        ((model X.prog X.w).den (.compStart (.GeneratorExp elt [⟨tg, iter, ifs, 0⟩] scope pos) 0 (.ref it) .none cenv)) [] s := by
  have loop := gen_loop (iter := iter) (scope := scope) (pos := pos) T hco hg ht he stat turn hw m n ys i H s s₀ σ hmn hold hσ hst hfr w
  show Seg _ A _ _ _ s₀ _ ((compStart (.GeneratorExp elt [⟨tg, iter, ifs, 0⟩] scope pos) 0 (.ref it) .none cenv).onRaise (leaving cenv)) [] s
  unfold compStart
  rw [Sem.onRaise_eq_wrap]
  show Seg _ A _ _ _ s₀ _ ((ask >>= _).wrap _ _ _ _) [] s
  refine seg_bind_wrap (wpAny_askSetting ?_)
  split
  · exact seg_again rfl loop
  · refine seg_bind_wrap (wpAny_rule ?_)
    show Seg _ A _ _ _ s₀ _ ((standAt iter.pos >>= _).wrap _ _ _ _) [] s
    exact seg_bind_wrap (wpAny_standAt (seg_bind_wrap (T.self _ i s _ _ hst (seg_again rfl loop))))
end
section
variable {X : Cx} {pins : List (Addr × Obj)} {σ : L2.St} {elt tg iter : Expr} {ifs : List Expr} {scope : Scope} {pos : Pos} {J : It} {H2 : Hp} {a : Addr} {s5 : Shared} {g : Nat} {go : Obj} {cenv : Env} {it : Addr} {fp : List Addr} {tn : Nat → Heap → Prop} {s4 : Shared} {own : List (Str × Nat)}
theorem GNew.inv0 (N : GNew X pins σ elt tg iter ifs scope pos J H2 a s5 g go cenv it fp tn s4) (ok : GOk X scope own) {B : Around} (hd : B.handled = none) (fr : B.frames = some X.stack) {s6 : Shared} (os : s6.os = s5.os) (bare : AllBare s6.gens)
    (kept : ∀ b o, s5.heap.get? b = some o → s6.heap.get? b = some o) : Inv (gcx X (B.deeper cenv) s4 H2 cenv fp []) [] (L2.wipe σ (own.map (·.2))) H2 s6 := by
  obtain ⟨code, hce⟩ := N.env
  obtain ⟨m, hn⟩ := N.ns
  have I := gen_start (A := B.deeper cenv) (h' := s6.heap) (g' := s6.gens) (t' := s6.toks) (fp := fp) N.inv ok hce hd (Around.frames_deeper fr) N.fp (hn.keeps kept) (fun b o e => kept b o (N.kept b o e)) bare
  exact I.call' (ch := []) (os.trans N.os) (Un.kept fun _ _ e => e) I.hok bare fun b z => by simp at z
theorem GNew.inv1 (N : GNew X pins σ elt tg iter ifs scope pos J H2 a s5 g go cenv it fp tn s4) (ok : GOk X scope own) {B : Around} (hd : B.handled = none) (fr : B.frames = some X.stack) {s6 : Shared} (os : s6.os = s5.os) (bare : AllBare s6.gens)
    (kept : ∀ b o, s5.heap.get? b = some o → s6.heap.get? b = some o) {pn pins' : List (Addr × Obj)} (hp : ∀ p ∈ pn ++ pins', p = (a, go) ∨ (s5.heap.objs.size ≤ p.1 ∧ s6.heap.get? p.1 = some p.2 ∧ ∀ v, p.2.data ≠ .cell v)) :
    Inv (gcx X (B.deeper cenv) s4 H2 cenv fp pn) pins' (L2.wipe σ (own.map (·.2))) H2 s6 := by
  have cL : cenv.locals = s4.heap.objs.size := by obtain ⟨code, e⟩ := N.env; rw [e]; rfl
  have far : ∀ b : Addr, s4.heap.objs.size < b → H2 b = none ∧ b ≠ cenv.locals ∧ b ∉ frs X.stack := fun b hb => by
    refine ⟨N.inv.hok.fresh (Nat.le_of_lt hb), by rw [cL]; exact Nat.ne_of_gt hb, fun z => ?_⟩
    rcases List.mem_cons.mp (N.inv.stkSub b z) with z | z
    · have h1 := N.inv.lt
      rw [← z] at h1
      exact Nat.lt_irrefl _ (Nat.lt_trans h1 hb)
    · exact N.inv.nofs (Nat.le_of_lt hb) z
  refine pinned_more (N.inv0 ok hd fr os bare kept) fun p hpp => ?_
  rcases hp p hpp with e | ⟨h1, h2, h3⟩
  · subst e
    obtain ⟨z1, z2, z3⟩ := far a N.lo
    exact ⟨kept _ _ N.obj, z1, z2, z3, N.nc⟩
  · obtain ⟨z1, z2, z3⟩ := far p.1 (Nat.lt_trans N.lo (Nat.lt_of_lt_of_le N.hi h1))
    exact ⟨h2, z1, z2, z3, h3⟩
/-- behind it, in the context that made it -/
theorem GNew.back (N : GNew X pins σ elt tg iter ifs scope pos J H2 a s5 g go cenv it fp tn s4) {B : Around} {pn pins' : List (Addr × Obj)} {σ' : L2.St} {H' : Hp} {s' : Shared} (I : Inv (gcx X B s4 H2 cenv fp pn) pins' σ' H' s') : Inv X pins σ H' s' :=
  N.inv.call' (ch := fp) I.os I.base I.hok I.bare fun b hb => ⟨(N.fp b hb).1.2.2.2.1, (N.fp b hb).1.2.1, (N.fp b hb).1.2.2.2.2.1, (N.fp b hb).1.2.2.2.2.2⟩
theorem GNew.isGen (N : GNew X pins σ elt tg iter ifs scope pos J H2 a s5 g go cenv it fp tn s4) {B : Around} {pn pins' : List (Addr × Obj)} {σ' : L2.St} {H' : Hp} {s' : Shared} (I : Inv (gcx X B s4 H2 cenv fp pn) pins' σ' H' s') (h : (a, go) ∈ pn) : s'.heap.IsGen a g :=
  N.gen _ (I.pin (a, go) (List.mem_append_left _ h)).1
/-- it sleeps ahead of its first turn -/
theorem GNew.sleep {W : WG} {gg : TG} {tt : TT} {te : TE} {C : List V → V → Hp → Prop → Prop} {Qe : List V → Hp → Prop} {Pn : List V → List (Addr × Obj) → Prop} {pn : List (Addr × Obj)} (N : GNew X pins σ elt tg iter ifs scope pos J H2 a s5 g go cenv it fp tn s4) (ok : GOk X scope own) {B : Around} (hd : B.handled = none) (fr : B.frames = some X.stack)
    (hg : PG (gcx X (B.deeper cenv) s4 H2 cenv fp pn) tg gg) (ht : PTs (gcx X (B.deeper cenv) s4 H2 cenv fp pn) ifs tt) (he : PE (gcx X (B.deeper cenv) s4 H2 cenv fp pn) elt te) (hpn : ∀ p ∈ pn, p = (a, go)) (hPn : ∀ ys pins, Pn ys pins → ∀ p ∈ pins, s5.heap.objs.size ≤ p.1)
    (turn : Turns J gg tt te (L2.wipe σ (own.map (·.2))) (own.map (·.2)) C Qe W) {m n : Nat} (hmn : m < n) (w : W [] 0 m H2) :
    Sleep (gcx X (B.deeper cenv) s4 H2 cenv fp pn) B Pn fp tn (L2.wipe σ (own.map (·.2))) (own.map (·.2)) C Qe n (.fresh (.compStart (.GeneratorExp elt [⟨tg, iter, ifs, 0⟩] scope pos) 0 (.ref it) .none cenv)) [] (L2.wipe σ (own.map (·.2))) H2 0 := by
  obtain ⟨code, hce⟩ := N.env
  have cS : cenv.scope = scope := by rw [hce]; rfl
  have cL : cenv.locals = s4.heap.objs.size := by rw [hce]; rfl
  have I0 := N.inv0 ok (B := B) hd fr (s6 := s5) rfl N.bare fun _ _ e => e
  have ww : L2.wipe (L2.wipe σ (own.map (·.2))) (own.map (·.2)) = L2.wipe σ (own.map (·.2)) := by
    have key : ∀ (vs : List Nat) (τ : L2.St), (∀ v ∈ vs, ∀ x, τ[v]? ≠ some (some x)) → L2.wipe τ vs = τ := fun vs => by
      induction vs with
      | nil => intro τ _; rfl
      | cons v r ih =>
        intro τ h
        unfold L2.wipe
        rw [ih τ fun u hu => h u (List.mem_cons_of_mem _ hu)]
        refine List.ext_getElem? fun j => ?_
        by_cases q : v = j
        · subst q
          by_cases z : v < τ.length
          · rw [List.getElem?_set_self z, List.getElem?_eq_getElem z]
            cases e : τ[v] with
            | none => rfl
            | some x => exact absurd (by rw [List.getElem?_eq_getElem z, e]) (h v (List.mem_cons_self ..) x)
          · rw [List.getElem?_eq_none (by rw [List.length_set]; omega), List.getElem?_eq_none (by omega)]
        · rw [List.getElem?_set_ne q]
    exact key _ _ fun v hv x e => (wipe_some e).2 hv
  intro s' hold ht0
  refine ⟨rfl, ?_⟩
  refine gen_begin N.turn (by rw [cS]; exact ok.co) hg ht he (fun H ys pins' hP hn b hb => ?_) turn ww hmn hold ww ht0 (fun b hb => (N.fp b hb).1.1) w
  refine ⟨hn b hb, (I0.ok.exf b hb).1, I0.ok.exfs b hb, .inl hb, fun x c e => (I0.ok.exf b hb).2 x c e, fun p hp => ?_⟩
  have hlt := (N.fp b hb).2
  rcases List.mem_append.mp hp with z | z
  · rw [hpn p z]
    exact Nat.ne_of_gt (Nat.lt_trans hlt N.lo)
  · exact Nat.ne_of_gt (Nat.lt_of_lt_of_le (Nat.lt_trans hlt (Nat.lt_trans N.lo N.hi)) (hPn _ _ hP p z))
/-- the place that it begins at stands -/
theorem GNew.tns (N : GNew X pins σ elt tg iter ifs scope pos J H2 a s5 g go cenv it fp tn s4) {s6 : Shared} (kept : ∀ b o, s5.heap.get? b = some o → s6.heap.get? b = some o) : tn 0 s6.heap := N.turn.keep _ _ _ N.tn0 fun b _ o e => kept b o e
end
end Gx
set_option maxRecDepth 100000
set_option maxHeartbeats 1000000
namespace Gx
open PySem PySem.Spec PyProof.Rows L2 GenW

/-- where a generator expression's parts are read -/
def InG (k : Nat) (X : Cx) (scope : Scope) (R : Cx → Prop) : Prop := ∀ (A' : Around) (s : Shared) (H : Hp) (C : Addr) (code : Value) (fp : List Addr) (pn : List (Addr × Obj)), Room k A' → A'.guards = X.A.guards →
  R (gcx X A' s H (genEnv scope (cloFrom X.env.cells scope.names []) C code builtinsNs X.env) fp pn)
/-- a generator expression, and what its consumer asks -/
def tGx (wi : TI) (g : TG) (tt : TT) (te : TE) (vs : List Nat) (P : Addr) (C : List V → V → Hp → Prop → Prop) (Qe : List V → Hp → Prop) : L2.St → Hp → Prop := fun σ H => wi σ H fun J H1 => GxR.TabG H1 P ∧ ∀ H2, GxR.Tabbed P H1 H2 →
  ∃ W : WG, (∃ m, W [] 0 m H2) ∧ Turns J g tt te (L2.wipe σ vs) vs C Qe W
def tAnyG (wi : TI) (g : TG) (tt : TT) (te : TE) (vs : List Nat) (P : Addr) : TE := fun σ H Q => tGx wi g tt te vs P (CAny fun b H => Q (.bl b) H) (fun _ H => Q (.bl false) H) σ H
def tAllG (wi : TI) (g : TG) (tt : TT) (te : TE) (vs : List Nat) (P : Addr) : TE := fun σ H Q => tGx wi g tt te vs P (CAll fun b H => Q (.bl b) H) (fun _ H => Q (.bl true) H) σ H
theorem room_in2 {k : Nat} {A : Around} (r : Room (k + 1) A) (env : Env) : Room k (A.in1.in1.deeper env) :=
  ⟨r.hd, by have := r.dp; show A.depth + 1 + 3 * k + 5 < _; omega, by have := r.un; show A.units + 1 + 1 + 3 + 16 * k + 200 < _; omega⟩
theorem room_in4 {k : Nat} {A : Around} (r : Room (k + 1) A) (env : Env) : Room k (A.in1.in1.in1.in1.deeper env) :=
  ⟨r.hd, by have := r.dp; show A.depth + 1 + 3 * k + 5 < _; omega, by have := r.un; show A.units + 1 + 1 + 1 + 1 + 3 + 16 * k + 200 < _; omega⟩
section
variable {X : Cx} {elt tg iter : Expr} {ifs : List Expr} {scope : Scope} {gpos p pos : Pos} {own : List (Str × Nat)} {wi : TI} {g : TG} {tt : TT} {te : TE} {c P : Addr} {k : Nat}
theorem pe_anyG (hr : Room (k + 1) X.A) (hgl : Gl X "any") (hm : X.mg "any" = none) (TB : GxR.TabB X.base X.mg c P) (hcode : X.env.code = .ref c) (ok : GOk X scope own) (hi : PI X tg iter wi)
    (hg : InG k X scope fun Y => PG Y tg g) (ht : InG k X scope fun Y => PTs Y ifs tt) (he : InG k X scope fun Y => PE Y elt te)
    (hs : ∀ v, genFold iter X.env v = pure v) (hb : bootBuiltins "any" = some (.builtin "any"))
    (hst : starEach [.GeneratorExp elt [⟨tg, iter, ifs, 0⟩] scope gpos] X.env = (false, eval (.GeneratorExp elt [⟨tg, iter, ifs, 0⟩] scope gpos) X.env) :: starEach [] X.env := by rfl) :
    PE X (.Call (.Name "any" p) [.GeneratorExp elt [⟨tg, iter, ifs, 0⟩] scope gpos] [] pos) (tAnyG wi g tt te (own.map (·.2)) P) := by
  refine ⟨fun pins s σ H Q I h => ?_⟩
  refine wpAny_Call_Name_kw (ld_blt I hgl hm hb ?_)
  refine PyProof.Rows.callWith_builtin1 ?_ hst (by rfl)
  rw [hst]
  show wpAny _ _ (spliced ((false, eval (.GeneratorExp elt [⟨tg, iter, ifs, 0⟩] scope gpos) X.env) :: backTo pos (starEach [] X.env))) _ _ s
  refine Calls.spliced_cons (gen_make hr TB hcode ok hi hs I h fun J H1 hR => ⟨hR.1, fun s5 a H2 gi go cenv it fp tn s4 tb N => ?_⟩)
  obtain ⟨W, ⟨m, w⟩, turn⟩ := hR.2 H2 tb
  refine Calls.spliced_nil ?_
  refine call_function_tree F.kind_any F.plain_any F.entry_any (F.args_any1 _) ?_
  unfold Builtin.«any»
  refine wpAny_bind (m := oneArg "any" _) (wpAny_pure ?_)
  refine wpAny_bind (wpAny_pyIter_gen (N.gen _ N.obj) ?_)
  obtain ⟨code, hce⟩ := N.env
  have B2 := room_in2 hr cenv
  have hfr : X.A.in1.in1.frames = some X.stack := N.inv.ok.frames
  have hold : Hold (gcx X (X.A.in1.in1.deeper cenv) s4 H2 cenv fp [(a, go)]) NoPins [] (L2.wipe σ (own.map (·.2))) H2 s5 :=
    ⟨[], rfl, N.inv1 (B := X.A.in1.in1) (pn := [(a, go)]) (pins' := []) ok hr.hd hfr rfl N.bare (fun _ _ e => e) fun q hq => .inl (by simpa using hq)⟩
  have sl := N.sleep (B := X.A.in1.in1) (pn := [(a, go)]) (Pn := NoPins) ok hr.hd hfr (by rw [hce]; exact hg _ _ _ _ _ _ _ (by rw [← hce]; exact B2) rfl) (by rw [hce]; exact ht _ _ _ _ _ _ _ (by rw [← hce]; exact B2) rfl) (by rw [hce]; exact he _ _ _ _ _ _ _ (by rw [← hce]; exact B2) rfl)
    (fun q hq => by simpa using hq) (fun ys pins' h q hq => by rw [show pins' = [] from h] at hq; cases hq) turn (Nat.lt_succ_self m) w
  refine wpAny_pure ⟨plainId_quiet F.plain_any_loop _, any_loop (Z := gcx X (X.A.in1.in1.deeper cenv) s4 H2 cenv fp [(a, go)]) (A := X.A) hr.hd (by have := hr.dp; omega) (fun ys σ' H' s' h => ?_) (fun b ys σ' H' s' h q => ?_) (m + 1) _ [] _ H2 0 s5 hold N.st N.tn0 sl⟩
  · obtain ⟨_, _, I'⟩ := h
    exact N.isGen I' (List.mem_singleton.mpr rfl)
  · obtain ⟨_, _, I'⟩ := h
    exact ⟨.bl b, H', N.back I', rfl, q⟩
theorem pe_allG (hr : Room (k + 1) X.A) (hgl : Gl X "all") (hm : X.mg "all" = none) (TB : GxR.TabB X.base X.mg c P) (hcode : X.env.code = .ref c) (ok : GOk X scope own) (hi : PI X tg iter wi)
    (hg : InG k X scope fun Y => PG Y tg g) (ht : InG k X scope fun Y => PTs Y ifs tt) (he : InG k X scope fun Y => PE Y elt te)
    (hs : ∀ v, genFold iter X.env v = pure v) (hb : bootBuiltins "all" = some (.builtin "all"))
    (hst : starEach [.GeneratorExp elt [⟨tg, iter, ifs, 0⟩] scope gpos] X.env = (false, eval (.GeneratorExp elt [⟨tg, iter, ifs, 0⟩] scope gpos) X.env) :: starEach [] X.env := by rfl) :
    PE X (.Call (.Name "all" p) [.GeneratorExp elt [⟨tg, iter, ifs, 0⟩] scope gpos] [] pos) (tAllG wi g tt te (own.map (·.2)) P) := by
  refine ⟨fun pins s σ H Q I h => ?_⟩
  refine wpAny_Call_Name_kw (ld_blt I hgl hm hb ?_)
  refine PyProof.Rows.callWith_builtin1 ?_ hst (by rfl)
  rw [hst]
  show wpAny _ _ (spliced ((false, eval (.GeneratorExp elt [⟨tg, iter, ifs, 0⟩] scope gpos) X.env) :: backTo pos (starEach [] X.env))) _ _ s
  refine Calls.spliced_cons (gen_make hr TB hcode ok hi hs I h fun J H1 hR => ⟨hR.1, fun s5 a H2 gi go cenv it fp tn s4 tb N => ?_⟩)
  obtain ⟨W, ⟨m, w⟩, turn⟩ := hR.2 H2 tb
  refine Calls.spliced_nil ?_
  refine call_function_tree F.kind_all F.plain_all F.entry_all (F.args_all1 _) ?_
  unfold Builtin.«all»
  refine wpAny_bind (m := oneArg "all" _) (wpAny_pure ?_)
  refine wpAny_bind (wpAny_pyIter_gen (N.gen _ N.obj) ?_)
  obtain ⟨code, hce⟩ := N.env
  have B2 := room_in2 hr cenv
  have hfr : X.A.in1.in1.frames = some X.stack := N.inv.ok.frames
  have hold : Hold (gcx X (X.A.in1.in1.deeper cenv) s4 H2 cenv fp [(a, go)]) NoPins [] (L2.wipe σ (own.map (·.2))) H2 s5 :=
    ⟨[], rfl, N.inv1 (B := X.A.in1.in1) (pn := [(a, go)]) (pins' := []) ok hr.hd hfr rfl N.bare (fun _ _ e => e) fun q hq => .inl (by simpa using hq)⟩
  have sl := N.sleep (B := X.A.in1.in1) (pn := [(a, go)]) (Pn := NoPins) ok hr.hd hfr (by rw [hce]; exact hg _ _ _ _ _ _ _ (by rw [← hce]; exact B2) rfl) (by rw [hce]; exact ht _ _ _ _ _ _ _ (by rw [← hce]; exact B2) rfl) (by rw [hce]; exact he _ _ _ _ _ _ _ (by rw [← hce]; exact B2) rfl)
    (fun q hq => by simpa using hq) (fun ys pins' h q hq => by rw [show pins' = [] from h] at hq; cases hq) turn (Nat.lt_succ_self m) w
  refine wpAny_pure ⟨plainId_quiet F.plain_all_loop _, all_loop (Z := gcx X (X.A.in1.in1.deeper cenv) s4 H2 cenv fp [(a, go)]) (A := X.A) hr.hd (by have := hr.dp; omega) (fun ys σ' H' s' h => ?_) (fun b ys σ' H' s' h q => ?_) (m + 1) _ [] _ H2 0 s5 hold N.st N.tn0 sl⟩
  · obtain ⟨_, _, I'⟩ := h
    exact N.isGen I' (List.mem_singleton.mpr rfl)
  · obtain ⟨_, _, I'⟩ := h
    exact ⟨.bl b, H', N.back I', rfl, q⟩
end
end Gx
set_option maxRecDepth 100000
set_option maxHeartbeats 1000000
namespace Gx
open PySem PySem.Spec PyProof.Rows L2 GenW
open AutoSeq1 (wpAny_loadPart')

/-- the consumer's list -/
def PnL (S : Addr) : List V → List (Addr × Obj) → Prop := fun ys pins => ∃ (acc : Array Value) (c : Nat), pins = [(S, lstObj acc c)] ∧ Vals ys acc.toList
def CTup : List V → V → Hp → Prop → Prop := fun ys _ _ Nx => ys.length < sizeLine ∧ Nx
section
variable {Z : Cx} {A : Around} {fp : List Addr} {tn : Nat → Heap → Prop} {σw : L2.St} {vs : List Nat} {Qe : List V → Hp → Prop} {S : Addr}
theorem ext_loop {a : Addr} {g : Nat} {res : Value} {R : Result → Shared → Prop} (hh : A.handled = none) (hroom : A.depth < recursionLimit) (hpn : ∀ p ∈ Z.pn, p.1 ≠ S) (hA : Apart Z S) (htn : ∀ i h h', tn i h → (∀ b o, b ≠ S → h.get? b = some o → h'.get? b = some o) → tn i h')
    (gen : ∀ ys σ H s, Hold Z (PnL S) ys σ H s → s.heap.IsGen a g) (hR : ∀ ys σ H s, Hold Z (PnL S) ys σ H s → Qe ys H → R (.ok (.ret res)) s) :
    ∀ (n : Nat) (gs : GenState) (ys : List V) (σ : L2.St) (H : Hp) (i : Nat) (s : Shared), Hold Z (PnL S) ys σ H s → s.gens[g]? = some gs → tn i s.heap → Sleep Z A.in1.in1 (PnL S) fp tn σw vs CTup Qe n gs ys σ H i →
      codeAny (model Z.prog Z.w) A (.builtin "list.extend.loop" ⟨[.ref S, .ref a, res], []⟩) R s := by
  -- a turn
  have push : ∀ {ys : List V} {y : V} {v : Value} {σ : L2.St} {H : Hp} {s : Shared} {E : Value → Shared → Prop} {Q : PySem.Fin → Shared → Prop}, Hold Z (PnL S) ys σ H s → RelV y v → ys.length < sizeLine →
      (∀ s2, Hold Z (PnL S) (ys ++ [y]) σ H s2 → s2.gens = s.gens → (∀ b o, b ≠ S → s.heap.get? b = some o → s2.heap.get? b = some o) → Q (.again (.builtin "list.extend.loop" ⟨[.ref S, .ref a, res], []⟩)) s2) →
      wpAny (model Z.prog Z.w) A.in1 (updateSeq S (·.push v) >>= fun _ => again (.builtin "list.extend.loop" ⟨[.ref S, .ref a, res], []⟩)) Q E s := by
    intro ys y v σ H s E Q hold ry hlen hQ
    obtain ⟨pins, ⟨acc, c, rfl, ra⟩, I⟩ := hold
    have hS : s.heap.get? S = some (lstObj acc c) := (I.pin (S, lstObj acc c) (List.mem_append_right _ List.mem_cons_self)).1
    have hsz : acc.size = ys.length := by
      have e1 := ra.length
      have e2 : acc.toList.length = acc.size := by simp
      omega
    refine wpAny_bind (wpAny_updateSeq hS rfl ?_ (by rw [hsz]; omega) (by show (acc.push v).size ≤ sizeLine + 1; rw [Array.size_push, hsz]; omega))
    obtain ⟨acc', c', r', I'⟩ := GI.woken (ip := []) hpn (fun p hp => by cases hp) hA ⟨acc, c, ra, I⟩ ry (Slept.push (G := s.gens) hS I.bare)
    exact wpAny_pure (hQ _ ⟨_, ⟨acc', c', rfl, r'⟩, I'⟩ rfl fun b o hb e => (Heap.get?_update_other _ _ (Ne.symm hb)).trans e)
  intro n
  induction n with
  | zero =>
    intro gs ys σ H i s hold hgs ht sl
    refine codeAny_builtin F.entry_extend_loop ?_
    rw [Around.under_plainId F.plain_extend_loop _]
    show wpAny _ A.in1 (pyNext (.ref a) >>= _) _ _ s
    refine wpAny_bind (gen_next (A := A.in1) hh hroom gen hold hgs sl ht (fun ys' y v σ' H' i' Nx gs' s1 h1 h2 h3 _ h4 _ h5 h6 => ?_) (fun ys' σ' H' s1 h1 h2 => ?_))
    · refine push h1 h3 h5.1 fun s2 q1 q2 q3 => ?_
      exact (h6 h5.2 s2 q1 (htn _ _ _ h4 q3)).elim
    · exact wpAny_pure (hR _ _ _ _ h1 h2)
  | succ n ih =>
    intro gs ys σ H i s hold hgs ht sl
    refine codeAny_builtin F.entry_extend_loop ?_
    rw [Around.under_plainId F.plain_extend_loop _]
    show wpAny _ A.in1 (pyNext (.ref a) >>= _) _ _ s
    refine wpAny_bind (gen_next (A := A.in1) hh hroom gen hold hgs sl ht (fun ys' y v σ' H' i' Nx gs' s1 h1 h2 h3 _ h4 _ h5 h6 => ?_) (fun ys' σ' H' s1 h1 h2 => ?_))
    · refine push h1 h3 h5.1 fun s2 q1 q2 q3 => ?_
      exact ⟨plainId_quiet F.plain_extend_loop _, ih gs' (ys' ++ [y]) σ' H' i' s2 q1 (by rw [q2]; exact h2) (htn _ _ _ h4 q3) (h6 h5.2)⟩
    · exact wpAny_pure (hR _ _ _ _ h1 h2)
end
section
variable {prog : Program} {w : World} {A : Around} {E : Value → Shared → Prop} {s : Shared} {a : Addr}
theorem collect_gen {g : Nat} {Q : List Value → Shared → Prop} (hg : s.heap.IsGen a g) (hcs : ∃ o, s.heap.get? a = some o)
    (h : ∀ (S : Addr) (s6 : Shared) (c : Nat), S = s.heap.objs.size → (∀ b o, s.heap.get? b = some o → s6.heap.get? b = some o) → s6.heap.get? S = some (lstObj #[] c) → s6.os = s.os → s6.gens = s.gens →
      codeAny (model prog w) A (.builtin "list.extend.loop" ⟨[.ref S, .ref a, .ref S], []⟩) (fun r s' => r = .ok (.ret (.ref S)) ∧ ∃ acc c, s'.heap.get? S = some (lstObj acc c) ∧ Q acc.toList s') s6) : wpAny (model prog w) A (collect (.ref a)) Q E s := by
  have hlt : a < s.heap.objs.size := let ⟨o, e⟩ := hcs; Heap.lt_size e
  have hSI : s.heap.objs.size ≠ a := Nat.ne_of_gt hlt
  unfold collect
  refine wpAny_bind (wpAny_runValue (codeAny_builtin F.entry_proto_collect ?_))
  rw [Around.under_plainId F.plain_proto_collect _]
  show wpAny _ A.in1 (newList [] >>= fun l => again (.builtin "list.__iadd__" ⟨[l, .ref a], []⟩)) _ _ s
  refine wpAny_bind (wpAny_newObj_type ?_)
  refine wpAny_pure ⟨plainId_quiet F.plain_list_iadd _, codeAny_builtin F.entry_list_iadd ?_⟩
  rw [Around.under_plainId F.plain_list_iadd _]
  have k1 : ∀ b o, s.heap.get? b = some o → (s.heap.push { cls := .type "list", data := .seq ([] : List Value).toArray }).get? b = some o := fun b o e => Heap.get?_push_of_some _ e
  show wpAny _ A.in1 (Builtin.List.listExtendWith (.ref s.heap.objs.size) (.ref a) (.ref s.heap.objs.size)) _ _ _
  unfold Builtin.List.listExtendWith
  have gty : ∀ {h : Heap}, (∀ b o, s.heap.get? b = some o → h.get? b = some o) → h.IsGen a g := fun {h} q => hg.keeps q
  refine wpAny_bind (wpAny_typeOf (Heap.IsGen.typeIs (s := { s with heap := _ }) (gty k1)) ?_)
  have h1 : Builtin.List.listSameRef (.ref s.heap.objs.size) (.ref a) = false := by simp [Builtin.List.listSameRef, hSI]
  have h2 : (Value.type "generator" == Value.type "list") = false := by decide
  have h3 : (Value.type "generator" == Value.type "tuple") = false := by decide
  simp only [h1, h2, h3, Bool.or_false, Bool.false_eq_true, if_false]
  refine wpAny_bind (wpAny_pyIter_gen (s := { s with heap := _ }) (gty k1) ?_)
  refine wpAny_bind (wpAny_holding ?_)
  unfold Builtin.List.listLengthHint
  refine wpAny_bind (wpAny_specialOf (Heap.IsGen.typeIs (s := { s with heap := _ }) (gty k1)) F.gen_no_len ?_)
  show wpAny _ A.in1 (specialOf (Value.ref a) (Str.ofString "__length_hint__") >>= _) _ _ _
  refine wpAny_bind (wpAny_specialOf (Heap.IsGen.typeIs (s := { s with heap := _ }) (gty k1)) F.gen_no_hint ?_)
  refine wpAny_pure ?_
  show wpAny _ A.in1 (rule "list.extend.makes-room" >>= fun _ => Builtin.List.listTouch (.ref s.heap.objs.size) >>= fun _ =>
    again (.builtin "list.extend.loop" ⟨[.ref s.heap.objs.size, .ref a, .ref s.heap.objs.size], []⟩)) _ _ _
  refine wpAny_bind (wpAny_rule ?_)
  have hS₁ : (s.heap.push { cls := .type "list", data := .seq ([] : List Value).toArray }).get? s.heap.objs.size = some { cls := .type "list", data := .seq ([] : List Value).toArray } := Heap.get?_push_size _ rfl
  refine wpAny_bind ?_
  show wpAny _ A.in1 (updateSeq s.heap.objs.size (·.push .none) >>= fun _ => updateSeq s.heap.objs.size (·.pop)) _ _ _
  refine wpAny_bind (wpAny_updateSeq hS₁ rfl ?_)
  have hS₂ := Heap.get?_update_self (Obj.mapSeq (·.push Value.none)) hS₁ rfl
  refine wpAny_updateSeq hS₂ rfl ?_
  have hS₃ := Heap.get?_update_self (Obj.mapSeq (·.pop)) hS₂ rfl
  refine wpAny_pure ⟨plainId_quiet F.plain_extend_loop _, codeAny_mono (h s.heap.objs.size _ _ rfl (fun b o e => ?_) hS₃ rfl rfl) fun r s' q => ?_⟩
  · have hb : b ≠ s.heap.objs.size := Nat.ne_of_lt (Heap.lt_size e)
    exact (Heap.get?_update_other _ _ (Ne.symm hb)).trans ((Heap.get?_update_other _ _ (Ne.symm hb)).trans (k1 b o e))
  · obtain ⟨rfl, acc, c, e, q⟩ := q
    show wpAny _ A (load s.heap.objs.size >>= _) _ _ s'
    refine wpAny_bind (wpAny_load e ?_)
    exact wpAny_pure q
end
end Gx
set_option maxRecDepth 100000
set_option maxHeartbeats 1000000
namespace Gx
open PySem PySem.Spec PyProof.Rows L2 GenW
open AutoSeq1 (wpAny_loadPart')

def tTupG (wi : TI) (g : TG) (tt : TT) (te : TE) (vs : List Nat) (P : Addr) : TE := fun σ H Q => tGx wi g tt te vs P CTup (fun ys H => ys.length ≤ sizeLine ∧ ∀ t, H t = none → Q (.ref t) (upd H t (.tup ys))) σ H
section
variable {prog : Program} {w : World} {A : Around} {E : Value → Shared → Prop} {s : Shared} {a : Addr}
/-- tuple(g) -/
theorem tuple_gen {g : Nat} {Q : Value → Shared → Prop} (hg : s.heap.IsGen a g) (hcs : ∃ o, s.heap.get? a = some o)
    (h : ∀ (S : Addr) (s6 : Shared) (c : Nat), S = s.heap.objs.size → (∀ b o, s.heap.get? b = some o → s6.heap.get? b = some o) → s6.heap.get? S = some (lstObj #[] c) → s6.os = s.os → s6.gens = s.gens →
      codeAny (model prog w) A.in1.in1 (.builtin "list.extend.loop" ⟨[.ref S, .ref a, .ref S], []⟩) (fun r s' => r = .ok (.ret (.ref S)) ∧ ∃ acc c, s'.heap.get? S = some (lstObj acc c) ∧ acc.size ≤ sizeLine ∧
        Q (.ref s'.heap.objs.size) { s' with heap := s'.heap.push { cls := .type "tuple", data := .seq acc } }) s6) : wpAny (model prog w) A (call (.type "tuple") [.ref a]) Q E s := by
  refine callType_codes (Q₁ := fun obj s₁ => s₁.TypeIs obj "tuple" ∧ Q obj s₁) F.called_tuple (F.typeCall_tuple_1 _) F.entry_object_init ?_ fun obj s₁ h₁ => ?_
  · refine codeAny_of_tree ?_
    show wpAny _ A.in1.in1 (do checkBuiltinCall "tuple.__new__" ⟨[.type "tuple", .ref a], []⟩; again (.builtin "tuple.__new__" ⟨[.type "tuple", .ref a], []⟩)) _ _ s
    refine wpAny_bind (wpAny_of_eq (F.newCall_tuple_1 _) (wpAny_pure ⟨plainId_quiet F.plain_tuple_new _, codeAny_builtin F.entry_tuple_new ?_⟩))
    rw [Around.under_plainId F.plain_tuple_new _]
    have hsub := sub_tuple_self
    have hinit := init_tuple_lookup
    have hmh := madeHere_tuple
    have hTI := Heap.IsGen.typeIs hg
    wp_walk using wpAny_typeOf hTI, collect_gen hg hcs
    intro S s6 c e1 e2 e3 e4 e5
    refine codeAny_mono (h S s6 c e1 e2 e3 e4 e5) fun r s' q => ?_
    obtain ⟨rfl, acc, c', q1, q2, q3⟩ := q
    refine ⟨rfl, acc, c', q1, ?_⟩
    show wpAny _ _ (Builtin.Tuple.tupleExact acc.toList.toArray >>= fun v => ret v) _ _ _
    unfold Builtin.Tuple.tupleExact
    have ea : acc.toList.toArray = acc := by simp
    rw [ea]
    refine wpAny_bind (wpAny_newObj_type ?_ (by show acc.size ≤ sizeLine; exact q2))
    exact wpAny_pure ⟨⟨_, Heap.get?_push_size _ rfl, rfl⟩, q3⟩
  · exact ⟨h₁.1, F.args_object_init_2 obj _, object_init_meets F.called_tuple.init.lookup F.called_tuple.made (by decide) prog w A.in1 _ s₁ ⟨h₁.1, rfl, h₁.2⟩⟩
end
section
variable {X : Cx} {elt tg iter : Expr} {ifs : List Expr} {scope : Scope} {gpos p pos : Pos} {own : List (Str × Nat)} {wi : TI} {g : TG} {tt : TT} {te : TE} {c P : Addr} {k : Nat}
theorem pe_tupG (hr : Room (k + 1) X.A) (hgl : Gl X "tuple") (hm : X.mg "tuple" = none) (TB : GxR.TabB X.base X.mg c P) (hcode : X.env.code = .ref c) (ok : GOk X scope own) (hi : PI X tg iter wi)
    (hg : InG k X scope fun Y => PG Y tg g) (ht : InG k X scope fun Y => PTs Y ifs tt) (he : InG k X scope fun Y => PE Y elt te)
    (hs : ∀ v, genFold iter X.env v = pure v) (hb : bootBuiltins "tuple" = some (.type "tuple"))
    (hst : starEach [.GeneratorExp elt [⟨tg, iter, ifs, 0⟩] scope gpos] X.env = (false, eval (.GeneratorExp elt [⟨tg, iter, ifs, 0⟩] scope gpos) X.env) :: starEach [] X.env := by rfl) :
    PE X (.Call (.Name "tuple" p) [.GeneratorExp elt [⟨tg, iter, ifs, 0⟩] scope gpos] [] pos) (tTupG wi g tt te (own.map (·.2)) P) := by
  refine ⟨fun pins s σ H Q I h => ?_⟩
  refine wpAny_Call_Name_kw (ld_blt I hgl hm hb ?_)
  refine PyProof.Rows.callWith_type1 ?_ hst (by rfl)
  rw [hst]
  show wpAny _ _ (spliced ((false, eval (.GeneratorExp elt [⟨tg, iter, ifs, 0⟩] scope gpos) X.env) :: backTo pos (starEach [] X.env))) _ _ s
  refine Calls.spliced_cons (gen_make hr TB hcode ok hi hs I h fun J H1 hR => ⟨hR.1, fun s5 a H2 gi go cenv it fp tn s4 tb N => ?_⟩)
  obtain ⟨W, ⟨m, w⟩, turn⟩ := hR.2 H2 tb
  refine Calls.spliced_nil ?_
  refine tuple_gen (N.gen _ N.obj) ⟨_, N.obj⟩ fun S s6 c6 hS kp eS os6 g6 => ?_
  obtain ⟨code, hce⟩ := N.env
  have B2 := room_in4 hr cenv
  have hfr : X.A.in1.in1.in1.in1.frames = some X.stack := N.inv.ok.frames
  have cL : cenv.locals = s4.heap.objs.size := by rw [hce]; rfl
  have cC : cenv.cells = cloFrom X.env.cells scope.names [] := by rw [hce]; rfl
  have h4S : s4.heap.objs.size < S := Nat.lt_of_lt_of_le (Nat.lt_trans N.lo N.hi) (Nat.le_of_eq hS.symm)
  have aS : a ≠ S := by rw [hS]; exact Nat.ne_of_lt N.hi
  have I6 : Inv (gcx X (X.A.in1.in1.in1.in1.deeper cenv) s4 H2 cenv fp [(a, go)]) [(S, lstObj #[] c6)] (L2.wipe σ (own.map (·.2))) H2 s6 :=
    N.inv1 (B := X.A.in1.in1.in1.in1) (pn := [(a, go)]) (pins' := [(S, lstObj #[] c6)]) ok hr.hd hfr os6 (by rw [g6]; exact N.bare) kp fun q hq => by
      rcases List.mem_append.mp hq with z | z
      · exact .inl (List.mem_singleton.mp z)
      · rw [List.mem_singleton.mp z]
        exact .inr ⟨Nat.le_of_eq hS.symm, eS, fun v z => nomatch z⟩
  have hold : Hold (gcx X (X.A.in1.in1.in1.in1.deeper cenv) s4 H2 cenv fp [(a, go)]) (PnL S) [] (L2.wipe σ (own.map (·.2))) H2 s6 := ⟨_, ⟨#[], c6, rfl, .nil⟩, I6⟩
  have hap : Apart (gcx X (X.A.in1.in1.in1.in1.deeper cenv) s4 H2 cenv fp [(a, go)]) S := by
    refine ⟨Nat.le_of_lt h4S, by show S ≠ cenv.locals; rw [cL]; exact Nat.ne_of_gt h4S, fun x cc e z => ?_⟩
    obtain ⟨v, q⟩ := (N.inv0 ok (B := X.A.in1.in1.in1.in1) hr.hd hfr (s6 := s5) rfl N.bare fun _ _ e => e).cell x cc e
    obtain ⟨ob, ho, _⟩ := q
    have hlt := Heap.lt_size ho
    rw [z, hS] at hlt
    exact Nat.lt_irrefl _ hlt
  have sl := N.sleep (B := X.A.in1.in1.in1.in1) (pn := [(a, go)]) (Pn := PnL S) ok hr.hd hfr (by rw [hce]; exact hg _ _ _ _ _ _ _ (by rw [← hce]; exact B2) rfl) (by rw [hce]; exact ht _ _ _ _ _ _ _ (by rw [← hce]; exact B2) rfl) (by rw [hce]; exact he _ _ _ _ _ _ _ (by rw [← hce]; exact B2) rfl)
    (fun q hq => by simpa using hq) (fun ys pins' h q hq => by
      obtain ⟨acc, cc, rfl, _⟩ := h
      rw [List.mem_singleton.mp hq]
      exact Nat.le_of_eq hS.symm) turn (Nat.lt_succ_self m) w
  have nfp : ∀ b ∈ fp, b ≠ S := fun b hb => Nat.ne_of_lt (Nat.lt_trans (N.fp b hb).2 h4S)
  refine ext_loop (tn := tn) (Z := gcx X (X.A.in1.in1.in1.in1.deeper cenv) s4 H2 cenv fp [(a, go)]) (A := X.A.in1.in1) hr.hd (by have := hr.dp; show X.A.depth < _; omega) (fun q hq => by rw [List.mem_singleton.mp hq]; exact aS) hap (fun i h h' t k => N.turn.keep _ _ _ t fun b hb o e => k b o (nfp b hb) e)
    (fun ys σ' H' s' h => ?_) (fun ys σ' H' s' h q => ?_) (m + 1) _ [] _ H2 0 s6 hold (by rw [g6]; exact N.st) (N.tns kp) sl
  · obtain ⟨_, _, I'⟩ := h
    exact N.isGen I' (List.mem_singleton.mpr rfl)
  · obtain ⟨pins', ⟨acc, cc, rfl, ra⟩, I'⟩ := h
    have hsz : acc.size = ys.length := by
      have e1 := ra.length
      have e2 : acc.toList.length = acc.size := by simp
      omega
    refine ⟨rfl, acc, cc, (I'.pin (S, lstObj acc cc) (List.mem_append_right _ List.mem_cons_self)).1, by rw [hsz]; exact q.1, ?_⟩
    have Ib := N.back I'
    have hn : H' s'.heap.objs.size = none := Ib.hok.fresh (Nat.le_refl _)
    refine ⟨.ref s'.heap.objs.size, _, Ib.laid (t' := s'.toks) (fun b o e => Heap.get?_push_of_some _ e) (Nat.le_refl _) (o := .tup ys) ⟨q.1, acc.toList, ra, ?_⟩, rfl, q.2 _ hn⟩
    rw [show acc.toList.toArray = acc by simp]
    exact ⟨_, Heap.get?_push_size _ rfl, rfl, _, rfl⟩
end
end Gx
set_option maxRecDepth 100000
namespace Dl
open PySem PySem.Spec PyProof.Rows L2

/-- the world holds the table of code objects at P -/
structure Tabs (L : Wd) (P : Addr) : Prop where
  mu : ∀ w, L.mu w P
  tab : ∀ w H, L.rep w H → GxR.TabG H P
  put : ∀ w H H', L.rep w H → GxR.Tabbed P H H' → L.rep w H'
variable {L : Wd}
theorem At.tabbed {Φ : Ph L} {δ : DEnv} {w : L.W} {σ : L2.St} {H H' : Hp} {P : Addr} (A : At Φ δ w σ H) (T : Tabs L P) (t : GxR.Tabbed P H H') : At Φ δ w σ H' ∧ Step (Mof L δ σ w) H (Mof L δ σ w) H' := by
  have ne : ∀ b, ¬ L.mu w b → b ≠ P := fun b n e => n (e ▸ T.mu w)
  refine A.called (T.put w H H' A.rep t) ⟨fun b o n e => by rw [t.2 b (ne b n)]; exact e, fun b h => .inl h, fun b h => ?_, fun b vs e => ?_⟩
  rotate_left
  · obtain ⟨ps, z, _⟩ := T.tab w H A.rep
    rw [t.2 b fun q => by rw [q, z] at e; cases e]
    exact e
  by_cases e : b = P
  · obtain ⟨ps, z, _⟩ := t.1
    rw [e, z]
    exact fun z => nomatch z
  · rw [t.2 b e]; exact h
/-- the turns of a generator expression; acc: what is out; C: what its consumer does with an item and what follows; Z: at the end -/
def dGen (vs : List Nat) (g : DG) (t : DT L) (e : DE L) (C : List D → D → DEnv → L.W → (DEnv → L.W → Prop) → Prop) (Z : List D → DEnv → L.W → Prop) : List D → List D → DEnv → L.W → Prop
  | [], acc, δ, w => Z acc δ w
  | x :: xs, acc, δ, w => g x (wipeD vs 0 δ) fun δ1 => t δ1 w fun c δ2 w2 =>
    if c = true then e δ2 w2 fun y δ3 w3 => C acc y (mixD vs 0 δ δ3) w3 (dGen vs g t e C Z xs (acc ++ [y])) else dGen vs g t e C Z xs acc (mixD vs 0 δ δ2) w2
def dcAny (Q : D → DEnv → L.W → Prop) : List D → D → DEnv → L.W → (DEnv → L.W → Prop) → Prop := fun _ y δ w N => ∃ b, y = .bl b ∧ if b = true then Q (.bl true) δ w else N δ w
def dcAll (Q : D → DEnv → L.W → Prop) : List D → D → DEnv → L.W → (DEnv → L.W → Prop) → Prop := fun _ y δ w N => ∃ b, y = .bl b ∧ if b = true then N δ w else Q (.bl false) δ w
def dcTup : List D → D → DEnv → L.W → (DEnv → L.W → Prop) → Prop := fun acc _ δ w N => acc.length < sizeLine ∧ N δ w
def deAny (vs : List Nat) (it : DA L) (g : DG) (t : DT L) (e : DE L) : DE L := fun δ w Q => it δ w fun xs δ' w' => NoOwn vs δ' ∧ dGen vs g t e (dcAny Q) (fun _ => Q (.bl false)) xs [] δ' w'
def deAll (vs : List Nat) (it : DA L) (g : DG) (t : DT L) (e : DE L) : DE L := fun δ w Q => it δ w fun xs δ' w' => NoOwn vs δ' ∧ dGen vs g t e (dcAll Q) (fun _ => Q (.bl true)) xs [] δ' w'
def deTupG (vs : List Nat) (it : DA L) (g : DG) (t : DT L) (e : DE L) : DE L := fun δ w Q => it δ w fun xs δ' w' => NoOwn vs δ' ∧ dGen vs g t e dcTup (fun acc δ w => acc.length ≤ sizeLine ∧ Q (.tup acc) δ w) xs [] δ' w'
/-- the turns, in the machine's terms -/
theorem turns_of {Φ : Ph L} {δ1 : DEnv} {w1 : L.W} {σ : L2.St} {H1 : Hp} {vs ts : List Nat} {g : DG} {t : DT L} {e : DE L} {Cd : List D → D → DEnv → L.W → (DEnv → L.W → Prop) → Prop} {Zd : List D → DEnv → L.W → Prop} {J : It} {xs : List D} {C : List V → V → Hp → Prop → Prop} {Qe : List V → Hp → Prop}
    (hts : ∀ i ∈ ts, i ∈ vs) (A1 : At Φ δ1 w1 σ H1) (no : NoOwn vs δ1) (wk : Walk J (Sof Φ δ1 σ w1) H1 xs) (hx : dGen vs g t e Cd Zd xs [] δ1 w1)
    (hC : ∀ ys acc y d δ w H N M, At Φ δ w σ H → NoOwn vs δ → Step (Mof L δ1 σ w1) H1 (Mof L δ σ w) H → RepL (Sof Φ δ σ w) H ys acc → Rep (Sof Φ δ σ w) H y d → Cd acc d δ w N → (N δ w → M) → C ys y H M)
    (hZ : ∀ ys acc δ w H, At Φ δ w σ H → NoOwn vs δ → Step (Mof L δ1 σ w1) H1 (Mof L δ σ w) H → RepL (Sof Φ δ σ w) H ys acc → Zd acc δ w → Qe ys H) :
    ∃ W : Gx.WG, (∃ m, W [] 0 m H1) ∧ Gx.Turns J (TDG L ts g) (TDT t) (TD e) (L2.wipe σ vs) vs C Qe W := by
  refine ⟨fun ys i m H' => m = xs.length - i ∧ i ≤ xs.length ∧ ∃ δ' w' acc, At Φ δ' w' σ H' ∧ NoOwn vs δ' ∧ RepL (Sof Φ δ' σ w') H' ys acc ∧ Step (Mof L δ1 σ w1) H1 (Mof L δ' σ w') H' ∧ dGen vs g t e Cd Zd (xs.drop i) acc δ' w',
    ⟨_, rfl, Nat.zero_le _, δ1, w1, [], A1, no, .nil, Step.refl _ _, hx⟩, ?_⟩
  rintro ys i m H' ⟨rfl, hi, δ', w', acc, A', no', rl, st, hc⟩
  have wk' := wk.later st.S
  by_cases hlt : i < xs.length
  · refine .inr ⟨wk'.go i _ _ hlt (Step.refl _ _), fun ys2 H2 => i + 1 ≤ xs.length ∧ ∃ δ2 w2 acc, At Φ δ2 w2 σ H2 ∧ NoOwn vs δ2 ∧ RepL (Sof Φ δ2 σ w2) H2 ys2 acc ∧ Step (Mof L δ1 σ w1) H1 (Mof L δ2 σ w2) H2 ∧ dGen vs g t e Cd Zd (xs.drop (i + 1)) acc δ2 w2,
      fun ys2 H2 h => ⟨_, by omega, rfl, h.1, h.2⟩, fun v H2 hy => ?_⟩
    obtain ⟨x, ex, sm, rx⟩ := wk'.yld i _ _ v H2 hlt (Step.refl _ _) (fun b => A'.tr) hy
    rw [List.drop_eq_getElem_cons hlt] at hc
    have ex2 : xs[i] = x := by rw [List.getElem?_eq_getElem hlt] at ex; exact Option.some.inj ex
    rw [ex2] at hc
    have A2 := A'.same sm
    have rl2 := rl.go (Step.same (S := Sof Φ δ' σ w') sm)
    obtain ⟨A3, iff3⟩ := A2.wipe no'
    have toW : ∀ (H : Hp), Step (Mof L δ' σ w') H (Mof L (wipeD vs 0 δ') (L2.wipe σ vs) w') H := fun H => sub_step (fun b z => (iff3 b).mp z) H
    refine ⟨Φ, _, w', x, _, A3, rx.go (toW H2).S, hc, fun δ3 σ3 hR A4 st4 ⟨fl, fr⟩ => ?_⟩
    have fl' : σ3.length = σ.length := by rw [fl, wipe_length]
    have fr' : ∀ j, j ∉ vs → σ3[j]? = σ[j]? := fun j hj => (fr j fun z => hj (hts j z)).trans (wipe_out hj)
    refine ⟨wipe_eq fl' fr', Φ, δ3, w', _, A4, hR, fun c δ4 w4 H4 hq A5 st5 => ?_⟩
    have sA : Step (Mof L δ' σ w') H2 (Mof L δ4 σ3 w4) H4 := (toW H2).trans (st4.trans st5)
    have fin : ∀ {δ5 : DEnv} {w5 : L.W} {H5 : Hp}, At Φ δ5 w5 σ3 H5 → Step (Mof L δ' σ w') H2 (Mof L δ5 σ3 w5) H5 → At Φ (mixD vs 0 δ' δ5) w5 σ H5 ∧ NoOwn vs (mixD vs 0 δ' δ5) ∧ Step (Mof L δ' σ w') H2 (Mof L (mixD vs 0 δ' δ5) σ w5) H5 := fun {δ5 w5 H5} A6 s6 => by
      obtain ⟨z1, z2, z3⟩ := A2.mix no' A6 s6 fl' fr'
      exact ⟨z1, z2, s6.trans (sub_step z3 H5)⟩
    have stD : ∀ {δ5 : DEnv} {w5 : L.W} {H5 : Hp}, Step (Mof L δ' σ w') H2 (Mof L δ5 σ w5) H5 → Step (Mof L δ1 σ w1) H1 (Mof L δ5 σ w5) H5 := fun s6 => (st.trans (Step.same sm)).trans s6
    cases c with
    | false =>
      obtain ⟨z1, z2, z3⟩ := fin A5 sA
      exact ⟨hlt, _, w4, acc, z1, z2, rl2.go z3.S, stD z3, hq⟩
    | true =>
      refine ⟨Φ, δ4, w4, _, A5, hq, fun y δ5 w5 u H5 hq5 A6 st6 ry => ?_⟩
      obtain ⟨z1, z2, z3⟩ := fin A6 (sA.trans st6)
      have ry5 : Rep (Sof Φ (mixD vs 0 δ' δ5) σ w5) H5 u y := by
        obtain ⟨_, _, z⟩ := A2.mix no' A6 (sA.trans st6) fl' fr'
        exact ry.go (sub_step z H5).S
      exact hC _ acc _ _ _ _ _ _ _ z1 z2 (stD z3) (rl2.go z3.S) ry5 hq5 fun n => ⟨hlt, _, w5, acc ++ [y], z1, z2, (rl2.go z3.S).snoc ry5, stD z3, n⟩
  · have e1 : i = xs.length := by omega
    subst e1
    rw [List.drop_length] at hc
    exact .inl ⟨wk'.stop _ _ (Step.refl _ _), hZ _ _ _ _ _ A' no' st rl hc⟩
section
variable {vs ts : List Nat} {it : DA L} {g : DG} {t : DT L} {e : DE L} {P : Addr}
theorem TD_any (T : Tabs L P) (hts : ∀ i ∈ ts, i ∈ vs) : ∀ σ H Q, TD (deAny vs it g t e) σ H Q → Gx.tAnyG (TDI it) (TDG L ts g) (TDT t) (TD e) vs P σ H Q := fun σ H Q ⟨Φ, δ, w, R, A, hd, q⟩ => by
  refine ⟨Φ, δ, w, _, A, hd, fun xs δ1 w1 J H1 ⟨no, hx⟩ A1 s1 wk => ⟨T.tab _ _ A1.rep, fun H2 tb => ?_⟩⟩
  obtain ⟨A2, s2⟩ := A1.tabbed T tb
  refine turns_of hts A2 no (wk.later s2.S) hx (fun ys acc y d δ w H N M B1 _ st _ rd hc hM => ?_) (fun ys acc δ w H B1 _ st _ hz => ?_)
  · obtain ⟨b, rfl, hc⟩ := hc
    cases rd
    refine ⟨b, rfl, ?_⟩
    cases b with
    | true => exact q _ _ _ _ _ hc B1 (s1.trans (s2.trans st)) (.bl true)
    | false => exact hM hc
  · exact q _ _ _ _ _ hz B1 (s1.trans (s2.trans st)) (.bl false)
theorem TD_all (T : Tabs L P) (hts : ∀ i ∈ ts, i ∈ vs) : ∀ σ H Q, TD (deAll vs it g t e) σ H Q → Gx.tAllG (TDI it) (TDG L ts g) (TDT t) (TD e) vs P σ H Q := fun σ H Q ⟨Φ, δ, w, R, A, hd, q⟩ => by
  refine ⟨Φ, δ, w, _, A, hd, fun xs δ1 w1 J H1 ⟨no, hx⟩ A1 s1 wk => ⟨T.tab _ _ A1.rep, fun H2 tb => ?_⟩⟩
  obtain ⟨A2, s2⟩ := A1.tabbed T tb
  refine turns_of hts A2 no (wk.later s2.S) hx (fun ys acc y d δ w H N M B1 _ st _ rd hc hM => ?_) (fun ys acc δ w H B1 _ st _ hz => ?_)
  · obtain ⟨b, rfl, hc⟩ := hc
    cases rd
    refine ⟨b, rfl, ?_⟩
    cases b with
    | false => exact q _ _ _ _ _ hc B1 (s1.trans (s2.trans st)) (.bl false)
    | true => exact hM hc
  · exact q _ _ _ _ _ hz B1 (s1.trans (s2.trans st)) (.bl true)
theorem TD_tupG (T : Tabs L P) (hts : ∀ i ∈ ts, i ∈ vs) : ∀ σ H Q, TD (deTupG vs it g t e) σ H Q → Gx.tTupG (TDI it) (TDG L ts g) (TDT t) (TD e) vs P σ H Q := fun σ H Q ⟨Φ, δ, w, R, A, hd, q⟩ => by
  refine ⟨Φ, δ, w, _, A, hd, fun xs δ1 w1 J H1 ⟨no, hx⟩ A1 s1 wk => ⟨T.tab _ _ A1.rep, fun H2 tb => ?_⟩⟩
  obtain ⟨A2, s2⟩ := A1.tabbed T tb
  refine turns_of hts A2 no (wk.later s2.S) hx (fun ys acc y d δ w H N M B1 _ st rl rd hc hM => ?_) (fun ys acc δ w H B1 _ st rl hz => ?_)
  · exact ⟨by rw [rl.length]; exact hc.1, hM hc.2⟩
  · refine ⟨by rw [rl.length]; exact hz.1, fun p np => ?_⟩
    have sm : Same H (upd H p (.tup ys)) := same_new np
    exact q _ _ _ _ _ hz.2 (B1.same sm) ((s1.trans (s2.trans st)).trans (Step.same sm)) (.tup upd_same (rl.go (Step.same sm)))
end
section
variable {X : Cx} {elt tg iter : Expr} {ifs : List Expr} {scope : Scope} {gpos p pos : Pos} {own : List (Str × Nat)} {it : DA L} {g : DG} {t : DT L} {e : DE L} {ts : List Nat} {c P : Addr} {k : Nat}
theorem pd_any (T : Tabs L P) (hr : Room (k + 1) X.A) (hgl : Gl X "any") (hm : X.mg "any" = none) (TB : GxR.TabB X.base X.mg c P) (hcode : X.env.code = .ref c) (ok : Gx.GOk X scope own) (hi : PI X tg iter (TDI it))
    (hg : Gx.InG k X scope fun Y => PG Y tg (TDG L ts g)) (ht : Gx.InG k X scope fun Y => PTs Y ifs (TDT t)) (he : Gx.InG k X scope fun Y => PE Y elt (TD e)) (hts : ∀ i ∈ ts, i ∈ own.map (·.2) := by decide)
    (hs : ∀ v, genFold iter X.env v = pure v := by intro _; rfl) (hb : bootBuiltins "any" = some (.builtin "any") := by rfl)
    (hst : starEach [.GeneratorExp elt [⟨tg, iter, ifs, 0⟩] scope gpos] X.env = (false, eval (.GeneratorExp elt [⟨tg, iter, ifs, 0⟩] scope gpos) X.env) :: starEach [] X.env := by rfl) :
    PE X (.Call (.Name "any" p) [.GeneratorExp elt [⟨tg, iter, ifs, 0⟩] scope gpos] [] pos) (TD (deAny (own.map (·.2)) it g t e)) := peI (Gx.pe_anyG hr hgl hm TB hcode ok hi hg ht he hs hb hst) (TD_any T hts)
theorem pd_all (T : Tabs L P) (hr : Room (k + 1) X.A) (hgl : Gl X "all") (hm : X.mg "all" = none) (TB : GxR.TabB X.base X.mg c P) (hcode : X.env.code = .ref c) (ok : Gx.GOk X scope own) (hi : PI X tg iter (TDI it))
    (hg : Gx.InG k X scope fun Y => PG Y tg (TDG L ts g)) (ht : Gx.InG k X scope fun Y => PTs Y ifs (TDT t)) (he : Gx.InG k X scope fun Y => PE Y elt (TD e)) (hts : ∀ i ∈ ts, i ∈ own.map (·.2) := by decide)
    (hs : ∀ v, genFold iter X.env v = pure v := by intro _; rfl) (hb : bootBuiltins "all" = some (.builtin "all") := by rfl)
    (hst : starEach [.GeneratorExp elt [⟨tg, iter, ifs, 0⟩] scope gpos] X.env = (false, eval (.GeneratorExp elt [⟨tg, iter, ifs, 0⟩] scope gpos) X.env) :: starEach [] X.env := by rfl) :
    PE X (.Call (.Name "all" p) [.GeneratorExp elt [⟨tg, iter, ifs, 0⟩] scope gpos] [] pos) (TD (deAll (own.map (·.2)) it g t e)) := peI (Gx.pe_allG hr hgl hm TB hcode ok hi hg ht he hs hb hst) (TD_all T hts)
theorem pd_tupG (T : Tabs L P) (hr : Room (k + 1) X.A) (hgl : Gl X "tuple") (hm : X.mg "tuple" = none) (TB : GxR.TabB X.base X.mg c P) (hcode : X.env.code = .ref c) (ok : Gx.GOk X scope own) (hi : PI X tg iter (TDI it))
    (hg : Gx.InG k X scope fun Y => PG Y tg (TDG L ts g)) (ht : Gx.InG k X scope fun Y => PTs Y ifs (TDT t)) (he : Gx.InG k X scope fun Y => PE Y elt (TD e)) (hts : ∀ i ∈ ts, i ∈ own.map (·.2) := by decide)
    (hs : ∀ v, genFold iter X.env v = pure v := by intro _; rfl) (hb : bootBuiltins "tuple" = some (.type "tuple") := by rfl)
    (hst : starEach [.GeneratorExp elt [⟨tg, iter, ifs, 0⟩] scope gpos] X.env = (false, eval (.GeneratorExp elt [⟨tg, iter, ifs, 0⟩] scope gpos) X.env) :: starEach [] X.env := by rfl) :
    PE X (.Call (.Name "tuple" p) [.GeneratorExp elt [⟨tg, iter, ifs, 0⟩] scope gpos] [] pos) (TD (deTupG (own.map (·.2)) it g t e)) := peI (Gx.pe_tupG hr hgl hm TB hcode ok hi hg ht he hs hb hst) (TD_tupG T hts)
end
end Dl
set_option maxRecDepth 100000
namespace Lk
open PySem PySem.Spec PyProof.Rows L2
/-! ### names, as lists of codes -/
abbrev cds (x : Str) : List Nat := x.cps.toList
theorem ext_cds {x y : Str} (h : cds x = cds y) : x = y := by
  obtain ⟨⟨a⟩⟩ := x
  obtain ⟨⟨b⟩⟩ := y
  have e : a = b := h
  rw [e]
def ltr (s n : Nat) : Nat := 97 + (s + 3 * n) % 26
theorem ltr_lo (s n : Nat) : 97 ≤ ltr s n ∧ ltr s n ≤ 122 := by unfold ltr; omega
theorem ltr_ne {s i j : Nat} (h : i < j) (hj : j < 12) : ltr s i ≠ ltr s j := by unfold ltr; omega
/-- a name by its mode, from the word's codes -/
def nmAt (w : List Nat) (mode s n : Nat) : List Nat :=
  if mode = 0 then [ltr s n] else if mode = 1 then w.take (n % 6) ++ [ltr s n] ++ w.drop (n % 6) else List.replicate (1 + n % 6) (ltr s n)
theorem nmAt_ne {w : List Nat} {mode s i j : Nat} (h : i < j) (hj : j < 12) : nmAt w mode s i ≠ nmAt w mode s j := by
  have hl := ltr_ne (s := s) h hj
  unfold nmAt
  by_cases h0 : mode = 0
  · rw [if_pos h0, if_pos h0]
    intro e
    exact hl (List.cons.inj e).1
  · rw [if_neg h0, if_neg h0]
    by_cases h1 : mode = 1
    · rw [if_pos h1, if_pos h1]
      intro e
      have e2 := congrArg (List.count (ltr s i)) e
      have c1 : ∀ k, List.count (ltr s i) (w.take k) + List.count (ltr s i) (w.drop k) = List.count (ltr s i) w := fun k => by
        rw [← List.count_append, List.take_append_drop]
      have a1 := c1 (i % 6)
      have a2 := c1 (j % 6)
      rw [List.count_append, List.count_append, List.count_append, List.count_append, List.count_singleton_self, List.count_singleton, if_neg (by simpa using fun z => hl z.symm)] at e2
      omega
    · rw [if_neg h1, if_neg h1]
      intro e
      have e2 := congrArg List.head? e
      rw [Nat.add_comm 1, Nat.add_comm 1, List.replicate_succ, List.replicate_succ] at e2
      exact hl (Option.some.inj e2)
theorem nmAt_ok {w : List Nat} {mode s n : Nat} (hw : w.length = 5) (ha : ∀ c ∈ w, 97 ≤ c ∧ c ≤ 122) : 1 ≤ (nmAt w mode s n).length ∧ (nmAt w mode s n).length ≤ 6 ∧ ∀ c ∈ nmAt w mode s n, 97 ≤ c ∧ c ≤ 122 := by
  unfold nmAt
  by_cases h0 : mode = 0
  · rw [if_pos h0]
    refine ⟨by simp, by simp, fun c hc => ?_⟩
    rw [List.mem_singleton.mp hc]
    exact ltr_lo s n
  · rw [if_neg h0]
    by_cases h1 : mode = 1
    · rw [if_pos h1]
      have hl : (w.take (n % 6) ++ [ltr s n] ++ w.drop (n % 6)).length = 6 := by
        simp only [List.length_append, List.length_take, List.length_drop, List.length_singleton]
        omega
      rw [hl]
      refine ⟨by decide, by decide, fun c hc => ?_⟩
      rcases List.mem_append.mp hc with hc | hc
      · rcases List.mem_append.mp hc with hc | hc
        · exact ha c (List.mem_of_mem_take hc)
        · rw [List.mem_singleton.mp hc]
          exact ltr_lo s n
      · exact ha c (List.mem_of_mem_drop hc)
    · rw [if_neg h1, List.length_replicate]
      refine ⟨by omega, by omega, fun c hc => ?_⟩
      rw [List.eq_of_mem_replicate hc]
      exact ltr_lo s n
/-- a name: one to six letters -/
def IsNm (x : Str) : Prop := 1 ≤ x.length ∧ x.length ≤ 6 ∧ ∀ c ∈ cds x, 97 ≤ c ∧ c ≤ 122
/-- each name less than the ones behind it -/
def Asc (xs : List Str) : Prop := xs.Pairwise fun a b => cds a < cds b
theorem asc_irr {a : Str} : ¬ cds a < cds a := List.lt_irrefl _
theorem Asc.nodup {xs : List Str} (h : Asc xs) : xs.Nodup := by
  refine List.Pairwise.imp (fun {a b} l e => ?_) h
  rw [e] at l
  exact asc_irr l
theorem risingS_le : ∀ (p : Str) (xs : List Str), risingS p xs = true → (p :: xs).Pairwise fun a b => ¬ cds b < cds a
  | p, [], _ => by simp
  | p, x :: r, h => by
    unfold risingS at h
    rw [Bool.and_eq_true, Bool.not_eq_true', ltCps_eq, decide_eq_false_iff_not] at h
    have ih := risingS_le x r h.2
    refine List.pairwise_cons.mpr ⟨fun b hb => ?_, ih⟩
    rcases List.mem_cons.mp hb with rfl | hb
    · exact h.1
    · have h2 := (List.pairwise_cons.mp ih).1 b hb
      exact List.le_trans (l₁ := cds p) (l₂ := cds x) (l₃ := cds b) h.1 h2
theorem sortedS_le {ys : List Str} (s : sortedS ys = true) : ys.Pairwise fun a b => ¬ cds b < cds a := by
  cases ys with
  | nil => exact .nil
  | cons x r => exact risingS_le x r s
theorem asc_of {ys : List Str} (l : ys.Pairwise fun a b => ¬ cds b < cds a) (n : ys.Nodup) : Asc ys := by
  refine List.Pairwise.imp (fun {a b} h => ?_) (List.Pairwise.and l n)
  by_cases e : cds a < cds b
  · exact e
  · exact absurd (ext_cds (List.le_antisymm (as := cds a) (bs := cds b) h.1 e)) h.2
theorem sorted_asc {ys xs : List Str} (p : ys.Perm xs) (s : sortedS ys = true) (n : xs.Nodup) : Asc ys := asc_of (sortedS_le s) (p.nodup_iff.mpr n)
/-- twelve names, ascending -/
structure Names (xs : List Str) : Prop where
  len : xs.length = 12
  asc : Asc xs
  nm : ∀ x ∈ xs, IsNm x
def nmS (w : List Nat) (mode s n : Nat) : Str := ⟨(nmAt w mode s n).toArray⟩
theorem cds_nmS {w : List Nat} {mode s n : Nat} : cds (nmS w mode s n) = nmAt w mode s n := rfl
theorem names_mk {w : List Nat} {mode s : Nat} (hw : w.length = 5) (ha : ∀ c ∈ w, 97 ≤ c ∧ c ≤ 122) {ys : List Str} (p : ys.Perm ((List.range 12).map (nmS w mode s))) (srt : sortedS ys = true) : Names ys := by
  refine ⟨by rw [p.length_eq, List.length_map, List.length_range], sorted_asc p srt ?_, fun x hx => ?_⟩
  · refine List.pairwise_map.mpr ?_
    refine List.Pairwise.imp_of_mem (fun {a b} ha hb h e => ?_) List.pairwise_lt_range
    exact nmAt_ne h (List.mem_range.mp hb) (congrArg cds e)
  · obtain ⟨n, _, rfl⟩ := List.mem_map.mp (p.mem_iff.mp hx)
    have z := nmAt_ok (mode := mode) (s := s) (n := n) hw ha
    exact ⟨by show 1 ≤ (nmAt w mode s n).toArray.size; simpa using z.1, by show (nmAt w mode s n).toArray.size ≤ 6; simpa using z.2.1, z.2.2⟩
/-! ### texts put together -/
theorem cds_app (x y : Str) : cds (x ++ y) = cds x ++ cds y := by
  show (x.cps ++ y.cps).toList = _
  rw [Array.toList_append]
theorem len_cds (x : Str) : x.length = (cds x).length := by simp [Str.length, cds]
theorem join5 (a b c d e : Nat) : cds (Txt.join "" [⟨#[a]⟩, ⟨#[b]⟩, ⟨#[c]⟩, ⟨#[d]⟩, ⟨#[e]⟩]) = [a, b, c, d, e] := by
  simp [Txt.join, Builtin.Str.glued, cds]
  rfl
theorem abc_at : ∀ i, i < 26 → (cds ("abcdefghijklmnopqrstuvwxyz" : Str)).getD i 0 = 97 + i := by decide +kernel
theorem abc_len : ("abcdefghijklmnopqrstuvwxyz" : Str).length = 26 := by decide +kernel
theorem abc_get {i : Nat} (h : i < 26) : (cds ("abcdefghijklmnopqrstuvwxyz" : Str))[i]? = some (97 + i) := by
  have e := abc_at i h
  have l := len_cds ("abcdefghijklmnopqrstuvwxyz" : Str)
  rw [abc_len] at l
  rw [List.getElem?_eq_getElem (by omega)]
  rw [List.getD_eq_getElem?_getD, List.getElem?_eq_getElem (by omega)] at e
  exact congrArg some e
theorem cut_pre (z : Str) (k : Nat) : cds (cutS z none (some k)) = (cds z).take k := by
  unfold cutS
  rw [HT.sIx_none, HT.sIx_nat]
  show ((cds z).drop 0).take (min k z.length - 0) = _
  rw [List.drop_zero, Nat.sub_zero, len_cds]
  by_cases h : k ≤ (cds z).length
  · rw [Nat.min_eq_left h]
  · rw [Nat.min_eq_right (by omega), List.take_length, List.take_of_length_le (by omega)]
theorem cut_suf (z : Str) (k : Nat) : cds (cutS z (some k) none) = (cds z).drop k := by
  unfold cutS
  rw [HT.sIx_none, HT.sIx_nat]
  show ((cds z).drop (min k z.length)).take (z.length - min k z.length) = _
  rw [len_cds]
  by_cases h : k ≤ (cds z).length
  · rw [Nat.min_eq_left h]
    exact List.take_of_length_le (by rw [List.length_drop]; omega)
  · rw [Nat.min_eq_right (by omega), List.drop_of_length_le (Nat.le_refl _), List.drop_of_length_le (by omega), List.take_nil]
theorem mul_rep (c : Nat) (n : Nat) : cds (Txt.mul ⟨#[c]⟩ ((n : Int) + 1)) = List.replicate (n + 1) c := by
  unfold Txt.mul
  rw [if_neg (by omega)]
  have h : ∀ (m : Nat) (acc : Array Nat), ((List.replicate m (#[c] : Array Nat)).foldl (· ++ ·) acc).toList = acc.toList ++ List.replicate m c := by
    intro m
    induction m with
    | zero => intro acc; simp
    | succ m ih =>
      intro acc
      rw [List.replicate_succ, List.foldl_cons, ih, Array.toList_append, List.replicate_succ]
      simp
  by_cases e : n = 0
  · subst e
    rfl
  · rw [if_neg (by simp [Str.length]; omega)]
    show ((List.replicate ((n : Int) + 1).toNat (#[c] : Array Nat)).foldl (· ++ ·) #[]).toList = _
    rw [h]
    show [] ++ _ = _
    rw [List.nil_append, show ((n : Int) + 1).toNat = n + 1 by omega]
end Lk
set_option maxRecDepth 100000
namespace Lk
open PySem PySem.Spec PyProof.Rows L2
/-! ### the order of tuples of texts -/
def lexS : List Str → List Str → Bool
  | [], [] => false
  | [], _ :: _ => true
  | _ :: _, [] => false
  | x :: xs, y :: ys => if x = y then lexS xs ys else decide (cds x < cds y)
theorem lexS_iff : ∀ {xs ys : List Str}, lexS xs ys = true ↔ xs.map cds < ys.map cds
  | [], [] => by simp [lexS]
  | [], _ :: _ => by simp [lexS]
  | _ :: _, [] => by simp [lexS]
  | x :: xs, y :: ys => by
    have ih := @lexS_iff xs ys
    rw [List.map_cons, List.map_cons, List.cons_lt_cons_iff]
    unfold lexS
    by_cases e : x = y
    · subst e
      rw [if_pos rfl, ih]
      constructor
      · exact fun h => .inr ⟨rfl, h⟩
      · rintro (h | h)
        · exact absurd h asc_irr
        · exact h.2
    · rw [if_neg e, decide_eq_true_iff]
      constructor
      · exact fun h => .inl h
      · rintro (h | h)
        · exact h
        · exact absurd (ext_cds h.1) e
theorem lexS_swo : SrtO.Swo lexS := by
  refine ⟨fun x y h => ?_, fun x y z h1 h2 => ?_⟩
  · have h' := lexS_iff.mp h
    rw [Bool.eq_false_iff, ne_eq, lexS_iff]
    exact List.lt_asymm h'
  · rw [Bool.eq_false_iff, ne_eq, lexS_iff] at h1 h2 ⊢
    exact List.le_trans (l₁ := x.map cds) (l₂ := y.map cds) (l₃ := z.map cds) h1 h2
section
open PySem.SeqAt
open PySem.AutoSeq1 (wpAny_loadPart')
open PySem.MeetsSeq PySem.MeetsSeq2 PySem.MeetsSeq3
theorem eqAt_str (A : Around) (s : Shared) (a : Str) (t : Tok) (c : Str) (u : Tok) : ∃ e, SeqAt.EqAt A s (.str a t) (.str c u) e ∧ (e = true ↔ a = c) :=
  ⟨(a == c), SeqAt.EqAt.str_str a t c u, by simp⟩
theorem rcLt_str (A : Around) (s : Shared) (a : Str) (t : Tok) (c : Str) (u : Tok) (prog : Program) (w : World) (E : Value → Shared → Prop) (Q : Value → Shared → Prop) (h : Q (.bool (decide (cds a < cds c))) s) :
    wpAny (model prog w) A (richCompare .Lt (.str a t) (.str c u)) Q E s :=
  (PyProof.Rows.lt_str h : wpAny (model prog w) A (compareOp .Lt (.str a t) (.str c u)) Q E s)
theorem strsAre_len {vs : List Value} {xs : List Str} (h : StrsAre vs xs) : vs.length = xs.length := by
  induction h with
  | nil => rfl
  | cons y t _ ih => rw [List.length_cons, List.length_cons, ih]
theorem tuple_lt_strs (l b : Addr) (items items2 : Array Value) (n n2 : Nat) (dd dd2 : Option Addr) (sl sl2 : Array (Option Value)) (ns ms : List Str) (hi : StrsAre items.toList ns) (hj : StrsAre items2.toList ms) :
    Meets (Builtin.«tuple.__lt__» ⟨[.ref l, .ref b], []⟩)
      (fun _ R s => s.heap.get? l = some { cls := .type "tuple", dict := dd, data := .seq items n, slots := sl } ∧ s.heap.get? b = some { cls := .type "tuple", dict := dd2, data := .seq items2 n2, slots := sl2 } ∧
        R (.ok (.ret (.bool (lexS ns ms)))) s) :=
  .of_wp fun prog w A R s h => by
    obtain ⟨hp, g, d, tk, os⟩ := s; obtain ⟨hl, hb, h⟩ := h
    have f2 := AutoSeq1.sub_tuple_tuple
    have z1 : items.size = ns.length := by rw [← strsAre_len hi]; simp
    have z2 : items2.size = ms.length := by rw [← strsAre_len hj]; simp
    wp_walk using wpAny_loadPart' hl, wpAny_loadPart' hb, wpAny_forIn_list _ (fun rest b s' => b.1 = none ∧ s' = ⟨hp, g, d, tk, os⟩ ∧ ∃ (vs ws : List Value) (ns' ms' : List Str), rest = vs.zip ws ∧
      StrsAre vs ns' ∧ StrsAre ws ms' ∧ ns'.length + items2.size = ms'.length + items.size ∧ R (.ok (.ret (.bool (lexS ns' ms')))) ⟨hp, g, d, tk, os⟩) _
    case turn =>
      rintro ⟨y, x⟩ rest b s' ⟨hb', rfl, vs, ws, ns', ms', hz, hvi, hwi, hlen, hR⟩
      cases hvi with
      | nil => rw [List.zip_nil_left] at hz; cases hz
      | cons a t hvi' =>
        cases hwi with
        | nil => rw [List.zip_nil_right] at hz; cases hz
        | cons c u hwi' =>
          rw [List.zip_cons_cons] at hz
          injection hz with hyx hrest
          injection hyx with hy hx
          subst hy hx
          unfold lexS at hR
          simp only [List.length_cons] at hlen
          obtain ⟨e, he, hiff⟩ := eqAt_str A.in1 ⟨hp, g, d, tk, os⟩ a t c u
          refine wpAny_bind (he prog w _ _ ?_)
          cases e with
          | true =>
            rw [if_pos (hiff.mp rfl)] at hR
            wp_walk
            exact ⟨rfl, rfl, _, _, _, _, hrest, hvi', hwi', by omega, hR⟩
          | false =>
            rw [if_neg (fun q => absurd (hiff.mpr q) Bool.false_ne_true)] at hR
            have hri := rcLt_str A.in1 ⟨hp, g, d, tk, os⟩ a t c u prog w
            wp_walk using hri
            exact ⟨_, rfl, by simpa using hR⟩
    case fin =>
      rintro ⟨b1, b2⟩ s' ⟨hb', rfl, vs, ws, ns', ms', hz, hvi, hwi, hlen, hR⟩
      simp only at hb'
      subst hb'
      have hv : lexS ns' ms' = decide (items.size < items2.size) := by
        cases hvi with
        | nil =>
          cases hwi with
          | nil =>
            simp only [List.length_nil] at hlen
            exact (decide_eq_false (by omega)).symm
          | cons c u hw =>
            simp only [List.length_nil, List.length_cons] at hlen
            exact (decide_eq_true (by omega)).symm
        | cons a t hv =>
          cases hwi with
          | nil =>
            simp only [List.length_nil, List.length_cons] at hlen
            exact (decide_eq_false (by omega)).symm
          | cons c u hw =>
            rw [List.zip_cons_cons] at hz
            cases hz
      rw [hv] at hR
      wp_walk
      exact ⟨_, rfl, by simpa [Builtin.Tuple.tupleCompareSizes] using hR⟩
    case h =>
      exact ⟨rfl, rfl, items.toList, items2.toList, ns, ms, rfl, hi, hj, by omega, h⟩
end
section
variable {prog : Program} {w : World} {A : Around} {E : Value → Shared → Prop} {s : Shared}
theorem lt_tupStrs {l b : Addr} {items items2 : Array Value} {ns ms : List Str} {Q : Value → Shared → Prop} (hl : IsTup s.heap l items) (hb : IsTup s.heap b items2) (hi : StrsAre items.toList ns) (hj : StrsAre items2.toList ms)
    (hu : A.units < cLine) (h : Q (.bool (lexS ns ms)) s) : wpAny (model prog w) A (compareOp .Lt (.ref l) (.ref b)) Q E s := by
  obtain ⟨⟨cls, dd, data, sl⟩, ho, hc, n, hd⟩ := id hl
  obtain ⟨⟨cls2, dd2, data2, sl2⟩, ho2, hc2, n2, hd2⟩ := id hb
  simp only at hc hd hc2 hd2
  subst hc hd hc2 hd2
  exact richCompare_meets_room (op := .Lt) ⟨_, ho, rfl⟩ ⟨_, ho2, rfl⟩ PySem.F.slot_tuple_lt PySem.F.entry_tuple_lt (PySem.F.args_tuple_lt_2 _ _) (tuple_lt_strs l b items items2 n n2 dd dd2 sl sl2 ns ms hi hj)
    ⟨ho, ho2, show Value.bool (lexS ns ms) ≠ Value.notImplemented ∧ Q (.bool (lexS ns ms)) s from ⟨(fun x => nomatch x), h⟩⟩ hu
/-- at v: a tuple of the texts xs -/
def TupS (h : Heap) (v : Value) (xs : List Str) : Prop := ∃ a its, v = .ref a ∧ IsTup h a its ∧ StrsAre its.toList xs
/-- one comparison by the tuples' own road -/
theorem lex_walk : ∀ (b : Bool) {vs us : List Value} {xs ys : List Str} (fin : Bool) (i : Nat), StrsAre vs xs → StrsAre us ys → (∀ (Z : True), (∃ d : Nat, True) → True) →
    (fin = lexS (xs.drop (min xs.length ys.length)) (ys.drop (min xs.length ys.length))) →
    PySem.W.KatLex prog w A b fin (fun r s' => s' = s ∧ r = lexS xs ys) (vs.zip us) i s
  | b, [], us, xs, ys, fin, i, h1, h2, _, hf => by
    cases h1
    rw [List.zip_nil_left]
    refine PySem.W.kat_nil ⟨rfl, ?_⟩
    simpa using hf
  | b, v :: vs, [], xs, ys, fin, i, h1, h2, _, hf => by
    cases h2
    rw [List.zip_nil_right]
    refine PySem.W.kat_nil ⟨rfl, ?_⟩
    simpa using hf
  | b, v :: vs, u :: us, xs, ys, fin, i, h1, h2, z, hf => by
    cases h1 with
    | cons x t h1 =>
      cases h2 with
      | cons y t2 h2 =>
        rw [List.zip_cons_cons]
        refine PySem.W.kat_cons (SeqAt.EqAt.str_str x t y t2 prog w _ _ ?_)
        refine PySem.W.kat_go (fun e1 => ?_) (fun e1 => ?_)
        · have ex : x = y := by simpa using e1
          subst ex
          refine PySem.W.kat_yes ?_
          have g : ∀ (a b : List Str), lexS (x :: a) (x :: b) = lexS a b := fun a b => by
            show (if x = x then lexS a b else _) = _
            rw [if_pos rfl]
          rw [g]
          refine lex_walk b fin (i + 1) h1 h2 z ?_
          simpa using hf
        · have ex : ¬ x = y := by simpa using e1
          refine PySem.W.kat_no ?_
          have g : ∀ (a b : List Str), lexS (x :: a) (y :: b) = decide (cds x < cds y) := fun a b => by
            show (if x = y then lexS a b else _) = _
            rw [if_neg ex]
          rw [g]
          cases (b && i == 0) with
          | true => exact oneLt_str ⟨rfl, rfl⟩
          | false => exact PySem.W.kat_one _ _ (PyProof.Rows.lt_str ⟨rfl, rfl⟩)
end
end Lk
set_option maxRecDepth 100000
namespace Lk
open PySem PySem.Spec PyProof.Rows L2
section
variable {prog : Program} {w : World} {A : Around} {E : Value → Shared → Prop} {s : Shared}
theorem TupS.at {h h' : Heap} {v : Value} {xs : List Str} (x : TupS h v xs) (k : ∀ b o, h.get? b = some o → o.cls = .type "tuple" → h'.get? b = some o) : TupS h' v xs := by
  obtain ⟨a, its, rfl, ⟨o, ho, hc, r⟩, i⟩ := x
  exact ⟨a, its, rfl, ⟨o, k a o ho hc, hc, r⟩, i⟩
theorem cmp_tuples {k : Value → List Str} {vs : List Value} (hp : ∀ v ∈ vs, TupS s.heap v (k v)) (b : Bool) : SrtO.Cmp prog w A s (tuples' b) (fun p => p.1 ∈ vs) (SrtO.lt2 fun v u => lexS (k v) (k u)) := by
  intro p q hm hm'
  obtain ⟨a, its, e, ⟨o, ho, hc, n, hd⟩, i⟩ := hp _ hm
  obtain ⟨a2, its2, e2, ⟨o2, ho2, hc2, n2, hd2⟩, i2⟩ := hp _ hm'
  show wpAny (model prog w) A (keyLt' (tuples' b) p.1 q.1) (fun r s' => s' = s ∧ r = lexS (k p.1) (k q.1)) (fun _ _ => False) s
  generalize k p.1 = xs at i ⊢
  generalize k q.1 = ys at i2 ⊢
  rw [e, e2]
  refine PySem.W.kat_lt ho hd ho2 hd2 (lex_walk b _ 0 i i2 (fun _ _ => trivial) ?_)
  have z1 : its.size = xs.length := by rw [← strsAre_len i]; simp
  have z2 : its2.size = ys.length := by rw [← strsAre_len i2]; simp
  rw [z1, z2]
  by_cases h : xs.length < ys.length
  · rw [decide_eq_true h, Nat.min_eq_left (Nat.le_of_lt h), List.drop_length]
    cases q : ys.drop xs.length with
    | nil =>
      have := congrArg List.length q
      rw [List.length_drop, List.length_nil] at this
      omega
    | cons y r => rfl
  · rw [decide_eq_false h, Nat.min_eq_right (by omega), List.drop_length]
    cases q : xs.drop ys.length with
    | nil => rfl
    | cons y r => rfl
theorem cmp_general {k : Value → List Str} {vs : List Value} (hu : A.units < cLine) (hp : ∀ v ∈ vs, TupS s.heap v (k v)) : SrtO.Cmp prog w A s general' (fun p => p.1 ∈ vs) (SrtO.lt2 fun v u => lexS (k v) (k u)) := by
  intro p q hm hm'
  obtain ⟨a, its, e, t1, i⟩ := hp _ hm
  obtain ⟨a2, its2, e2, t2, i2⟩ := hp _ hm'
  show wpAny (model prog w) A (oneLt' false p.1 q.1) (fun r s' => s' = s ∧ r = lexS (k p.1) (k q.1)) (fun _ _ => False) s
  rw [show lexS (k p.1) (k q.1) = lexS (k p.1) (k q.1) from rfl]
  generalize k p.1 = xs at i ⊢
  generalize k q.1 = ys at i2 ⊢
  rw [e, e2]
  exact PySem.W.kat_one _ _ (lt_tupStrs t1 t2 i i2 hu ⟨rfl, rfl⟩)
theorem cmp_one {k : Value → List Str} {vs : List Value} (hu : A.units < cLine) (hp : ∀ v ∈ vs, TupS s.heap v (k v)) : SrtO.Cmp prog w A s oneType' (fun p => p.1 ∈ vs) (SrtO.lt2 fun v u => lexS (k v) (k u)) := by
  intro p q hm hm'
  obtain ⟨a, its, e, t1, i⟩ := hp _ hm
  obtain ⟨a2, its2, e2, t2, i2⟩ := hp _ hm'
  show wpAny (model prog w) A (oneLt' true p.1 q.1) (fun r s' => s' = s ∧ r = lexS (k p.1) (k q.1)) (fun _ _ => False) s
  generalize k p.1 = xs at i ⊢
  generalize k q.1 = ys at i2 ⊢
  rw [e, e2, oneLt'_eq]
  simp only [if_true]
  refine wpAny_bind (wpAny_cRoomFor hu ?_)
  obtain ⟨⟨cls, dd, data, sl⟩, ho, hc, n, hd⟩ := id t1
  obtain ⟨⟨cls2, dd2, data2, sl2⟩, ho2, hc2, n2, hd2⟩ := id t2
  simp only at hc hd hc2 hd2
  subst hc hd hc2 hd2
  refine wpAny_bind (wpAny_callSpecialIfBound?_slot (T := "tuple") ⟨_, ho, rfl⟩ PySem.F.slot_tuple_lt (call_meets PySem.F.slot_tuple_lt ⟨_, ho, rfl⟩ PySem.F.entry_tuple_lt (PySem.F.args_tuple_lt_2 _ _) (tuple_lt_strs a a2 its its2 n n2 dd dd2 sl sl2 xs ys i i2) ⟨ho, ho2, ?_⟩))
  exact wpAny_truthy_bool ⟨rfl, rfl⟩
/-- the first texts -/
theorem firstsS {h : Heap} {k : Value → List Str} : ∀ vs : List Value, (∀ v ∈ vs, TupS h v (k v)) → (∀ v ∈ vs, k v ≠ []) → ∃ fs, PySem.W.KatTups h vs fs ∧ fs.length = vs.length ∧ ∀ f ∈ fs, ∃ x t, f = Value.str x t
  | [], _, _ => ⟨[], PySem.W.KatTups.nil, rfl, fun f hf => by simp at hf⟩
  | v :: vs, x, ne => by
    obtain ⟨fs, h1, h2, h3⟩ := firstsS vs (fun u hu => x u (List.mem_cons_of_mem _ hu)) fun u hu => ne u (List.mem_cons_of_mem _ hu)
    obtain ⟨a, its, rfl, ⟨o, ho, hc, n, hd⟩, i⟩ := x v (List.mem_cons_self ..)
    have nk := ne _ (List.mem_cons_self ..)
    generalize k (Value.ref a) = xs at i nk
    obtain ⟨its⟩ := its
    cases i with
    | nil => exact absurd rfl nk
    | cons y t i =>
      refine ⟨.str y t :: fs, PySem.W.KatTups.cons ho hc hd rfl h1, by rw [List.length_cons, List.length_cons, h2], fun f hm => ?_⟩
      rcases List.mem_cons.mp hm with rfl | hm
      · exact ⟨y, t, rfl⟩
      · exact h3 f hm
/-- the firsts, where some tuple may be empty -/
theorem firstsO {k : Value → List Str} : ∀ (vs : List Value) {Q : List (Option Value) → Shared → Prop}, (∀ v ∈ vs, TupS s.heap v (k v)) →
    (∀ fs : List (Option Value), fs.map Option.isSome = vs.map (fun v => !(k v).isEmpty) → Q fs s) → wpAny (model prog w) A (vs.mapM firstOfTuple') Q E s
  | [], Q, _, h => by rw [List.mapM_nil]; exact wpAny_pure (h [] rfl)
  | v :: vs, Q, x, h => by
    obtain ⟨a, its, e, ⟨o, ho, hc, n, hd⟩, i⟩ := x v (List.mem_cons_self ..)
    have hx := x v (List.mem_cons_self ..)
    rw [List.mapM_cons]
    refine wpAny_bind ?_
    rw [PySem.W.kas_first_eq]
    have L : PySem.W.Looks (model prog w) s.heap (typeOf v) o.cls := by
      rw [e]
      exact (PySem.W.Looks.ld ho).andThen .now
    refine wpAny_bind (PySem.W.Looks.here L ?_)
    rw [hc, if_neg (by first | decide | simp)]
    rw [e]
    refine wpAny_bind (listItems_at ho hd (wpAny_pure ?_))
    refine wpAny_bind (firstsO vs (fun u hu => x u (List.mem_cons_of_mem _ hu)) fun fs hf => wpAny_pure (h _ ?_))
    rw [List.map_cons, List.map_cons, hf]
    refine congrArg (fun z => z :: _) ?_
    generalize k v = xs at i
    obtain ⟨its⟩ := its
    cases i with
    | nil => rfl
    | cons y t i => rfl
theorem kind_empty {k : Value → List Str} {vs : List Value} (h2 : 2 ≤ vs.length) (hp : ∀ v ∈ vs, TupS s.heap v (k v)) (he : ∃ v ∈ vs, k v = []) {Q : SortKind → Shared → Prop} (κ : SortKind) (hκ : κ = if (vs.head?.any fun v => !(k v).isEmpty) = true then general' else oneType')
    (h : Q κ s) : wpAny (model prog w) A (keyKind' vs.toArray) Q E s := by
  rw [keyKind'_eq, List.mapM_toArray, map_eq_pure_bind]
  refine wpAny_bind (wpAny_bind (firstsO vs hp fun fs hf => wpAny_pure ?_))
  have hall : (fs.toArray.all fun x => x.isSome) = false := by
    rw [Bool.eq_false_iff]
    intro z
    obtain ⟨v, hv, ev⟩ := he
    obtain ⟨i, hi, rfl⟩ := List.getElem_of_mem hv
    have e1 := congrArg (fun l : List Bool => l[i]?) hf
    simp only [List.getElem?_map, List.getElem?_eq_getElem hi, Option.map_some, ev] at e1
    have z2 : fs.all (fun x => x.isSome) = true := by simpa using z
    cases q : fs[i]? with
    | none => rw [q] at e1; cases e1
    | some f =>
      rw [q] at e1
      have := List.all_eq_true.mp z2 f (List.mem_of_getElem? q)
      have e3 : f.isSome = false := Option.some.inj e1
      rw [this] at e3
      cases e3
  rw [hall, if_neg Bool.false_ne_true]
  obtain ⟨v, r, rfl⟩ : ∃ v r, vs = v :: r := by
    match vs, h2 with
    | v :: r, _ => exact ⟨v, r, rfl⟩
  obtain ⟨f, fr, rfl⟩ : ∃ f fr, fs = f :: fr := by
    match fs, hf with
    | f :: fr, _ => exact ⟨f, fr, rfl⟩
  have hf1 : f.isSome = !(k v).isEmpty := by
    rw [List.map_cons, List.map_cons] at hf
    exact (List.cons.inj hf).1
  have h0 : (f :: fr).toArray[0]? = some f := by simp
  rw [h0]
  have hb : ((some f).bind id).isSome = !(k v).isEmpty := by
    rw [← hf1]
    rfl
  have hh : ((v :: r).head?.any fun v => !(k v).isEmpty) = !(k v).isEmpty := rfl
  rw [hh] at hκ
  rw [hb]
  cases q : (k v).isEmpty with
  | false =>
    rw [q] at hκ
    rw [if_pos (by rfl)] at hκ ⊢
    rw [hκ] at h
    exact wpAny_pure h
  | true =>
    rw [q] at hκ
    rw [if_neg (by decide)] at hκ ⊢
    rw [hκ] at h
    have hT : ∀ u ∈ v :: r, PySem.W.Looks (model prog w) s.heap (typeOf u) (.type "tuple") := fun u hu => by
      obtain ⟨a, its, e, ⟨o, ho, hc, n, hd⟩, i⟩ := hp u hu
      rw [e, ← hc]
      exact (PySem.W.Looks.ld ho).andThen .now
    rw [oneTypeOnly'_eq, List.mapM_toArray, map_eq_pure_bind]
    refine wpAny_bind (wpAny_bind (wpAny_bind (PySem.W.kas_mapM (r := Value.type "tuple") _ (fun u hu Q' hq => (hT u hu).here hq) (wpAny_pure ?_))))
    have hall2 : ((List.map (fun _ => Value.type "tuple") (v :: r)).toArray.all fun x => x == Value.type "tuple") = true := by
      simp only [List.all_toArray, List.all_map, List.all_eq_true]
      intro _ _
      first | rfl | decide | simp
    have h0 : (List.map (fun _ => Value.type "tuple") (v :: r)).toArray[0]? = some (Value.type "tuple") := by simp
    rw [h0]
    simp only [hall2, if_true]
    exact wpAny_pure (wpAny_pure h)
theorem sortable_tups {a : Addr} {vs : List Value} {k : Value → List Str} (hu : A.units < cLine) (h2 : 2 ≤ vs.length) (hp : ∀ v ∈ vs, TupS s.heap v (k v)) (ha : ∀ o, s.heap.get? a = some o → o.cls ≠ .type "tuple") :
    SrtO.SortableO prog w A s a vs fun v u => lexS (k v) (k u) := by
  intro h' keep
  have hp' : ∀ v ∈ vs, TupS h' v (k v) := fun v hm => (hp v hm).at fun b o e c => keep b o (fun z => by subst z; exact ha o e c) e
  by_cases he : ∃ v ∈ vs, k v = []
  · refine ⟨if (vs.head?.any fun v => !(k v).isEmpty) = true then general' else oneType', fun Q E hq => kind_empty h2 hp' he _ rfl hq, ?_⟩
    split
    · exact cmp_general hu hp'
    · exact cmp_one hu hp'
  · obtain ⟨fs, h1, h3, h4⟩ := firstsS vs hp' fun v hv z => he ⟨v, hv, z⟩
    refine ⟨tuples' true, fun Q E hq => ?_, cmp_tuples hp' true⟩
    refine PySem.W.kat_kind (T := .type "str") h1 (by omega) (fun f hm => ?_) (by rfl) ?_
    · obtain ⟨x, t, rfl⟩ := h4 f hm
      exact PySem.W.Looks.now
    · have e : (Value.type "str" != Value.type "tuple") = true := by first | decide +kernel | rfl | decide
      rw [e]
      exact hq
end
/-- sorted(xs), xs a list of tuples of texts (k says which) -/
def rSortedTS (K : PySem.W.Frag) : List V → Hp → VK → Prop := fun vs H Q => ∃ (a : Addr) (xs : List V) (k : V → List Str), vs = [V.ref a] ∧ SqL K H a xs ∧ (∀ x ∈ xs, ∃ t, x = V.ref t ∧ H t = some (.tup ((k x).map V.str))) ∧
  ∀ (ys : List V) (p : Addr), ys.Perm xs → ys.Pairwise (fun x y => lexS (k y) (k x) = false) → H p = none → Q (.ref p) (upd H p (.lst ys))
section
variable {X : Cx}
theorem strsAre_vals {us : List Value} {zs : List Str} (h : Vals (zs.map V.str) us) : StrsAre us zs := by
  induction zs generalizing us with
  | nil =>
    cases h
    exact .nil
  | cons z zs ih =>
    cases h with
    | cons r t =>
      obtain ⟨tk, rfl⟩ := r
      exact .cons z tk (ih t)
theorem cr_sortedTS (hu : X.A.units + 2 < cLine) : CallR X (.builtin "sorted") (rSortedTS X.K) := by
  intro pins s σ H vs us Q I r h
  obtain ⟨a, xs, k, rfl, hs, hx, q⟩ := h
  obtain ⟨its, rv, hl, hz⟩ := I.list hs
  obtain ⟨u, rfl, ru⟩ := vals1 r
  obtain rfl : u = Value.ref a := ru
  obtain ⟨e1, e2⟩ := refs_back rv fun x m => by
    obtain ⟨t, e, _⟩ := hx x m
    exact ⟨t, e⟩
  have hT : ∀ v ∈ its, TupS s.heap v (k (backV v)) := fun v hv => by
    obtain ⟨t, rfl⟩ := e2 v hv
    have hm : V.ref t ∈ xs := by rw [e1]; exact List.mem_map.mpr ⟨_, hv, rfl⟩
    obtain ⟨t', e, ht⟩ := hx _ hm
    cases e
    obtain ⟨_, its2, r2, o, ho, hc, n, hd⟩ := I.hok _ _ ht
    exact ⟨t, its2.toArray, rfl, ⟨o, ho, hc, n, hd⟩, (show StrsAre its2 (k (V.ref t)) from strsAre_vals r2)⟩
  refine SrtO.sorted_ord (ltv := fun v u => lexS (k (backV v)) (k (backV u))) ⟨fun x y => lexS_swo.asym _ _, fun x y z => lexS_swo.tr _ _ _⟩ hl.isList (by rw [← rv.length]; exact hz) (fun h2 h₁ a' ha kk => ?_) fun out hs' hb => ?_
  · refine sortable_tups (s := { s with heap := h₁ }) (by show X.A.units + 1 + 1 < cLine; omega) h2 (fun v hm => (hT v hm).at fun b o e _ => (kk b o e).2) fun o e => ?_
    have e' : some o = some (seqObj "list" its.toArray 0) := e.symm.trans ha
    cases e'
    intro c
    exact absurd (Value.type.inj c) (by decide)
  · have h3 : ∀ u ∈ out, ∃ a, u = Value.ref a := fun u hu => e2 u (hb.perm.mem_iff.mp hu)
    have hpm : (out.map backV).Perm xs := by
      rw [e1]
      exact hb.perm.map backV
    obtain ⟨n, hn⟩ := PyProof.Rows.sortedAll_at s.heap its out.toArray
    refine ⟨.ref (s.heap.objs.size + 1), upd H (s.heap.objs.size + 1) (.lst (out.map backV)), I.laid (t' := s.toks) (fun b o e => PyProof.Rows.sortedAll_old e) (Nat.le_succ _) ⟨?_, out, n, vals_back h3, hn⟩, rfl, q _ _ hpm ?_ (I.hok.fresh (Nat.le_succ _))⟩
    · rw [hpm.length_eq]
      exact hz
    · exact List.pairwise_map.mpr hs'
end
end Lk
set_option maxRecDepth 100000
set_option maxHeartbeats 1000000
namespace Dl
open PySem PySem.Spec PyProof.Rows L2 Lk
section
variable {prog : Program} {w : World} {A : Around} {E : Value → Shared → Prop} {s : Shared}
/-- sorted(it), by what is collected of it -/
theorem sorted_coll {l : Addr} {Q : Value → Shared → Prop}
    (hc : wpAny (model prog w) A.in1 (collect (.ref l)) (fun vs s1 => ∃ ltv, SrtO.Swo ltv ∧ vs.length ≤ sizeLine ∧ (2 ≤ vs.length → ∀ (h₁ : Heap) (a : Addr), h₁.get? a = some (seqObj "list" vs.toArray 0) → (∀ b o, s1.heap.get? b = some o → b ≠ a ∧ h₁.get? b = some o) → SrtO.SortableO prog w A.in1.in1 { s1 with heap := h₁ } a vs ltv) ∧
      ∀ (h' : Heap) (out : List Value) (n : Nat), SrtO.Srtd ltv out → out.Perm vs → (∀ b o, s1.heap.get? b = some o → h'.get? b = some o) → h'.get? s1.heap.objs.size = some (seqObj "list" out.toArray n) → Q (.ref s1.heap.objs.size) { s1 with heap := h' }) E s) :
    wpAny (model prog w) A (call (.builtin "sorted") [.ref l]) Q E s := by
  refine Calls.call_function_entry kind_sorted plain_sorted entry_sorted (args_sorted1 _) ?_
  unfold Builtin.«sorted»
  refine wpAny_bind (m := checkCount "sorted" 1 1 _) (wpAny_pure ?_)
  refine wpAny_bind (wpAny_mono hc (fun vs s1 h => ?_) fun _ _ e => e)
  obtain ⟨ltv, O, hz, hS, hQ⟩ := h
  refine wpAny_bind (wpAny_newList ?_ hz)
  have hoL : (s1.heap.push (seqObj "list" vs.toArray 0)).get? s1.heap.objs.size = some (seqObj "list" vs.toArray 0) := Heap.get?_push_size _ rfl
  have keep : ∀ b o, s1.heap.get? b = some o → b ≠ s1.heap.objs.size ∧ (s1.heap.push (seqObj "list" vs.toArray 0)).get? b = some o := fun b o q => ⟨Nat.ne_of_lt (Heap.lt_size q), Heap.get?_push_of_some _ q⟩
  refine wpAny_bind (wpAny_holding (wpAny_call_entry slot_list_sort ⟨_, hoL, rfl⟩ entry_list_sort (SrtO.list_sort_ord O (s := { s1 with heap := s1.heap.push (seqObj "list" vs.toArray 0) }) hoL hz (fun h2 => hS h2 _ _ hoL keep) fun out hs hb => ⟨_, rfl, ?_⟩) (args_list_sort _)))
  obtain ⟨n, hn⟩ := sortedHeap_at (vs := vs) (out := out.toArray) hoL
  refine wpAny_pure ⟨_, rfl, hQ _ out n hs hb.perm (fun b o q => ?_) hn⟩
  rw [sortedHeap_old (keep b o q).1 (by rw [size_push']; exact Nat.lt_succ_of_lt (Heap.lt_size q))]
  exact (keep b o q).2
/-! ### texts -/
def svs : Value → Str
  | .str z _ => z
  | _ => ""
def ltSv (v u : Value) : Bool := decide (cds (svs v) < cds (svs u))
theorem swo_str : SrtO.Swo ltSv := by
  refine ⟨fun x y h => ?_, fun x y z h1 h2 => ?_⟩
  · have a := of_decide_eq_true (p := cds (svs x) < cds (svs y)) h
    exact decide_eq_false (p := cds (svs y) < cds (svs x)) (List.lt_asymm a)
  · have a := of_decide_eq_false (p := cds (svs y) < cds (svs x)) h1
    have b := of_decide_eq_false (p := cds (svs z) < cds (svs y)) h2
    exact decide_eq_false (p := cds (svs z) < cds (svs x)) (List.le_trans (l₁ := cds (svs x)) (l₂ := cds (svs y)) (l₃ := cds (svs z)) a b)
theorem strs_mem : ∀ {vs : List Value} {zs : List Str}, StrsAre vs zs → ∀ v ∈ vs, ∃ i t, v = Value.str i t
  | _, _, .nil, v, h => absurd h (by simp)
  | _, _, .cons n t r, v, h => by
    rcases List.mem_cons.mp h with e | h
    · exact ⟨n, t, e⟩
    · exact strs_mem r v h
theorem strs_sortable {a : Addr} {vs : List Value} {zs : List Str} (hI : StrsAre vs zs) (h2 : 2 ≤ vs.length) : SrtO.SortableO prog w A s a vs ltSv := by
  intro h' _
  refine ⟨oneType', fun Q E hq => ?_, fun p q hm hm' => ?_⟩
  · match vs, hI, h2 with
    | v1 :: v2 :: rest, hI, _ =>
      rw [keyKind_strs hI]
      exact wpAny_pure hq
    | [], _, h => exact absurd h (by decide)
    | [v], _, h => exact absurd h (by simp)
  · obtain ⟨x, t, e⟩ := strs_mem hI _ hm
    obtain ⟨y, u, e'⟩ := strs_mem hI _ hm'
    show wpAny (model prog w) A (keyLt' oneType' p.1 q.1) (fun r s' => s' = _ ∧ r = ltSv p.1 q.1) (fun _ _ => False) _
    rw [e, e', keyLt'_oneType]
    exact oneLt_str ⟨rfl, rfl⟩
end
/-! ### in the tracked world -/
def bk : Value → V
  | .int i _ => .int i
  | .str z _ => .str z
  | .ref a => .ref a
  | _ => .non
def svV : V → Str
  | .str z => z
  | _ => ""
def ivV : V → Int
  | .int i => i
  | _ => 0
/-- what is sorted, and its order -/
inductive SortV (H : Hp) : List V → (V → V → Bool) → Prop
  | sInts (ns : List Int) : SortV H (ns.map .int) fun x y => decide (ivV x < ivV y)
  | sStrs (zs : List Str) : SortV H (zs.map .str) fun x y => decide (cds (svV x) < cds (svV y))
  | sTups (xs : List V) (k : V → List Str) : (∀ x ∈ xs, ∃ t, x = V.ref t ∧ H t = some (.tup ((k x).map V.str))) → SortV H xs fun x y => lexS (k x) (k y)
/-- what is collected of an iterable -/
inductive CollV (K : PySem.W.Frag) (H : Hp) (a : Addr) : (List V → Prop) → Prop
  | lst (xs : List V) : SqL K H a xs → CollV K H a (· = xs)
  | tup (xs : List V) : SqT K H a xs → CollV K H a (· = xs)
  | dK (kvs : List (Key × V)) : H a = some (.dK kvs) → CollV K H a (· = kvs.map fun kv => kV kv.1)
  | dT (kvs : List (List Key × V)) : H a = some (.dT kvs) → CollV K H a fun xs => ∃ bs, IsKeys H kvs bs ∧ xs = bs.map V.ref
def rSortG (K : PySem.W.Frag) : List V → Hp → VK → Prop := fun vs H Q => ∃ (a : Addr) (C : List V → Prop), vs = [.ref a] ∧ CollV K H a C ∧ ∀ xs, C xs → ∃ lt, SortV H xs lt ∧ ∀ (ys : List V) (p : Addr), ys.Perm xs → ys.Pairwise (fun x y => lt y x = false) → H p = none → Q (.ref p) (upd H p (.lst ys))
theorem vals_map {xs : List V} {us : List Value} (f : Value → V) (h : ∀ x u, RelV x u → x ∈ xs → x = f u) (r : Vals xs us) : xs = us.map f := by
  induction r with
  | nil => rfl
  | cons a _ ih => rw [List.map_cons, ← ih fun x u r m => h x u r (List.mem_cons_of_mem _ m), ← h _ _ a (List.mem_cons_self ..)]
theorem map_vals {us : List Value} (f : Value → V) (h : ∀ u ∈ us, RelV (f u) u) : Vals (us.map f) us := by
  induction us with
  | nil => exact .nil
  | cons u r ih => exact .cons (h u (List.mem_cons_self ..)) (ih fun v hv => h v (List.mem_cons_of_mem _ hv))
section
variable {X : Cx}
theorem strsAre_map {zs : List Str} {us : List Value} (r : Vals (zs.map V.str) us) : StrsAre us zs := strsAre_vals r
theorem intsAre_vals {us : List Value} {zs : List Int} (h : Vals (zs.map V.int) us) : IntsAre us zs := by
  induction zs generalizing us with
  | nil => cases h; exact .nil
  | cons z zs ih =>
    cases h with
    | cons r t =>
      obtain ⟨tk, rfl⟩ := r
      exact .cons z tk (ih t)
/-- behind the collecting -/
theorem sort_fin {pins : List (Addr × Obj)} {σ : L2.St} {H : Hp} {s1 : Shared} {xs : List V} {us : List Value} {Q : VK} {lt : V → V → Bool} (hu : X.A.units + 64 < cLine) (I : Inv X pins σ H s1) (r : Vals xs us) (hz : xs.length ≤ sizeLine) (sv : SortV H xs lt)
    (q : ∀ (ys : List V) (p : Addr), ys.Perm xs → ys.Pairwise (fun x y => lt y x = false) → H p = none → Q (.ref p) (upd H p (.lst ys))) :
    ∃ ltv, SrtO.Swo ltv ∧ us.length ≤ sizeLine ∧ (2 ≤ us.length → ∀ (h₁ : Heap) (a : Addr), h₁.get? a = some (seqObj "list" us.toArray 0) → (∀ b o, s1.heap.get? b = some o → b ≠ a ∧ h₁.get? b = some o) → SrtO.SortableO X.prog X.w X.A.in1.in1 { s1 with heap := h₁ } a us ltv) ∧
      ∀ (h' : Heap) (out : List Value) (n : Nat), SrtO.Srtd ltv out → out.Perm us → (∀ b o, s1.heap.get? b = some o → h'.get? b = some o) → h'.get? s1.heap.objs.size = some (seqObj "list" out.toArray n) → EP X pins σ Q (.ref s1.heap.objs.size) { s1 with heap := h' } := by
  -- the end, for each kind
  have fin : ∀ (ltv : Value → Value → Bool), (∀ u ∈ us, RelV (bk u) u) → xs = us.map bk → (∀ u ∈ us, ∀ v ∈ us, ltv u v = lt (bk u) (bk v)) → ∀ (h' : Heap) (out : List Value) (n : Nat), SrtO.Srtd ltv out → out.Perm us → (∀ b o, s1.heap.get? b = some o → h'.get? b = some o) → h'.get? s1.heap.objs.size = some (seqObj "list" out.toArray n) → EP X pins σ Q (.ref s1.heap.objs.size) { s1 with heap := h' } := by
    intro ltv hb hx hl h' out n hs hp kp hn
    have hm : ∀ u ∈ out, u ∈ us := fun u hu => hp.mem_iff.mp hu
    have hpm : (out.map bk).Perm xs := by rw [hx]; exact hp.map bk
    refine ⟨.ref s1.heap.objs.size, upd H s1.heap.objs.size (.lst (out.map bk)), I.laid (t' := s1.toks) kp (Nat.le_refl _) ⟨by rw [hpm.length_eq]; exact hz, out, n, map_vals bk fun u hu => hb u (hm u hu), hn⟩, rfl, q _ _ hpm ?_ (I.hok.fresh (Nat.le_refl _))⟩
    refine List.pairwise_map.mpr (List.Pairwise.imp_of_mem (fun {a b} ha hb' z => ?_) hs)
    rw [← hl b (hm b hb') a (hm a ha)]
    exact z
  have hul : us.length ≤ sizeLine := by rw [← r.length]; exact hz
  cases sv with
  | sInts ns =>
    have hI := intsAre_vals r
    refine ⟨SrtO.ltIv, SrtO.swo_int, hul, fun h2 h₁ a _ _ => SrtO.ints_sortable hI h2, fin _ (fun u hu => ?_) (vals_map bk (fun x u r m => ?_) r) fun u hu v hv => ?_⟩
    · obtain ⟨i, t, rfl⟩ := SrtO.ints_mem hI u hu
      exact ⟨t, rfl⟩
    · obtain ⟨i, _, rfl⟩ := List.mem_map.mp m
      obtain ⟨t, rfl⟩ := r
      rfl
    · obtain ⟨i, t, rfl⟩ := SrtO.ints_mem hI u hu
      obtain ⟨j, t2, rfl⟩ := SrtO.ints_mem hI v hv
      rfl
  | sStrs zs =>
    have hI := strsAre_vals r
    refine ⟨ltSv, swo_str, hul, fun h2 h₁ a _ _ => strs_sortable hI h2, fin _ (fun u hu => ?_) (vals_map bk (fun x u r m => ?_) r) fun u hu v hv => ?_⟩
    · obtain ⟨i, t, rfl⟩ := strs_mem hI u hu
      exact ⟨t, rfl⟩
    · obtain ⟨i, _, rfl⟩ := List.mem_map.mp m
      obtain ⟨t, rfl⟩ := r
      rfl
    · obtain ⟨i, t, rfl⟩ := strs_mem hI u hu
      obtain ⟨j, t2, rfl⟩ := strs_mem hI v hv
      rfl
  | sTups _ k hk =>
    have hxb : xs = us.map bk := vals_map bk (fun x u r m => by
      obtain ⟨t, rfl, _⟩ := hk x m
      cases r
      rfl) r
    have href : ∀ u ∈ us, ∃ t, u = Value.ref t ∧ TupS s1.heap u (k (bk u)) := fun u hu => by
      have hm : bk u ∈ xs := by rw [hxb]; exact List.mem_map.mpr ⟨u, hu, rfl⟩
      obtain ⟨t, e, ht⟩ := hk _ hm
      have eu : u = Value.ref t := by
        cases u <;> first | cases e | skip
        rfl
      subst eu
      obtain ⟨_, its2, r2, o, ho, hc, n, hd⟩ := I.hok _ _ ht
      exact ⟨t, rfl, t, its2.toArray, rfl, ⟨o, ho, hc, n, hd⟩, (show StrsAre its2 (k (V.ref t)) from strsAre_vals r2)⟩
    refine ⟨fun v u => lexS (k (bk v)) (k (bk u)), ⟨fun x y => lexS_swo.asym _ _, fun x y z => lexS_swo.tr _ _ _⟩, hul, fun h2 h₁ a ha kk => ?_, fin _ (fun u hu => ?_) hxb fun u hu v hv => rfl⟩
    · refine sortable_tups (s := { s1 with heap := h₁ }) (by show X.A.units + 1 + 1 < cLine; omega) h2 (fun v hm => (href v hm).elim fun _ z => z.2.at fun b o e _ => (kk b o e).2) fun o e => ?_
      have e' : some o = some (seqObj "list" us.toArray 0) := e.symm.trans ha
      cases e'
      intro c
      exact absurd (Value.type.inj c) (by decide)
    · obtain ⟨t, rfl, _⟩ := href u hu
      rfl
theorem keys_out {es : Array DictEntry} {acc : Array Value} (it : ItemsOf (fun i v => ∃ en : DictEntry, es[i]? = some en ∧ v = en.key) acc es.size) : acc.toList = es.toList.map (·.key) := by
  refine List.ext_getElem (by rw [List.length_map, Array.length_toList, Array.length_toList]; exact it.1) fun j h1 h2 => ?_
  have h3 : j < acc.size := by rwa [Array.length_toList] at h1
  obtain ⟨en, e1, e2⟩ := it.2 j acc[j] (Array.getElem?_eq_getElem h3)
  obtain ⟨h4, e3⟩ := Array.getElem?_eq_some_iff.mp e1
  rw [Array.getElem_toList, e2, List.getElem_map, Array.getElem_toList, e3]
theorem cr_sortG (hc : X.calm = true) (hu : X.A.units + 64 < cLine) : CallR X (.builtin "sorted") (rSortG X.K) := by
  intro pins s σ H vs us Q I r h
  obtain ⟨a, C, rfl, cl, q⟩ := h
  obtain ⟨u, rfl, ru⟩ := vals1 r
  obtain rfl : u = Value.ref a := ru
  have seq : ∀ (its : List Value) (xs : List V) (T : String) (o : Obj) (n : Nat), T = "list" ∨ T = "tuple" → s.heap.get? a = some o → o.cls = .type T → o.data = .seq its.toArray n → Vals xs its → xs.length ≤ sizeLine →
      (∃ lt, SortV H xs lt ∧ ∀ (ys : List V) (p : Addr), ys.Perm xs → ys.Pairwise (fun x y => lt y x = false) → H p = none → Q (.ref p) (upd H p (.lst ys))) → wpAny (model X.prog X.w) X.A (call (.builtin "sorted") [.ref a]) (EP X pins σ Q) X.xe s := by
    intro its xs T o n hT ho hcl hd rv hz ⟨lt, sv, q⟩
    refine sorted_coll (PySem.wpAny_collect_seq a hT ho hcl hd (fun h' kp => ?_) (by rw [List.size_toArray, ← rv.length]; exact hz))
    exact sort_fin (s1 := { s with heap := h' }) hu (I.kept (t' := s.toks) kp) rv hz sv q
  cases cl with
  | lst xs hs =>
    obtain ⟨its, rv, hl, hz⟩ := I.list hs
    obtain ⟨o, ho, hcl, n, hd⟩ := hl.isList
    exact seq its xs "list" o n (.inl rfl) ho hcl hd rv hz (q xs rfl)
  | tup xs hs =>
    obtain ⟨its, rv, hl, hz⟩ := I.tuple hs
    obtain ⟨o, ho, hcl, n, hd⟩ := _root_.id hl
    exact seq its xs "tuple" o n (.inr rfl) ho hcl hd rv hz (q xs rfl)
  | dK kvs hs =>
    obtain ⟨z, lo, vs, rel, dd⟩ := dk_rd I.hok (Rd.of hs)
    obtain ⟨ep, hat⟩ := dd.dictAt
    refine sorted_coll (PySem.W.kdu_collect (A := X.A.in1) (PySem.W.kdl_dict (knd := mixKind X.prog X.w) (kvs := vs) (ep := ep) lo) (I.ok.hd hc) hat (by rw [← rel.length]; exact z) fun h' tk acc hk hacc => ?_)
    have ek : (kvs.map fun kv => kV kv.1) = vs.map fun p => kV p.1 := by
      have e := congrArg (List.map kV) rel.keys
      rw [List.map_map, List.map_map] at e
      exact e
    have hv : Vals (kvs.map fun kv => kV kv.1) acc.toList := by
      rw [ek]
      exact keys_at (by rw [Array.length_toList]; exact hacc.1) fun j v e => hacc.2 j v (by rw [← Array.getElem?_toList]; exact e)
    obtain ⟨lt, sv, q⟩ := q _ rfl
    exact sort_fin (s1 := { s with heap := h', toks := tk }) hu (I.kept hk) hv (by rw [List.length_map]; exact z) sv q
  | dT kvs hs =>
    obtain ⟨z, hs', ks, pr, o, es, ep, ho, hx, hdt, he, hn⟩ := (show ObjOk X.prog X.w H s.heap a (.dT kvs) from I.hok _ _ hs)
    have l2 : kvs.length = es.size := by rw [Paired.length pr, ← Array.length_toList, he, List.length_map]
    refine sorted_coll (PySem.W.kdu_collect (A := X.A.in1) (kdl_raw hs' hx hdt) (I.ok.hd hc) ho (by omega) fun h' tk acc' kp it => ?_)
    have rv : Vals ((ks.map fun x => x.2.1).map V.ref) acc'.toList := by
      rw [show acc'.toList = (ks.map fun x => x.2.1).map Value.ref by rw [keys_out it, he, List.map_map, List.map_map]; rfl]
      exact vals_refs _
    obtain ⟨lt, sv, q⟩ := q _ ⟨_, isKeys_of pr, rfl⟩
    exact sort_fin (s1 := { s with heap := h', toks := tk }) hu (I.kept kp) rv (by rw [List.length_map, List.length_map, ← Paired.length pr]; exact z) sv q
end
end Dl
set_option maxRecDepth 100000
namespace Dl
open PySem PySem.Spec PyProof.Rows L2 Lk

/-! ### sorted -/
def D.intOf : D → Option Int
  | .int i => some i
  | _ => none
def D.strOf : D → Option Str
  | .str z => some z
  | _ => none
def intsOf : List D → Option (List Int)
  | [] => some []
  | .int i :: r => (intsOf r).map (i :: ·)
  | _ :: _ => none
def strsOf : List D → Option (List Str)
  | [] => some []
  | .str z :: r => (strsOf r).map (z :: ·)
  | _ :: _ => none
def tupsOf : List D → Option (List (List Str))
  | [] => some []
  | .tup l :: r => match strsOf l with
    | some zs => (tupsOf r).map (zs :: ·)
    | none => none
  | _ :: _ => none
theorem intsOf_eq : ∀ {l : List D} {ns : List Int}, intsOf l = some ns → l = ns.map .int
  | [], ns, h => by cases h; rfl
  | d :: r, ns, h => by
    cases d <;> simp only [intsOf, reduceCtorEq] at h
    cases e : intsOf r with
    | none => rw [e] at h; cases h
    | some zs => rw [e] at h; cases h; rw [intsOf_eq e]; rfl
theorem strsOf_eq : ∀ {l : List D} {ns : List Str}, strsOf l = some ns → l = ns.map .str
  | [], ns, h => by cases h; rfl
  | d :: r, ns, h => by
    cases d <;> simp only [strsOf, reduceCtorEq] at h
    cases e : strsOf r with
    | none => rw [e] at h; cases h
    | some zs => rw [e] at h; cases h; rw [strsOf_eq e]; rfl
def dT (zs : List Str) : D := .tup (zs.map .str)
theorem tupsOf_eq : ∀ {l : List D} {ns : List (List Str)}, tupsOf l = some ns → l = ns.map dT
  | [], ns, h => by cases h; rfl
  | d :: r, ns, h => by
    cases d <;> simp only [tupsOf, reduceCtorEq] at h
    rename_i l
    cases e1 : strsOf l with
    | none => rw [e1] at h; cases h
    | some ys =>
      rw [e1] at h
      cases e : tupsOf r with
      | none => rw [e] at h; cases h
      | some zs => rw [e] at h; cases h; rw [tupsOf_eq e, strsOf_eq e1]; rfl
theorem intsOf_map (ns : List Int) : intsOf (ns.map .int) = some ns := by
  induction ns with
  | nil => rfl
  | cons n r ih => simp [intsOf, ih]
theorem strsOf_map (ns : List Str) : strsOf (ns.map .str) = some ns := by
  induction ns with
  | nil => rfl
  | cons n r ih => simp [strsOf, ih]
theorem tupsOf_map (ns : List (List Str)) : tupsOf (ns.map dT) = some ns := by
  induction ns with
  | nil => rfl
  | cons n r ih => simp [tupsOf, dT, strsOf_map, ih]
/-- what is collected -/
def D.coll : D → Option (List D)
  | .lst l => some l
  | .tup l => some l
  | .dct l => some (l.map (·.1))
  | _ => none
/-- what sorted gives: for each kind what is known of the answer -/
def dfSorted : List D → (List D → Prop) → Prop := fun xs k => ∃ x l, xs = [x] ∧ x.coll = some l ∧
  ((∃ ns, l = ns.map .int ∧ ∀ ms : List Int, ms.Perm ns → ms.Pairwise (· ≤ ·) → k (ms.map .int)) ∨ (∃ ns : List Str, l = ns.map .str ∧ ∀ ms : List Str, ms.Perm ns → ms.Pairwise (fun a b => ¬ cds b < cds a) → k (ms.map .str)) ∨
    ∃ ns : List (List Str), l = ns.map dT ∧ ∀ ms : List (List Str), ms.Perm ns → ms.Pairwise (fun a b => lexS b a = false) → k (ms.map dT))
section
variable {S : Addr → Prop} {H : Hp}
theorem sv_str (zs : List Str) : (zs.map V.str).map svV = zs := by
  rw [List.map_map]
  exact (List.map_congr_left fun _ _ => rfl).trans (List.map_id zs)
theorem iv_int (zs : List Int) : (zs.map V.int).map ivV = zs := by
  rw [List.map_map]
  exact (List.map_congr_left fun _ _ => rfl).trans (List.map_id zs)
theorem kD_rep (k : Key) : Rep S H (kV k) (kD k) := by
  cases k with
  | inl i => exact .int i
  | inr z => exact .str z
theorem RepK.keys {ks : List (Key × V)} {ds : List (D × D)} : RepK S H ks ds → RepL S H (ks.map fun kv => kV kv.1) (ds.map (·.1)) := by
  induction ks generalizing ds with
  | nil => intro r; cases r; exact .nil
  | cons k ks ih => intro r; cases r with | cons a b => exact .cons (kD_rep _) (ih b)
theorem RepT.keys {ks : List (List Key × V)} {ds : List (D × D)} {bs : List Addr} : RepT S H ks ds → IsKeys H ks bs → RepL S H (bs.map V.ref) (ds.map (·.1)) := by
  unfold IsKeys
  induction ks generalizing ds bs with
  | nil => intro r q; cases r; cases q; exact .nil
  | cons k ks ih =>
    intro r q
    cases r with
    | cons a b =>
      cases q with
      | cons c q =>
        refine .cons (.tup c ?_) (ih b q)
        have m : ∀ ks : List Key, RepL S H (ks.map kV) (ks.map kD) := fun ks => by
          induction ks with
          | nil => exact .nil
          | cons k ks ih => exact .cons (kD_rep k) ih
        exact m _
theorem RepL.tups {vs : List V} {ns : List (List Str)} (r : RepL S H vs (ns.map dT)) : (∀ x ∈ vs, ∃ t, x = V.ref t ∧ ∃ zs : List Str, H t = some (.tup (zs.map V.str))) ∧ ∃ f : V → List Str, vs.map f = ns ∧ ∀ x ∈ vs, ∃ t, x = V.ref t ∧ H t = some (.tup ((f x).map V.str)) := by
  have key : ∀ {vs : List V} {ns : List (List Str)}, RepL S H vs (ns.map dT) → vs.map (fun v => match v with | .ref t => (match H t with | some (.tup us) => us.map svV | _ => []) | _ => []) = ns ∧ ∀ x ∈ vs, ∃ t, x = V.ref t ∧ ∃ zs : List Str, H t = some (.tup (zs.map V.str)) := by
    intro vs
    induction vs with
    | nil =>
      intro ns r
      cases ns with
      | nil => exact ⟨rfl, fun x h => by cases h⟩
      | cons _ _ => cases r
    | cons v vs ih =>
      intro ns r
      cases ns with
      | nil => cases r
      | cons n ns =>
        cases r with
        | cons a b =>
          obtain ⟨h1, h2⟩ := ih b
          cases a with
          | tup e rl =>
            have ez := rl.strs'
            rw [ez] at e
            refine ⟨?_, fun x hx => ?_⟩
            · rw [List.map_cons, h1]
              simp only [e]
              rw [sv_str]
            · rcases List.mem_cons.mp hx with rfl | hx
              · exact ⟨_, rfl, _, e⟩
              · exact h2 x hx
  obtain ⟨h1, h2⟩ := key r
  refine ⟨h2, _, h1, fun x hx => ?_⟩
  obtain ⟨t, rfl, zs, e⟩ := h2 x hx
  refine ⟨t, rfl, ?_⟩
  simp only [e]
  rw [sv_str]
/-- the order of a list of values, from that of the data -/
theorem coll_rep {K : PySem.W.Frag} {v : V} {x : D} {l : List D} (r : Rep S H v x) (h : x.coll = some l) : ∃ (a : Addr) (C : List V → Prop), v = .ref a ∧ CollV K H a C ∧ ∀ vs, C vs → RepL S H vs l := by
  cases r with
  | lst e n rl => cases h; exact ⟨_, _, rfl, .lst _ (SqL.of e), fun vs q => by rw [q]; exact rl⟩
  | tup e rl => cases h; exact ⟨_, _, rfl, .tup _ (SqT.of e), fun vs q => by rw [q]; exact rl⟩
  | dK e n rk => cases h; exact ⟨_, _, rfl, .dK _ e, fun vs q => by rw [q]; exact rk.keys⟩
  | dT e n rk => cases h; exact ⟨_, _, rfl, .dT _ e, fun vs ⟨bs, q1, q2⟩ => by rw [q2]; exact rk.keys q1⟩
  | _ => cases h
theorem sorted_F {K : PySem.W.Frag} : CallF (rSortG K) dfSorted := fun S H xs vs k Q hS r hf q => by
  obtain ⟨x, l, rfl, hc, hk⟩ := hf
  cases r with
  | cons r1 r2 =>
    cases r2
    obtain ⟨a, C, rfl, cv, hC⟩ := coll_rep (K := K) r1 hc
    refine ⟨a, C, rfl, cv, fun us hu => ?_⟩
    have rl := hC us hu
    rcases hk with ⟨ns, rfl, hk⟩ | ⟨ns, rfl, hk⟩ | ⟨ns, rfl, hk⟩
    · obtain rfl := rl.ints'
      refine ⟨_, .sInts ns, fun ys p hp hs np => ?_⟩
      have ey : ys = (ys.map ivV).map V.int := by
        rw [List.map_map]
        refine (List.map_id ys).symm.trans (List.map_congr_left fun y hy => ?_)
        obtain ⟨i, _, rfl⟩ := List.mem_map.mp (hp.mem_iff.mp hy)
        rfl
      have hp2 : (ys.map ivV).Perm ns := by
        have := hp.map ivV
        rwa [iv_int] at this
      refine q _ _ p (hk (ys.map ivV) hp2 ?_) np (by rw [congrArg (RepL S H) ey]; exact RepL.ints)
      refine List.pairwise_map.mpr (hs.imp fun {x y} z => ?_)
      have := of_decide_eq_false z
      omega
    · obtain rfl := rl.strs'
      refine ⟨_, .sStrs ns, fun ys p hp hs np => ?_⟩
      have ey : ys = (ys.map svV).map V.str := by
        rw [List.map_map]
        refine (List.map_id ys).symm.trans (List.map_congr_left fun y hy => ?_)
        obtain ⟨i, _, rfl⟩ := List.mem_map.mp (hp.mem_iff.mp hy)
        rfl
      have hp2 : (ys.map svV).Perm ns := by
        have := hp.map svV
        rwa [sv_str] at this
      refine q _ _ p (hk (ys.map svV) hp2 ?_) np (by rw [congrArg (RepL S H) ey]; exact RepL.strs)
      exact List.pairwise_map.mpr (hs.imp fun {x y} z => of_decide_eq_false z)
    · obtain ⟨_, f, h1, h2⟩ := rl.tups
      refine ⟨_, .sTups us f h2, fun ys p hp hs np => ?_⟩
      have hp2 : (ys.map f).Perm ns := by rw [← h1]; exact hp.map f
      refine q _ _ p (hk (ys.map f) hp2 (List.pairwise_map.mpr hs)) np ?_
      have g : ∀ zs : List V, (∀ z ∈ zs, z ∈ us) → RepL S H zs ((zs.map f).map dT) := fun zs => by
        induction zs with
        | nil => exact fun _ => .nil
        | cons z zs ih =>
          intro hm
          obtain ⟨t, rfl, e⟩ := h2 z (hm z (List.mem_cons_self ..))
          exact .cons (.tup e RepL.strs) (ih fun y hy => hm y (List.mem_cons_of_mem _ hy))
      exact g ys fun z hz => hp.mem_iff.mp hz
end
end Dl
set_option maxRecDepth 100000
namespace Dl
open PySem PySem.Spec PyProof.Rows L2 Lk

variable {L : Wd}
theorem Step.own {S : Addr → Prop} {H : Hp} {a : Addr} {o : HO} (h : S a) (nt : ∀ vs, H a ≠ some (.tup vs)) : Step S H S (upd H a o) :=
  ⟨fun b u n e => by rw [upd_ne fun z => n (by rw [z]; exact h)]; exact e, fun b z => .inl z, fun b z => by
    by_cases e : b = a
    · rw [e, upd_same]; exact (fun z => nomatch z)
    · rw [upd_ne e]; exact z, fun b vs e => by rw [upd_ne fun z => nt vs (by rw [← z]; exact e)]; exact e⟩
/-! ### a list that a name holds alone changes -/
/-- the items of it, the list that it becomes, the answer -/
abbrev DM := List D → List D → (List D → D → Prop) → Prop
def deMut (i : Nat) (m : DM) (da : DA L) : DE L := fun δ w Q => (∃ l, δ[i]? = some (.own (.lst l))) ∧ da δ w fun xs δ' w' => ∃ l, δ'[i]? = some (.own (.lst l)) ∧ m l xs fun l' y => Q y (δ'.set i (.own (.lst l'))) w'
/-- the same, by values -/
def MutR (r : V → List V → Hp → VK → Prop) (m : DM) : Prop := ∀ (S : Addr → Prop) (H : Hp) (a : Addr) (us vs : List V) (l xs : List D) (k : List D → D → Prop) (Q : VK), H a = some (.lst us) → RepL S H us l → RepL S H vs xs → m l xs k →
  (∀ l' y us' u, k l' y → RepL S H us' l' → Rep S H u y → Q u (upd H a (.lst us'))) → r (.ref a) vs H Q
section
variable {X : Cx} {o e : Expr} {es : List Expr} {da : DA L} {name : Str} {apos cpos : Pos} {id : String} {r : V → List V → Hp → VK → Prop} {m : DM} {i : Nat}
theorem TD_mut {K : PySem.W.Frag} (h : MutR r m) : ∀ σ H Q, TD (deMut i m da) σ H Q → tBM K "list" r (tVar i) (TDA da) σ H Q := fun σ H Q ⟨Φ, δ, w, R, A, ⟨⟨l0, e0⟩, hd⟩, q⟩ => by
  obtain ⟨a, ea, ⟨us0, eu0, _⟩, _⟩ := A.own i _ e0
  refine ⟨_, ea, .inl ⟨rfl, us0, SqL.of eu0⟩, Φ, δ, w, _, A, hd, fun xs δ1 w1 vs H1 ⟨l, e1, hm⟩ A1 s1 r1 => ?_⟩
  obtain ⟨a1, ea1, ⟨us, eu, ru⟩, _⟩ := A1.own i _ e1
  rw [ea] at ea1
  cases ea1
  refine h _ H1 a us vs l xs _ Q eu ru r1 hm fun l' y us' u hq r2 r3 => ?_
  have Sa : Sof Φ δ1 σ w1 a := .inr (.inr ⟨i, _, e1, ea⟩)
  have so := Step.own (H := H1) (S := Sof Φ δ1 σ w1) (o := .lst us') Sa fun vs z => by rw [eu] at z; cases z
  obtain ⟨A2, iff2, s2⟩ := A1.chg (d' := .lst l') (o := .lst us') e1 ea ⟨us', upd_same, r2.go so⟩
  exact q _ _ _ _ _ hq A2 (s1.trans s2) ((r3.go so).go (sub_step (fun b z => (iff2 b).mp z) _))
theorem pd_mut (slot : Slot "list" name id) (hty : typeOf (.builtin id) = pure (.type "method_descriptor")) (hm : MtR X id r) (h : MutR r m) (ho : PE X o (tVar i)) (ha : PA X (e :: es) (TDA da))
    (hbase : attributeBase o name X.env (eval o X.env) = eval o X.env := by rfl)
    (hfew : ((backTo cpos (starEach (e :: es) X.env)).all (fun x => !x.1) && (backToKw cpos (keywordEach [] X.env)).all (fun x => x.1.isSome)
      && decide ((e :: es).length + ([] : List Keyword).length + (if ([] : List Keyword).isEmpty then 0 else 1) < 30)) = true := by rfl)
    (hline : (apos.endLine == cpos.line) = true := by rfl) (hs : starEach (e :: es) X.env = (false, eval e X.env) :: starEach es X.env := by rfl) (hplain : (backTo cpos (starEach es X.env)).any (·.1) = false := by rfl) :
    PE X (.Call (.Attribute o name apos) (e :: es) [] cpos) (TD (deMut i m da)) := peI (pe_bm PySem.F.plainAttrs_list slot hty hm ho ha hbase hfew hline hs hplain) (TD_mut h)
def mApp : DM := fun l xs k => ∃ x, xs = [x] ∧ l.length < sizeLine ∧ k (l ++ [x]) .non
theorem app_M : MutR rAppend mApp := fun S H a us vs l xs k Q ea ru rv ⟨x, hx, hl, hk⟩ q => by
  subst hx
  cases rv with
  | cons r1 r2 =>
    cases r2
    exact ⟨a, us, _, rfl, rfl, ea, by rw [ru.length]; exact hl, q _ _ _ _ hk (ru.snoc r1) .non⟩
theorem RepL.dropLast {S : Addr → Prop} {H : Hp} {us : List V} {l : List D} (r : RepL S H us l) : RepL S H us.dropLast l.dropLast := by
  rw [List.dropLast_eq_take, List.dropLast_eq_take, r.length]
  exact r.take _
theorem RepL.erase {S : Addr → Prop} {H : Hp} {us : List V} {l : List D} (r : RepL S H us l) (i : Nat) : RepL S H (us.eraseIdx i) (l.eraseIdx i) := by
  rw [List.eraseIdx_eq_take_drop_succ, List.eraseIdx_eq_take_drop_succ]
  exact (r.take _).append (r.drop _)
theorem RepL.set {S : Addr → Prop} {H : Hp} {us : List V} {l : List D} {u : V} {x : D} (r : RepL S H us l) (h : Rep S H u x) (i : Nat) : RepL S H (us.set i u) (l.set i x) := by
  induction us generalizing l i with
  | nil => cases r; exact .nil
  | cons y ys ih =>
    cases r with
    | cons a b =>
      cases i with
      | zero => exact .cons h b
      | succ i => exact .cons a (ih b i)
def mPopAt : DM := fun l xs k => ∃ i j y, xs = [.int i] ∧ -(2 ^ 63) ≤ i ∧ i < 2 ^ 63 ∧ seqIndex? i l.length = some j ∧ l[j]? = some y ∧ k (l.eraseIdx j) y
theorem popAt_M : MutR rPopAt mPopAt := fun S H a us vs l xs k Q ea ru rv ⟨i, j, y, hx, h1, h2, h3, h4, hk⟩ q => by
  subst hx
  cases rv with
  | cons r1 r2 =>
    cases r2
    cases r1
    obtain ⟨u, e4, r4⟩ := ru.get h4
    exact ⟨a, us, i, j, u, rfl, rfl, ea, h1, h2, by rw [ru.length]; exact h3, e4, q _ _ _ _ hk (ru.erase j) r4⟩
def dePop (i : Nat) : DE L := fun δ w Q => ∃ l y, δ[i]? = some (.own (.lst l)) ∧ l[l.length - 1]? = some y ∧ Q y (δ.set i (.own (.lst l.dropLast))) w
theorem pd_pop (ho : PE X o (tVar i)) (hbase : attributeBase o "pop" X.env (eval o X.env) = eval o X.env := by rfl) (hline : (apos.endLine == cpos.line) = true := by rfl) : PE X (.Call (.Attribute o "pop" apos) [] [] cpos) (TD (dePop (L := L) i)) := by
  refine peI (pe_bm0 PySem.F.plainAttrs_list PySem.F.slot_list_pop PySem.F.type_list_pop mt_pop ho hbase hline) fun σ H Q ⟨Φ, δ, w, R, A, ⟨l, y, e0, hy, hd⟩, q⟩ => ?_
  obtain ⟨a, ea, ⟨us, eu, ru⟩, _⟩ := A.own i _ e0
  obtain ⟨u, e4, r4⟩ := ru.get hy
  refine ⟨_, ea, .inl ⟨rfl, us, SqL.of eu⟩, a, us, u, rfl, rfl, eu, by rw [ru.length]; exact e4, ?_⟩
  have Sa : Sof Φ δ σ w a := .inr (.inr ⟨i, _, e0, ea⟩)
  have so := Step.own (H := H) (S := Sof Φ δ σ w) (o := .lst us.dropLast) Sa fun vs z => by rw [eu] at z; cases z
  obtain ⟨A2, iff2, s2⟩ := A.chg (d' := .lst l.dropLast) (o := .lst us.dropLast) e0 ea ⟨_, upd_same, ru.dropLast.go so⟩
  exact q _ _ _ _ _ hd A2 s2 ((r4.go so).go (sub_step (fun b z => (iff2 b).mp z) _))
/-- l[j] = e -/
def dsSetAt (i : Nat) (d dj : DE L) : DS L := fun E δ w => d δ w fun x δ1 w1 => (∃ l, δ1[i]? = some (.own (.lst l))) ∧ dj δ1 w1 fun y δ2 w2 => ∃ l j n, y = .int j ∧ δ2[i]? = some (.own (.lst l)) ∧ ixN l.length j = some n ∧ E.nx (δ2.set i (.own (.lst (l.set n x)))) w2
theorem pds_setAt {oj : Expr} {d dj : DE L} {pos pos2 : Pos} (he : PE X e (TD d)) (ho : PE X o (tVar i)) (hj : PE X oj (TD dj)) (ha : ∀ v, assign (.Subscript o oj pos2) X.env v = (do
      let ov ← holding [v] (eval o X.env)
      let iv ← holding [v, ov] (eval oj X.env)
      standAt pos2
      holding [v, ov, iv] (setItem ov iv v)
      release [v, ov, iv] []) := by intro _; rfl) (hs : swapsWithSole [.Subscript o oj pos2] e pos.line X.env = pure false := by rfl) (hw : swappedStores [.Subscript o oj pos2] e X.env = pure none := by rfl)
    (h1 : (assignEach [.Subscript o oj pos2] X.env).map (·.2) = [assign (.Subscript o oj pos2) X.env] := by rfl) : PS X (.Assign [.Subscript o oj pos2] e pos) (TDS (dsSetAt i d dj)) := by
  refine psI (ps_asg he (pg_sub ho hj set_list ha) hs hw h1) fun D σ H ⟨Φ, δ, w, E, A, hd, h1, _⟩ => ⟨Φ, δ, w, _, A, hd, fun x δ1 w1 v H1 ⟨⟨l0, e0⟩, hx⟩ A1 s1 r1 => ?_⟩
  obtain ⟨a, ea, ⟨us0, eu0, _⟩, _⟩ := A1.own i _ e0
  refine ⟨_, ea, Φ, δ1, w1, _, A1, hx, fun y δ2 w2 u H2 ⟨l, j, n, hy, e2, hn, hq⟩ A2 s2 r2 => ?_⟩
  subst hy
  cases r2
  obtain ⟨a2, ea2, ⟨us, eu, ru⟩, _⟩ := A2.own i _ e2
  rw [ea] at ea2
  cases ea2
  refine ⟨a, us, j, n, rfl, rfl, eu, by rw [ru.length]; exact hn, ?_⟩
  have Sa : Sof Φ δ2 σ w2 a := .inr (.inr ⟨i, _, e2, ea⟩)
  have so := Step.own (H := H2) (S := Sof Φ δ2 σ w2) (o := .lst (us.set n v)) Sa fun vs z => by rw [eu] at z; cases z
  obtain ⟨A3, iff3, s3⟩ := A2.chg (d' := .lst (l.set n x)) (o := .lst (us.set n v)) e2 ea ⟨_, upd_same, (ru.set (r1.go s2.S) n).go so⟩
  exact h1 _ _ _ _ hq A3 (s1.trans (s2.trans s3))
/-! ### several names at once -/
def dsPar2 (i j : Nat) (da : DA L) : DS L := fun E δ w => da δ w fun xs δ' w' => ∃ x y, xs = [x, y] ∧ i < δ'.length ∧ j < δ'.length ∧ E.nx ((δ'.set i (.val x)).set j (.val y)) w'
theorem TDS_par2 {i j : Nat} {da : DA L} : ∀ D σ H, TDS (dsPar2 i j da) D σ H → tPar i j (TDA da) D σ H := fun D σ H ⟨Φ, δ, w, E, A, hd, h1, _⟩ => ⟨Φ, δ, w, _, A, hd, fun xs δ1 w1 vs H1 ⟨x, y, hx, hi, hj, hq⟩ A1 s1 r1 => by
  subst hx
  cases r1 with
  | cons r1 r2 =>
    cases r2 with
    | cons r2 r3 =>
      cases r3
      obtain ⟨A2, b2⟩ := A1.set hi r1
      obtain ⟨A3, b3⟩ := A2.set (i := j) (by rw [List.length_set]; exact hj) (r2.go (sub_step b2 H1).S)
      exact ⟨_, _, rfl, h1 _ _ _ _ hq A3 (s1.trans ((sub_step b2 H1).trans (sub_step b3 H1)))⟩⟩
def dsPar3 (i j l : Nat) (da : DA L) : DS L := fun E δ w => da δ w fun xs δ' w' => ∃ x y z, xs = [x, y, z] ∧ i < δ'.length ∧ j < δ'.length ∧ l < δ'.length ∧ E.nx (((δ'.set i (.val x)).set j (.val y)).set l (.val z)) w'
theorem TDS_par3 {i j l : Nat} {da : DA L} : ∀ D σ H, TDS (dsPar3 i j l da) D σ H → tPar3 i j l (TDA da) D σ H := fun D σ H ⟨Φ, δ, w, E, A, hd, h1, _⟩ => ⟨Φ, δ, w, _, A, hd, fun xs δ1 w1 vs H1 ⟨x, y, z, hx, hi, hj, hl, hq⟩ A1 s1 r1 => by
  subst hx
  cases r1 with
  | cons r1 r2 =>
    cases r2 with
    | cons r2 r3 =>
      cases r3 with
      | cons r3 r4 =>
        cases r4
        obtain ⟨A2, b2⟩ := A1.set hi r1
        have t2 := sub_step b2 H1
        obtain ⟨A3, b3⟩ := A2.set (i := j) (by rw [List.length_set]; exact hj) (r2.go t2.S)
        have t3 := t2.trans (sub_step b3 H1)
        obtain ⟨A4, b4⟩ := A3.set (i := l) (by rw [List.length_set, List.length_set]; exact hl) (r3.go t3.S)
        exact ⟨_, _, _, rfl, h1 _ _ _ _ hq A4 (s1.trans (t3.trans (sub_step b4 H1)))⟩⟩
theorem pds_par2 {i j : Nat} {st : Stmt} {es : List Expr} {da : DA L} (h : ∀ ta, PA X es ta → PS X st (tPar i j ta)) (ha : PA X es (TDA da)) : PS X st (TDS (dsPar2 i j da)) := psI (h _ ha) TDS_par2
theorem pds_par3 {i j l : Nat} {st : Stmt} {es : List Expr} {da : DA L} (h : ∀ ta, PA X es ta → PS X st (tPar3 i j l ta)) (ha : PA X es (TDA da)) : PS X st (TDS (dsPar3 i j l da)) := psI (h _ ha) TDS_par3
/-- x, y = e, [] : the second is held alone -/
def dsParVO (i j : Nat) (d : DE L) (da : DA L) : DS L := fun E δ w => d δ w fun x δ1 w1 => da δ1 w1 fun l δ' w' => i ≠ j ∧ i < δ'.length ∧ j < δ'.length ∧ E.nx ((δ'.set i (.val x)).set j (.own (.lst l))) w'
theorem Step.add {Φ : Ph L} {δ δ' : DEnv} {w w' : L.W} {σ σ' : L2.St} {H H' : Hp} {a : Addr} (s : Step (Mof L δ σ w) H (Mof L δ' σ' w') H') (h0 : H a = none) : Step (Sof Φ δ σ w) H (Sof (Φ.add a) δ' σ' w') H' :=
  ⟨s.S.keep, fun b z => (sub_add z).elim (s.S.sub b) fun e => .inr (by rw [e]; exact h0), s.trk, s.tup⟩
/-- a name is given the list just made -/
theorem At.give {Φ : Ph L} {δ : DEnv} {w : L.W} {σ : L2.St} {H H0 : Hp} {S0 : Addr → Prop} {i : Nat} {a : Addr} {vs : List V} {l : List D} (A : At (Φ.add a) δ w σ H) (hi : i < δ.length) (n : ¬ Sof Φ δ σ w a) (h0 : Φ.H0 a = none) (e : H a = some (.lst vs)) (r : RepL (Sof (Φ.add a) δ σ w) H vs l) (s : Step S0 H0 (Mof L δ σ w) H) (f : H0 a = none) :
    At Φ (δ.set i (.own (.lst l))) w (σ.set i (some (.ref a))) H ∧ Step S0 H0 (Mof L (δ.set i (.own (.lst l))) (σ.set i (some (.ref a))) w) H := by
  obtain ⟨A2, sub⟩ := A.setOwn (d := .lst l) hi ⟨vs, e, r⟩ n h0
  exact ⟨A2, s.keep, fun b hb => (sub b hb).elim (s.sub b) fun e => .inr (by rw [e]; exact f), s.trk, s.tup⟩
theorem TDS_parVO {i j : Nat} {d : DE L} {da : DA L} : ∀ D σ H, TDS (dsParVO i j d da) D σ H → tPar i j (tCons (TD d) (tCons (TF da) tNil)) D σ H := fun D σ H ⟨Φ, δ, w, E, A, hd, h1, _⟩ => ⟨Φ, δ, w, _, A, hd, fun x δ1 w1 v H1 hx A1 s1 r1 => ⟨Φ, δ1, w1, _, A1, hx, fun l δ' w' a vs H2 ⟨ne, hi, hj, hq⟩ A2 n2 h0 e2 r2 s2 => by
    have rv : Rep (Sof (Φ.add a) δ' σ w') H2 v x := r1.go (s2.add h0)
    obtain ⟨A3, b3⟩ := A2.set hi rv
    have t3 := sub_step b3 H2
    have n3 : ¬ Sof Φ (δ'.set i (.val x)) (σ.set i (some v)) w' a := fun z => n2 (z.M.elim (fun z => (b3 a z).S) fun z => .inr (.inl z))
    obtain ⟨A4, s4⟩ := A3.give (i := j) (by rw [List.length_set]; exact hj) n3 (A1.new0 h0) e2 (r2.go t3.S) (s2.trans t3) h0
    exact ⟨_, _, rfl, h1 _ _ _ _ hq A4 (s1.trans s4)⟩⟩⟩
theorem pds_parVO {X : Cx} {i j : Nat} {st : Stmt} {e1 e2 : Expr} {d : DE L} {da : DA L} (h : ∀ ta, PA X [e1, e2] ta → PS X st (tPar i j ta)) (h1 : PE X e1 (TD d)) (h2 : PE X e2 (TF da)) (hs : starEach [e1, e2] X.env = (false, eval e1 X.env) :: starEach [e2] X.env := by rfl) (hs2 : starEach [e2] X.env = (false, eval e2 X.env) :: starEach [] X.env := by rfl) : PS X st (TDS (dsParVO i j d da)) :=
  psI (h _ (pa_cons h1 (pa_cons h2 pa_nil hs2) hs)) TDS_parVO
/-- x, y = [], e : the first is held alone -/
def dsParOV (i j : Nat) (da : DA L) (d : DE L) : DS L := fun E δ w => da δ w fun l δ1 w1 => d δ1 w1 fun x δ' w' => i ≠ j ∧ i < δ'.length ∧ j < δ'.length ∧ E.nx ((δ'.set j (.val x)).set i (.own (.lst l))) w'
theorem TDS_parOV {i j : Nat} {d : DE L} {da : DA L} : ∀ D σ H, TDS (dsParOV i j da d) D σ H → tPar i j (tCons (TF da) (tCons (TD d) tNil)) D σ H := fun D σ H ⟨Φ, δ, w, E, A, hd, h1, _⟩ => ⟨Φ, δ, w, _, A, hd, fun l δ1 w1 a vs H1 hx A1 n1 h0 e1 r1 s1 => ⟨Φ.add a, δ1, w1, _, A1, hx, fun x δ' w' v H2 ⟨ne, hi, hj, hq⟩ A2 s2 rv => by
    have nF : ¬ Φ.F a := fun z => A.trk a z h0
    have n2 := A2.notS nF
    have e2 : H2 a = some (.lst vs) := s2.keep a _ (fun z => (A1.notS nF) z.S) e1
    have r2 := r1.go s2.S
    obtain ⟨A3, b3⟩ := A2.set hj rv
    have t3 := sub_step b3 H2
    have n3 : ¬ Sof Φ (δ'.set j (.val x)) (σ.set j (some v)) w' a := fun z => n2 (z.M.elim (fun z => (b3 a z).S) fun z => .inr (.inl z))
    obtain ⟨A4, s4⟩ := A3.give (i := i) (by rw [List.length_set]; exact hi) n3 (A.new0 h0) e2 (r2.go t3.S) (s1.trans (s2.trans t3)) h0
    rw [List.set_comm (l := σ) _ _ (Ne.symm ne)] at A4 s4
    exact ⟨_, _, rfl, h1 _ _ _ _ hq A4 s4⟩⟩⟩
theorem pds_parOV {X : Cx} {i j : Nat} {st : Stmt} {e1 e2 : Expr} {d : DE L} {da : DA L} (h : ∀ ta, PA X [e1, e2] ta → PS X st (tPar i j ta)) (h1 : PE X e1 (TF da)) (h2 : PE X e2 (TD d)) (hs : starEach [e1, e2] X.env = (false, eval e1 X.env) :: starEach [e2] X.env := by rfl) (hs2 : starEach [e2] X.env = (false, eval e2 X.env) :: starEach [] X.env := by rfl) : PS X st (TDS (dsParOV i j da d)) :=
  psI (h _ (pa_cons h1 (pa_cons h2 pa_nil hs2) hs)) TDS_parOV
/-! ### a < b < c, join -/
def deChain (o o' : DO) (a b c : DE L) : DE L := fun δ w Q => a δ w fun x δ1 w1 => b δ1 w1 fun y δ2 w2 => o x y fun z => ∃ k, z = .bl k ∧ if k = true then c δ2 w2 fun u δ3 w3 => o' y u fun v => Q v δ3 w3 else Q (.bl false) δ2 w2
theorem pd_chain {X : Cx} {op op' : CmpOp} {r r' : R2} {o o' : DO} {ea eb ec : Expr} {a b c : DE L} {pos : Pos} (ho : OpR X (compareOp op) r) (hd : OpD r o) (ho' : OpR X (compareOp op') r') (hd' : OpD r' o') (ha : PE X ea (TD a)) (hb : PE X eb (TD b)) (hc : PE X ec (TD c))
    (hm : lastMarks [op, op'] [eb, ec] = false := by with_unfolding_all rfl) : PE X (.Compare ea [op, op'] [eb, ec] pos) (TD (deChain o o' a b c)) := by
  refine peI (pe_chain ho ho' ha hb hc hm) fun σ H Q ⟨Φ, δ, w, R, A, h, q⟩ => ⟨Φ, δ, w, _, A, h, fun x δ1 w1 v H1 h1 A1 s1 r1 => ⟨Φ, δ1, w1, _, A1, h1, fun y δ2 w2 u H2 h2 A2 s2 r2 => ?_⟩⟩
  refine hd _ H2 x y v u _ _ (fun b => A2.tr) (r1.go s2.S) r2 h2 fun z v' H3 ⟨k, hk, hz⟩ sm r3 => ?_
  subst hk
  cases r3
  refine ⟨k, rfl, ?_⟩
  have A3 := A2.same sm
  have s3 : Step (Mof L δ σ w) H (Mof L δ2 σ w2) H3 := (s1.trans s2).trans (Step.same sm)
  cases k with
  | false => exact q _ _ _ _ _ hz A3 s3 (.bl false)
  | true =>
    refine ⟨Φ, δ2, w2, _, A3, hz, fun u2 δ4 w4 v4 H4 h4 A4 s4 r4 => ?_⟩
    refine hd' _ H4 y u2 u v4 _ _ (fun b => A4.tr) ((r2.go (Step.same sm)).go s4.S) r4 h4 fun z v' H5 hz5 sm5 r5 => ?_
    exact q _ _ _ _ _ hz5 (A4.same sm5) (s3.trans (s4.trans (Step.same sm5))) r5
def deJoin (a b : DE L) : DE L := fun δ w Q => a δ w fun x δ1 w1 => b δ1 w1 fun y δ2 w2 => ∃ z ys, x = .str z ∧ (y = .lst (ys.map .str) ∨ y = .tup (ys.map .str)) ∧ (ys.map (·.length)).sum + ys.length * z.length ≤ 16777216 ∧ Q (.str (Txt.join z ys)) δ2 w2
theorem pd_join {X : Cx} {o e : Expr} {a b : DE L} {apos pos : Pos} (ho : PE X o (TD a)) (he : PE X e (TD b)) (hx : ∀ δ w Q, a δ w Q → a δ w fun x δ' w' => (∃ z, x = .str z) ∧ Q x δ' w') (hs : starEach [e] X.env = [(false, eval e X.env)] := by rfl) (hbase : attributeBase o "join" X.env (eval o X.env) = eval o X.env := by rfl) (hline : (apos.endLine == pos.line) = true := by rfl) :
    PE X (.Call (.Attribute o "join" apos) [e] [] pos) (TD (deJoin a b)) := by
  refine peI (pe_join ho he hs hbase hline) fun σ H Q ⟨Φ, δ, w, R, A, h, q⟩ => ⟨Φ, δ, w, _, A, hx _ _ _ h, fun x δ1 w1 v H1 ⟨⟨z, hz⟩, h1⟩ A1 s1 r1 => ?_⟩
  subst hz
  cases r1
  refine ⟨⟨z, rfl⟩, Φ, δ1, w1, _, A1, h1, fun y δ2 w2 u H2 ⟨z2, ys, e1, e2, hz, hq⟩ A2 s2 r2 => ?_⟩
  cases e1
  rcases e2 with rfl | rfl
  · cases r2 with
    | lst e n rl =>
      obtain rfl := rl.strs'
      exact ⟨z, _, ys, rfl, rfl, .inl (SqL.of e), hz, q _ _ _ _ _ hq A2 (s1.trans s2) (.str _)⟩
  · cases r2 with
    | tup e rl =>
      obtain rfl := rl.strs'
      exact ⟨z, _, ys, rfl, rfl, .inr (SqT.of e), hz, q _ _ _ _ _ hq A2 (s1.trans s2) (.str _)⟩
end
end Dl
set_option maxRecDepth 100000
set_option maxHeartbeats 1000000
namespace Dl
open PySem PySem.Spec PyProof.Rows L2
theorem tuple_same (l : Addr) (items : Array Value) (n : Nat) (dd : Option Addr) (sl : Array (Option Value)) (x : Int) (u : Tok) (c0 : (decide (x < -(2 ^ 63)) || decide (x ≥ 2 ^ 63)) = false) (c1 : (items.isEmpty || x == 1) = true) :
    Meets (Builtin.«tuple.__mul__» ⟨[.ref l, .int x u], []⟩) (fun _ R s => s.heap.get? l = some { cls := .type "tuple", dict := dd, data := .seq items n, slots := sl } ∧ R (.ok (.ret (.ref l))) s) :=
  .of_wp fun prog w A R s h => by
    obtain ⟨hp, g, d, tk, os⟩ := s
    obtain ⟨hl, h⟩ := h
    have f1 := AutoSeq1.idx_int
    wp_walk using wpAny_loadPart' hl
    refine wpAny_ite_false (decide_eq_false (by rw [c0]; exact Bool.false_ne_true)) ?_
    wp_walk using wpAny_loadPart' hl
    exact ⟨_, rfl, h⟩
theorem tuple_none (l : Addr) (items : Array Value) (n : Nat) (dd : Option Addr) (sl : Array (Option Value)) (x : Int) (u : Tok) (c0 : (decide (x < -(2 ^ 63)) || decide (x ≥ 2 ^ 63)) = false) (c1 : (items.isEmpty || x == 1) = false) (c2 : (decide (x ≤ 0) || items.isEmpty) = true) :
    Meets (Builtin.«tuple.__mul__» ⟨[.ref l, .int x u], []⟩) (fun _ R s => s.heap.get? l = some { cls := .type "tuple", dict := dd, data := .seq items n, slots := sl } ∧
      R (.ok (.ret (Value.ref s.heap.objs.size))) { s with heap := s.heap.push { cls := Value.type "tuple", data := Data.seq #[] }, toks := s.toks }) :=
  .of_wp fun prog w A R s h => by
    obtain ⟨hp, g, d, tk, os⟩ := s
    obtain ⟨hl, h⟩ := h
    have f1 := AutoSeq1.idx_int
    wp_walk using wpAny_loadPart' hl
    refine wpAny_ite_false (decide_eq_false (by rw [c0]; exact Bool.false_ne_true)) ?_
    wp_walk using wpAny_loadPart' hl
    exact ⟨_, rfl, h⟩
/-- t * k, any small k -/
def rRepT0 (K : PySem.W.Frag) : R2 := fun x y H Q => ∃ l k xs, x = .ref l ∧ y = .int k ∧ SqT K H l xs ∧ k ≤ 1000 ∧ -(2 ^ 62) ≤ k ∧ xs.length ≤ 1000 ∧ (((xs = [] ∨ k = 1) ∧ Q (.ref l) H) ∨ (xs ≠ [] ∧ k ≠ 1 ∧ ∀ p, H p = none → Q (.ref p) (upd H p (.tup (List.replicate k.toNat xs).flatten))))
theorem op_repT0 {X : Cx} : OpR X (binaryOp .Mult) (rRepT0 X.K) := by
  intro pins s σ H x y v u Q I rx ry h
  obtain ⟨l, k, xs, rfl, rfl, hT, h2, h1, hz, hq⟩ := h
  by_cases hbig : xs ≠ [] ∧ 2 ≤ k
  · rcases hq with ⟨z, _⟩ | ⟨_, _, q⟩
    · rcases z with z | z
      · exact absurd z hbig.1
      · omega
    · exact op_repT pins s σ H _ _ v u Q I rx ry ⟨l, k, xs, rfl, rfl, hT, hbig.1, hbig.2, h2, hz, q⟩
  cases rx
  obtain ⟨t, rfl⟩ := ry
  obtain ⟨its, r, ⟨⟨cls, dd, data, sl⟩, ho, hc, n, hd⟩, hs⟩ := I.tuple hT
  simp only at hc hd
  subst hc hd
  have hle : its.length = xs.length := r.length.symm
  have c0 : (decide (k < -(2 ^ 63)) || decide (k ≥ 2 ^ 63)) = false := by
    rw [decide_eq_false (by omega), decide_eq_false (by omega)] <;> rfl
  by_cases he : xs = [] ∨ k = 1
  · rcases hq with ⟨_, q⟩ | ⟨z1, z2, _⟩
    · have c1 : (its.toArray.isEmpty || k == 1) = true := by
        rcases he with e | e
        · rw [e] at hle
          rw [List.eq_nil_of_length_eq_zero hle]
          rfl
        · rw [e]
          simp
      refine wpAny_binaryOp_repeat_ref (T := "tuple") (U := "int") (by decide) ⟨_, ho, rfl⟩ (fun s' => typeIs_int s' k t) noFill_tuple_mul F.fills_int_mul F.slot_int_rmul repeat_tuple F.slot_int_index.lookup
        (call_meets F.slot_int_rmul (typeIs_int s k t) F.entry_int_rmul (F.args_int_rmul_2 _ _) (int_rmul_tuple k t l its.toArray n dd sl)
          ⟨ho, rfl, ⟨_, ho, rfl⟩, call_meets F.slot_tuple_mul ⟨_, ho, rfl⟩ F.entry_tuple_mul (F.args_tuple_mul_2 _ _) (tuple_same l its.toArray n dd sl k t c0 c1) ⟨ho, ?_⟩⟩)
      exact ⟨.ref l, H, I, rfl, q⟩
    · exact (he.elim z1 z2).elim
  · rcases hq with ⟨z, _⟩ | ⟨z1, z2, q⟩
    · exact absurd z he
    · have k0 : k ≤ 0 := by
        have : ¬ 2 ≤ k := fun z => hbig ⟨z1, z⟩
        omega
      have hi : its.toArray.isEmpty = false := by
        cases its with
        | nil => exact absurd (List.eq_nil_of_length_eq_zero hle.symm) z1
        | cons a b => rfl
      have c1 : (its.toArray.isEmpty || k == 1) = false := by
        rw [hi, Bool.false_or]
        exact beq_eq_false_iff_ne.mpr z2
      have c2 : (decide (k ≤ 0) || its.toArray.isEmpty) = true := by rw [decide_eq_true k0, Bool.true_or]
      refine wpAny_binaryOp_repeat_ref (T := "tuple") (U := "int") (by decide) ⟨_, ho, rfl⟩ (fun s' => typeIs_int s' k t) noFill_tuple_mul F.fills_int_mul F.slot_int_rmul repeat_tuple F.slot_int_index.lookup
        (call_meets F.slot_int_rmul (typeIs_int s k t) F.entry_int_rmul (F.args_int_rmul_2 _ _) (int_rmul_tuple k t l its.toArray n dd sl)
          ⟨ho, rfl, ⟨_, ho, rfl⟩, call_meets F.slot_tuple_mul ⟨_, ho, rfl⟩ F.entry_tuple_mul (F.args_tuple_mul_2 _ _) (tuple_none l its.toArray n dd sl k t c0 c1 c2) ⟨ho, ?_⟩⟩)
      have e0 : (List.replicate k.toNat xs).flatten = [] := by rw [show k.toNat = 0 by omega]; rfl
      rw [e0] at q
      exact ⟨.ref s.heap.objs.size, _, I.laid (t' := s.toks) (o := .tup []) (fun b ob q => Heap.get?_push_of_some _ q) (Nat.le_refl _) ⟨Nat.zero_le _, [], .nil, IsTup.new _ _⟩, rfl, q _ (I.hok.fresh (Nat.le_refl _))⟩
end Dl
set_option maxRecDepth 100000
set_option maxHeartbeats 1000000
namespace Dl
open PySem PySem.Spec PyProof.Rows L2
theorem preSum_add (val : Nat → Int) (n : Nat) : preSum val n = ((List.range n).map val).sum := by
  induction n with
  | zero => rfl
  | succ n ih =>
    rw [List.range_succ, List.map_append, List.sum_append, ← ih]
    show preSum val n + val n = _
    simp
/-- sum(xs), a list or a tuple of ints -/
def rSumA (K : PySem.W.Frag) : List V → Hp → VK → Prop := fun vs H Q => ∃ (a : Addr) (ns : List Int), vs = [V.ref a] ∧ (SqL K H a (ns.map V.int) ∨ SqT K H a (ns.map V.int)) ∧ Q (.int ns.sum) H
theorem cr_sumA {X : Cx} (hc : X.calm = true) : CallR X (.builtin "sum") (rSumA X.K) := by
  intro pins s σ H vs us Q I r h
  obtain ⟨a, ns, rfl, hs, q⟩ := h
  rcases hs with hs | hs
  · exact cr_sum hc pins s σ H [.ref a] us Q I r ⟨a, ns, rfl, hs, q⟩
  · obtain ⟨its, rv, hl, hz⟩ := I.tuple hs
    rw [Vals.ref1 r]
    have hi := Vals.ints rv
    have hlt : a < s.heap.objs.size := hl.lt
    have hT : s.heap.IsTuple a its.toArray := hl
    have hlen : its.length = ns.length := by rw [← rv.length, List.length_map]
    have val : ∀ (i : Nat) (v : Value), its.toArray[i]? = some v → ∃ t, v = .int (ns.getD i 0) t := fun i v e => by
      have e2 : its[i]? = some v := by simpa using e
      have hi2 : i < its.length := (List.getElem?_eq_some_iff.mp e2).1
      obtain ⟨u, hu, ru⟩ := rv.get (by rw [List.getElem?_map, List.getElem?_eq_getElem (by omega : i < ns.length)]; rfl : (ns.map V.int)[i]? = some (.int ns[i]))
      rw [e2] at hu
      cases hu
      obtain ⟨t, rfl⟩ := ru
      exact ⟨t, by rw [List.getD_eq_getElem?_getD, List.getElem?_eq_getElem (by omega : i < ns.length)]; rfl⟩
    refine call_sum_walkG (wpAny_pyIter_tuple hT ?_)
    refine ⟨s.heap.objs.size, [s.heap.objs.size, a], [s.heap.objs.size], its.toArray.size, _, _, fun i => ns.getD i 0, rfl, Walks.tuple (A := X.A.in1) (I.ok.hd hc) _ a (Nat.ne_of_lt hlt) its.toArray, ⟨⟨_, Heap.get?_push_size _ rfl, rfl, rfl⟩, hT.push _⟩, fun b hb => ?_, val, fun h' tk t' hk => ?_⟩
    · show b < (s.heap.push _).objs.size
      rw [Heap.size_push]
      rcases List.mem_cons.mp hb with rfl | hb
      · exact Nat.lt_succ_self _
      · rw [List.mem_singleton.mp hb]
        exact Nat.lt_succ_of_lt hlt
    · refine ⟨.int ns.sum, H, I.kept (t' := tk) (fun b o e => hk b o (fun hm => ?_) (Heap.get?_push_of_some _ e)), ⟨t', ?_⟩, q⟩
      · rw [List.mem_singleton.mp hm] at e
        exact Nat.lt_irrefl _ (Heap.lt_size e)
      · rw [preSum_add, List.size_toArray, hlen]
        have em : (List.range ns.length).map (fun i => ns.getD i 0) = ns := by
          refine List.ext_getElem (by simp) fun j h1 h2 => ?_
          rw [List.getElem_map, List.getElem_range, List.getD_eq_getElem?_getD, List.getElem?_eq_getElem h2]
          rfl
        rw [em]
end Dl
set_option maxRecDepth 100000
namespace Lk
open PySem PySem.Spec PyProof.Rows L2
/-! ### dict(pairs) whose keys are tuples -/
theorem tk_at {prog : Program} {w : World} {h h' : Heap} {ks : List Key} {a : Addr} (x : IsTupleKey (mixKind prog w) h ks a) (k : ∀ o, h.get? a = some o → h'.get? a = some o) : IsTupleKey (mixKind prog w) h' ks a := by
  obtain ⟨o, items, n, ho, r⟩ := x
  exact ⟨o, items, n, k o ho, r⟩
def mergedH (xs more : List (List Key × Addr × Value)) : List (List Key × Addr × Value) := more.foldl (fun acc q => storedH acc q.1 q.2.1 q.2.2) xs
theorem storedH_len (xs : List (List Key × Addr × Value)) (k : List Key) (a : Addr) (v : Value) : (storedH xs k a v).length ≤ xs.length + 1 := by
  unfold storedH
  split
  · rw [List.length_map]
    omega
  · simp
section
variable {prog : Program} {w : World} {A : Around} {E : Value → Shared → Prop}
theorem upd_loopT {R : Result → Shared → Prop} {S I l : Addr} {items : Array Value} {res : Value} (hh : A.handled = none) (hu : A.units + 1 < cLine) (hlI : l ≠ I) (hSI : S ≠ I) (hSl : S ≠ l) :
    ∀ (rest : List (List Key × Addr × Value)) (i : Nat) (acc : List (List Key × Addr × Value)) (ix : Int) (t : Tok) (s : Shared), items.size = i + rest.length → acc.length + rest.length ≤ sizeLine →
      (∀ (j : Nat) (q : List Key × Addr × Value), rest[j]? = some q → ∃ (b : Addr), items[i + j]? = some (.ref b) ∧ b ≠ S ∧ b ≠ I ∧ IsTup s.heap b #[.ref q.2.1, q.2.2] ∧ q.2.1 ≠ S ∧ q.2.1 ≠ I ∧ IsTupleKey (mixKind prog w) s.heap q.1 q.2.1) →
      (∀ q ∈ acc, q.2.1 ≠ I) →
      s.heap.IsListIter I l i → s.heap.IsList l items → s.heap.DictOfH (tupleKind (mixKind prog w)) S acc →
      (∀ h' tk, h'.DictOfH (tupleKind (mixKind prog w)) S (mergedH acc rest) → (∀ b o, b ≠ S → b ≠ I → s.heap.get? b = some o → h'.get? b = some o) → R (.ok (.ret res)) { s with heap := h', toks := tk }) →
      codeAny (model prog w) A (.builtin "dict.update.loop" ⟨[.ref S, .ref I, .int ix t, res], []⟩) R s
  | [], i, acc, ix, t, s, hsz, hln, ht, hac, hit, hl, hm, hR => by
    refine codeAny_builtin ud_entry ?_
    rw [Around.under_plainId ud_plain _]
    show wpAny _ A.in1 (pyNext (.ref I) >>= _) _ _ s
    refine wpAny_bind (wpAny_pyNext_list_end (A := A.in1) hh hit hl (by first | exact Array.getElem?_eq_none (Nat.le_of_eq hsz) | (simp at hsz; simp; omega)) fun h' he => ?_)
    show wpAny _ A.in1 (Builtin.Dict.addKeywords S [] >>= _) _ _ _
    refine wpAny_bind (wpAny_pure (wpAny_pure ?_))
    refine hR h' s.toks ?_ fun b o _ hb e => he b o hb e
    obtain ⟨o, es, ep, ho, r1, r2, r3, r4, r5⟩ := hm
    exact ⟨o, es, ep, he _ _ hSI ho, r1, r2, r3, fun x hx => tk_at (r4 x hx) fun o' z => he _ _ (hac x hx) z, r5⟩
  | q :: rest, i, acc, ix, t, s, hsz, hln, ht, hac, hit, hl, hm, hR => by
    obtain ⟨b, hb, hbS, hbI, htup, hqS, hqI, hk⟩ := ht 0 q rfl
    rw [List.length_cons] at hsz hln
    refine codeAny_builtin ud_entry ?_
    rw [Around.under_plainId ud_plain _]
    show wpAny _ A.in1 (pyNext (.ref I) >>= _) _ _ s
    refine wpAny_bind (wpAny_pyNext_list_item (x := .ref b) hit hl (by simpa using hb) fun h1 hit1 hs1 => ?_)
    have ht1 : IsTup h1 b #[.ref q.2.1, q.2.2] := htup.extBut hs1.extBut hbI
    have hl1 : h1.IsList l items := hl.extBut hs1.extBut hlI
    have kp1 : ∀ c o, c ≠ I → s.heap.get? c = some o → h1.get? c = some o := fun c o hc e => hs1.extBut c o hc e
    have hm1 : h1.DictOfH (tupleKind (mixKind prog w)) S acc := by
      obtain ⟨o, es, ep, ho, r1, r2, r3, r4, r5⟩ := hm
      exact ⟨o, es, ep, kp1 _ _ hSI ho, r1, r2, r3, fun x hx => tk_at (r4 x hx) fun o' z => kp1 _ _ (hac x hx) z, r5⟩
    have hk1 : IsTupleKey (mixKind prog w) h1 q.1 q.2.1 := tk_at hk fun o z => kp1 _ _ hqI z
    obtain ⟨o, ho, hc, n, hd⟩ := id ht1
    show wpAny _ A.in1 (holding [Value.ref b] _ >>= _) _ _ _
    refine wpAny_bind (wpAny_holding ?_)
    refine wpAny_bind (wpAny_tryCatch ?_)
    unfold Builtin.Dict.pairItems
    refine wpAny_bind (wpAny_typeOf (T := "tuple") ⟨o, ho, hc⟩ ?_)
    rw [if_pos (by first | decide | rfl | simp)]
    refine wpAny_bind (wpAny_seqItems ho hd (wpAny_pure ?_))
    show wpAny _ A.in1 (holding [Value.ref q.2.1, q.2.2] (dictSet S (.ref q.2.1) q.2.2)) _ _ _
    refine wpAny_holding (wpAny_dictSet_heap (knd := tupleKind (mixKind prog w)) (k := q.1) (tupleKind_room_in1 hu) hk1 hm1 (fun h2 hm2 hs2 => ?_) (by omega))
    refine wpAny_pure ⟨plainId_quiet ud_plain _, upd_loopT (items := items) hh hu hlI hSI hSl rest (i + 1) (storedH acc q.1 q.2.1 q.2.2) (ix + 1) 0 _ (show items.size = i + 1 + rest.length by omega) ?_ (fun j q' e => ?_) ?_ ?_ ?_ hm2 fun h' tk hd' k => ?_⟩
    · have z := storedH_len acc q.1 q.2.1 q.2.2
      omega
    · obtain ⟨b', hb', hbS', hbI', htup', hqS', hqI', hk'⟩ := ht (j + 1) q' (by simpa using e)
      refine ⟨b', ?_, hbS', hbI', (htup'.extBut hs1.extBut hbI').extBut hs2.extBut hbS', hqS', hqI', tk_at hk' fun o z => hs2.extBut _ o hqS' (kp1 _ _ hqI' z)⟩
      rw [show i + 1 + j = i + (j + 1) by omega]
      exact hb'
    · intro x hx
      unfold storedH at hx
      split at hx
      · obtain ⟨y, hy, rfl⟩ := List.mem_map.mp hx
        have z := hac y hy
        unfold putAt
        split
        · exact z
        · exact z
      · rcases List.mem_append.mp hx with hx | hx
        · exact hac x hx
        · rw [List.mem_singleton.mp hx]
          exact hqI
    · exact hit1.at fun o' e => hs2.extBut I o' (Ne.symm hSI) e
    · exact hl1.extBut hs2.extBut (Ne.symm hSl)
    · exact hR h' tk hd' fun c oc h3 h4 e => k c oc h3 h4 (hs2.extBut c oc h3 (hs1.extBut c oc h4 e))
theorem call_dict_pairsT {s : Shared} {l : Addr} {ol : Obj} {items : Array Value} {n : Nat} {prs : List (List Key × Addr × Value)} {Q : Value → Shared → Prop} (hh : A.handled = none) (hu : A.units + 2 < cLine) (hl : s.heap.get? l = some ol) (hc : ol.cls = .type "list") (hd : ol.dict = none)
    (hdat : ol.data = .seq items n) (hsz : items.size = prs.length) (hln : prs.length ≤ sizeLine)
    (ht : ∀ (j : Nat) (q : List Key × Addr × Value), prs[j]? = some q → ∃ (b : Addr), items[j]? = some (.ref b) ∧ IsTup s.heap b #[.ref q.2.1, q.2.2] ∧ IsTupleKey (mixKind prog w) s.heap q.1 q.2.1)
    (h : ∀ h' tk, h'.DictOfH (tupleKind (mixKind prog w)) s.heap.objs.size (mergedH [] prs) → (∀ b o, s.heap.get? b = some o → h'.get? b = some o) → Q (.ref s.heap.objs.size) { s with heap := h', toks := tk }) :
    wpAny (model prog w) A (call (.type "dict") [.ref l]) Q E s := by
  refine callType_codes (Q₁ := fun obj s₁ => obj = .ref s.heap.objs.size ∧ s₁ = { s with heap := s.heap.push { cls := .type "dict", data := .dict #[] } }) PySem.F.kt_called_dict (PySem.F.kt_typeCall_dict_1 _) PySem.F.entry_dict_init (kt_code_dict_new _ ⟨rfl, rfl⟩) ?_
  rintro obj s₁ ⟨rfl, rfl⟩
  have hnew0 : (s.heap.push { cls := .type "dict", data := .dict #[] }).DictOf (mixKind prog w) s.heap.objs.size [] := Heap.DictOf.new s.heap
  have hnew : (s.heap.push { cls := .type "dict", data := .dict #[] }).DictOfH (tupleKind (mixKind prog w)) s.heap.objs.size [] := ⟨_, #[], 0, Heap.get?_push_size _ rfl, ⟨rfl, rfl, rfl⟩, rfl, rfl, (fun x hx => nomatch hx), List.Pairwise.nil⟩
  have k0 : ∀ b o, s.heap.get? b = some o → (s.heap.push { cls := .type "dict", data := .dict #[] }).get? b = some o := fun b o e => Heap.get?_push_of_some _ e
  refine ⟨hnew0.typeIs, PySem.F.args_dict_init_2 _ _, ?_⟩
  unfold Builtin.«dict.__init__»
  refine wpAny_bind ?_
  unfold Builtin.Dict.selfAndRest
  refine wpAny_bind (wpAny_notOrdered_dict hnew0.typeIs ?_)
  show wpAny _ _ (pure (s.heap.objs.size, [Value.ref l])) _ _ _
  refine wpAny_pure ?_
  show wpAny _ _ (Builtin.Dict.updateFrom "dict.__init__" s.heap.objs.size (.ref l) [] .none) _ _ _
  unfold Builtin.Dict.updateFrom
  refine wpAny_bind (wpAny_typeOf (T := "list") ⟨ol, k0 _ _ hl, hc⟩ ?_)
  rw [if_pos (by first | decide | rfl | simp)]
  refine wpAny_bind (miss_list (k0 _ _ hl) hc hdat hd hh fun h1 tk1 hk1 => ?_)
  rw [if_pos (show (none : Option Value).isNone = true from rfl)]
  refine wpAny_bind (wpAny_rule ?_)
  have hl1 : h1.IsList l items := ⟨ol, hk1 _ _ (k0 _ _ hl), hc, n, hdat⟩
  have hS1 : s.heap.objs.size < h1.objs.size := by
    have e : (s.heap.push { cls := .type "dict", data := .dict #[] }).get? s.heap.objs.size = some { cls := .type "dict", data := .dict #[] } := Heap.get?_push_size _ rfl
    exact Heap.lt_size (hk1 _ _ e)
  refine wpAny_bind (wpAny_pyIter_list hl1 ?_)
  have k2 : ∀ b o, h1.get? b = some o → (h1.push { cls := .type "list_iterator", data := .fields #[.ref l, .int 0 0] }).get? b = some o := fun b o e => Heap.get?_push_of_some _ e
  have hlt : l < s.heap.objs.size := Heap.lt_size hl
  have hm0 : ({ s with heap := h1.push { cls := .type "list_iterator", data := .fields #[.ref l, .int 0 0] }, toks := tk1 } : Shared).heap.DictOfH (tupleKind (mixKind prog w)) s.heap.objs.size [] := by
    obtain ⟨o, es, ep, ho, r1, r2, r3, r4, r5⟩ := hnew
    exact ⟨o, es, ep, k2 _ _ (hk1 _ _ ho), r1, r2, r3, (fun x hx => nomatch hx), List.Pairwise.nil⟩
  have key := upd_loopT (prog := prog) (w := w) (A := A.in1) (R := wants (fun r s₂ => r = .none ∧ Q (.ref s.heap.objs.size) s₂) E) (S := s.heap.objs.size) (I := h1.objs.size) (l := l) (items := items) (res := Value.none) hh (by show A.units + 1 + 1 < cLine; omega)
    (Nat.ne_of_lt (Nat.lt_trans hlt hS1)) (Nat.ne_of_lt hS1) (Nat.ne_of_gt hlt) prs 0 [] 0 0
    { s with heap := h1.push { cls := .type "list_iterator", data := .fields #[.ref l, .int 0 0] }, toks := tk1 } (by rw [hsz, Nat.zero_add]) (by rw [List.length_nil, Nat.zero_add]; exact hln)
    (fun j q e => by
      obtain ⟨b, e1, e2, e3⟩ := ht j q e
      have hb : b < s.heap.objs.size := e2.lt
      have hq : q.2.1 < s.heap.objs.size := let ⟨_, _, _, z, _⟩ := e3; Heap.lt_size z
      exact ⟨b, by rw [Nat.zero_add]; exact e1, Nat.ne_of_lt hb, Nat.ne_of_lt (Nat.lt_trans hb hS1), e2.keeps fun c o z => k2 _ _ (hk1 _ _ (k0 _ _ z)), Nat.ne_of_lt hq, Nat.ne_of_lt (Nat.lt_trans hq hS1), tk_at e3 fun o z => k2 _ _ (hk1 _ _ (k0 _ _ z))⟩)
    (fun q hq => nomatch hq)
    ⟨_, Heap.get?_push_size _ rfl, rfl, rfl⟩ (hl1.at fun o e => k2 _ _ e) hm0
    (fun h' tk hd' k => ⟨rfl, h h' tk hd' fun b o e => k b o (Nat.ne_of_lt (Heap.lt_size e)) (Nat.ne_of_lt (Nat.lt_trans (Heap.lt_size e) hS1)) (k2 _ _ (hk1 _ _ (k0 _ _ e)))⟩)
  first
    | exact wpAny_pure ⟨plainId_quiet ud_plain _, key⟩
    | exact wpAny_bind (wpAny_pure (wpAny_pure ⟨plainId_quiet ud_plain _, key⟩))
end

def mergeT (kvs more : List (List Key × V)) : List (List Key × V) := more.foldl (fun acc kv => putK acc kv.1 kv.2) kvs
theorem mergeT_len : ∀ (more kvs : List (List Key × V)), (mergeT kvs more).length ≤ kvs.length + more.length
  | [], kvs => Nat.le_refl _
  | kv :: r, kvs => by
    have h := mergeT_len r (putK kvs kv.1 kv.2)
    have h2 := length_putK kvs kv.1 kv.2
    show (mergeT (putK kvs kv.1 kv.2) r).length ≤ kvs.length + (r.length + 1)
    omega
section
variable {X : Cx}
/-- the pairs in the heap -/
def PairsT (H : Hp) : List Addr → List (List Key × V) → Prop := Paired fun p kv => ∃ t, H p = some (.tup [.ref t, kv.2]) ∧ H t = some (.tup (kv.1.map kV))
theorem pairsT_of {pins : List (Addr × Obj)} {σ : L2.St} {H : Hp} {s : Shared} (I : Inv X pins σ H s) : ∀ {ps : List Addr} {kvs : List (List Key × V)}, PairsT H ps kvs →
    ∃ prs : List (List Key × Addr × Value), KT H kvs prs ∧ prs.length = ps.length ∧ ∀ (j : Nat) (q : List Key × Addr × Value), prs[j]? = some q → ∃ (b : Addr), ps[j]? = some b ∧ IsTup s.heap b #[.ref q.2.1, q.2.2] ∧ IsTupleKey (mixKind X.prog X.w) s.heap q.1 q.2.1
  | _, _, .nil => ⟨[], .nil, rfl, fun j q e => by simp at e⟩
  | _, _, .cons (a := p) (b := kv) h t => by
    obtain ⟨prs, r, hl, hp⟩ := pairsT_of I t
    obtain ⟨tk, hpt, htt⟩ := h
    obtain ⟨its, rv, ht, _⟩ := I.tuple (.inl (.inl hpt))
    obtain ⟨u, y, ei, ru, ry⟩ := vals2 rv
    subst ei
    obtain rfl : u = Value.ref tk := ru
    have kk := key_of I.hok htt
    refine ⟨(kv.1, tk, y) :: prs, .cons ⟨rfl, htt, ry⟩ r, by rw [List.length_cons, List.length_cons, hl], fun j q e => ?_⟩
    cases j with
    | zero =>
      have e' : (kv.1, tk, y) = q := Option.some.inj e
      subst e'
      exact ⟨p, rfl, ht, kk⟩
    | succ j =>
      obtain ⟨b, e1, e2, e3⟩ := hp j q (by simpa using e)
      exact ⟨b, by simpa using e1, e2, e3⟩
theorem KT.merge {H : Hp} : ∀ {more : List (List Key × V)} {rs : List (List Key × Addr × Value)} {kvs : List (List Key × V)} {xs : List (List Key × Addr × Value)}, KT H more rs → KT H kvs xs → KT H (mergeT kvs more) (mergedH xs rs) := by
  intro more rs kvs xs r
  unfold KT at r
  induction r generalizing kvs xs with
  | nil => exact fun h => h
  | cons a t ih =>
    rename_i kv q _ _
    intro h
    obtain ⟨k, b, v⟩ := q
    obtain ⟨e1, e2, e3⟩ := a
    have e1' : kv.1 = k := e1
    subst e1'
    exact ih (KT.put h kv.1 e2 e3)
/-- dict(ps) of pairs (a tuple of ints and texts, a value) -/
theorem call_dictT (hcalm : X.calm = true) (hu : X.A.units + 2 < cLine) : CallR X (.type "dict") (fun xs H Q => ∃ (a : Addr) (ps : List Addr) (kvs : List (List Key × V)), xs = [.ref a] ∧ SqL X.K H a (ps.map V.ref) ∧ PairsT H ps kvs ∧
    ∀ p, H p = none → Q (.ref p) (upd H p (.dT (mergeT [] kvs)))) := by
  intro pins s σ H xs us Q I r q
  obtain ⟨a, ps, kvs, ex, hq, hp, q⟩ := q
  subst ex
  obtain ⟨u, eu, rx⟩ := vals1 r
  subst eu
  cases rx
  obtain ⟨its, rv, pl, hz⟩ := I.list hq
  have ei := refs_at rv
  subst ei
  rw [List.length_map] at hz
  obtain ⟨prs, rel, hl, hpr⟩ := pairsT_of I hp
  obtain ⟨o, n, ho, hc, hd, hdat⟩ := pl
  refine call_dict_pairsT (prs := prs) (I.ok.hd hcalm) hu ho hc hd hdat (by simp [hl]) (by rw [hl]; exact hz) (fun j q' e => ?_) fun h' tk hd' k => ?_
  · obtain ⟨b, e1, e2, e3⟩ := hpr j q' e
    exact ⟨b, by simp [e1], e2, e3⟩
  · have hm : (s.heap.objs.size == sysModules) = false := beq_eq_false_iff_ne.mpr (Nat.ne_of_gt I.big)
    have hlen : (mergeT [] kvs).length ≤ sizeLine := by
      refine Nat.le_trans (mergeT_len kvs []) ?_
      have := Paired.length rel
      rw [List.length_nil, Nat.zero_add]
      omega
    have hno := I.hok.fresh (Nat.le_refl s.heap.objs.size)
    refine ⟨.ref s.heap.objs.size, upd H s.heap.objs.size (.dT (mergeT [] kvs)), I.laid (t' := tk) k (Nat.le_refl _) ?_, rfl, q _ hno⟩
    obtain ⟨q1, es, ep, h1, h2, h3, h4, h5, h6⟩ := hd'
    refine ⟨hlen, hm, _, (KT.merge rel .nil).keeps fun c ys ec => ?_, q1, es, ep, h1, h2, h3, h4, h6⟩
    rw [upd_ne (ne_of_none ec hno)]
    exact ec
end
end Lk
set_option maxRecDepth 100000
namespace Dl
open PySem PySem.Spec PyProof.Rows L2 Lk

variable {L : Wd}
/-! ### times -/
theorem op_mulS {X : Cx} : OpR X (binaryOp .Mult) (fun x y H Q => ∃ z i, x = .str z ∧ y = .int i ∧ MulOk z i ∧ Q (.str (Txt.mul z i)) H) := by
  intro pins s σ H x y v u Q I rx ry h
  obtain ⟨z, i, rfl, rfl, hz, q⟩ := h
  obtain ⟨t, rfl⟩ := rx
  obtain ⟨t', rfl⟩ := ry
  exact SB.mul hz fun t' k => ⟨.str _, H, I.tok _, ⟨_, rfl⟩, q⟩
def dMul : DO := fun x y k => match x, y with
  | .int i, .int j => Sm i ∧ Sm j ∧ k (.int (i * j))
  | .str z, .int i => MulOk z i ∧ k (.str (Txt.mul z i))
  | .lst l, .int i => -(2 ^ 62) ≤ i ∧ i ≤ 1000 ∧ l.length ≤ 1000 ∧ k (.lst (List.replicate i.toNat l).flatten)
  | .tup l, .int i => -(2 ^ 62) ≤ i ∧ i ≤ 1000 ∧ l.length ≤ 1000 ∧ k (.tup (List.replicate i.toNat l).flatten)
  | _, _ => False
theorem RepL.rep {S : Addr → Prop} {H : Hp} {vs : List V} {l : List D} (r : RepL S H vs l) (n : Nat) : RepL S H (List.replicate n vs).flatten (List.replicate n l).flatten := by
  induction n with
  | zero => exact .nil
  | succ n ih =>
    rw [List.replicate_succ, List.replicate_succ, List.flatten_cons, List.flatten_cons]
    exact r.append ih
def rMulD (K : PySem.W.Frag) : R2 := fun x y H Q => rI CMulW (fun i j => .int (i * j)) x y H Q ∨ (∃ z i, x = .str z ∧ y = .int i ∧ MulOk z i ∧ Q (.str (Txt.mul z i)) H) ∨ rRep x y H Q ∨ rRepT0 K x y H Q
theorem op_mulD {X : Cx} : OpR X (binaryOp .Mult) (rMulD X.K) := OpR.or op_mulW (OpR.or op_mulS (OpR.or op_rep op_repT0))
theorem len_rep {α : Type} (l : List α) (n : Nat) : (List.replicate n l).flatten.length = n * l.length := by
  induction n with
  | zero => simp
  | succ n ih => rw [List.replicate_succ, List.flatten_cons, List.length_append, ih, Nat.succ_mul, Nat.add_comm]
theorem mul_D {K : PySem.W.Frag} : OpD (rMulD K) dMul := fun S H x y u v k Q hS hu hv hf q => by
  unfold dMul at hf
  split at hf
  · cases hu; cases hv
    exact .inl ⟨_, _, rfl, rfl, wide_mul hf.1 hf.2.1 (by decide) (by decide) (by decide), q _ _ _ hf.2.2 (Same.refl _) (.int _)⟩
  · cases hu; cases hv
    exact .inr (.inl ⟨_, _, rfl, rfl, hf.1, q _ _ _ hf.2 (Same.refl _) (.str _)⟩)
  · cases hv
    obtain ⟨h1, h2, h3, h4⟩ := hf
    cases hu with
    | lst e n r =>
      rename_i i a vs
      have hz : vs.length * i.toNat ≤ sizeLine := by
        rw [r.length, sizeLine_eq]
        have := Nat.mul_le_mul h3 (show i.toNat ≤ 1000 by omega)
        omega
      exact .inr (.inr (.inl ⟨_, _, _, rfl, rfl, e, by omega, by omega, hz, fun p np => q _ _ _ h4 (same_new np) (.lst upd_same (fun z => hS p z np) ((r.rep _).go (Step.same (same_new np))))⟩))
  · cases hv
    obtain ⟨h1, h2, h3, h4⟩ := hf
    cases hu with
    | tup e r =>
      rename_i i a vs
      refine .inr (.inr (.inr ⟨_, _, _, rfl, rfl, SqT.of e, h2, h1, by rw [r.length]; exact h3, ?_⟩))
      by_cases c : vs = [] ∨ i = 1
      · refine .inl ⟨c, ?_⟩
        have el : (List.replicate i.toNat ‹List D›).flatten = ‹List D› := by
          rcases c with c | c
          · rw [r.nil_iff.mp c]
            simp
          · rw [c]; simp
        rw [el] at h4
        exact q _ _ _ h4 (Same.refl _) (.tup e r)
      · exact .inr ⟨fun z => c (.inl z), fun z => c (.inr z), fun p np => q _ _ _ h4 (same_new np) (.tup upd_same ((r.rep _).go (Step.same (same_new np))))⟩
  · exact hf.elim
def dSum : DC := fun xs k => ∃ ns : List Int, (xs = [.lst (ns.map .int)] ∨ xs = [.tup (ns.map .int)]) ∧ k (.int ns.sum)
theorem sum_D {K : PySem.W.Frag} : CallD (rSumA K) dSum := fun S H xs vs k Q hS r ⟨ns, hx, hk⟩ q => by
  rcases hx with rfl | rfl
  · cases r with
    | cons r1 r2 =>
      cases r2
      cases r1 with
      | lst e n rl =>
        obtain rfl := rl.ints'
        exact ⟨_, ns, rfl, .inl (SqL.of e), q _ _ _ hk (Same.refl _) (.int _)⟩
  · cases r with
    | cons r1 r2 =>
      cases r2
      cases r1 with
      | tup e rl =>
        obtain rfl := rl.ints'
        exact ⟨_, ns, rfl, .inr (SqT.of e), q _ _ _ hk (Same.refl _) (.int _)⟩
/-! ### dict of pairs (key, True); list of a dict -/
def dedup {α : Type} [DecidableEq α] (l : List α) : List α := l.foldl (fun acc z => if z ∈ acc then acc else acc ++ [z]) []
theorem merge_dedup {α κ : Type} [DecidableEq α] [DecidableEq κ] (f : α → κ) (hf : ∀ x y, f x = f y → x = y) (v : V) : ∀ (l acc : List α), (l.map fun z => (f z, v)).foldl (fun a kv => putK a kv.1 kv.2) (acc.map fun z => (f z, v)) = (l.foldl (fun acc z => if z ∈ acc then acc else acc ++ [z]) acc).map fun z => (f z, v)
  | [], acc => rfl
  | z :: l, acc => by
    rw [List.map_cons, List.foldl_cons, List.foldl_cons, ← merge_dedup f hf v l]
    congr 1
    unfold putK
    by_cases h : z ∈ acc
    · rw [if_pos h, if_pos (by
        rw [List.any_eq_true]
        exact ⟨(f z, v), List.mem_map.mpr ⟨z, h, rfl⟩, by simp⟩)]
      rw [List.map_map]
      refine List.map_congr_left fun y _ => ?_
      show (if f y = f z then (f y, v) else (f y, v)) = (f y, v)
      split <;> rfl
    · rw [if_neg h, if_neg fun q => ?_, List.map_append]
      · rfl
      · obtain ⟨kv, hm, he⟩ := List.any_eq_true.mp q
        obtain ⟨y, hy, rfl⟩ := List.mem_map.mp hm
        exact h (hf y z (of_decide_eq_true he) ▸ hy)
theorem dedup_mem {α : Type} [DecidableEq α] {l : List α} {x : α} : x ∈ dedup l ↔ x ∈ l := by
  have key : ∀ (l acc : List α), x ∈ l.foldl (fun acc z => if z ∈ acc then acc else acc ++ [z]) acc ↔ x ∈ acc ∨ x ∈ l := fun l => by
    induction l with
    | nil => simp
    | cons z l ih =>
      intro acc
      rw [List.foldl_cons, ih]
      by_cases h : z ∈ acc
      · rw [if_pos h, List.mem_cons]
        constructor
        · exact fun q => q.imp _root_.id .inr
        · rintro (q | q | q)
          · exact .inl q
          · exact .inl (q ▸ h)
          · exact .inr q
      · rw [if_neg h, List.mem_append, List.mem_singleton, List.mem_cons, or_assoc]
  unfold dedup
  rw [key]
  simp
theorem dedup_nodup {α : Type} [DecidableEq α] (l : List α) : (dedup l).Nodup := by
  have key : ∀ (l acc : List α), acc.Nodup → (l.foldl (fun acc z => if z ∈ acc then acc else acc ++ [z]) acc).Nodup := fun l => by
    induction l with
    | nil => exact fun _ h => h
    | cons z l ih =>
      intro acc h
      rw [List.foldl_cons]
      refine ih _ ?_
      by_cases q : z ∈ acc
      · rw [if_pos q]; exact h
      · rw [if_neg q]
        exact List.nodup_append.mpr ⟨h, List.pairwise_singleton _ _, fun a ha b hb e => q (by rw [← List.mem_singleton.mp hb, ← e]; exact ha)⟩
  exact key l [] .nil
theorem map_inr_inj : ∀ (x y : List Str), x.map (Sum.inr : Str → Key) = y.map Sum.inr → x = y
  | [], [], _ => rfl
  | [], _ :: _, h => by cases h
  | _ :: _, [], h => by cases h
  | a :: x, b :: y, h => by
    rw [List.map_cons, List.map_cons] at h
    obtain ⟨h1, h2⟩ := List.cons.inj h
    rw [Sum.inr.inj h1, map_inr_inj x y h2]
def dDictT : DC := fun xs k => (∃ zs : List Str, xs = [.lst (zs.map fun z => .tup [.str z, .bl true])] ∧ k (.dct ((dedup zs).map fun z => (.str z, .bl true)))) ∨
  ∃ zs : List (List Str), xs = [.lst (zs.map fun z => .tup [dT z, .bl true])] ∧ k (.dct ((dedup zs).map fun z => (dT z, .bl true)))
def rDictA (K : PySem.W.Frag) : List V → Hp → VK → Prop := fun xs H Q => (∃ (a : Addr) (ps : List Addr) (kvs : List (Key × V)), xs = [.ref a] ∧ SqL K H a (ps.map V.ref) ∧ Paired (fun p kv => SqT K H p [kV kv.1, kv.2]) ps kvs ∧ ∀ p, H p = none → Q (.ref p) (upd H p (.dK (mergeK [] kvs)))) ∨
  ∃ (a : Addr) (ps : List Addr) (kvs : List (List Key × V)), xs = [.ref a] ∧ SqL K H a (ps.map V.ref) ∧ PairsT H ps kvs ∧ ∀ p, H p = none → Q (.ref p) (upd H p (.dT (mergeT [] kvs)))
theorem cr_dictA {X : Cx} (hc : X.calm = true) (hu : X.A.units + 64 < cLine) : CallR X (.type "dict") (rDictA X.K) := CallR.or (call_dictP hc) (call_dictT hc (by omega))
theorem dict_D {K : PySem.W.Frag} : CallD (rDictA K) dDictT := fun S H xs vs k Q hS r hf q => by
  rcases hf with ⟨zs, rfl, hk⟩ | ⟨zs, rfl, hk⟩
  · cases r with
    | cons r1 r2 =>
      cases r2
      cases r1 with
      | lst e n rl =>
        rename_i a us
        have key : ∀ {us : List V} {zs : List Str}, RepL S H us (zs.map fun z => .tup [.str z, .bl true]) → ∃ ps : List Addr, us = ps.map V.ref ∧ Paired (fun p kv => SqT K H p [kV kv.1, kv.2]) ps (zs.map fun z => ((Sum.inr z : Key), V.bl true)) := by
          intro us
          induction us with
          | nil =>
            intro zs r
            cases zs with
            | nil => exact ⟨[], rfl, .nil⟩
            | cons _ _ => cases r
          | cons u us ih =>
            intro zs r
            cases zs with
            | nil => cases r
            | cons z zs =>
              cases r with
              | cons a b =>
                obtain ⟨ps, e1, e2⟩ := ih b
                cases a with
                | tup e rt =>
                  cases rt with
                  | cons x1 x2 =>
                    cases x2 with
                    | cons x2 x3 =>
                      cases x3
                      cases x1
                      cases x2
                      exact ⟨_ :: ps, by rw [e1]; rfl, .cons (SqT.of e) e2⟩
        obtain ⟨ps, rfl, pr⟩ := key rl
        refine .inl ⟨a, ps, _, rfl, SqL.of e, pr, fun p np => ?_⟩
        have em : mergeK [] (zs.map fun z => ((Sum.inr z : Key), V.bl true)) = (dedup zs).map fun z => ((Sum.inr z : Key), V.bl true) := merge_dedup (fun z => (Sum.inr z : Key)) (fun x y e => Sum.inr.inj e) _ zs []
        rw [em]
        have g : ∀ (H' : Hp) (ys : List Str), RepK S H' (ys.map fun z => ((Sum.inr z : Key), V.bl true)) (ys.map fun z => (D.str z, D.bl true)) := fun H' ys => by
          induction ys with
          | nil => exact .nil
          | cons y ys ih => exact .cons (.bl true) ih
        exact q _ _ _ hk (same_new np) (.dK upd_same (fun z => hS p z np) (g _ _))
  · cases r with
    | cons r1 r2 =>
      cases r2
      cases r1 with
      | lst e n rl =>
        rename_i a us
        have key : ∀ {us : List V} {zs : List (List Str)}, RepL S H us (zs.map fun z => .tup [dT z, .bl true]) → ∃ ps : List Addr, us = ps.map V.ref ∧ PairsT H ps (zs.map fun z => (z.map (Sum.inr : Str → Key), V.bl true)) := by
          intro us
          induction us with
          | nil =>
            intro zs r
            cases zs with
            | nil => exact ⟨[], rfl, .nil⟩
            | cons _ _ => cases r
          | cons u us ih =>
            intro zs r
            cases zs with
            | nil => cases r
            | cons z zs =>
              cases r with
              | cons a b =>
                obtain ⟨ps, e1, e2⟩ := ih b
                cases a with
                | tup e rt =>
                  cases rt with
                  | cons x1 x2 =>
                    cases x2 with
                    | cons x2 x3 =>
                      cases x3
                      cases x2
                      cases x1 with
                      | tup e4 r4 =>
                        obtain rfl := r4.strs'
                        refine ⟨_ :: ps, by rw [e1]; rfl, .cons ⟨_, e, ?_⟩ e2⟩
                        rw [e4, List.map_map]
                        rfl
        obtain ⟨ps, rfl, pr⟩ := key rl
        refine .inr ⟨a, ps, _, rfl, SqL.of e, pr, fun p np => ?_⟩
        have em : mergeT [] (zs.map fun z => (z.map (Sum.inr : Str → Key), V.bl true)) = (dedup zs).map fun z => (z.map (Sum.inr : Str → Key), V.bl true) := merge_dedup (fun z : List Str => z.map (Sum.inr : Str → Key)) map_inr_inj _ zs []
        rw [em]
        have g : ∀ (H' : Hp) (ys : List (List Str)), RepT S H' (ys.map fun z => (z.map (Sum.inr : Str → Key), V.bl true)) (ys.map fun z => (dT z, D.bl true)) := fun H' ys => by
          induction ys with
          | nil => exact .nil
          | cons y ys ih =>
            have ey : dT y = .tup ((y.map (Sum.inr : Str → Key)).map kD) := by unfold dT; rw [List.map_map]; rfl
            rw [List.map_cons, List.map_cons, ey]
            exact .cons (.bl true) ih
        exact q _ _ _ hk (same_new np) (.dT upd_same (fun z => hS p z np) (g _ _))
def dfListA : List D → (List D → Prop) → Prop := fun xs k => ∃ x l, xs = [x] ∧ x.coll = some l ∧ k l
def rListA (K : PySem.W.Frag) : List V → Hp → VK → Prop := fun xs H Q => (∃ p ys, xs = [.ref p] ∧ (SqL K H p ys ∨ SqT K H p ys) ∧ ∀ l, H l = none → Q (.ref l) (upd H l (.lst ys))) ∨ rListD xs H Q ∨
  ∃ d kvs, xs = [V.ref d] ∧ Rd H d (.dT kvs) ∧ ∀ p bs, H p = none → IsKeys H kvs bs → Q (.ref p) (upd H p (.lst (bs.map V.ref)))
theorem cr_listA {X : Cx} (hc : X.calm = true) : CallR X (.type "list") (rListA X.K) := CallR.or call_list_of (CallR.or (call_list_dK hc) (call_list_dT hc))
theorem listA_F {K : PySem.W.Frag} : CallF (rListA K) dfListA := fun S H xs vs k Q hS r ⟨x, l, hx, hc, hk⟩ q => by
  subst hx
  cases r with
  | cons r1 r2 =>
    cases r2
    cases r1 with
    | lst e n rl => cases hc; exact .inl ⟨_, _, rfl, .inl (SqL.of e), fun p np => q _ _ _ hk np rl⟩
    | tup e rl => cases hc; exact .inl ⟨_, _, rfl, .inr (SqT.of e), fun p np => q _ _ _ hk np rl⟩
    | dK e n rk => cases hc; exact .inr (.inl ⟨_, _, rfl, e, fun p np => q _ _ _ hk np rk.keys⟩)
    | dT e n rk => cases hc; exact .inr (.inr ⟨_, _, rfl, Rd.of e, fun p bs np ik => q _ _ _ hk np (rk.keys ik)⟩)
    | _ => cases hc
/-! ### calls by keywords alone -/
def permL {α : Type} (ix : List Nat) (ws : List α) : List α := ix.filterMap (ws[·]?)
def gK {α : Type} (ix : List Nat) : List α → List α → List α
  | [], ws => permL ix ws
  | _, _ => []
theorem permL_vals {ix : List Nat} {vs : List V} {us : List Value} (r : Vals vs us) : Vals (permL ix vs) (permL ix us) := by
  unfold permL
  induction ix with
  | nil => exact .nil
  | cons i ix ih =>
    cases e : vs[i]? with
    | none =>
      have e2 : us[i]? = none := by
        rw [List.getElem?_eq_none_iff] at e ⊢
        rw [← r.length]; exact e
      rw [List.filterMap_cons, List.filterMap_cons, e, e2]
      exact ih
    | some v =>
      obtain ⟨u, e2, ru⟩ := r.get e
      rw [List.filterMap_cons, List.filterMap_cons, e, e2]
      exact .cons ru ih
theorem permL_rep {S : Addr → Prop} {H : Hp} {ix : List Nat} {vs : List V} {us : List D} (r : RepL S H vs us) : RepL S H (permL ix vs) (permL ix us) := by
  unfold permL
  induction ix with
  | nil => exact .nil
  | cons i ix ih =>
    cases e : us[i]? with
    | none =>
      have e2 : vs[i]? = none := by
        rw [List.getElem?_eq_none_iff] at e ⊢
        rw [r.length]; exact e
      rw [List.filterMap_cons, List.filterMap_cons, e, e2]
      exact ih
    | some v =>
      obtain ⟨u, e2, ru⟩ := r.get e
      rw [List.filterMap_cons, List.filterMap_cons, e, e2]
      exact .cons ru ih
theorem kbinds_mk {K : PySem.W.Frag} {fd : FuncData} {ps ks : List Str} {ix : List Nat} (h : ∀ (s : Shared) (ws : List Value), (permL ix ws).length = ps.length → BindsTo s fd ⟨[], ks.zip ws⟩ (ps.zip (permL ix ws))) (hn : ps ≠ []) : KBinds K fd ps ks (gK ix) (gK ix) where
  to := fun s us ws _ hl => by
    cases us with
    | nil => exact h s ws hl
    | cons u us =>
      cases ps with
      | nil => exact absurd rfl hn
      | cons p ps => cases hl
  rel := fun {vs us zs ws} a b => by
    cases a with
    | nil => exact permL_vals b
    | cons _ _ => exact .nil
/-- .. it takes keywords, as ks has them -/
structure GdK (P : Program) (W : World) (K : PySem.W.Frag) (mg : Str → Option Value) (base : Heap) (L : Wd) (k : Nat) (x : Str) (ps ks : List Str) (ix : List Nat) (f : DF L) : Prop where
  ex : ∃ a fd, FnG P W K mg base k a fd ps (spD L f) ∧ mg x = some (.ref a) ∧ PySem.W.keepIn K (.ref a) = true ∧ KBinds K fd ps ks (gK ix) (gK ix)
theorem GdK.imp {P : Program} {W : World} {K : PySem.W.Frag} {mg : Str → Option Value} {base : Heap} {k : Nat} {x : Str} {ps ks : List Str} {ix : List Nat} {d g : DF L} (G : GdK P W K mg base L k x ps ks ix d) (h : ∀ ds w R, g ds w R → d ds w R) : GdK P W K mg base L k x ps ks ix g :=
  let ⟨a, fd, F, m⟩ := G.ex; ⟨a, fd, fnD_imp F h, m⟩
theorem pkI {X : Cx} {e : List Keyword} {t t' : TA} (h : PK X e t) (i : ∀ σ H Q, t' σ H Q → t σ H Q) : PK X e t' := ⟨fun p pins s σ H Q I q => h.run p pins s σ H Q I (i _ _ _ q)⟩
theorem spD_of {Φ : Ph L} {δ : DEnv} {w : L.W} {σ : L2.St} {H : Hp} {f : DF L} {vs : List V} {ds : List D} {R : D → L.W → Prop} {Q : VK} {E : XK} (A : At Φ δ w σ H) (r : RepL (Sof Φ δ σ w) H vs ds) (h : f ds w R)
    (q : ∀ x w' v H', R x w' → At Φ δ w' σ H' → Step (Mof L δ σ w) H (Mof L δ σ w') H' → Rep (Sof Φ δ σ w') H' v x → Q v H') : spD L f vs H Q E := by
  refine ⟨fun b => Φ.F b ∨ ∃ (i : Nat) (d : D), δ[i]? = some (DV.own d) ∧ σ[i]? = some (some (V.ref b)), ds, w, _, r, A.rep, fun b h => ⟨A.tr (.inr h), fun z => ?_⟩, h, fun x w' v H' hx hr st rx => ?_⟩
  · rcases h with h | ⟨i, d, h1, h2⟩
    · exact A.fm b h z
    · obtain ⟨a, e, _, q1, _⟩ := A.own i d h1
      rw [h2] at e
      cases e
      exact q1 z
  · obtain ⟨A2, s2⟩ := A.called hr st
    exact q _ _ _ _ hx A2 s2 rx
section
variable {X : Cx} {x : Str} {p pos kpos : Pos} {e : Expr} {es : List Expr} {d : DE L} {da : DA L} {k : Nat} {ps ks : List Str} {ix : List Nat} {f : DF L} {kws : List Keyword} {nm : Option Str}
theorem pdk_nil : PK X [] (TDA (daNil (L := L))) := pkI pk_nil fun σ H Q ⟨Φ, δ, w, R, A, hd, q⟩ => q _ _ _ _ _ hd A (Step.refl _ _) .nil
theorem pdk_cons (ha : PE X e (TD d)) (hr : PK X kws (TDA da)) : PK X (⟨nm, e, kpos⟩ :: kws) (TDA (daCons d da)) := by
  refine pkI (pk_cons ha hr) fun σ H Q ⟨Φ, δ, w, R, A, hd, q⟩ => ?_
  refine ⟨Φ, δ, w, _, A, hd, fun x δ1 w1 v H1 h1 A1 s1 r1 => ⟨Φ, δ1, w1, _, A1, h1, fun xs δ2 w2 vs H2 h2 A2 s2 r2 => ?_⟩⟩
  exact q _ _ _ _ _ h2 A2 (s1.trans s2) (.cons (r1.go s2.S) r2)
def deCallK (f : DF L) (ix : List Nat) (da : DA L) : DE L := fun δ w Q => da δ w fun ds δ' w' => f (permL ix ds) w' fun x w'' => Q x δ' w''
theorem pd_callK0 (G : GdK X.prog X.w X.K X.mg X.base L k x ps ks ix f) (hr : Room k X.A) (hgu : X.A.guards = some []) (hg : Gl X x) (ha : PK X kws (TDA da)) (hall : (backToKw pos (keywordEach kws X.env)).all (·.1.isSome) = true := by rfl) (hks : (backToKw pos (keywordEach kws X.env)).filterMap (·.1) = ks := by rfl) (hdb : (x == ("__debug__" : Str)) = false := by decide)
    (hpl : ((backTo pos (starEach [] X.env)).any (·.1) || (backToKw pos (keywordEach kws X.env)).any (·.1.isNone)) = false := by rfl) : PE X (.Call (.Name x p) [] kws pos) (TD (deCallK f ix da)) := by
  obtain ⟨a, fd, F, m, kp, b⟩ := G.ex
  refine peI (pe_callK0G F hr hgu hg m kp b pass0 ha hall hks hdb hpl) fun σ H Q ⟨Φ, δ, w, R, A, hd, q⟩ => ?_
  refine ⟨Φ, δ, w, _, A, hd, fun ds δ1 w1 vs H1 h1 A1 s1 r1 => ?_⟩
  exact spD_of (E := E0) A1 (permL_rep r1) h1 fun x w' v H' hx A2 s2 rx => q _ _ _ _ _ hx A2 (s1.trans s2) rx
end
end Dl
set_option maxRecDepth 100000
set_option maxHeartbeats 2000000
namespace Lk
open PySem PySem.Spec PyProof.Rows L2 PySem.Froz
/-! ### a payload behind an add -/
theorem tailTx_all (ep : Nat) (es : Array (Int × Value)) (t : SetTable) (wd : Bool) : (tailTx ep es t wd).1.toList.Perm es.toList ∧ (Ris t.place.toList → Ris (tailTx ep es t wd).2.2.place.toList) ∧ (tailTx ep es t wd).2.2.led = t.led := by
  unfold tailTx
  by_cases c : (!wd && t.tooFull) = true
  · rw [if_pos c]
    exact ⟨relayAll_perm _ _ _, fun _ => relayAll_ris _ _ _, relayAll_led _ _ _⟩
  · rw [if_neg c]
    exact ⟨List.Perm.refl _, id, rfl⟩
theorem plainOff (t : SetTable) : (if t.plain = true then { t with plain := false } else t).place = t.place ∧ (if t.plain = true then { t with plain := false } else t).led = t.led := by
  split
  · exact ⟨rfl, rfl⟩
  · exact ⟨rfl, rfl⟩
theorem addTx_perm (h : Int) (v : Value) (D : SD) : (addTx h v D).1.toList.Perm (D.1.push (h, v)).toList := (tailTx_all _ _ _ _).1.trans (layNew_perm _ _ _ _)
theorem addTx_ris (h : Int) (v : Value) (D : SD) (r : Ris D.2.2.place.toList) : Ris (addTx h v D).2.2.place.toList := by
  refine (tailTx_all _ _ _ _).2.1 ?_
  rw [(plainOff _).1]
  exact layNew_ris _ _ _ _ r
theorem addTx_led (h : Int) (v : Value) (D : SD) : (addTx h v D).2.2.led = D.2.2.led := (tailTx_all _ _ _ _).2.2.trans ((plainOff _).2.trans (layNew_led _ _ _ _))
/-- the text of a member -/
def txtOf : Value → Str
  | .str x _ => x
  | _ => ""
/-- the payload holds the texts l, each once, and can be walked -/
structure TxW (P : Program) (w : World) (D : SD) (l : List Str) : Prop where
  ok : TxOk P w D l
  str : ∀ e ∈ D.1.toList, ∃ x t, e.2 = Value.str x t
  pm : (D.1.toList.map fun e => txtOf e.2).Perm l
  nd : l.Nodup
  ris : Ris D.2.2.place.toList
  led : w.params.followText "set-order" = true ∨ D.2.2.led = true
section
variable {P : Program} {w : World} {A : Around} {E : Value → Shared → Prop} {s : Shared}
theorem TxW.add {D : SD} {l : List Str} {k : Str} (u : Tok) (F : TxW P w D l) (hk : k ∉ l) : TxW P w (addTx (hashStr w k) (.str k u) D) (k :: l) := by
  have pm := addTx_perm (hashStr w k) (.str k u) D
  rw [Array.toList_push] at pm
  refine ⟨add_ok u F.ok, fun e he => ?_, ?_, List.nodup_cons.mpr ⟨hk, F.nd⟩, addTx_ris _ _ _ F.ris, ?_⟩
  · rcases List.mem_append.mp (pm.mem_iff.mp he) with q | q
    · exact F.str e q
    · rw [List.mem_singleton.mp q]
      exact ⟨k, u, rfl⟩
  · have q := pm.map fun e => txtOf e.2
    rw [List.map_append] at q
    refine q.trans (List.perm_append_comm.trans ?_)
    exact F.pm.cons k
  · rw [addTx_led]
    exact F.led
theorem TxW.fresh : TxW P w (#[], 0, .fresh 0 0 (!w.params.followText "set-order")) [] := by
  refine ⟨TxOk.nil (by rfl), fun e he => by simp at he, List.Perm.refl _, List.nodup_nil, List.Pairwise.nil, ?_⟩
  show _ ∨ (!w.params.followText "set-order") = true
  cases w.params.followText "set-order"
  · exact .inr rfl
  · exact .inl rfl
/-- the set of texts at a -/
def SetX (P : Program) (w : World) (h : Heap) (a : Addr) (l : List Str) : Prop := ∃ D, h.get? a = some (sObj "set" D) ∧ TxW P w D l
theorem SetX.typeIs {a : Addr} {l : List Str} (R : SetX P w s.heap a l) : s.TypeIs (.ref a) "set" := by
  obtain ⟨D, ho, _⟩ := R
  exact ⟨_, ho, rfl⟩
theorem SetX.at {h h' : Heap} {a : Addr} {l : List Str} (R : SetX P w h a l) (k : ∀ o, h.get? a = some o → h'.get? a = some o) : SetX P w h' a l := by
  obtain ⟨D, ho, r⟩ := R
  exact ⟨D, k _ ho, r⟩
/-- an add of a text that is there -/
theorem add_h {a : Addr} {D : SD} {l : List Str} {k : Str} {u : Tok} {Q : Bool → Shared → Prop} (ho : s.heap.get? a = some (sObj "set" D)) (F : TxOk P w D l) (hk : k ∈ l) (hb : l.length < scanBound)
    (h : Q false s) : wpAny (model P w) A (setAddHashed a (.str k u) (hashStr w k)) Q E s := by
  obtain ⟨es, ep, t⟩ := D
  have hd : (sObj "set" (es, ep, t)).data = .set es ep t := rfl
  have hf : t.fits es.size = true := F.fit
  have hel : ElemsOf (strKind P w) es.toList := F.el
  have hsz : es.size = l.length := F.sz
  have hb0 : es.size < scanBound := by omega
  have hkey : (strKind P w).is k (.str k u) = true := is_str k u
  obtain ⟨e, he, q⟩ := (F.mem k).mp hk
  unfold setAddHashed setAddHashedIn
  refine wpAny_holding (wpAny_bind (wpAny_setState_of ho hd hf ?_))
  dsimp only
  rw [byScan_of rfl hb0 hel]
  simp only [↓reduceIte]
  unfold setAddByScan
  refine wpAny_bind ?_
  refine wpAny_bind (wpAny_rule ?_)
  refine wpAny_bind (wpAny_setScan_of (knd := strKind P w) (k := k) hkey ho hd hf hel ?_)
  cases hfi : List.findIdx? (fun e => (strKind P w).is k e.2) es.toList with
  | none =>
    have c := List.findIdx?_eq_none_iff.mp hfi e he
    rw [q] at c
    cases c
  | some j =>
    dsimp only
    exact wpAny_pure (wpAny_pure h)
/-- found.add(text) -/
theorem setX_add {a : Addr} {l : List Str} {k : Str} {u : Tok} {Q : Value → Shared → Prop} (R : SetX P w s.heap a l) (hb : l.length + 1 < scanBound)
    (hQ : ∀ h' c, Heap.SameBut a s.heap h' → SetX P w h' a (if k ∈ l then l else k :: l) → Q .none { s with heap := h', toks := c }) :
    wpAny (model P w) A (call (.builtin "set.add") [.ref a, .str k u]) Q E s := by
  have hT := R.typeIs
  obtain ⟨D, ho, TW⟩ := R
  refine wpAny_call_entry F.slot_set_add hT F.entry_set_add ?_ (F.args_set_add_2 _ _)
  unfold Builtin.«set.add» Builtin.Frozenset.oneOther
  simp only [List.isEmpty_nil, bind_assoc]
  unfold Builtin.Frozenset.addrOf setAdd
  refine wpAny_bind (wpAny_pure ?_)
  try dsimp only
  refine wpAny_bind (wpAny_pure ?_)
  try dsimp only
  refine wpAny_bind ?_
  refine wpAny_holding ?_
  refine wpAny_bind ((strKind P w).pyHash (is_str k u) ?_)
  by_cases hk : k ∈ l
  · rw [if_pos hk] at hQ
    refine add_h (s := { s with toks := s.toks + 1 }) ho TW.ok hk (by omega) ?_
    show wpAny _ _ (ret Value.none) _ _ _
    exact wpAny_pure ⟨_, rfl, hQ s.heap _ (Heap.SameBut.refl a s.heap) ⟨D, ho, TW⟩⟩
  · rw [if_neg hk] at hQ
    refine add_x (s := { s with toks := s.toks + 1 }) ho TW.ok hk hb ?_
    show wpAny _ _ (ret Value.none) _ _ _
    exact wpAny_pure ⟨_, rfl, hQ _ _ (Heap.SameBut.update s.heap a _) ⟨_, get_upd _ ho rfl, TW.add u hk⟩⟩

/-- sorted(set of texts) -/
theorem strs_txt : ∀ (l : List Value), (∀ v ∈ l, ∃ x t, v = Value.str x t) → StrsAre l (l.map txtOf)
  | [], _ => .nil
  | v :: l, h => by
    obtain ⟨k, tk, rfl⟩ := h v List.mem_cons_self
    exact .cons k tk (strs_txt l fun u hu => h u (List.mem_cons_of_mem _ hu))
theorem sorted_setX {a : Addr} {l : List Str} {Q : Value → Shared → Prop} (R : SetX P w s.heap a l) (hh : A.handled = none) (h64 : l.length < 64)
    (hQ : ∀ s' p (out : Array Value) (c : Nat) (ns : List Str), (∀ b o, s.heap.get? b = some o → s'.heap.get? b = some o) → s'.gens = s.gens → s'.os = s.os → s.heap.objs.size ≤ p →
      s'.heap.get? p = some (seqObj "list" out c) → StrsAre out.toList ns → sortedS ns = true → ns.Perm l → Q (.ref p) s') :
    wpAny (model P w) A (call (.builtin "sorted") [.ref a]) Q E s := by
  obtain ⟨⟨es, ep, t⟩, ho, TW⟩ := R
  have hsz : es.size = l.length := TW.ok.sz
  have hb : es.size < scanBound := by rw [hsz]; exact Nat.lt_of_lt_of_le h64 (by decide)
  refine Calls.call_function_entry kind_sorted plain_sorted entry_sorted (args_sorted1 _) ?_
  unfold Builtin.«sorted»
  refine wpAny_bind (m := checkCount "sorted" 1 1 _) (wpAny_pure ?_)
  refine wpAny_bind (collect_set (A := A.in1) hh ⟨_, ho, rfl, rfl⟩ TW.ok.fit hb TW.ris TW.led fun s1 vs k1 hz g1 o1 pm => ?_)
  have hvl : vs.length = l.length := by rw [pm.length_eq, List.length_map, Array.length_toList]; exact hsz
  have hS : StrsAre vs (vs.map txtOf) := strs_txt vs fun v hv => by
    obtain ⟨e, he, q⟩ := List.mem_map.mp (pm.mem_iff.mp hv)
    obtain ⟨x, t, h1⟩ := TW.str e he
    exact ⟨x, t, by rw [← q]; exact h1⟩
  have pk : (vs.map txtOf).Perm l := by
    have q := pm.map txtOf
    rw [List.map_map] at q
    exact q.trans TW.pm
  refine wpAny_bind (wpAny_newList ?_ (by rw [hvl, sizeLine_eq]; omega))
  have hoL : (s1.heap.push (seqObj "list" vs.toArray 0)).get? s1.heap.objs.size = some (seqObj "list" vs.toArray 0) := Heap.get?_push_size _ rfl
  refine wpAny_bind (wpAny_holding (wpAny_call_entry slot_list_sort ⟨_, hoL, rfl⟩ entry_list_sort (list_sort_treeK strKind_oneLt hoL hS.keysOf (fun v₁ v₂ rest e => keyKind_strs (by rw [← e]; exact hS)) (by rw [hvl]; exact h64) fun st' hp hs => ⟨_, rfl, ?_⟩) (args_list_sort _)))
  obtain ⟨ys, q1, q2, q3⟩ := sorted_out_str hS hp hs
  obtain ⟨c, hc⟩ := sortedHeap_at (vs := vs) (out := (arrOf st').map (·.2)) hoL
  refine wpAny_pure ⟨_, rfl, hQ _ s1.heap.objs.size _ c ys (fun b u e => ?_) g1 o1 hz hc q1 q3 (q2.trans pk)⟩
  have q := k1 b u e
  have hlt := Heap.lt_size q
  show (sortedHeap (s1.heap.push (seqObj "list" vs.toArray 0)) s1.heap.objs.size vs _).get? b = some u
  rw [sortedHeap_old (Nat.ne_of_lt hlt) (by rw [size_push']; exact Nat.lt_succ_of_lt hlt)]
  exact Heap.get?_push_of_some _ q
end
/-! ### tracked -/
def SetXO (P : Program) (w : World) (a : Addr) (l : List Str) : HO := .ext fun h => SetX P w h a l
theorem setXO_new {P : Program} {w : World} {H : Hp} {h : Heap} {a : Addr} {l : List Str} (R : SetX P w h a l) : ObjOk P w H h a (SetXO P w a l) := by
  have ⟨D, ho, _⟩ := R
  exact ⟨R, ⟨_, ho⟩, fun h1 h2 p k => SetX.at p k⟩
section
variable {X : Cx}
theorem setXO_get {pins : List (Addr × Obj)} {σ : L2.St} {H : Hp} {s : Shared} {a : Addr} {l : List Str} (I : Inv X pins σ H s) (ha : H a = some (SetXO X.prog X.w a l)) : SetX X.prog X.w s.heap a l := (I.hok a _ ha).1
theorem addX_ok {pins : List (Addr × Obj)} {σ : L2.St} {H : Hp} {s : Shared} {E : Value → Shared → Prop} {D : Addr} {l : List Str} {k : Str} {u : Tok} {Q : Value → Shared → Prop} (I : Inv X pins σ H s) (hD : H D = some (SetXO X.prog X.w D l)) (hb : l.length + 1 < scanBound)
    (h : ∀ s', Inv X pins σ (upd H D (SetXO X.prog X.w D (if k ∈ l then l else k :: l))) s' → Q .none s') : wpAny (model X.prog X.w) X.A (call (.builtin "set.add") [.ref D, .str k u]) Q E s := by
  refine setX_add (setXO_get I hD) hb fun h' c sb new => ?_
  have he : ∃ u, h'.get? D = some u := by
    obtain ⟨o, ho, _⟩ := new
    exact ⟨_, ho⟩
  exact h _ (I.write (e := D) (t' := c) (by rw [hD]; trivial) (.inl rfl) (fun b u hb hu => (sb.2 b hb).trans hu) he (setXO_new new))
/-- sorted(set of texts) -/
def rSortedX (P : Program) (w : World) : List V → Hp → VK → Prop := fun vs H Q => ∃ (a : Addr) (l : List Str), vs = [V.ref a] ∧ H a = some (SetXO P w a l) ∧ l.length < 64 ∧
  ∀ (ns : List Str) (p : Addr), sortedS ns = true → ns.Perm l → H p = none → Q (.ref p) (upd H p (.lst (ns.map V.str)))
theorem cr_sortedX (hc : X.calm = true) : CallR X (.builtin "sorted") (rSortedX X.prog X.w) := by
  intro pins s σ H vs us Q I r h
  obtain ⟨a, l, rfl, ha, h64, q⟩ := h
  rw [Vals.ref1 r]
  refine sorted_setX (setXO_get I ha) (I.ok.hd hc) h64 fun s' p out c ns k g o hp hg hi hs hm => ?_
  have hlen : (ns.map V.str).length ≤ sizeLine := by rw [List.length_map, hm.length_eq, sizeLine_eq]; omega
  have hn : H p = none := I.hok.fresh hp
  have J : Inv X pins σ (upd H p (.lst (ns.map V.str))) { s with heap := s'.heap, gens := s'.gens, drawn := s'.drawn, toks := s'.toks } :=
    I.call (ch := []) (Un.laid k hp hn) (I.hok.laid k hp ⟨hlen, out.toList, c, vals_of_strs hi, hg⟩) (by rw [g]; exact I.bare) (fun _ z => nomatch z)
  have e : s' = { s with heap := s'.heap, gens := s'.gens, drawn := s'.drawn, toks := s'.toks } := by
    cases s'
    cases s
    cases o
    rfl
  rw [e]
  exact ⟨.ref p, _, J, rfl, q ns p hs hm hn⟩
end
end Lk
set_option maxRecDepth 100000
set_option maxHeartbeats 2000000
namespace Lk
open PySem PySem.Spec PyProof.Rows L2
/-- {elt for t0 in i0 for t1 in i1} -/
abbrev sc2 (elt t0 i0 t1 i1 : Expr) (scope : Scope) (pos : Pos) : Expr := .SetComp elt [⟨t0, i0, [], 0⟩, ⟨t1, i1, [], 0⟩] scope pos
section
variable {prog : Program} {w : World} {A : Around} {R : Result → Shared → Prop} {s : Shared} {elt t0 i0 t1 i1 : Expr} {scope : Scope} {pos : Pos} {it acc : Value} {env : Env}
theorem turnX_out : compTurn (sc2 elt t0 i0 t1 i1 scope pos) 0 it acc env = (do
      standAt i0.pos
      match ← pyNext it with
      | none => pure (.done .next)
      | some v =>
        letOwnedTupleGo t0 it v
        assign t0 env v
        let mut ok := true
        for c in ([] : List Expr) do
          if ok then ok ← isTrue c env (eval c env)
        if ok then
          let x ← eval i1 env
          standAt i1.pos
          let x ← foldedSetIterable i1 env x
          let _ ← runOwn (.compStart (sc2 elt t0 i0 t1 i1 scope pos) 1 (← holding [x] (pyIter x)) acc env) env
        again (.compLoop (sc2 elt t0 i0 t1 i1 scope pos) 0 it acc env)) := by rfl
theorem turnX_in : compTurn (sc2 elt t0 i0 t1 i1 scope pos) 1 it acc env = (do
      standAt i1.pos
      match ← pyNext it with
      | none => pure (.done .next)
      | some v =>
        letOwnedTupleGo t1 it v
        assign t1 env v
        let mut ok := true
        for c in ([] : List Expr) do
          if ok then ok ← isTrue c env (eval c env)
        if ok then
          (do let v ← eval elt env; standAt elt.pos; let _ ← call (.builtin "set.add") [acc, v])
        again (.compLoop (sc2 elt t0 i0 t1 i1 scope pos) 1 it acc env)) := by rfl
/-- the outer loop: inner, reached with an iterator of i1's value, runs the inner one to its end -/
theorem loopX_out (hs : ∀ x, foldedSetIterable i1 env x = pure x) (I : Nat → Shared → Prop)
    (turn : ∀ n s, I n s → wpAny (model prog w) A (pyNext it) (fun r s₁ => match r with
      | none => R (.ok .next) s₁
      | some v => wpAny (model prog w) A (letOwnedTupleGo t0 it v) (fun _ s₂ => wpAny (model prog w) A (assign t0 env v) (fun _ s₃ => wpAny (model prog w) A (eval i1 env) (fun x s₄ => wpAny (model prog w) A (pyIter x) (fun it1 s₅ =>
              codeAny (model prog w) A (.compStart (sc2 elt t0 i0 t1 i1 scope pos) 1 it1 acc env) (fun r s' => match r with
                | .ok _ => ∃ m, m < n ∧ I m s'
                | .error _ => False) s₅) (notedBy (model prog w) A env fun e s' => R (.error e) s') s₄) (notedBy (model prog w) A env fun e s' => R (.error e) s') s₃)
            (notedBy (model prog w) A env fun e s' => R (.error e) s') s₂) (notedBy (model prog w) A env fun e s' => R (.error e) s') s₁) (notedBy (model prog w) A env fun e s' => R (.error e) s') s)
    (n : Nat) (h : I n s) : codeAny (model prog w) A (.compLoop (sc2 elt t0 i0 t1 i1 scope pos) 0 it acc env) R s := by
  refine codeAny_loop rfl I (fun n s hI => ?_) n h
  show wpAny _ A ((compTurn (sc2 elt t0 i0 t1 i1 scope pos) 0 it acc env).onRaise (fun x => do noteFrame x env; theTreesLotGoes x)) _ _ s
  refine wpAny_noted ?_
  rw [turnX_out]
  refine wpAny_bind (wpAny_standAt (wpAny_bind (wpAny_mono (turn n s hI) (fun r s₁ h₁ => ?_) fun _ _ h' => h')))
  cases r with
  | none => exact wpAny_pure h₁
  | some v =>
    refine wpAny_bind (wpAny_mono h₁ (fun _ s₂ h₂ => ?_) fun _ _ h' => h')
    refine wpAny_bind (wpAny_mono h₂ (fun _ s₃ h₃ => wpAny_bind (wpAny_tests_nil ?_)) fun _ _ h' => h')
    refine wpAny_bind (wpAny_mono h₃ (fun x s₄ h₄ => ?_) fun _ _ h' => h')
    refine wpAny_bind (wpAny_standAt (wpAny_bind (wpAny_of_eq (hs x) (wpAny_bind (wpAny_holding (wpAny_mono h₄ (fun it1 s₅ h₅ => ?_) fun _ _ h' => h'))))))
    refine wpAny_bind (wpAny_runOwn ?_)
    rw [Around.mark_none]
    refine codeAny_mono h₅ fun r s' hr => ?_
    cases r with
    | ok f =>
      first
        | exact wpAny_pure ⟨rfl, hr⟩
        | exact wpAny_bind (wpAny_pure (wpAny_pure ⟨rfl, hr⟩))
    | error e => exact hr.elim
/-- the inner loop -/
theorem loopX_in (I : Nat → Shared → Prop)
    (turn : ∀ n s, I n s → wpAny (model prog w) A (pyNext it) (fun r s₁ => match r with
      | none => R (.ok .next) s₁
      | some v => wpAny (model prog w) A (letOwnedTupleGo t1 it v) (fun _ s₂ => wpAny (model prog w) A (assign t1 env v) (fun _ s₃ => wpAny (model prog w) A (eval elt env) (fun x s₄ =>
              wpAny (model prog w) A (call (.builtin "set.add") [acc, x]) (fun _ s₅ => ∃ m, m < n ∧ I m s₅) (notedBy (model prog w) A env fun e s' => R (.error e) s') s₄) (notedBy (model prog w) A env fun e s' => R (.error e) s') s₃)
            (notedBy (model prog w) A env fun e s' => R (.error e) s') s₂) (notedBy (model prog w) A env fun e s' => R (.error e) s') s₁) (notedBy (model prog w) A env fun e s' => R (.error e) s') s)
    (n : Nat) (h : I n s) : codeAny (model prog w) A (.compLoop (sc2 elt t0 i0 t1 i1 scope pos) 1 it acc env) R s := by
  refine codeAny_loop rfl I (fun n s hI => ?_) n h
  show wpAny _ A ((compTurn (sc2 elt t0 i0 t1 i1 scope pos) 1 it acc env).onRaise (fun x => do noteFrame x env; theTreesLotGoes x)) _ _ s
  refine wpAny_noted ?_
  rw [turnX_in]
  refine wpAny_bind (wpAny_standAt (wpAny_bind (wpAny_mono (turn n s hI) (fun r s₁ h₁ => ?_) fun _ _ h' => h')))
  cases r with
  | none => exact wpAny_pure h₁
  | some v =>
    refine wpAny_bind (wpAny_mono h₁ (fun _ s₂ h₂ => ?_) fun _ _ h' => h')
    refine wpAny_bind (wpAny_mono h₂ (fun _ s₃ h₃ => wpAny_bind (wpAny_tests_nil ?_)) fun _ _ h' => h')
    exact wpAny_bind (wpAny_bind (wpAny_mono h₃ (fun x s₄ h₄ => wpAny_bind (wpAny_standAt (wpAny_bind (wpAny_mono h₄ (fun _ s₅ h₅ => wpAny_pure (wpAny_pure ⟨rfl, h₅⟩)) fun _ _ h' => h')))) fun _ _ h' => h'))
/-- the second clause's start -/
theorem startX_in (h0 : codeAny (model prog w) A (.compLoop (sc2 elt t0 i0 t1 i1 scope pos) 1 it acc env) R s)
    (h : wpAny (model prog w) A (pyIter it) (fun it' s' => codeAny (model prog w) A (.compLoop (sc2 elt t0 i0 t1 i1 scope pos) 1 it' acc env) R s') (notedBy (model prog w) A env fun x s' => R (.error x) s') s) :
    codeAny (model prog w) A (.compStart (sc2 elt t0 i0 t1 i1 scope pos) 1 it acc env) R s := by
  refine codeAny_of_tree ?_
  show wpAny _ _ ((compStart (sc2 elt t0 i0 t1 i1 scope pos) 1 it acc env).onRaise (fun x => do noteFrame x env; standAt theWindowsPlace)) _ _ s
  refine wpAny_notedAt ?_
  unfold compStart
  show wpAny _ _ (ask >>= _) _ _ s
  refine wpAny_bind (wpAny_askSetting (wpAny_ite ?_))
  split
  · first
      | exact wpAny_bind (wpAny_pure (wpAny_pure (And.intro rfl h0)))
      | exact wpAny_pure (And.intro rfl h0)
  · refine wpAny_bind (wpAny_rule ?_)
    show wpAny _ _ (standAt i1.pos >>= _) _ _ s
    exact wpAny_bind (wpAny_standAt (wpAny_bind (wpAny_mono h (fun it' s' h' => wpAny_pure (And.intro rfl h')) fun _ _ x => x)))
end
end Lk
set_option maxRecDepth 100000
set_option maxHeartbeats 2000000
namespace Lk
open PySem PySem.Spec PyProof.Rows L2
section
variable {X : Cx}
/-- a set of texts, two clauses, no tests: D the new set -/
def tSc2 (P : Program) (w : World) (wi : TI) (g : TG) (wi1 : TI) (g1 : TG) (te : TE) (vs vs1 : List Nat) : TE := fun σ H Q => wi σ H fun J H1 => ∀ D, H1 D = none → ∃ W : Nat → Nat → Hp → Prop, (∃ m, W 0 m (upd H1 D (SetXO P w D []))) ∧ ∀ i m H, W i m H →
  (J.stop i H ∧ Q (.ref D) H) ∨ (J.go i H ∧ ∃ Nx : Hp → Prop, (∀ H', Nx H' → ∃ m', m' < m ∧ W (i + 1) m' H') ∧ ∀ x H', J.yld i H x H' → g x (wipe σ vs) H' fun σ2 H2 => wipe σ2 vs = wipe σ vs ∧
    wi1 σ2 H2 fun J1 H4 => ∃ W1 : Nat → Nat → Hp → Prop, (∃ m, W1 0 m H4) ∧ ∀ j k H, W1 j k H →
      (J1.stop j H ∧ Nx H) ∨ (J1.go j H ∧ ∃ Nx1 : Hp → Prop, (∀ H', Nx1 H' → ∃ k', k' < k ∧ W1 (j + 1) k' H') ∧ ∀ x H', J1.yld j H x H' → g1 x (wipe σ2 vs1) H' fun σ3 H5 => wipe σ3 vs1 = wipe σ2 vs1 ∧
        te σ3 H5 fun y H7 => ∃ (k : Str) (l : List Str), y = .str k ∧ H7 D = some (SetXO P w D l) ∧ l.length + 1 < scanBound ∧ Nx1 (upd H7 D (SetXO P w D (if k ∈ l then l else k :: l)))))
theorem pe_sc2 {elt tg iter tg1 iter1 : Expr} {scope : Scope} {own : List (Str × Nat)} {vs1 : List Nat} {pos : Pos} {wi wi1 : TI} {g g1 : TG} {te : TE} (hc : X.calm = true) (hN : X.N.Nodup) (hi : PI X tg iter wi) (ok : BlkOk X.N X.env.scope scope own) (hv : ∀ i ∈ vs1, i ∈ own.map (·.2))
    (hg : ∀ (s : Shared) (H : Hp) (C : Addr) (cl : List (Str × Addr)) (fp : List Addr), PG (X.blk s H scope (compEnvC scope cl C X.env) fp) tg g)
    (hi1 : ∀ (s : Shared) (H : Hp) (C : Addr) (cl : List (Str × Addr)) (fp : List Addr), PI (X.blk s H scope (compEnvC scope cl C X.env) fp) tg1 iter1 wi1)
    (hg1 : ∀ (s : Shared) (H : Hp) (C : Addr) (cl : List (Str × Addr)) (fp : List Addr), PG (X.blk s H scope (compEnvC scope cl C X.env) fp) tg1 g1)
    (he : ∀ (s : Shared) (H : Hp) (C : Addr) (cl : List (Str × Addr)) (fp : List Addr), PE (X.blk s H scope (compEnvC scope cl C X.env) fp) elt te) (hs : ∀ x, foldedSetIterable iter X.env x = pure x := by intro _; rfl) (hs1 : ∀ env x, foldedSetIterable iter1 env x = pure x := by intro _ _; rfl) :
    PE X (sc2 elt tg iter tg1 iter1 scope pos) (tSc2 X.prog X.w wi g wi1 g1 te (own.map (·.2)) vs1) := by
  refine ⟨fun pins s σ H Q I h => ?_⟩
  rw [PpSet.eval_SetComp]
  have hfree : ∀ y ∈ scope.names, y.2 = .free → ∃ c, X.env.cells.lookup y.1 = some c := fun y hy e => by
    rcases ok.free y hy e with k | k
    · exact I.ok.has _ (.inl k)
    · exact I.ok.has _ (.inr k)
  refine wpAny_comprehension_free (use := none) rfl hs (closure_ok hfree) ok.kind (fun y hy e => by rw [ok.uniq y hy, e])
    (thn (hi.run pins s σ H _ I h) fun xv s1 hx => thn hx fun itv s2 h2 => ?_)
  obtain ⟨it, fp, tn, J, H2, e, I2, T, st2, f2, q⟩ := h2
  subst e
  refine PpSet.newSet_ok (newEnv_comp ?_)
  generalize hD : s2.heap.objs.size = D
  have hDn : H2 D = none := I2.hok.fresh (Nat.le_of_eq hD)
  obtain ⟨W, ⟨m0, w0⟩, turn⟩ := q D hDn
  generalize hs3 : ({ s2 with heap := s2.heap.push { cls := .type "set", dict := none, data := .set #[] 0 (.fresh 0 0 (!X.w.params.followText "set-order")) } } : Shared) = s3
  have h3 : s3.heap = s2.heap.push { cls := .type "set", dict := none, data := .set #[] 0 (.fresh 0 0 (!X.w.params.followText "set-order")) } := by rw [← hs3]
  have I3 : Inv X pins σ (upd H2 D (SetXO X.prog X.w D [])) s3 := by
    rw [← hs3]
    refine I2.laid (t' := s2.toks) (fun b o e => Heap.get?_push_of_some _ e) (Nat.le_of_eq hD) ?_
    rw [← hD]
    exact setXO_new ⟨_, Heap.get?_push_size _ rfl, TxW.fresh⟩
  have f3 : ∀ b ∈ fp, FpOk X pins (upd H2 D (SetXO X.prog X.w D [])) b ∧ b < s3.heap.objs.size := fun b hb => by
    obtain ⟨o, e, _⟩ := T.obj _ _ st2 b hb
    have hlt := Heap.lt_size e
    refine ⟨⟨?_, (f2 b hb).2⟩, by rw [h3, Heap.size_push]; exact Nat.lt_succ_of_lt hlt⟩
    rw [upd_ne (by rw [← hD]; exact Nat.ne_of_lt hlt)]
    exact (f2 b hb).1
  have st3 : tn 0 s3.heap := T.keep _ _ _ st2 fun b _ o e => by rw [h3]; exact Heap.get?_push_of_some _ e
  have I4 := block_start I3 ok hN f3
  have pg := hg s3 (upd H2 D (SetXO X.prog X.w D [])) s3.heap.objs.size (cellsFrom (s3.heap.objs.size + 1) scope.names (cloFrom X.env.cells scope.names [])) fp
  have pe := he s3 (upd H2 D (SetXO X.prog X.w D [])) s3.heap.objs.size (cellsFrom (s3.heap.objs.size + 1) scope.names (cloFrom X.env.cells scope.names [])) fp
  have pi1 := hi1 s3 (upd H2 D (SetXO X.prog X.w D [])) s3.heap.objs.size (cellsFrom (s3.heap.objs.size + 1) scope.names (cloFrom X.env.cells scope.names [])) fp
  have pg1 := hg1 s3 (upd H2 D (SetXO X.prog X.w D [])) s3.heap.objs.size (cellsFrom (s3.heap.objs.size + 1) scope.names (cloFrom X.env.cells scope.names [])) fp
  show codeAny _ _ (.compStart (sc2 elt tg iter tg1 iter1 scope pos) 0 (.ref it) (.ref D) (compEnvC scope (cellsFrom (s3.heap.objs.size + 1) scope.names (cloFrom X.env.cells scope.names [])) s3.heap.objs.size X.env)) (compPost (model X.prog X.w) X.A X.xe none _ (.ref D) s3.heap.objs.size) { s3 with heap := pushCells (s3.heap.push { cls := .type "dict", data := .dict #[] }) scope.names }
  have nfp : ∀ b ∈ fp, (upd H2 D (SetXO X.prog X.w D [])) b = none := fun b hb => (f3 b hb).1.1
  generalize hce : compEnvC scope (cellsFrom (s3.heap.objs.size + 1) scope.names (cloFrom X.env.cells scope.names [])) s3.heap.objs.size X.env = ce at I4 pg pe pi1 pg1 ⊢
  have cL : ce.locals = s3.heap.objs.size := by subst hce; rfl
  generalize hH3 : upd H2 D (SetXO X.prog X.w D []) = H3 at I3 I4 pg pe pi1 pg1 w0 nfp f3
  generalize hs4 : ({ s3 with heap := pushCells (s3.heap.push { cls := .type "dict", data := .dict #[] }) scope.names } : Shared) = s4 at I4 ⊢
  have st4 : tn 0 s4.heap := T.keep _ _ _ st3 fun b _ o e => by rw [← hs4]; exact pushCells_keeps _ _ _ _ (Heap.get?_push_of_some _ e)
  have stat : ∀ {σ' : L2.St} {H' : Hp} {s' : Shared}, Inv (X.blk s3 H3 scope ce fp) [] σ' H' s' → (∀ b ∈ fp, H' b = none) → ∀ b ∈ fp, FpOk (X.blk s3 H3 scope ce fp) [] H' b := fun {σ' H' s'} I' hn b hb =>
    ⟨hn b hb, (I'.ok.exf b hb).1, I'.ok.exfs b hb, .inl hb, fun x c e => (I'.ok.exf b hb).2 x c e, fun p hp => absurd (show p ∈ ([] : List (Addr × Obj)) ++ [] from hp) (by simp)⟩
  have loop : codeAny (model X.prog X.w) X.A (.compLoop (sc2 elt tg iter tg1 iter1 scope pos) 0 (.ref it) (.ref D) ce) (compPost (model X.prog X.w) X.A X.xe none (fun v s' => ∃ x H', Inv X pins σ H' s' ∧ RelV x v ∧ Q x H') (.ref D) s3.heap.objs.size) s4 := by
    refine loopX_out (hs1 ce) (fun n s' => ∃ i H', Inv (X.blk s3 H3 scope ce fp) [] (wipe σ (own.map (·.2))) H' s' ∧ tn i s'.heap ∧ (∀ b ∈ fp, H' b = none) ∧ W i n H') ?_ m0 ⟨0, H3, I4, st4, nfp, w0⟩
    rintro n s5 ⟨i, H5, I5, st5, n5, w5⟩
    rcases turn i n H5 w5 with ⟨stop, qq⟩ | ⟨go, Nx, hNx, step⟩
    · refine thnF (T.done (X.blk s3 H3 scope ce fp) rfl rfl rfl hc i [] s5 _ H5 (fun _ _ => False) I5 (stat I5 n5) st5 stop) fun r s6 ⟨hr, I6⟩ => ?_
      subst hr
      have I7 : Inv X pins σ H5 s6 := I3.call' (ch := fp) I6.os I6.base I6.hok I6.bare fun b hb => ⟨(f3 b hb).1.2.2.2.1, (f3 b hb).1.2.1, (f3 b hb).1.2.2.2.2.1, (f3 b hb).1.2.2.2.2.2⟩
      have nC : H5 s3.heap.objs.size = none := by
        have z : H5 ce.locals = none := I6.free
        rw [cL] at z
        exact z
      obtain ⟨m, hn, _⟩ := I6.loc
      have hn : s6.heap.Ns ce.locals m := hn
      rw [cL] at hn
      refine ⟨m, hn, fun h'' sb => ?_⟩
      have fC : FpOk X pins H5 s3.heap.objs.size := I3.fpOk (Nat.le_refl _) nC
      obtain ⟨c0, c1, c2, c3, c4, c5⟩ := fC
      exact ⟨.ref D, H5, I7.turned (t' := s6.toks) (fun b o hb e => (sb.2 b hb).trans e) c0 c1 c3 c4 c5, rfl, qq⟩
    · refine thnF (T.item (X.blk s3 H3 scope ce fp) rfl rfl rfl hc i [] s5 _ H5 (fun _ _ => False) I5 (stat I5 n5) st5 go) fun r s6 ⟨u, hr, h6⟩ => ?_
      subst hr
      refine thnF h6 fun _ s7 ⟨x, H7, I7, r7, y7, st7, n7⟩ => ?_
      have I7' := I7.pinned (stat I7 n7) (T.obj _ _ st7)
      refine thnF (pg.run _ s7 _ H7 x u _ I7' r7 (step x H7 y7)) fun _ s8 ⟨σ8, H8, I8, hw8, q8⟩ => ?_
      have fin : ∀ {σ9 : L2.St} {s' : Shared} {H' : Hp}, Inv (X.blk s3 H3 scope ce fp) ([] ++ pinsAt fp s7.heap) σ9 H' s' → (wipe σ (own.map (·.2))).length = σ9.length → (∀ (j : Nat) v, (wipe σ (own.map (·.2)))[j]? = some (some v) → σ9[j]? = some (some v)) → Nx H' →
          ∃ m, m < n ∧ ∃ i H', Inv (X.blk s3 H3 scope ce fp) [] (wipe σ (own.map (·.2))) H' s' ∧ tn i s'.heap ∧ (∀ b ∈ fp, H' b = none) ∧ W i m H' := fun {σ9 s' H'} I' hl hk nx => by
        obtain ⟨m', hm, w'⟩ := hNx H' nx
        have pin' : ∀ b ∈ fp, ∀ o, s7.heap.get? b = some o → s'.heap.get? b = some o ∧ H' b = none := fun b hb o e =>
          let z := I'.pin (b, o) (List.mem_append_right _ (List.mem_append_right _ (mem_pinsAt hb e)))
          ⟨z.1, z.2.1⟩
        refine ⟨m', hm, i + 1, H', (I'.unpinned (pins := [])).weak hl hk, T.keep _ _ _ st7 fun b hb o e => (pin' b hb o e).1, fun b hb => ?_, w'⟩
        obtain ⟨o, e, _⟩ := T.obj _ _ st7 b hb
        exact (pin' b hb o e).2
      have hl8 : (wipe σ (own.map (·.2))).length = σ8.length := by rw [← hw8, wipe_length]
      have hk9 : ∀ (j : Nat) v, (wipe σ (own.map (·.2)))[j]? = some (some v) → (wipe σ8 vs1)[j]? = some (some v) := fun j v e => by
        rw [← hw8] at e
        obtain ⟨e1, e2⟩ := wipe_some e
        rw [wipe_out fun z => e2 (hv j z)]
        exact e1
      refine thnF (pi1.run _ s8 σ8 H8 _ I8 q8) fun xv s10 hx => thnF hx fun itv s11 h11 => ?_
      obtain ⟨it1, fp1, tn1, J1, H11, e1, I11, T1, st11, f11, W1, ⟨m1, w1⟩, turn1⟩ := h11
      subst e1
      have stat1 : ∀ {H' : Hp}, (∀ b ∈ fp1, H' b = none) → ∀ b ∈ fp1, FpOk (X.blk s3 H3 scope ce fp) ([] ++ pinsAt fp s7.heap) H' b := fun hn b hb => ⟨hn b hb, (f11 b hb).2⟩
      have loop1 : codeAny (model X.prog X.w) X.A (.compLoop (sc2 elt tg iter tg1 iter1 scope pos) 1 (.ref it1) (.ref D) ce)
          (fun r s' => match r with
            | .ok _ => ∃ m, m < n ∧ ∃ i H', Inv (X.blk s3 H3 scope ce fp) [] (wipe σ (own.map (·.2))) H' s' ∧ tn i s'.heap ∧ (∀ b ∈ fp, H' b = none) ∧ W i m H'
            | .error _ => False) s11 := by
        refine loopX_in (fun k s' => ∃ j H', Inv (X.blk s3 H3 scope ce fp) ([] ++ pinsAt fp s7.heap) (wipe σ8 vs1) H' s' ∧ tn1 j s'.heap ∧ (∀ b ∈ fp1, H' b = none) ∧ W1 j k H') ?_ m1 ⟨0, H11, I11.weak (wipe_length _ _) (fun j v e => (wipe_some e).1), st11, fun b hb => (f11 b hb).1, w1⟩
        rintro k s12 ⟨j, H12, I12, st12, n12, w12⟩
        rcases turn1 j k H12 w12 with ⟨stop1, nx1⟩ | ⟨go1, Nx1, hNx1, step1⟩
        · refine thnF (T1.done (X.blk s3 H3 scope ce fp) rfl rfl rfl hc j _ s12 (wipe σ8 vs1) H12 (fun _ _ => False) I12 (stat1 n12) st12 stop1) fun r s13 ⟨hr, I13⟩ => ?_
          subst hr
          exact fin I13 (hl8.trans (wipe_length σ8 vs1).symm) hk9 nx1
        · refine thnF (T1.item (X.blk s3 H3 scope ce fp) rfl rfl rfl hc j _ s12 (wipe σ8 vs1) H12 (fun _ _ => False) I12 (stat1 n12) st12 go1) fun r s13 ⟨u1, hr, h13⟩ => ?_
          subst hr
          refine thnF h13 fun _ s14 ⟨x1, H14, I14, r14, y14, st14, n14⟩ => ?_
          have I14' := I14.pinned (stat1 n14) (T1.obj _ _ st14)
          refine thnF (pg1.run _ s14 (wipe σ8 vs1) H14 x1 u1 _ I14' r14 (step1 x1 H14 y14)) fun _ s15 ⟨σ15, H15, I15, hw15, q15⟩ => ?_
          refine thnF (pe.run _ s15 σ15 H15 _ I15 q15) fun z s17 ⟨yv, H17, I17, r17, kk, acc, ey, hD17, hz17, nx⟩ => ?_
          subst ey
          obtain ⟨tk, rfl⟩ : ∃ t, z = Value.str kk t := r17
          refine addX_ok (X := X.blk s3 H3 scope ce fp) I17 hD17 hz17 fun s18 I18 => ?_
          obtain ⟨m', hm, w'⟩ := hNx1 _ nx
          have pin' : ∀ b ∈ fp1, ∀ o, s14.heap.get? b = some o → s18.heap.get? b = some o ∧ _ := fun b hb o e =>
            let z := I18.pin (b, o) (List.mem_append_right _ (List.mem_append_right _ (mem_pinsAt hb e)))
            ⟨z.1, z.2.1⟩
          refine ⟨m', hm, j + 1, _, I18.unpinned.weak (by rw [← hw15, wipe_length]) (fun j v e => by rw [← hw15] at e; exact (wipe_some e).1), T1.keep _ _ _ st14 fun b hb o e => (pin' b hb o e).1, fun b hb => ?_, w'⟩
          obtain ⟨o, e, _⟩ := T1.obj _ _ st14 b hb
          exact (pin' b hb o e).2
      exact startX_in loop1 (T1.self X.A 0 _ _ _ st11 loop1)
  exact PpSet.codeAny_compStart_set loop (T.self X.A 0 _ _ _ st4 loop)
end
end Lk
set_option maxRecDepth 100000
namespace Dl
open PySem PySem.Spec PyProof.Rows L2 Lk

variable {L : Wd}
/-! ### sorted({e for .. in .. for .. in ..}), texts -/
def dSetIn (vs1 : List Nat) (g1 : DG) (e : DE L) (N : List Str → DEnv → L.W → Prop) : List D → List Str → DEnv → L.W → Prop
  | [], acc, δ, w => N acc δ w
  | y :: ys, acc, δ, w => g1 y (wipeD vs1 0 δ) fun δ3 => e δ3 w fun z δ4 w4 => ∃ k, z = .str k ∧ acc.length + 1 < scanBound ∧ dSetIn vs1 g1 e N ys (if k ∈ acc then acc else k :: acc) (mixD vs1 0 δ δ4) w4
def dSetOut (vs vs1 : List Nat) (g : DG) (it1 : DA L) (g1 : DG) (e : DE L) (Q : List Str → DEnv → L.W → Prop) : List D → List Str → DEnv → L.W → Prop
  | [], acc, δ, w => Q acc δ w
  | x :: xs, acc, δ, w => g x (wipeD vs 0 δ) fun δ1 => it1 δ1 w fun ys δ2 w2 => NoOwn vs1 δ2 ∧ dSetIn vs1 g1 e (fun acc' δ5 w5 => dSetOut vs vs1 g it1 g1 e Q xs acc' (mixD vs 0 δ δ5) w5) ys acc δ2 w2
/-- an expression that makes a set of texts: its members in some order -/
abbrev DX (L : Wd) := DEnv → L.W → (List Str → DEnv → L.W → Prop) → Prop
def TX (P : Program) (W : World) (d : DX L) : TE := fun σ H Q => ∃ (Φ : Ph L) (δ : DEnv) (w : L.W) (R : List Str → DEnv → L.W → Prop), At Φ δ w σ H ∧ d δ w R ∧
  ∀ l δ' w' a H', R l δ' w' → At (Φ.add a) δ' w' σ H' → ¬ Sof Φ δ' σ w' a → H a = none → H' a = some (SetXO P W a l) → Step (Mof L δ σ w) H (Mof L δ' σ w') H' → Q (.ref a) H'
def dxSc2 (vs vs1 : List Nat) (it : DA L) (g : DG) (it1 : DA L) (g1 : DG) (e : DE L) : DX L := fun δ w Q => it δ w fun xs δ' w' => NoOwn vs δ' ∧ dSetOut vs vs1 g it1 g1 e Q xs [] δ' w'
theorem TX_sc2 {P : Program} {W : World} {vs vs1 ts ts1 : List Nat} {it it1 : DA L} {g g1 : DG} {e : DE L} (hts : ∀ i ∈ ts, i ∈ vs) (hts1 : ∀ i ∈ ts1, i ∈ vs1) (hv : ∀ i ∈ vs1, i ∈ vs) : ∀ σ H Q, TX P W (dxSc2 vs vs1 it g it1 g1 e) σ H Q → tSc2 P W (TDI it) (TDG L ts g) (TDI it1) (TDG L ts1 g1) (TD e) vs vs1 σ H Q := fun σ H Q ⟨Φ, δ, w, R, A, hd, q⟩ => by
  refine ⟨Φ, δ, w, _, A, hd, fun xs δ1 w1 J H1 ⟨no, hx⟩ A1 s1 wk D nD => ?_⟩
  have nF : ¬ Φ.F D := fun z => A1.trk D z nD
  have h0 : Φ.H0 D = none := A1.new0 nD
  have HD : H D = none := s1.free nD
  have sm0 : Same H1 (upd H1 D (SetXO P W D [])) := same_new nD
  refine ⟨fun i m H' => m = xs.length - i ∧ i ≤ xs.length ∧ ∃ δ' w' acc, At (Φ.add D) δ' w' σ H' ∧ NoOwn vs δ' ∧ H' D = some (SetXO P W D acc) ∧ Step (plus (Mof L δ1 σ w1) D) (upd H1 D (SetXO P W D [])) (plus (Mof L δ' σ w') D) H' ∧ dSetOut vs vs1 g it1 g1 e R (xs.drop i) acc δ' w',
    ⟨_, rfl, Nat.zero_le _, δ1, w1, [], A1.add nD, no, upd_same, Step.refl _ _, hx⟩, ?_⟩
  rintro i m H' ⟨rfl, hi, δ', w', acc, A', no', eD, st, hc⟩
  have stS : Step (Sof Φ δ1 σ w1) H1 (Sof (Φ.add D) δ' σ w') H' := by
    refine ⟨fun b o n eb => st.keep b o (fun z => ?_) (sm0 b o eb), fun b z => ?_, fun b z => st.trk b ((Step.same (S := L.mu w) sm0).trk b z), fun b vs e => st.tup b vs (sm0 b _ e)⟩
    · rcases z with z | z
      · exact n z.S
      · rw [z, nD] at eb; cases eb
    · rcases z.M with z | z
      · rcases st.sub b (.inl z) with z | z
        · rcases z with z | z
          · exact .inl z.S
          · exact .inr (by rw [z]; exact nD)
        · by_cases e : b = D
          · exact .inr (by rw [e]; exact nD)
          · rw [upd_ne e] at z
            exact .inr z
      · rcases z with z | z
        · exact .inl (.inr (.inl z))
        · exact .inr (by rw [z]; exact nD)
  have wk' := wk.later stS
  by_cases hlt : i < xs.length
  · refine .inr ⟨wk'.go i _ _ hlt (Step.refl _ _), fun H2 => i + 1 ≤ xs.length ∧ ∃ δ2 w2 acc, At (Φ.add D) δ2 w2 σ H2 ∧ NoOwn vs δ2 ∧ H2 D = some (SetXO P W D acc) ∧ Step (plus (Mof L δ1 σ w1) D) (upd H1 D (SetXO P W D [])) (plus (Mof L δ2 σ w2) D) H2 ∧ dSetOut vs vs1 g it1 g1 e R (xs.drop (i + 1)) acc δ2 w2,
      fun H2 h => ⟨_, by omega, rfl, h.1, h.2⟩, fun v H2 hy => ?_⟩
    obtain ⟨x, ex, sm, rx⟩ := wk'.yld i _ _ v H2 hlt (Step.refl _ _) (fun b => A'.tr) hy
    rw [List.drop_eq_getElem_cons hlt] at hc
    have ex2 : xs[i] = x := by rw [List.getElem?_eq_getElem hlt] at ex; exact Option.some.inj ex
    rw [ex2] at hc
    have A2 := A'.same sm
    obtain ⟨A3, iff3⟩ := A2.wipe no'
    have toW : ∀ (H : Hp), Step (Mof L δ' σ w') H (Mof L (wipeD vs 0 δ') (L2.wipe σ vs) w') H := fun H => sub_step (fun b z => (iff3 b).mp z) H
    refine ⟨Φ.add D, _, w', x, _, A3, rx.go (toW H2).S, hc, fun δ3 σ3 hR A4 st4 ⟨fl, fr⟩ => ?_⟩
    have fl' : σ3.length = σ.length := by rw [fl, wipe_length]
    have fr' : ∀ j, j ∉ vs → σ3[j]? = σ[j]? := fun j hj => (fr j fun z => hj (hts j z)).trans (wipe_out hj)
    refine ⟨wipe_eq fl' fr', Φ.add D, δ3, w', _, A4, hR, fun ys δ4 w4 J1 H4 ⟨no4, hin⟩ A5 st5 wk1 => ?_⟩
    have sA : Step (Mof L δ' σ w') H2 (Mof L δ4 σ3 w4) H4 := (toW H2).trans (st4.trans st5)
    have eD4 : H4 D = some (SetXO P W D acc) := sA.keep D _ (fun z => (A'.notS nF) z.S) (sm D _ eD)
    -- inside: over σ3, all of it behind H2
    refine ⟨fun j m H' => m = ys.length - j ∧ j ≤ ys.length ∧ ∃ δ6 w6 acc6, At (Φ.add D) δ6 w6 σ3 H' ∧ NoOwn vs1 δ6 ∧ H' D = some (SetXO P W D acc6) ∧ Step (plus (Mof L δ' σ w') D) H2 (plus (Mof L δ6 σ3 w6) D) H' ∧ Step (plus (Mof L δ4 σ3 w4) D) H4 (plus (Mof L δ6 σ3 w6) D) H' ∧
      dSetIn vs1 g1 e (fun acc' δ5 w5 => dSetOut vs vs1 g it1 g1 e R (xs.drop (i + 1)) acc' (mixD vs 0 δ' δ5) w5) (ys.drop j) acc6 δ6 w6,
      ⟨_, rfl, Nat.zero_le _, δ4, w4, acc, A5, no4, eD4, sA.plus D, Step.refl _ _, hin⟩, ?_⟩
    rintro j m H5 ⟨rfl, hj, δ6, w6, acc6, A6, no6, eD6, st6, st64, hc6⟩
    have notD6 : ¬ Mof L δ6 σ3 w6 D := fun z => (A6.notS nF) z.S
    have stS6 : Step (Sof (Φ.add D) δ4 σ3 w4) H4 (Sof (Φ.add D) δ6 σ3 w6) H5 := by
      refine ⟨fun b o n eb => st64.keep b o (fun z => ?_) eb, fun b z => ?_, st64.trk, st64.tup⟩
      · rcases z with z | z
        · exact n z.S
        · exact n (.inr (.inl (.inr z)))
      · rcases z.M with z | z
        · rcases st64.sub b (.inl z) with z | z
          · rcases z with z | z
            · exact .inl z.S
            · exact .inl (.inr (.inl (.inr z)))
          · exact .inr z
        · exact .inl (.inr (.inl z))
    have wk6 := wk1.later stS6
    by_cases hlt6 : j < ys.length
    · refine .inr ⟨wk6.go j _ _ hlt6 (Step.refl _ _), fun H7 => j + 1 ≤ ys.length ∧ ∃ δ7 w7 acc7, At (Φ.add D) δ7 w7 σ3 H7 ∧ NoOwn vs1 δ7 ∧ H7 D = some (SetXO P W D acc7) ∧ Step (plus (Mof L δ' σ w') D) H2 (plus (Mof L δ7 σ3 w7) D) H7 ∧ Step (plus (Mof L δ4 σ3 w4) D) H4 (plus (Mof L δ7 σ3 w7) D) H7 ∧
        dSetIn vs1 g1 e (fun acc' δ5 w5 => dSetOut vs vs1 g it1 g1 e R (xs.drop (i + 1)) acc' (mixD vs 0 δ' δ5) w5) (ys.drop (j + 1)) acc7 δ7 w7,
        fun H7 h => ⟨_, by omega, rfl, h.1, h.2⟩, fun u H7 hy7 => ?_⟩
      obtain ⟨y, ey, sm7, ry⟩ := wk6.yld j _ _ u H7 hlt6 (Step.refl _ _) (fun b => A6.tr) hy7
      rw [List.drop_eq_getElem_cons hlt6] at hc6
      have ey2 : ys[j] = y := by rw [List.getElem?_eq_getElem hlt6] at ey; exact Option.some.inj ey
      rw [ey2] at hc6
      have A7 := A6.same sm7
      obtain ⟨A8, iff8⟩ := A7.wipe no6
      have toW8 : ∀ (H : Hp), Step (Mof L δ6 σ3 w6) H (Mof L (wipeD vs1 0 δ6) (L2.wipe σ3 vs1) w6) H := fun H => sub_step (fun b z => (iff8 b).mp z) H
      refine ⟨Φ.add D, _, w6, y, _, A8, ry.go (toW8 H7).S, hc6, fun δ9 σ9 hR9 A9 st9 ⟨fl9, fr9⟩ => ?_⟩
      have fl9' : σ9.length = σ3.length := by rw [fl9, wipe_length]
      have fr9' : ∀ j, j ∉ vs1 → σ9[j]? = σ3[j]? := fun j hj => (fr9 j fun z => hj (hts1 j z)).trans (wipe_out hj)
      refine ⟨wipe_eq fl9' fr9', Φ.add D, δ9, w6, _, A9, hR9, fun z δa wa va Ha ⟨k, hk, hsz, hrest⟩ Aa sta rz => ?_⟩
      subst hk
      cases rz
      obtain ⟨z1, z2, z3⟩ := A7.mix no6 Aa ((toW8 H7).trans (st9.trans sta)) fl9' fr9'
      have sB : Step (Mof L δ6 σ3 w6) H7 (Mof L (mixD vs1 0 δ6 δa) σ3 wa) Ha := ((toW8 H7).trans (st9.trans sta)).trans (sub_step z3 Ha)
      have eDa : Ha D = some (SetXO P W D acc6) := sB.keep D _ notD6 (sm7 D _ eD6)
      obtain ⟨Ab, _⟩ := z1.setF (a := D) (o := SetXO P W D (if k ∈ acc6 then acc6 else k :: acc6)) (.inr rfl) h0 (fun vs e => by rw [eDa] at e; cases e)
      have pt : Step (plus (Mof L (mixD vs1 0 δ6 δa) σ3 wa) D) Ha (plus (Mof L (mixD vs1 0 δ6 δa) σ3 wa) D) (upd Ha D (SetXO P W D (if k ∈ acc6 then acc6 else k :: acc6))) := Step.put fun vs e => by rw [eDa] at e; cases e
      exact ⟨k, acc6, rfl, eDa, hsz, hlt6, _, wa, _, Ab, z2, upd_same, ((st6.trans (Step.same sm7)).trans (sB.plus D)).trans pt, ((st64.trans (Step.same sm7)).trans (sB.plus D)).trans pt, hrest⟩
    · have e1 : j = ys.length := by omega
      subst e1
      rw [List.drop_length] at hc6
      refine .inl ⟨wk6.stop _ _ (Step.refl _ _), hlt, mixD vs 0 δ' δ6, w6, acc6, ?_⟩
      -- outside again
      have stM : Step (Mof L δ' σ w') (upd H2 D (SetXO P W D acc6)) (Mof L δ6 σ3 w6) H5 := by
        refine ⟨fun b o n eb => ?_, fun b z => ?_, fun b z => ?_, fun b vs e => ?_⟩
        · by_cases e : b = D
          · subst e
            rw [upd_same] at eb
            rw [eD6, ← eb]
          · rw [upd_ne e] at eb
            exact st6.keep b o (fun z => z.elim n e) eb
        · rcases st6.sub b (.inl z) with q | q
          · rcases q with q | q
            · exact .inl q
            · exact absurd (q ▸ z) notD6
          · by_cases e : b = D
            · exact absurd (e ▸ z) notD6
            · exact .inr (by rw [upd_ne e]; exact q)
        · by_cases e : b = D
          · rw [e, eD6]; exact fun z => nomatch z
          · rw [upd_ne e] at z
            exact st6.trk b z
        · by_cases e' : b = D
          · rw [e', upd_same] at e; cases e
          · rw [upd_ne e'] at e
            exact st6.tup b vs e
      obtain ⟨A2', _⟩ := A2.setF (a := D) (o := SetXO P W D acc6) (.inr rfl) h0 (fun vs e => by rw [sm D _ eD] at e; cases e)
      obtain ⟨z1, z2, z3⟩ := A2'.mix no' A6 stM fl' fr'
      have pt : Step (plus (Mof L δ' σ w') D) H2 (plus (Mof L δ' σ w') D) (upd H2 D (SetXO P W D acc6)) := Step.put fun vs e => by rw [sm D _ eD] at e; cases e
      exact ⟨z1, z2, eD6, (st.trans (Step.same sm)).trans (pt.trans ((stM.trans (sub_step z3 H5)).plus D)), hc6⟩
  · have e1 : i = xs.length := by omega
    subst e1
    rw [List.drop_length] at hc
    refine .inl ⟨wk'.stop _ _ (Step.refl _ _), q _ _ _ D H' hc A' (A'.notS nF) HD eD ?_⟩
    refine ⟨fun b o n eb => ?_, fun b z => ?_, fun b z => stS.trk b (s1.trk b z), fun b vs e => stS.tup b vs (s1.tup b vs e)⟩
    · have e2 := s1.keep b o n eb
      refine st.keep b o (fun z => ?_) (sm0 b o e2)
      rcases z with z | z
      · rcases s1.sub b z with z | z
        · exact n z
        · rw [z] at eb; cases eb
      · rw [z, nD] at e2; cases e2
    · rcases st.sub b (.inl z) with z2 | z2
      · rcases z2 with z2 | z2
        · exact s1.sub b z2
        · exact .inr (by rw [z2]; exact HD)
      · by_cases e3 : b = D
        · exact .inr (by rw [e3]; exact HD)
        · rw [upd_ne e3] at z2
          exact .inr (s1.free z2)
section
variable {X : Cx} {elt tg iter tg1 iter1 : Expr} {scope : Scope} {own : List (Str × Nat)} {pos p : Pos} {it it1 : DA L} {g g1 : DG} {e : DE L} {ts ts1 vs1 : List Nat}
theorem px_sc2 (hc : X.calm = true) (hN : X.N.Nodup) (hi : PI X tg iter (TDI it)) (ok : BlkOk X.N X.env.scope scope own)
    (hg : ∀ (s : Shared) (H : Hp) (C : Addr) (cl : List (Str × Addr)) (fp : List Addr), PG (X.blk s H scope (compEnvC scope cl C X.env) fp) tg (TDG L ts g))
    (hi1 : ∀ (s : Shared) (H : Hp) (C : Addr) (cl : List (Str × Addr)) (fp : List Addr), PI (X.blk s H scope (compEnvC scope cl C X.env) fp) tg1 iter1 (TDI it1))
    (hg1 : ∀ (s : Shared) (H : Hp) (C : Addr) (cl : List (Str × Addr)) (fp : List Addr), PG (X.blk s H scope (compEnvC scope cl C X.env) fp) tg1 (TDG L ts1 g1))
    (he : ∀ (s : Shared) (H : Hp) (C : Addr) (cl : List (Str × Addr)) (fp : List Addr), PE (X.blk s H scope (compEnvC scope cl C X.env) fp) elt (TD e)) (hv : ∀ i ∈ vs1, i ∈ own.map (·.2) := by decide) (hts : ∀ i ∈ ts, i ∈ own.map (·.2) := by decide) (hts1 : ∀ i ∈ ts1, i ∈ vs1 := by decide)
    (hs : ∀ x, foldedSetIterable iter X.env x = pure x := by intro _; rfl) (hs1 : ∀ env x, foldedSetIterable iter1 env x = pure x := by intro _ _; rfl) :
    PE X (sc2 elt tg iter tg1 iter1 scope pos) (TX X.prog X.w (dxSc2 (own.map (·.2)) vs1 it g it1 g1 e)) := peI (pe_sc2 hc hN hi ok hv hg hi1 hg1 he hs hs1) (TX_sc2 hts hts1 hv)
def dfSortX (d : DX L) : DA L := fun δ w Q => d δ w fun acc δ' w' => acc.length < 64 ∧ ∀ ns, sortedS ns = true → ns.Perm acc → Q (ns.map .str) δ' w'
theorem pf_sortX {ex : Expr} {d : DX L} (hc : X.calm = true) (hg : Gl X "sorted") (hm : X.mg "sorted" = none) (he : PE X ex (TX X.prog X.w d)) (hv : bootBuiltins "sorted" = some (.builtin "sorted") := by decide +kernel) (hs : starEach [ex] X.env = (false, eval ex X.env) :: starEach [] X.env := by rfl) :
    PE X (.Call (.Name "sorted" p) [ex] [] pos) (TF (dfSortX d)) := by
  refine peI (pe_callB (cr_sortedX hc) hg hm hv (pa_cons he pa_nil hs) (by decide) (by decide) hs (by rfl)) fun σ H Q ⟨Φ, δ, w, R, A, hd, q⟩ => ⟨Φ, δ, w, _, A, hd, fun acc δ1 w1 a H1 ⟨h64, hq⟩ A1 n1 h0 e1 s1 => ⟨a, acc, rfl, e1, h64, fun ns p hs' hp np => ?_⟩⟩
  have A1' := A1.drop
  obtain ⟨z1, z2, z3, z4, z5, z6⟩ := fresh_at (vs := ns.map V.str) (xs := ns.map D.str) A1' s1 RepL.strs np
  exact q _ _ _ _ _ _ (hq ns hs' hp) z1 z2 z3 z4 z5 z6
end
end Dl
set_option maxRecDepth 100000
set_option maxHeartbeats 1000000
namespace Dl
open PySem PySem.Spec PyProof.Rows L2 HT
section
variable {prog : Program} {w : World} {A : Around} {E : Value → Shared → Prop} {s : Shared}
theorem back_adjust (n : Nat) : Builtin.Slice.sliceAdjust none none (-1) (n : Int) = ((n : Int) - 1, -1) := by
  unfold Builtin.Slice.sliceAdjust
  simp
theorem back_places (n : Nat) : Builtin.Slice.slicePlaces ((n : Int) - 1) (-1) (-1) = n := by
  unfold Builtin.Slice.slicePlaces
  rw [if_neg (by decide)]
  by_cases h : n = 0
  · subst h; rfl
  · rw [if_pos (by omega)]
    have : ((n : Int) - 1 - -1 - 1) / - -1 = (n : Int) - 1 := by
      rw [show (- -1 : Int) = 1 by decide, Int.ediv_one]
      omega
    rw [this]
    omega
theorem back_applied {sl : Addr} {vs : Value} {n : Nat} {Q : Int × Int × Nat → Shared → Prop} (hs : s.heap.IsSliceOf sl .none .none vs) (ps : IsPart vs (some (-1))) (h : Q ((n : Int) - 1, -1, n) s) :
    wpAny (model prog w) A (Builtin.Slice.sliceApplied (.ref sl) (pure (n : Int))) Q E s := by
  obtain ⟨os, hos, hcs, hds⟩ := id hs
  unfold Builtin.Slice.sliceApplied Builtin.Slice.sliceFields
  refine wpAny_bind (wpAny_bind (wpAny_field hos hds (x := .none) rfl (wpAny_bind (wpAny_field hos hds (x := .none) rfl (wpAny_bind (wpAny_field hos hds (x := vs) rfl (wpAny_pure ?_)))))))
  refine wpAny_bind (slicePart_ ps ?_)
  show wpAny _ _ (if ((-1 : Int) == 0) = true then _ else _) _ _ s
  rw [if_neg (by decide)]
  refine wpAny_bind (slicePart_ .none (wpAny_bind (slicePart_ .none (wpAny_bind (wpAny_pure ?_)))))
  show wpAny _ _ (match Builtin.Slice.sliceAdjust none none (-1) (n : Int) with | (lo, hi) => pure (lo, (-1 : Int), Builtin.Slice.slicePlaces lo hi (-1))) _ _ s
  rw [back_adjust n]
  show wpAny _ _ (pure ((n : Int) - 1, (-1 : Int), Builtin.Slice.slicePlaces ((n : Int) - 1) (-1) (-1))) _ _ s
  rw [back_places]
  exact wpAny_pure h
theorem back_pick (xs : Array Value) : ((List.range xs.size).filterMap fun (k : Nat) => xs[((xs.size : Int) - 1 + (k : Int) * -1).toNat]?).toArray = xs.toList.reverse.toArray := by
  congr 1
  have e : ∀ k ∈ List.range xs.size, xs[((xs.size : Int) - 1 + (k : Int) * -1).toNat]? = some (xs.toList.reverse.getD k .none) := fun k hk => by
    have hk := List.mem_range.mp hk
    have e1 : ((xs.size : Int) - 1 + (k : Int) * -1).toNat = xs.size - 1 - k := by omega
    rw [e1, Array.getElem?_eq_getElem (by omega), List.getD_eq_getElem?_getD, List.getElem?_reverse (by simpa using hk), Array.length_toList, Array.getElem?_toList, Array.getElem?_eq_getElem (by omega)]
    rfl
  refine List.ext_getElem? fun j => ?_
  have : (List.range xs.size).filterMap (fun (k : Nat) => xs[((xs.size : Int) - 1 + (k : Int) * -1).toNat]?) = (List.range xs.size).map fun k => xs.toList.reverse.getD k .none := by
    have g : ∀ l : List Nat, (∀ k ∈ l, xs[((xs.size : Int) - 1 + (k : Int) * -1).toNat]? = some (xs.toList.reverse.getD k .none)) → l.filterMap (fun (k : Nat) => xs[((xs.size : Int) - 1 + (k : Int) * -1).toNat]?) = l.map fun k => xs.toList.reverse.getD k .none := fun l => by
      induction l with
      | nil => intro _; rfl
      | cons k l ih =>
        intro h
        rw [List.filterMap_cons, h k (List.mem_cons_self ..), List.map_cons, ih fun j hj => h j (List.mem_cons_of_mem _ hj)]
    exact g _ e
  rw [this, List.getElem?_map]
  by_cases h : j < xs.size
  · rw [List.getElem?_range h]
    have hl : j < xs.toList.reverse.length := by simpa using h
    rw [List.getElem?_eq_getElem hl]
    show some (xs.toList.reverse.getD j .none) = _
    rw [List.getD_eq_getElem?_getD, List.getElem?_eq_getElem hl]
    rfl
  · rw [List.getElem?_eq_none (by simpa using h), List.getElem?_eq_none (by simpa using h)]
    rfl
theorem getItem_back {t sl : Addr} {items : Array Value} {vs : Value} {Q : Value → Shared → Prop} (ht : IsTup s.heap t items) (hs : s.heap.IsSliceOf sl .none .none vs) (ps : IsPart vs (some (-1)))
    (h : Q (.ref s.heap.objs.size) { s with heap := s.heap.push { cls := .type "tuple", data := .seq items.toList.reverse.toArray } }) (hsz : items.size ≤ sizeLine) : wpAny (model prog w) A (getItem (.ref t) (.ref sl)) Q E s := by
  obtain ⟨os, hos, hcs, hds⟩ := id hs
  have hTs : s.TypeIs (.ref sl) "slice" := ⟨os, hos, hcs⟩
  unfold getItem
  try with_reducible refine wpAny_holding ?_
  first | refine wpAny_bind (wpAny_pure ?_) | skip
  refine wpAny_bind (wpAny_sequenceKey ht.typeIs (by decide) ?_)
  refine wpAny_bind (wpAny_callSpecial?_slot (name := Str.ofString "__getitem__") ht.typeIs PyProof.Rows.slot_tuple_getitem
    (wpAny_call_entry PyProof.Rows.slot_tuple_getitem ht.typeIs entry_tuple_getitem ?_ (args_tuple_getitem _ _)))
  show wpAny _ _ (Builtin.Tuple.tupleItemsOf (.ref t) >>= _) _ _ s
  refine wpAny_bind (tupleItemsOf_ ht ?_)
  refine wpAny_bind (wpAny_typeOf hTs ?_)
  rw [if_pos (by decide)]
  refine wpAny_bind (back_applied hs ps ?_)
  have hno : ¬ (((items.size : Int) - 1 == 0 && (-1 : Int) == 1 && items.size == items.size) = true) := by simp
  show wpAny _ _ (if ((items.size : Int) - 1 == 0 && (-1 : Int) == 1 && items.size == items.size) = true then _ else _) _ _ s
  rw [if_neg hno]
  show wpAny _ _ (Builtin.Tuple.tupleExact ((List.range items.size).filterMap fun (k : Nat) => items[((items.size : Int) - 1 + (k : Int) * -1).toNat]?).toArray >>= fun v => ret v) _ _ s
  rw [back_pick]
  unfold Builtin.Tuple.tupleExact
  refine wpAny_bind (wpAny_newObj_type (wpAny_pure ⟨_, rfl, wpAny_pure h⟩) (by show items.toList.reverse.toArray.size ≤ sizeLine; simpa using hsz))
end
def tRevT (K : PySem.W.Frag) (te : TE) : TE := fun σ H Q => te σ H fun x H1 => ∃ a xs, x = .ref a ∧ ((SqL K H1 a xs ∧ ∀ p, H1 p = none → Q (.ref p) (upd H1 p (.lst xs.reverse))) ∨ (SqT K H1 a xs ∧ ∀ p, H1 p = none → Q (.ref p) (upd H1 p (.tup xs.reverse))))
theorem pe_revT {X : Cx} {e : Expr} {te : TE} {k : Nat} {p1 p2 p3 pos : Pos} (he : PE X e te) : PE X (.Subscript e (.Slice none none (some (.UnaryOp .USub (.Constant (.int 1) k p1) p2)) p3) pos) (tRevT X.K te) := by
  refine ⟨fun pins s σ H Q I h => ?_⟩
  refine Subscript_ (thn (he.run pins s σ H _ I h) fun v s1 ⟨x, H1, I1, r1, q1⟩ => ?_)
  obtain ⟨a, xs, ex, q⟩ := q1
  subst ex
  cases r1
  have hst : PO X (some (.UnaryOp .USub (.Constant (.int 1) k p1) p2)) (tPart (tUn (rU fun i => .int (-i)) (tC (.int 1)))) := po_some (pe_un un_neg pe_int)
  refine wpAny_Slice (thn (po_none.run pins s1 σ H1 (fun o H2 => o = none ∧ H2 = H1) I1 ⟨rfl, rfl⟩) fun vl s2 ⟨l, H2, I2, pl, el, e2⟩ => ?_)
  subst el e2
  refine thn (po_none.run pins s2 σ H2 (fun o H3 => o = none ∧ H3 = H2) I2 ⟨rfl, rfl⟩) fun vu s3 ⟨u, H3, I3, pu, eu, e3⟩ => ?_
  subst eu e3
  refine thn (hst.run pins s3 σ H3 (fun o H4 => o = some (-1) ∧ H4 = H3) I3 ⟨1, rfl, -1, rfl, rfl, rfl⟩) fun vs s4 ⟨o, H4, I4, ps, eo, e4⟩ => ?_
  subst eo e4
  have I5 : Inv X pins σ H4 { s4 with heap := s4.heap.push { cls := .type "slice", data := .fields #[vl, vu, vs] } } := I4.kept (t' := s4.toks) fun b ob q => Heap.get?_push_of_some _ q
  show wpAny (model X.prog X.w) X.A (subscriptTail e (.Slice none none (some (.UnaryOp .USub (.Constant (.int 1) k p1) p2)) p3) (.ref a) (.ref s4.heap.objs.size)) (EP X pins σ Q) X.xe { s4 with heap := s4.heap.push { cls := .type "slice", data := .fields #[vl, vu, vs] } }
  rcases q with ⟨hx, q⟩ | ⟨hx, q⟩
  · obtain ⟨its, r, ht, hz⟩ := I5.list hx
    have hlen := r.length
    refine tail_any (ops := [.ref a, .ref s4.heap.objs.size]) ht.isList.typeIs (PySem.slot_list_getitem.lookup) ?_ (by with_unfolding_all rfl)
    refine wpAny_getItem_list_slice ht.isList (Heap.IsSliceOf.new _ vl vu vs) pl pu ps (by decide) ?_ (by rw [List.size_toArray]; omega)
    rw [PySem.W.krv_pick]
    exact ⟨.ref _, _, I5.laid (t' := s4.toks) (o := .lst xs.reverse) (fun b ob q => Heap.get?_push_of_some _ q) (Nat.le_refl _) ⟨by rw [List.length_reverse]; exact hz, _, 0, r.reverse, Heap.get?_push_size _ rfl⟩, rfl, q _ (I5.hok.fresh (Nat.le_refl _))⟩
  · obtain ⟨its, r, ht, hz⟩ := I5.tuple hx
    have hlen := r.length
    cases pl
    cases pu
    refine tail_any (ops := [.ref a, .ref s4.heap.objs.size]) ht.typeIs (PyProof.Rows.slot_tuple_getitem.lookup) ?_ (by with_unfolding_all rfl)
    refine getItem_back ht (Heap.IsSliceOf.new _ .none .none vs) ps ?_ (by rw [List.size_toArray]; omega)
    exact ⟨.ref _, _, I5.laid (t' := s4.toks) (o := .tup xs.reverse) (fun b ob q => Heap.get?_push_of_some _ q) (Nat.le_refl _) ⟨by rw [List.length_reverse]; exact hz, _, r.reverse, IsTup.new _ _⟩, rfl, q _ (I5.hok.fresh (Nat.le_refl _))⟩
end Dl
set_option maxRecDepth 100000
namespace Dl
open PySem PySem.Spec PyProof.Rows L2 Lk

variable {L : Wd}
section
variable {X : Cx} {a b e : Expr} {da db d : DE L} {pos : Pos} {k : Nat}
def deRevA (d : DE L) : DE L := fun δ w Q => d δ w fun x δ1 w1 => match x with
  | .lst l => Q (.lst l.reverse) δ1 w1
  | .tup l => Q (.tup l.reverse) δ1 w1
  | _ => False
theorem pd_revA {k : Nat} {p1 p2 p3 : Pos} (he : PE X e (TD d)) : PE X (.Subscript e (.Slice none none (some (.UnaryOp .USub (.Constant (.int 1) k p1) p2)) p3) pos) (TD (deRevA d)) := by
  refine peI (pe_revT he) fun σ H Q ⟨Φ, δ, w, R, A, hd, q⟩ => ⟨Φ, δ, w, _, A, hd, fun x δ1 w1 v H1 h1 A1 s1 r1 => ?_⟩
  split at h1
  · cases r1 with
    | lst e n r =>
      refine ⟨_, _, rfl, .inl ⟨SqL.of e, fun p np => ?_⟩⟩
      exact q _ _ _ _ _ h1 (A1.same (same_new np)) (s1.trans (Step.same (same_new np))) (.lst upd_same (A1.nS np) (r.rev.go (Step.same (same_new np))))
  · cases r1 with
    | tup e r =>
      refine ⟨_, _, rfl, .inr ⟨SqT.of e, fun p np => ?_⟩⟩
      exact q _ _ _ _ _ h1 (A1.same (same_new np)) (s1.trans (Step.same (same_new np))) (.tup upd_same (r.rev.go (Step.same (same_new np))))
  · exact h1.elim
/-! ### the operators, by one name each -/
theorem pd_add (ha : PE X a (TD da)) (hb : PE X b (TD db)) : PE X (.BinOp a .Add b pos) (TD (deOp dAdd da db)) := pd_op op_addD add_D ha hb
theorem pd_sub (ha : PE X a (TD da)) (hb : PE X b (TD db)) : PE X (.BinOp a .Sub b pos) (TD (deOp dSub da db)) := pd_op op_sub sub_D ha hb
theorem pd_mul (ha : PE X a (TD da)) (hb : PE X b (TD db)) : PE X (.BinOp a .Mult b pos) (TD (deOp dMul da db)) := pd_op op_mulD mul_D ha hb
theorem pd_mod (ha : PE X a (TD da)) (hb : PE X b (TD db)) : PE X (.BinOp a .Mod b pos) (TD (deOp dMod da db)) := pd_op op_mod mod_D ha hb
theorem pd_div (ha : PE X a (TD da)) (hb : PE X b (TD db)) : PE X (.BinOp a .FloorDiv b pos) (TD (deOp dDiv da db)) := pd_op op_fdivW div_D ha hb
theorem pd_pow (ha : PE X a (TD da)) (hb : PE X b (TD db)) : PE X (.BinOp a .Pow b pos) (TD (deOp dPow da db)) := pd_op op_pow pow_D ha hb
def dLt : DO := dCmpI (fun i j => decide (i < j)) fun i j => decide (cds i < cds j)
def dLe : DO := dCmpI (fun i j => decide (i ≤ j)) fun i j => !decide (cds j < cds i)
def dGt : DO := dCmpI (fun i j => decide (j < i)) fun i j => decide (cds j < cds i)
def dGe : DO := dCmpI (fun i j => decide (j ≤ i)) fun i j => !decide (cds i < cds j)
def rLtA : R2 := fun x y H Q => (∃ i j, x = .int i ∧ y = .int j ∧ Q (.bl (decide (i < j))) H) ∨ (∃ i j, x = .str i ∧ y = .str j ∧ Q (.bl (decide (cds i < cds j))) H)
def rLeA : R2 := fun x y H Q => (∃ i j, x = .int i ∧ y = .int j ∧ Q (.bl (decide (i ≤ j))) H) ∨ (∃ i j, x = .str i ∧ y = .str j ∧ Q (.bl (!decide (cds j < cds i))) H)
def rGtA : R2 := fun x y H Q => (∃ i j, x = .int i ∧ y = .int j ∧ Q (.bl (decide (j < i))) H) ∨ (∃ i j, x = .str i ∧ y = .str j ∧ Q (.bl (decide (cds j < cds i))) H)
def rGeA : R2 := fun x y H Q => (∃ i j, x = .int i ∧ y = .int j ∧ Q (.bl (decide (j ≤ i))) H) ∨ (∃ i j, x = .str i ∧ y = .str j ∧ Q (.bl (!decide (cds i < cds j))) H)
theorem op_ltA : OpR X (compareOp .Lt) rLtA := OpR.or op_lt op_lt_str
theorem op_leA : OpR X (compareOp .LtE) rLeA := OpR.or op_le op_le_str
theorem op_gtA : OpR X (compareOp .Gt) rGtA := OpR.or op_gt op_gt_str
theorem op_geA : OpR X (compareOp .GtE) rGeA := OpR.or op_ge op_ge_str
theorem lt_D : OpD rLtA dLt := cmpI_D _ _
theorem le_D : OpD rLeA dLe := cmpI_D _ _
theorem gt_D : OpD rGtA dGt := cmpI_D _ _
theorem ge_D : OpD rGeA dGe := cmpI_D _ _
theorem pd_lt (ha : PE X a (TD da)) (hb : PE X b (TD db)) : PE X (.Compare a [.Lt] [b] pos) (TD (deOp dLt da db)) := pd_cmp op_ltA lt_D ha hb (nomark _)
theorem pd_le (ha : PE X a (TD da)) (hb : PE X b (TD db)) : PE X (.Compare a [.LtE] [b] pos) (TD (deOp dLe da db)) := pd_cmp op_leA le_D ha hb (nomark _)
theorem pd_gt (ha : PE X a (TD da)) (hb : PE X b (TD db)) : PE X (.Compare a [.Gt] [b] pos) (TD (deOp dGt da db)) := pd_cmp op_gtA gt_D ha hb (nomark _)
theorem pd_ge (ha : PE X a (TD da)) (hb : PE X b (TD db)) : PE X (.Compare a [.GtE] [b] pos) (TD (deOp dGe da db)) := pd_cmp op_geA ge_D ha hb (nomark _)
theorem pd_eq (hr : Room k X.A) (ha : PE X a (TD da)) (hb : PE X b (TD db)) : PE X (.Compare a [.Eq] [b] pos) (TD (deOp dEq da db)) := pd_cmp (op_eqD hr.units) eq_D ha hb (nomark _)
theorem pd_ne (hr : Room k X.A) (ha : PE X a (TD da)) (hb : PE X b (TD db)) : PE X (.Compare a [.NotEq] [b] pos) (TD (deOp dNe da db)) := pd_cmp (op_neD hr.units) ne_D ha hb (nomark _)
theorem pd_in (hr : Room k X.A) (ha : PE X a (TD da)) (hb : PE X b (TD db)) (hm : behindInMarks .In b = false := by rfl) : PE X (.Compare a [.In] [b] pos) (TD (deOp (dIn false) da db)) := pd_cmp (op_inA (by have := hr.un; omega)) (in_D false) ha hb hm
theorem pd_nin (hr : Room k X.A) (ha : PE X a (TD da)) (hb : PE X b (TD db)) (hm : behindInMarks .NotIn b = false := by rfl) : PE X (.Compare a [.NotIn] [b] pos) (TD (deOp (dIn true) da db)) := pd_cmp (op_notInA (by have := hr.un; omega)) (in_D true) ha hb hm
theorem pdt_lt (ha : PE X a (TD da)) (hb : PE X b (TD db)) : PT X (.Compare a [.Lt] [b] pos) (TDT (dtOf (deOp dLt da db))) := pdt_cmp op_ltA lt_D ha hb (nomark _)
theorem pdt_le (ha : PE X a (TD da)) (hb : PE X b (TD db)) : PT X (.Compare a [.LtE] [b] pos) (TDT (dtOf (deOp dLe da db))) := pdt_cmp op_leA le_D ha hb (nomark _)
theorem pdt_gt (ha : PE X a (TD da)) (hb : PE X b (TD db)) : PT X (.Compare a [.Gt] [b] pos) (TDT (dtOf (deOp dGt da db))) := pdt_cmp op_gtA gt_D ha hb (nomark _)
theorem pdt_ge (ha : PE X a (TD da)) (hb : PE X b (TD db)) : PT X (.Compare a [.GtE] [b] pos) (TDT (dtOf (deOp dGe da db))) := pdt_cmp op_geA ge_D ha hb (nomark _)
theorem pdt_eq (hr : Room k X.A) (ha : PE X a (TD da)) (hb : PE X b (TD db)) : PT X (.Compare a [.Eq] [b] pos) (TDT (dtOf (deOp dEq da db))) := pdt_cmp (op_eqD hr.units) eq_D ha hb (nomark _)
theorem pdt_ne (hr : Room k X.A) (ha : PE X a (TD da)) (hb : PE X b (TD db)) : PT X (.Compare a [.NotEq] [b] pos) (TDT (dtOf (deOp dNe da db))) := pdt_cmp (op_neD hr.units) ne_D ha hb (nomark _)
theorem pdt_in (hr : Room k X.A) (ha : PE X a (TD da)) (hb : PE X b (TD db)) (hm : behindInMarks .In b = false := by rfl) : PT X (.Compare a [.In] [b] pos) (TDT (dtOf (deOp (dIn false) da db))) := pdt_cmp (op_inA (by have := hr.un; omega)) (in_D false) ha hb hm
theorem pdt_nin (hr : Room k X.A) (ha : PE X a (TD da)) (hb : PE X b (TD db)) (hm : behindInMarks .NotIn b = false := by rfl) : PT X (.Compare a [.NotIn] [b] pos) (TDT (dtOf (deOp (dIn true) da db))) := pdt_cmp (op_notInA (by have := hr.un; omega)) (in_D true) ha hb hm
theorem pd_ixA (ha : PE X a (TD da)) (hb : PE X b (TD db)) (hs : PlainIx b) : PE X (.Subscript a b pos) (TD (deOp dIx da db)) := pd_ix ix_seq ix_D ha hb hs
/-! ### a list that is held alone, read in passing -/
def D.scal : D → Bool
  | .non => true
  | .bl _ => true
  | .int _ => true
  | .str _ => true
  | _ => false
theorem Rep.scal {S S' : Addr → Prop} {H : Hp} {v : V} {d : D} (r : Rep S H v d) (h : d.scal = true) : Rep S' H v d := by
  cases r with
  | non => exact .non
  | bl b => exact .bl b
  | int i => exact .int i
  | str z => exact .str z
  | _ => cases h
def deOpO (f : DO) (i : Nat) (b : DE L) : DE L := fun δ w Q => (∃ l, δ[i]? = some (.own (.lst l))) ∧ b δ w fun y δ' w' => ∃ l, δ'[i]? = some (.own (.lst l)) ∧ f (.lst l) y fun z => z.scal = true ∧ Q z δ' w'
theorem TD_opO {r : R2} {f : DO} {i : Nat} (h : OpD r f) : ∀ σ H Q, TD (deOpO f i db) σ H Q → tOp r (tVar i) (TD db) σ H Q := fun σ H Q ⟨Φ, δ, w, R, A, ⟨⟨l0, e0⟩, hd⟩, q⟩ => by
  obtain ⟨a, ea, ⟨us0, eu0, _⟩, _⟩ := A.own i _ e0
  refine ⟨_, ea, Φ, δ, w, _, A, hd, fun y δ1 w1 v H1 ⟨l, e1, hf⟩ A1 s1 r1 => ?_⟩
  obtain ⟨a1, ea1, ⟨us, eu, ru⟩, _⟩ := A1.own i _ e1
  rw [ea] at ea1
  cases ea1
  have none : ∀ b : Addr, (fun _ => False : Addr → Prop) b → Sof Φ δ1 σ w1 b := fun b h => h.elim
  refine h (fun _ => False) H1 (.lst l) y (.ref a) v _ _ (fun b h => h.elim) (.lst eu (fun h => h) (ru.go (sub_step none H1))) (r1.go (sub_step none H1)) hf fun z v' H' ⟨hs, hz⟩ sm rz => ?_
  exact q _ _ _ _ _ hz (A1.same sm) (s1.trans (Step.same sm)) (rz.scal hs)
theorem pd_neO {i : Nat} (hr : Room k X.A) (ha : PE X a (tVar i)) (hb : PE X b (TD db)) : PE X (.Compare a [.NotEq] [b] pos) (TD (deOpO dNe i db)) := peI (pe_cmpR (op_neD hr.units) ha hb (nomark _)) (TD_opO ne_D)
theorem pd_eqO {i : Nat} (hr : Room k X.A) (ha : PE X a (tVar i)) (hb : PE X b (TD db)) : PE X (.Compare a [.Eq] [b] pos) (TD (deOpO dEq i db)) := peI (pe_cmpR (op_eqD hr.units) ha hb (nomark _)) (TD_opO eq_D)
theorem pdt_neO {i : Nat} (hr : Room k X.A) (ha : PE X a (tVar i)) (hb : PE X b (TD db)) : PT X (.Compare a [.NotEq] [b] pos) (TDT (dtOf (deOpO dNe i db))) := ptI (pt_cmpR (op_neD hr.units) ha hb (nomark _)) (TD_test (TD_opO ne_D))
theorem pdt_eqO {i : Nat} (hr : Room k X.A) (ha : PE X a (tVar i)) (hb : PE X b (TD db)) : PT X (.Compare a [.Eq] [b] pos) (TDT (dtOf (deOpO dEq i db))) := ptI (pt_cmpR (op_eqD hr.units) ha hb (nomark _)) (TD_test (TD_opO eq_D))
def deLenO (i : Nat) : DE L := fun δ w Q => ∃ l, δ[i]? = some (.own (.lst l)) ∧ Q (.int l.length) δ w
theorem pd_lenO {i : Nat} {p : Pos} (hg : Gl X "len") (hm : X.mg "len" = none) (ha : PE X a (tVar i)) (he : starEach [a] X.env = (false, eval a X.env) :: starEach [] X.env := by rfl) : PE X (.Call (.Name "len" p) [a] [] pos) (TD (deLenO (L := L) i)) := by
  refine peI (pe_callB call_len_seq hg hm PySem.boot_len (pa_cons ha pa_nil he) (by decide) (by decide) he (by rfl)) fun σ H Q ⟨Φ, δ, w, R, A, ⟨l, e0, hq⟩, q⟩ => ?_
  obtain ⟨a, ea, ⟨us, eu, ru⟩, _⟩ := A.own i _ e0
  have hz : us.length = l.length := ru.length
  refine ⟨_, ea, ?_⟩
  rw [← hz] at hq
  exact ⟨_, us, rfl, .inl (SqL.of eu), q _ _ _ _ _ hq A (Step.refl _ _) (.int _)⟩
end
/-! ### a def whose code object's address is known -/
structure FunC (K : PySem.W.Frag) (x : Str) (st : Stmt) (f c : Addr) (fd : FuncData) : Prop where
  ex : ∃ (oc : Value) (od : Option Addr) (kV doc pm : Value) (an : Option Addr) (ct : Value) (osl : Array (Option Value)),
    fd = PySem.W.fnOf x x (defArgs st) (defBody st) (defScope st) .none kV doc pm an (.ref c) ct ∧ K.lookup f = some ⟨oc, od, .func fd, osl⟩ ∧ PySem.W.codeIn K (.ref c) x = true
  kp : PySem.W.keepIn K (.ref f) = true
theorem FunC.func {K : PySem.W.Frag} {x : Str} {st : Stmt} {f c : Addr} {fd : FuncData} (F : FunC K x st f c fd) : Fun K x x st f fd := by
  obtain ⟨oc, od, kV, doc, pm, an, ct, osl, h⟩ := F.ex
  exact ⟨⟨oc, od, kV, doc, pm, an, .ref c, ct, osl, h⟩, F.kp⟩
section
variable {P : Program} {W : World} {K : PySem.W.Frag} {mg : Str → Option Value} {base : Heap}
theorem fnDC {x : Str} {st : Stmt} {f c : Addr} {fd : FuncData} {N ps : List Str} {k : Nat} {b : DS L} (F : FunC K x st f c fd) (S : FnScope N ps (defScope st))
    (hbody : ∀ (A : Around) (outer : List Env) (s : Shared) (H : Hp) (E : XK), Room k (A.deeper (envOfC x (defScope st) s.heap.objs.size f (.ref c))) → (A.deeper (envOfC x (defScope st) s.heap.objs.size f (.ref c))).guards = some [] → PSs (cxOf CX0 P W K mg base N x (defScope st) f (.ref c) A outer s H E).nox (defBody st) (TDS b)) :
    FnG P W K mg base (k + 1) f fd ps (spD L (dfOf ps.length N.length b)) := by
  obtain ⟨oc, od, kV, doc, pm, an, ct, osl, rfl, lk, hcd⟩ := F.ex
  refine ⟨fun vs H Q E h => ?_, fun A outer s H args us vs Q E hr hgu e0 hb r h => ?_⟩
  · obtain ⟨F, ds, w, R, r, _, _, ⟨hl, _⟩, _⟩ := h
    rw [r.length, hl]
  · obtain ⟨FF, ds, w, R, rr, h1, hF, ⟨hl, hbd⟩, q⟩ := h
    have A0 := start_at (N := N) rr h1 hF
    rw [hl] at A0
    have hlv : vs.length = ps.length := by rw [rr.length, hl]
    have KX : K.In s.heap := e0.mod.kin.keeps fun b o e => (e0.bs b o e).1
    refine codeAny_call_function hr.depth (KX _ _ lk) rfl S.co S.gen rfl (PySem.W.codeRec_of KX hcd) (hb _ _ _ _ ?_)
    refine wpAny_newFunctionEnv_cells S.kind (fun y hy => (S.par y.1 (List.of_mem_zip hy).1).imp id fun q => ⟨q, PySem.W.cellsFrom_some _ _ _ (.inl q)⟩) fun env he s1 x => ?_
    subst he
    refine ⟨(e0.mod.nolimit.keeps fun b o e => (e0.bs b o e).1).keeps x.toInCall.keep, codeAny_func ?_⟩
    have ht := hbody A outer s H E (hr.deeper _) hgu
    refine wpAny_mono (ht.nox.run [] s1 (start N vs) H { nx := fun _ H' => Q .non H', rt := Q } (inv_start S hr.hd e0 hlv r x) ⟨⟨FF, w, H⟩, _, w, _, A0, hbd, fun δ' w' σ' H' hq A' _ => ?_, fun _ _ _ _ z => z.elim, fun _ _ _ _ z => z.elim, fun x w' v H' hq fin => ?_⟩) (fun fl s' hs => ?_) fun e s' hs => hs
    · exact q _ _ _ _ hq A'.rep A'.go .non
    · exact q _ _ _ _ hq fin.rep fin.go fin.val
    · cases fl with
      | ret u =>
        obtain ⟨v, σ', H', J, rv, q⟩ := hs
        exact ⟨v, H', J.os, J.bare, J.base, J.hok, rv, q⟩
      | next =>
        obtain ⟨σ', H', J, q⟩ := hs
        exact ⟨V.non, H', J.os, J.bare, J.base, J.hok, (rfl : RelV V.non Value.none), q⟩
      | brk => exact hs.elim fun _ z => z.elim fun _ z => z.2.elim
      | cont => exact hs.elim fun _ z => z.elim fun _ z => z.2.elim
/-- the names' facts -/
def DefAt (K : PySem.W.Frag) (mg : Str → Option Value) (x : Str) (st : Stmt) : Prop := ∃ f fd, Fun K x x st f fd ∧ mg x = some (.ref f)
def TabAt (K : PySem.W.Frag) (mg : Str → Option Value) (base : Heap) (x : Str) (st : Stmt) (c T : Addr) : Prop := ∃ f fd, FunC K x st f c fd ∧ mg x = some (.ref f) ∧ GxR.TabB base mg c T
theorem gd_mk {x : Str} {st : Stmt} {N ps : List Str} {k : Nat} {b : DS L} (D : DefAt K mg x st) (S : FnScope N ps (defScope st))
    (bd : ∀ {f fd}, Fun K x x st f fd → Binds K fd ps [])
    (hbody : ∀ (f : Addr) (cdv : Value) (A : Around) (outer : List Env) (s : Shared) (H : Hp) (E : XK), Room k (A.deeper (envOfC x (defScope st) s.heap.objs.size f cdv)) → (A.deeper (envOfC x (defScope st) s.heap.objs.size f cdv)).guards = some [] → PSs (cxOf CX0 P W K mg base N x (defScope st) f cdv A outer s H E).nox (defBody st) (TDS b)) :
    Gd P W K mg base L (k + 1) x ps (dfOf ps.length N.length b) := by
  obtain ⟨f, fd, F, m⟩ := D
  exact ⟨f, fd, fnD F S fun cdv A outer s H E hr hgu => hbody f cdv A outer s H E hr hgu, m, F.kp, bd F⟩
theorem gd_mkC {x : Str} {st : Stmt} {N ps : List Str} {k : Nat} {b : DS L} {c T : Addr} (D : TabAt K mg base x st c T) (S : FnScope N ps (defScope st))
    (bd : ∀ {f fd}, Fun K x x st f fd → Binds K fd ps [])
    (hbody : ∀ (f : Addr) (A : Around) (outer : List Env) (s : Shared) (H : Hp) (E : XK), GxR.TabB base mg c T → Room k (A.deeper (envOfC x (defScope st) s.heap.objs.size f (.ref c))) → (A.deeper (envOfC x (defScope st) s.heap.objs.size f (.ref c))).guards = some [] → PSs (cxOf CX0 P W K mg base N x (defScope st) f (.ref c) A outer s H E).nox (defBody st) (TDS b)) :
    Gd P W K mg base L (k + 1) x ps (dfOf ps.length N.length b) := by
  obtain ⟨f, fd, F, m, TB⟩ := D
  exact ⟨f, fd, fnDC F S fun A outer s H E hr hgu => hbody f A outer s H E TB hr hgu, m, F.kp, bd F.func⟩
end
end Dl
set_option maxRecDepth 100000
namespace Dl
open PySem PySem.Spec PyProof.Rows L2 Lk

variable {L : Wd}
section
theorem pt_of_w {X : Cx} {e : Expr} {t : TT} (h : PW X e t) : PT X e t := h.pt
theorem pd_one {X : Cx} {op : BoolOp} {a : Expr} {pos : Pos} {t : TE} (h : PE X a t) : PE X (.BoolOp op [a] pos) t := pe_one h
end
section
variable {X : Cx} {e : Expr} {es : List Expr} {da : DA L} {p pos : Pos} {k : Nat}
theorem pd_len (hm : X.mg "len" = none) (ha : PA X (e :: es) (TDA da)) (hg : Gl X "len" := by rfl) (he : starEach (e :: es) X.env = (false, eval e X.env) :: starEach es X.env := by rfl) (hpl : (backTo pos (starEach es X.env)).any (·.1) = false := by rfl) : PE X (.Call (.Name "len" p) (e :: es) [] pos) (TD (deCB dLen da)) :=
  pd_B call_len len_D hg hm PySem.boot_len ha (by decide) (by decide) he hpl
theorem boot_B : bootBuiltins "sorted" = some (.builtin "sorted") ∧ bootBuiltins "sum" = some (.builtin "sum") ∧ bootBuiltins "repr" = some (.builtin "repr") ∧ bootBuiltins "min" = some (.builtin "min") ∧ bootBuiltins "isinstance" = some (.builtin "isinstance") := by decide +kernel
theorem boot_T : bootBuiltins "int" = some (.type "int") ∧ bootBuiltins "list" = some (.type "list") ∧ bootBuiltins "tuple" = some (.type "tuple") ∧ bootBuiltins "dict" = some (.type "dict") := by decide +kernel
theorem pd_int' (hm : X.mg "int" = none) (ha : PA X (e :: es) (TDA da)) (hg : Gl X "int" := by rfl) (he : starEach (e :: es) X.env = (false, eval e X.env) :: starEach es X.env := by rfl) (hpl : (backTo pos (starEach es X.env)).any (·.1) = false := by rfl) : PE X (.Call (.Name "int" p) (e :: es) [] pos) (TD (deCB dInt da)) :=
  pd_Ty call_int1 int_D hg hm boot_T.1 ha (by decide) (by decide) he hpl
theorem pd_tuple (hm : X.mg "tuple" = none) (ha : PA X (e :: es) (TDA da)) (hg : Gl X "tuple" := by rfl) (he : starEach (e :: es) X.env = (false, eval e X.env) :: starEach es X.env := by rfl) (hpl : (backTo pos (starEach es X.env)).any (·.1) = false := by rfl) : PE X (.Call (.Name "tuple" p) (e :: es) [] pos) (TD (deCB dTuple da)) :=
  pd_Ty call_tuple_of tuple_D hg hm boot_T.2.2.1 ha (by decide) (by decide) he hpl
theorem pf_list (hc : X.calm = true) (hm : X.mg "list" = none) (ha : PA X (e :: es) (TDA da)) (hg : Gl X "list" := by rfl) (he : starEach (e :: es) X.env = (false, eval e X.env) :: starEach es X.env := by rfl) (hpl : (backTo pos (starEach es X.env)).any (·.1) = false := by rfl) : PE X (.Call (.Name "list" p) (e :: es) [] pos) (TF (dfCB dfListA da)) :=
  pf_Ty (cr_listA hc) listA_F hg hm boot_T.2.1 ha (by decide) (by decide) he hpl
theorem pf_sorted (hc : X.calm = true) (hr : Room k X.A) (hm : X.mg "sorted" = none) (ha : PA X (e :: es) (TDA da)) (hg : Gl X "sorted" := by rfl) (he : starEach (e :: es) X.env = (false, eval e X.env) :: starEach es X.env := by rfl) (hpl : (backTo pos (starEach es X.env)).any (·.1) = false := by rfl) : PE X (.Call (.Name "sorted" p) (e :: es) [] pos) (TF (dfCB dfSorted da)) :=
  pf_B (cr_sortG hc hr.units) sorted_F hg hm boot_B.1 ha (by decide) (by decide) he hpl
theorem pd_dict (hc : X.calm = true) (hr : Room k X.A) (hm : X.mg "dict" = none) (ha : PA X (e :: es) (TDA da)) (hg : Gl X "dict" := by rfl) (he : starEach (e :: es) X.env = (false, eval e X.env) :: starEach es X.env := by rfl) (hpl : (backTo pos (starEach es X.env)).any (·.1) = false := by rfl) : PE X (.Call (.Name "dict" p) (e :: es) [] pos) (TD (deCB dDictT da)) :=
  pd_Ty (cr_dictA hc hr.units) dict_D hg hm boot_T.2.2.2 ha (by decide) (by decide) he hpl
theorem pd_sum (hc : X.calm = true) (hm : X.mg "sum" = none) (ha : PA X (e :: es) (TDA da)) (hg : Gl X "sum" := by rfl) (he : starEach (e :: es) X.env = (false, eval e X.env) :: starEach es X.env := by rfl) (hpl : (backTo pos (starEach es X.env)).any (·.1) = false := by rfl) : PE X (.Call (.Name "sum" p) (e :: es) [] pos) (TD (deCB dSum da)) :=
  pd_B (cr_sumA hc) sum_D hg hm boot_B.2.1 ha (by decide) (by decide) he hpl
theorem pd_repr (hr : Room k X.A) (hgu : X.A.guards = some []) (hm : X.mg "repr" = none) (ha : PA X (e :: es) (TDA da)) (hg : Gl X "repr" := by rfl) (he : starEach (e :: es) X.env = (false, eval e X.env) :: starEach es X.env := by rfl) (hpl : (backTo pos (starEach es X.env)).any (·.1) = false := by rfl) : PE X (.Call (.Name "repr" p) (e :: es) [] pos) (TD (deCB dRepr da)) :=
  pd_B (cr_reprA hr hgu) repr_D hg hm boot_B.2.2.1 ha (by decide) (by decide) he hpl
/-- a text constant is a text -/
theorem str_txt {z : Str} : ∀ (δ : DEnv) (w : L.W) (Q : D → DEnv → L.W → Prop), deC (L := L) (.str z) δ w Q → deC (L := L) (.str z) δ w fun x δ' w' => (∃ z, x = .str z) ∧ Q x δ' w' := fun δ w Q h => ⟨⟨z, rfl⟩, h⟩
end
end Dl
set_option maxRecDepth 100000
namespace Dl
open PySem PySem.Spec PyProof.Rows L2 Lk

/-! ### the world of a law that draws -/
/-- the script (written in the text, or given); then the deck -/
inductive DW where
  | lit (a : Addr) | scr (a : Addr) | run (p c : Addr) (n : Nat)
/-- a deck at p, its cells at c, at most n draws so far -/
structure Deck where
  Src : Hp → Addr → Addr → Nat → Prop
  atP : ∀ {H p c n}, Src H p c n → ∃ o, H p = some o ∧ (∀ vs, o ≠ .tup vs) ∧ ∀ q, o ≠ .tbl q
  atC : ∀ {H p c n}, Src H p c n → ∃ o, H c = some o ∧ (∀ vs, o ≠ .tup vs) ∧ ∀ q, o ≠ .tbl q
  stay : ∀ {H H' p c n}, Src H p c n → H' p = H p → H' c = H c → Src H' p c n
def DW.mu : DW → Addr → Prop
  | .lit _, _ => False
  | .scr a, b => b = a
  | .run p c _, b => b = p ∨ b = c
def DW.rep (KF : PySem.W.Frag) (K : Deck) : DW → Hp → Prop
  | .lit a, _ => ∃ ns : List Int, ns.length ≤ 63 ∧ ∀ H', SqL KF H' a (ns.map V.int)
  | .scr a, H => ∃ ns : List Int, ns.length ≤ 63 ∧ Rd H a (.lst (ns.map V.int))
  | .run p c n, H => K.Src H p c n
theorem DW.not {KF : PySem.W.Frag} {K : Deck} {w : DW} {H : Hp} {b : Addr} (r : w.rep KF K H) (m : w.mu b) : ∃ o, H b = some o ∧ (∀ vs, o ≠ .tup vs) ∧ ∀ q, o ≠ .tbl q := by
  cases w with
  | lit a => exact m.elim
  | scr a =>
    obtain ⟨ns, _, h⟩ := r
    rw [show b = a from m]
    rcases h with h | ⟨o, h⟩
    · exact ⟨_, h, (fun vs z => by cases z), fun q z => by cases z⟩
    · exact ⟨_, h, (fun vs z => by cases z), fun q z => by cases z⟩
  | run p c n =>
    rcases (show b = p ∨ b = c from m) with e | e
    · rw [e]; exact K.atP r
    · rw [e]; exact K.atC r
theorem DW.stay {KF : PySem.W.Frag} {K : Deck} {w : DW} {H H' : Hp} (r : w.rep KF K H) (h : ∀ b, w.mu b → H' b = H b) : w.rep KF K H' := by
  cases w with
  | lit a => exact r
  | scr a =>
    obtain ⟨ns, hl, q⟩ := r
    refine ⟨ns, hl, ?_⟩
    have e := h a rfl
    rcases q with q | ⟨o, q⟩
    · exact .inl (by rw [e]; exact q)
    · exact .inr ⟨o, by rw [e]; exact q⟩
  | run p c n => exact K.stay r (h p (.inl rfl)) (h c (.inr rfl))
def wd (KF : PySem.W.Frag) (K : Deck) (Ts : List Addr) : Wd where
  W := DW
  mu := fun w b => b ∈ Ts ∨ w.mu b
  rep := fun w H => (∀ T ∈ Ts, GxR.TabG H T) ∧ w.rep KF K H
  trk := fun {w H b} r m => by
    rcases m with m | m
    · obtain ⟨ps, e, _⟩ := r.1 b m
      rw [e]; exact fun z => nomatch z
    · obtain ⟨o, e, _⟩ := DW.not r.2 m
      rw [e]; exact fun z => nomatch z
  stay := fun {w H H'} r h => by
    refine ⟨fun T hT => ?_, DW.stay r.2 fun b m => ?_⟩
    · obtain ⟨ps, e, t⟩ := r.1 T hT
      exact ⟨ps, h T _ (.inl hT) e, t⟩
    · obtain ⟨o, e, _⟩ := DW.not r.2 m
      rw [h b o (.inr m) e, e]
theorem tabs_wd {KF : PySem.W.Frag} {K : Deck} {Ts : List Addr} {T : Addr} (h : T ∈ Ts) : Tabs (wd KF K Ts) T where
  mu := fun w => .inl h
  tab := fun w H r => r.1 T h
  put := fun w H H' r t => by
    refine ⟨fun T' hT' => ?_, DW.stay r.2 fun b m => ?_⟩
    · by_cases e : T' = T
      · rw [e]; exact t.1
      · obtain ⟨ps, q, z⟩ := r.1 T' hT'
        exact ⟨ps, by rw [t.2 T' e]; exact q, z⟩
    · refine t.2 b fun e => ?_
      obtain ⟨o, q, _, z⟩ := DW.not r.2 m
      obtain ⟨ps, q2, _⟩ := r.1 T h
      rw [e, q2] at q
      exact z ps (Option.some.inj q).symm
/-- all but the deck stands -/
def Kp (p c : Addr) (H H' : Hp) : Prop := ∀ b o, b ≠ p → b ≠ c → H b = some o → H' b = some o
theorem Kp.refl {p c : Addr} {H : Hp} : Kp p c H H := fun _ _ _ _ e => e
theorem Kp.trans {p c : Addr} {H H1 H2 : Hp} (a : Kp p c H H1) (b : Kp p c H1 H2) : Kp p c H H2 := fun x o h1 h2 e => b x o h1 h2 (a x o h1 h2 e)
theorem Kp.new {p c q : Addr} {H : Hp} {o : HO} (h : H q = none) : Kp p c H (upd H q o) := fun b u _ _ e => by
  rw [upd_ne (ne_of_none e h)]
  exact e
theorem Kp.of {p c : Addr} {H H' : Hp} (h : Same H H') : Kp p c H H' := fun b o _ _ e => h b o e
def spDrawK (K : Deck) : Sp := fun vs H Q _ => ∃ (p c : Addr) (n : Nat) (lim : Int), vs = [.ref p, .int lim] ∧ K.Src H p c n ∧ n ≤ 1000000 ∧ 0 < lim ∧ lim.natAbs < 2 ^ 200 ∧
  ∀ H' r, 0 ≤ r → r < lim → K.Src H' p c (n + 1) → Kp p c H H' → Q (.int r) H'
def spDeckK (KF : PySem.W.Frag) (K : Deck) : Sp := fun vs H Q _ => ∃ (a : Addr) (ns : List Int), vs = [.ref a] ∧ SqL KF H a (ns.map V.int) ∧ ns.length ≤ 63 ∧
  ∀ H' p c, H p = none → H c = none → K.Src H' p c 0 → Same H H' → Q (.ref p) H'
section
variable {KF : PySem.W.Frag} {K : Deck} {Ts : List Addr}
/-- one draw: any number below the limit -/
def fDraw : DF (wd KF K Ts) := fun ds w R => ∃ (p c : Addr) (n : Nat) (lim : Int), ds = [.ref p, .int lim] ∧ w = DW.run p c n ∧ n ≤ 1000000 ∧ 0 < lim ∧ Sm lim ∧ ∀ r, 0 ≤ r → r < lim → R (.int r) (DW.run p c (n + 1))
def fDeck : DF (wd KF K Ts) := fun ds w R => ∃ a : Addr, ds = [.ref a] ∧ (w = DW.lit a ∨ w = DW.scr a) ∧ ∀ p c, R (.ref p) (DW.run p c 0)
theorem draw_sp : ∀ vs H Q E, spD (wd KF K Ts) fDraw vs H Q E → spDrawK K vs H Q E := by
  rintro vs H Q E ⟨F, ds, w, R, r, rep, hF, ⟨p, c, n, lim, rfl, rfl, hn, h0, hs, hR⟩, q⟩
  cases r with
  | cons r1 r2 =>
    cases r2 with
    | cons r2 r3 =>
      cases r3
      cases r1
      cases r2
      refine ⟨p, c, n, lim, rfl, rep.2, hn, h0, hs, fun H' r hr0 hr1 hS hK => ?_⟩
      obtain ⟨op, ep, np, tp⟩ := K.atP rep.2
      obtain ⟨oc, ec, nc, tc⟩ := K.atC rep.2
      have neP : ∀ b o, H b = some o → (∀ q, op ≠ q → True) → True := fun _ _ _ _ => trivial
      refine q _ (DW.run p c (n + 1)) (.int r) H' (hR r hr0 hr1) ⟨fun T hT => ?_, hS⟩ ⟨fun b o nm e => ?_, fun b h => .inl h, fun b h => ?_, fun b us e => ?_⟩ (.int r)
      · obtain ⟨ps, e, t⟩ := rep.1 T hT
        refine ⟨ps, hK T _ (fun z => ?_) (fun z => ?_) e, t⟩
        · rw [z, ep] at e; exact tp ps (Option.some.inj e)
        · rw [z, ec] at e; exact tc ps (Option.some.inj e)
      · exact hK b o (fun z => nm (.inr (.inl z))) (fun z => nm (.inr (.inr z))) e
      · obtain ⟨op', ep', _⟩ := K.atP hS
        obtain ⟨oc', ec', _⟩ := K.atC hS
        by_cases z1 : b = p
        · rw [z1, ep']; exact fun z => nomatch z
        · by_cases z2 : b = c
          · rw [z2, ec']; exact fun z => nomatch z
          · cases e : H b with
            | none => exact absurd e h
            | some o => rw [hK b o z1 z2 e]; exact fun z => nomatch z
      · refine hK b _ (fun z => ?_) (fun z => ?_) e
        · rw [z, ep] at e; exact np us (Option.some.inj e)
        · rw [z, ec] at e; exact nc us (Option.some.inj e)
theorem deck_sp : ∀ vs H Q E, spD (wd KF K Ts) fDeck vs H Q E → spDeckK KF K vs H Q E := by
  rintro vs H Q E ⟨F, ds, w, R, r, rep, hF, ⟨a, rfl, hw, hR⟩, q⟩
  cases r with
  | cons r1 r2 =>
    cases r2
    cases r1
    obtain ⟨ns, hl, hs⟩ : ∃ ns : List Int, ns.length ≤ 63 ∧ SqL KF H a (ns.map V.int) := by
      rcases hw with rfl | rfl
      · obtain ⟨ns, hl, h⟩ := rep.2
        exact ⟨ns, hl, h H⟩
      · obtain ⟨ns, hl, h⟩ := rep.2
        exact ⟨ns, hl, .inl h⟩
    refine ⟨a, ns, rfl, hs, hl, fun H' p c np nc hS sm => ?_⟩
    refine q _ (DW.run p c 0) (.ref p) H' (hR p c) ⟨fun T hT => ?_, hS⟩ ⟨fun b o nm e => sm b o e, fun b h => ?_, (Step.same (S := fun _ => False) sm).trk, fun b vs e => sm b _ e⟩ (.ref p)
    · obtain ⟨ps, e, t⟩ := rep.1 T hT
      exact ⟨ps, sm T _ e, t⟩
    · rcases h with h | h | h
      · exact .inl (.inl h)
      · exact .inr (by rw [h]; exact np)
      · exact .inr (by rw [h]; exact nc)
end
theorem FnG.of {P : Program} {w : World} {K : PySem.W.Frag} {mg : Str → Option Value} {base : Heap} {k : Nat} {f : Addr} {fd : FuncData} {ps : List Str} {sp : Sp} (F : FnOk P w K mg base CX0 k f fd ps sp) : FnG P w K mg base k f fd ps sp :=
  ⟨F.len, fun A outer s H args us vs Q E hr _ e0 hb r h => F.run A outer s H args us vs Q E hr e0 hb r h⟩
end Dl
set_option maxRecDepth 100000
set_option maxHeartbeats 2000000
namespace Dl
open PySem PySem.Spec PyProof.Rows L2 LamX Lk
/-- what stands tracked ahead of the law: the script (unless K holds it) and the defs' empty tables -/
structure Track (K : PySem.W.Frag) (h : Heap) (H : Hp) (cs : List (Addr × Addr)) (a : Addr) (ns : List Int) : Prop where
  tab : ∀ p ∈ cs, H p.2 = some (.tbl #[])
  seq : SqL K H a (ns.map V.int)
  cls : ∀ b u, H b = some u → (b ∈ cs.map (·.2) ∧ u = .tbl #[]) ∨ (∃ o xs, u = .frz o (.lst xs)) ∧ b = a ∧ K.lookup a = none
theorem track_of {K : PySem.W.Frag} {h : Heap} {cs : List (Addr × Addr)} {a : Addr} {vs : List Value} {ns : List Int} (KX : K.In h) (ha : h.get? a = some { cls := .type "list", data := .seq vs.toArray }) (hi : IntsAre vs ns) (hl : ns.length ≤ sizeLine)
    (hT : ∀ p ∈ cs, h.get? p.2 = some { cls := .none, data := .fields #[] }) {P : Program} {w : World} : ∃ H : Hp, Track K h H cs a ns ∧ HOk P w H h := by
  have rv := vals_ints hi
  have aT : a ∉ cs.map (·.2) := fun z => by
    obtain ⟨p, hp, e⟩ := List.mem_map.mp z
    have q := hT p hp
    rw [e, ha] at q
    cases congrArg Obj.data (Option.some.inj q)
  have hTb : ∀ b, b ∈ cs.map (·.2) → h.get? b = some { cls := .none, data := .fields #[] } := fun b hb => by
    obtain ⟨p, hp, e⟩ := List.mem_map.mp hb
    rw [← e]
    exact hT p hp
  have tT : ∀ p ∈ cs, p.2 ∈ cs.map (·.2) := fun p hp => List.mem_map.mpr ⟨p, hp, rfl⟩
  cases hk : K.lookup a with
  | some o =>
    have e := KX a o hk
    rw [ha] at e
    cases e
    refine ⟨fun b => if b ∈ cs.map (·.2) then some (.tbl #[]) else none, ⟨fun p hp => if_pos (tT p hp), .inr ⟨_, vs.toArray, _, hk, rfl, rfl, rfl, by rw [List.size_toArray, hi.length]; exact hl, by simpa using rv⟩, fun b u z => ?_⟩, fun b u z => ?_⟩
    · by_cases hb : b ∈ cs.map (·.2)
      · exact .inl ⟨hb, (Option.some.inj ((if_pos hb).symm.trans z)).symm⟩
      · cases (if_neg hb).symm.trans z
    · by_cases hb : b ∈ cs.map (·.2)
      · cases (if_pos hb).symm.trans z
        exact hTb b hb
      · cases (if_neg hb).symm.trans z
  | none =>
    refine ⟨fun b => if b ∈ cs.map (·.2) then some (.tbl #[]) else if b = a then some (.frz { cls := .type "list", data := .seq vs.toArray } (.lst (ns.map V.int))) else none, ⟨fun p hp => if_pos (tT p hp), .inl (.inr ⟨{ cls := .type "list", data := .seq vs.toArray }, (if_neg aT).trans (if_pos rfl)⟩), fun b u z => ?_⟩, fun b u z => ?_⟩
    · by_cases hb : b ∈ cs.map (·.2)
      · exact .inl ⟨hb, (Option.some.inj ((if_pos hb).symm.trans z)).symm⟩
      · by_cases hb2 : b = a
        · cases ((if_neg hb).trans (if_pos hb2)).symm.trans z
          exact .inr ⟨⟨_, _, rfl⟩, hb2, hk⟩
        · cases ((if_neg hb).trans (if_neg hb2)).symm.trans z
    · by_cases hb : b ∈ cs.map (·.2)
      · cases (if_pos hb).symm.trans z
        exact hTb b hb
      · by_cases hb2 : b = a
        · cases ((if_neg hb).trans (if_pos hb2)).symm.trans z
          rw [hb2]
          exact ⟨ha, by rw [List.length_map]; exact hl, vs, _, rv, ha⟩
        · cases ((if_neg hb).trans (if_neg hb2)).symm.trans z
theorem law_G {P : Program} {w : World} {K : PySem.W.Frag} {mg mb : Str → Option Value} {k : Nat} {fa a : Addr} {cs : List (Addr × Addr)} {fd : FuncData} {x : Str} {sp : Sp} {s₁ : Shared} {vs : List Value} {ns : List Int}
    (KX : K.In s₁.heap) (hns : s₁.heap.Ns mainGlobals mg) (hb : s₁.heap.Ns builtinsNs mb) (hbb : ∀ x : Str, x ≠ "__name__" → mb x = bootBuiltins x) (hlim : s₁.heap.NoLimit) (hg : s₁.gens = #[])
    (hT : ∀ p ∈ cs, s₁.heap.get? p.2 = some { cls := .none, data := .fields #[] }) (nT : ∀ p ∈ cs, K.lookup p.2 = none) (C : ∀ p ∈ cs, PySem.W.CodeHd s₁.heap p.1 p.2)
    (hbm : ∃ (bm : Addr) (ob : Obj), mg "__builtins__" = some (.ref bm) ∧ bm ≠ builtinsNs ∧ s₁.heap.get? bm = some ob ∧ ob.cls = .type "module" ∧ ob.dict = some builtinsNs ∧ ob.data = .plain)
    (ha : s₁.heap.get? a = some { cls := .type "list", data := .seq vs.toArray }) (hi : IntsAre vs ns) (hl : ns.length ≤ sizeLine) (hr : Room k callerA)
    (F : ∀ base : Heap, K.In base → base.Ns mainGlobals mg → (∀ p ∈ cs, TabB base mg p.1 p.2) → FnG P w K mg base k fa fd [x] sp) (hbind : ∀ (s : Shared) (u : Value), BindsTo s fd ⟨[u], []⟩ [(x, u)])
    (hsp : ∀ H : Hp, (∀ p ∈ cs, H p.2 = some (.tbl #[])) → SqL K H a (ns.map V.int) → sp [.ref a] H (fun v _ => v = .bl true) fun _ _ _ => False) :
    codeAny (model P w) callerA (.call (.ref fa) ⟨[.ref a], []⟩) (fun r s' => r = .ok (.ret (.bool true)) ∧ OldK s₁.heap s'.heap ∧ s'.os = s₁.os ∧ AllBare s'.gens) s₁ := by
  obtain ⟨H, T, hok⟩ := track_of (cs := cs) KX ha hi hl hT (P := P) (w := w)
  -- a thing whose data is neither a row nor empty is not tracked
  have fr : ∀ {b : Addr} {o : Obj}, s₁.heap.get? b = some o → (∀ vs n, o.data ≠ .seq vs n) → o.data ≠ .fields #[] → H b = none := fun {b o} e h1 h2 => by
    cases q : H b with
    | none => rfl
    | some u =>
      rcases T.cls b u q with ⟨hm, _⟩ | ⟨_, rfl, _⟩
      · obtain ⟨p, hp, ep⟩ := List.mem_map.mp hm
        have z := hT p hp
        rw [ep, e] at z
        exact (h2 (congrArg Obj.data (Option.some.inj z))).elim
      · rw [e] at ha
        exact (h1 _ _ (congrArg Obj.data (Option.some.inj ha))).elim
  have up : ∀ {b : Addr} {o : Obj}, s₁.heap.get? b = some o → (∀ vs n, o.data ≠ .seq vs n) → o.data ≠ .fields #[] → (hidT s₁.heap H).get? b = some o := fun e h1 h2 => hidT_get e (fr e h1 h2)
  have upN : ∀ {b : Addr} {m : Str → Option Value}, s₁.heap.Ns b m → (hidT s₁.heap H).Ns b m := fun {b m} ⟨o, es, ep, e, d, r⟩ =>
    ⟨o, es, ep, up e (fun vs n z => by rw [d] at z; cases z) (fun z => by rw [d] at z; cases z), d, r⟩
  have upK : K.In (hidT s₁.heap H) := fun b o e => hidT_get (KX b o e) (by
    cases q : H b with
    | none => rfl
    | some u =>
      rcases T.cls b u q with ⟨hm, _⟩ | ⟨_, rfl, z⟩
      · obtain ⟨p, hp, ep⟩ := List.mem_map.mp hm
        rw [← ep, nT p hp] at e
        cases e
      · rw [z] at e
        cases e)
  have TB : ∀ p ∈ cs, TabB (hidT s₁.heap H) mg p.1 p.2 := fun p hp => by
    have hTp := hT p hp
    obtain ⟨og, esg, epg, eg, dg, _⟩ := id hns
    refine ⟨?_, ?_, fun z => ?_⟩
    · obtain ⟨o, us, file, tf, flags, tg, inF, text, tt, e1, r1, r2, r3, rest⟩ := C p hp
      exact ⟨o, us, file, tf, flags, tg, inF, text, tt, up e1 (fun vs n z => by rw [r2] at z; cases z) (fun z => by rw [r2] at z; cases z; simp at r3), r1, r2, r3, rest⟩
    · obtain ⟨bm, ob, b1, b2, b3, b4, b5, b6⟩ := hbm
      refine ⟨bm, ob, b1, b2, fun q => ?_, fun q => ?_, up b3 (fun vs n z => by rw [b6] at z; cases z) (fun z => by rw [b6] at z; cases z), b4, b5, b6⟩
      · rw [q, eg] at b3
        cases b3
        rw [dg] at b6
        cases b6
      · rw [q, hTp] at b3
        cases b3
        cases b6
    · rw [z, hTp] at eg
      cases eg
      cases dg
  have e0 : Env0 P w K mg (hidT s₁.heap H) callerA [] s₁ H := ⟨rfl, ⟨upK, upN hns, ⟨mb, upN hb, hbb⟩, let ⟨mc, h1, h2⟩ := hlim; ⟨mc, upN h1, h2⟩⟩, fun b o e => of_hidT e, Nat.le_of_eq (hidT_size _ _), trivial, fun b hb => absurd (show b ∈ ([] : List Addr) from hb) (by simp), hok, .of_eq hg⟩
  refine codeAny_mono ((F _ upK (upN hns) TB).run callerA [] s₁ H ⟨[.ref a], []⟩ [.ref a] [.ref a] _ _ hr rfl e0 (hbind s₁ (.ref a)) (.cons rfl .nil) (hsp H T.tab T.seq)) fun r s' h => ?_
  cases r with
  | error e => exact (show False from h).elim
  | ok fl =>
    obtain ⟨u, rfl⟩ : ∃ u, fl = .ret u := by
      cases fl with
      | ret u => exact ⟨u, rfl⟩
      | next => exact False.elim h
      | brk => exact False.elim h
      | cont => exact False.elim h
    obtain ⟨v, H', os, bare, un, hok', r', q⟩ := h
    obtain rfl : v = .bl true := q
    obtain rfl : u = Value.bool true := r'
    have same : ∀ b o, b ∉ cs.map (·.2) → s₁.heap.get? b = some o → s'.heap.get? b = some o := fun b o nb e => by
      cases q : H b with
      | none => exact un.keep b o e q (by intro z; exact absurd (show b ∈ ([] : List Addr) from z) (by simp)) (by simp)
      | some u =>
        rcases T.cls b u q with ⟨z, _⟩ | ⟨⟨ob, xs, rfl⟩, _⟩
        · exact absurd z nb
        · obtain ⟨e1, _⟩ := hok b _ q
          obtain ⟨e2, _⟩ := hok' b _ (un.frzs b ob _ q)
          rw [e] at e1
          cases e1
          exact e2
    have more : ∀ b, b ∈ cs.map (·.2) → ∃ p ∈ cs, p.2 = b ∧ ∃ ps : Array Value, s'.heap.get? b = some { cls := .none, data := .fields ps } := fun b hb => by
      obtain ⟨p, hp, ep⟩ := List.mem_map.mp hb
      obtain ⟨ps, z⟩ := un.tbls p.2 #[] (T.tab p hp)
      exact ⟨p, hp, ep, _, by rw [← ep]; exact hok' p.2 _ z⟩
    refine ⟨rfl, ⟨fun b o e => ?_, fun b o e => ?_⟩, os, bare⟩
    · by_cases hb : b ∈ cs.map (·.2)
      · obtain ⟨p, hp, ep, ps, hm⟩ := more b hb
        have e' := hT p hp
        rw [ep, e] at e'
        cases e'
        exact .inr (.inl ⟨by rw [← ep]; exact ((C p hp).tab (hT p hp)).isCodeTable, rfl, #[], ps, rfl, by rw [Array.empty_append]; exact hm⟩)
      · exact .inl (same b o hb e)
    · by_cases hb : b ∈ cs.map (·.2)
      · obtain ⟨_, _, _, ps, hm⟩ := more b hb
        exact ⟨_, hm⟩
      · exact ⟨o, same b o hb e⟩
/-- what is known of the law's promise at the head's heap -/
def LawAtG (l : PySem.W.OpenLaw) (w : World) (K : PySem.W.Frag) (k n : Nat) (x : Str) (mg : Str → Option Value) (fa : Addr) (h : Heap) : Prop :=
  ∃ (fd : FuncData) (cs : List (Addr × Addr)) (sp : Sp), (∀ p ∈ cs, h.get? p.2 = some { cls := .none, data := .fields #[] }) ∧ (∀ p ∈ cs, K.lookup p.2 = none) ∧ (∀ p ∈ cs, PySem.W.CodeHd h p.1 p.2) ∧ (∀ (s : Shared) (u : Value), BindsTo s fd ⟨[u], []⟩ [(x, u)]) ∧
    (∀ (H : Hp) (a : Addr) (ns : List Int), ns.length ≤ n → (∀ z ∈ ns, Builtin.Int.intBits z ≤ 1048576) → (∀ p ∈ cs, H p.2 = some (.tbl #[])) → SqL K H a (ns.map V.int) → sp [.ref a] H (fun v _ => v = .bl true) fun _ _ _ => False) ∧
    ∀ base : Heap, K.In base → base.Ns mainGlobals mg → (∀ p ∈ cs, TabB base mg p.1 p.2) → FnG l.prog w K mg base k fa fd [x] sp
theorem walk_G {l : PySem.W.OpenLaw} {n k : Nat} {q : Program} {loose : List Str} {XP : (Str → Option Value) → Heap → Prop} {YP : World → Heap → Prop} {d : DefRec} {K : Params → PySem.W.Frag} {x : Str}
    (hn : l.most = some n) (hn2 : n ≤ sizeLine) (hdf : d.params.defaults = []) (hr : Room k callerA) (hY : ∀ (w : World) (h : Heap), YP w h → (K w.params).In h)
    (F : ∀ (w : World) (mg : Str → Option Value) (fa : Addr) (h : Heap), YP w h → (K w.params).In h → h.Ns mainGlobals mg → mg d.name = some (.ref fa) →
      (∀ (y : Str) (f : Addr), ((recsOf q).any fun e => e.name == y) = true → mg y = some (.ref f) → OwnTab (K w.params) f h) → LawAtG l w (K w.params) k n x mg fa h) :
    PySem.W.WalkO q loose XP YP l.row.toRowW d [] (fun f vs => PySem.call f vs) := by
  refine Att.attach_callB hn hdf fun w s₀ s₁ mg mb fa o pm cd doc a vs ns G Y ho hd hcd hmg hobj hints hlen hbits hg => ?_
  have KX := hY w _ Y
  have tabs : ∀ (y : Str) (f : Addr), ((recsOf q).any fun e => e.name == y) = true → mg y = some (.ref f) → OwnTab (K w.params) f s₁.heap := by
    intro y f hy hf c P o1 fd1 e dd vs1 sl k1 k2 k3 k4 k5
    obtain ⟨dL, hm, hn1⟩ := List.any_eq_true.mp hy
    obtain ⟨a', o', fd', c', P', h1, h2, h3, h4, h5, h6⟩ := G.T.tab dL hm
    rw [beq_iff_eq.mp hn1, hf] at h1
    cases h1
    have g1 := KX _ _ k1
    rw [g1] at h2
    cases h2
    rw [k2] at h3
    cases h3
    rw [k3] at h4
    cases h4
    obtain ⟨⟨oc, vc, e1, _, e3, e4⟩, hP⟩ := h6
    have g2 := KX _ _ k4
    rw [g2] at e1
    cases e1
    cases e3
    rw [k5] at e4
    cases e4
    exact hP
  obtain ⟨fd, cs, sp, hT, nT, C, hb, hsp, hF⟩ := F w mg fa _ Y KX G.T.g hmg tabs
  exact law_G KX G.T.g G.T.b G.T.builtins G.T.nolimit hg hT nT C G.T.bmain hobj hints (Nat.le_trans hlen hn2) hr hF hb fun H hH hS => hsp H a ns hlen hbits hH hS
theorem FunC.mk' {K : PySem.W.Frag} {x : Str} {st : Stmt} {f c : Addr} {oc : Value} {od an : Option Addr} {osl : Array (Option Value)} {kV doc pm ct : Value} (l : K.lookup f = some ⟨oc, od, .func (PySem.W.fnOf x x (defArgs st) (defBody st) (defScope st) .none kV doc pm an (.ref c) ct), osl⟩)
    (c' : PySem.W.codeIn K (.ref c) x = true) (k : PySem.W.keepIn K (.ref f) = true) : FunC K x st f c (PySem.W.fnOf x x (defArgs st) (defBody st) (defScope st) .none kV doc pm an (.ref c) ct) := ⟨⟨oc, od, kV, doc, pm, an, ct, osl, rfl, l, c'⟩, k⟩
/-- a def of the module, behind the top -/
def HasDef (K : PySem.W.Frag) (mg : Str → Option Value) (x : Str) (st : Stmt) : Prop := ∃ f fd, Fun K x x st f fd ∧ mg x = some (.ref f)
theorem hasDef_mk {K : PySem.W.Frag} {h : Heap} {mg : Str → Option Value} {x : Str} {st : Stmt} {f : Addr} (X : K.In h) (G : h.Ns mainGlobals mg) {od an : Option Addr} {sl : Array (Option Value)} {oc kV dc pm cd ct : Value}
    (a : PySem.W.nsIn K mainGlobals x = some (some (.ref f))) (l : K.lookup f = some ⟨oc, od, .func (PySem.W.fnOf x x (defArgs st) (defBody st) (defScope st) .none kV dc pm an cd ct), sl⟩) (c : PySem.W.codeIn K cd x = true) (k : PySem.W.keepIn K (.ref f) = true) : HasDef K mg x st :=
  ⟨f, _, fun_mk l c k, PySem.W.mg_of X G a⟩
/-- one whose own table of code objects is empty as yet -/
def HasTab (K : PySem.W.Frag) (mg : Str → Option Value) (h : Heap) (x : Str) (st : Stmt) : Prop :=
  ∃ f fd c T, FunC K x st f c fd ∧ mg x = some (.ref f) ∧ PySem.W.CodeHd h c T ∧ K.lookup T = none ∧ h.get? T = some { cls := .none, data := .fields #[] }
theorem hasTab_mk {K : PySem.W.Frag} {h : Heap} {mg : Str → Option Value} {x : Str} {st : Stmt} {f c T : Addr} (X : K.In h) (G : h.Ns mainGlobals mg) (O : ∀ f, mg x = some (.ref f) → OwnTab K f h) {od an od2 : Option Addr} {sl sl2 : Array (Option Value)} {oc kV dc pm ct e2 : Value} {vs : Array Value}
    (a : PySem.W.nsIn K mainGlobals x = some (some (.ref f))) (l : K.lookup f = some ⟨oc, od, .func (PySem.W.fnOf x x (defArgs st) (defBody st) (defScope st) .none kV dc pm an (.ref c) ct), sl⟩) (c' : PySem.W.codeIn K (.ref c) x = true) (k : PySem.W.keepIn K (.ref f) = true)
    (l2 : K.lookup c = some ⟨e2, od2, .fields vs, sl2⟩) (v : vs[11]? = some (.ref T)) (hh : PySem.W.codeHdIn K c T = true) (n : (K.lookup T).isNone = true) : HasTab K mg h x st := by
  have m := PySem.W.mg_of X G a
  exact ⟨f, _, c, T, FunC.mk' l c' k, m, PySem.W.codeHd_of_K X hh, Option.isNone_iff_eq_none.mp n, O f m c T _ _ _ _ _ _ l rfl rfl l2 v⟩
/-- a law in the data layer -/
theorem lawAt_mk {l : PySem.W.OpenLaw} {w : World} {K : PySem.W.Frag} {k : Nat} {mg : Str → Option Value} {fa : Addr} {h : Heap} {fd : FuncData} (cs : List (Addr × Addr)) (deck : Deck) {f : DF (wd K deck (cs.map (·.2)))}
    (hT : ∀ p ∈ cs, h.get? p.2 = some { cls := .none, data := .fields #[] }) (nT : ∀ p ∈ cs, K.lookup p.2 = none) (C : ∀ p ∈ cs, PySem.W.CodeHd h p.1 p.2) (bL : ∀ (s : Shared) (u : Value), BindsTo s fd ⟨[u], []⟩ [("_law_script", u)])
    (hf : ∀ (a : Addr) (w0 : DW) (R : D → DW → Prop), (w0 = .lit a ∨ w0 = .scr a) → (∀ w', R (.bl true) w') → f [.ref a] w0 R)
    (F : ∀ base : Heap, K.In base → base.Ns mainGlobals mg → (∀ p ∈ cs, TabB base mg p.1 p.2) → FnG l.prog w K mg base k fa fd ["_law_script"] (spD (wd K deck (cs.map (·.2))) f)) : LawAtG l w K k 63 "_law_script" mg fa h := by
  refine ⟨fd, cs, _, hT, nT, C, bL, fun H a ns hlen _ hH hS => ?_, F⟩
  have tabs : ∀ T ∈ cs.map (·.2), GxR.TabG H T := fun T hT' => by
    obtain ⟨p, hp, rfl⟩ := List.mem_map.mp hT'
    exact ⟨#[], hH p hp, trivial⟩
  have key : ∀ w0 : DW, (w0 = .lit a ∨ w0 = .scr a) → w0.rep K deck H → spD (wd K deck (cs.map (·.2))) f [.ref a] H (fun v _ => v = .bl true) fun _ _ _ => False := fun w0 hw hr =>
    ⟨fun _ => False, [.ref a], w0, fun x _ => x = .bl true, .cons (.ref a) .nil, ⟨tabs, hr⟩, fun b z => z.elim, hf a w0 _ hw fun _ => rfl, fun x w' v H' e _ _ r => by
      subst e
      cases r
      rfl⟩
  rcases hS with hS | hS
  · exact key (.scr a) (.inr rfl) ⟨ns, hlen, hS⟩
  · exact key (.lit a) (.inl rfl) ⟨ns, hlen, fun H' => .inr hS⟩
section
variable {L : Wd} {P : Program} {W : World} {K : PySem.W.Frag} {mg : Str → Option Value} {base : Heap}
theorem gk_mk {x : Str} {st : Stmt} {N ps ks : List Str} {ix : List Nat} {k : Nat} {b : DS L} (D : DefAt K mg x st) (S : FnScope N ps (defScope st))
    (bd : ∀ {f fd}, Fun K x x st f fd → KBinds K fd ps ks (gK ix) (gK ix))
    (hbody : ∀ (f : Addr) (cdv : Value) (A : Around) (outer : List Env) (s : Shared) (H : Hp) (E : XK), Room k (A.deeper (envOfC x (defScope st) s.heap.objs.size f cdv)) → (A.deeper (envOfC x (defScope st) s.heap.objs.size f cdv)).guards = some [] → PSs (cxOf CX0 P W K mg base N x (defScope st) f cdv A outer s H E).nox (defBody st) (TDS b)) :
    GdK P W K mg base L (k + 1) x ps ks ix (dfOf ps.length N.length b) := by
  obtain ⟨f, fd, F, m⟩ := D
  exact ⟨f, fd, fnD F S fun cdv A outer s H E hr hgu => hbody f cdv A outer s H E hr hgu, m, F.kp, bd F⟩
theorem gk_mkC {x : Str} {st : Stmt} {N ps ks : List Str} {ix : List Nat} {k : Nat} {b : DS L} {c T : Addr} (D : TabAt K mg base x st c T) (S : FnScope N ps (defScope st))
    (bd : ∀ {f fd}, Fun K x x st f fd → KBinds K fd ps ks (gK ix) (gK ix))
    (hbody : ∀ (f : Addr) (A : Around) (outer : List Env) (s : Shared) (H : Hp) (E : XK), GxR.TabB base mg c T → Room k (A.deeper (envOfC x (defScope st) s.heap.objs.size f (.ref c))) → (A.deeper (envOfC x (defScope st) s.heap.objs.size f (.ref c))).guards = some [] → PSs (cxOf CX0 P W K mg base N x (defScope st) f (.ref c) A outer s H E).nox (defBody st) (TDS b)) :
    GdK P W K mg base L (k + 1) x ps ks ix (dfOf ps.length N.length b) := by
  obtain ⟨f, fd, F, m, TB⟩ := D
  exact ⟨f, fd, fnDC F S fun A outer s H E hr hgu => hbody f A outer s H E TB hr hgu, m, F.kp, bd F.func⟩
end
end Dl
set_option maxRecDepth 100000
namespace Dl
open PySem PySem.Spec PyProof.Rows L2 Lk

/-! ### data that == may be asked of -/
mutual
def D.fit : Nat → D → Bool
  | _, .non => true
  | _, .bl _ => true
  | _, .int _ => true
  | _, .str z => PyData.strOk z
  | n + 1, .tup l => fitL n l
  | n + 1, .lst l => fitL n l
  | _, _ => false
def fitL : Nat → List D → Bool
  | _, [] => true
  | n, d :: r => D.fit n d && fitL n r
end
mutual
theorem fit_plain : ∀ (n : Nat) (d : D), d.fit n = true → d.plain = true ∧ d.py.canLay0 = true ∧ d.py.depth ≤ n + 1
  | n, .non, _ => ⟨rfl, rfl, by simp [D.py, PyData.depth]⟩
  | n, .bl _, _ => ⟨rfl, rfl, by simp [D.py, PyData.depth]⟩
  | n, .int _, _ => ⟨rfl, rfl, by simp [D.py, PyData.depth]⟩
  | n, .str z, h => ⟨rfl, h, by simp [D.py, PyData.depth]⟩
  | n + 1, .tup l, h => by
    have ⟨h1, h2, h3⟩ := fitL_plain n l h
    exact ⟨h1, h2, by simp only [D.py, PyData.depth]; omega⟩
  | n + 1, .lst l, h => by
    have ⟨h1, h2, h3⟩ := fitL_plain n l h
    exact ⟨h1, h2, by simp only [D.py, PyData.depth]; omega⟩
  | 0, .tup l, h => by simp [D.fit] at h
  | 0, .lst l, h => by simp [D.fit] at h
  | n, .dct l, h => by cases n <;> simp [D.fit] at h
  | n, .ref a, h => by cases n <;> simp [D.fit] at h
theorem fitL_plain : ∀ (n : Nat) (l : List D), fitL n l = true → plainL l = true ∧ PyData.canLayAll0 (pyL l) = true ∧ PyData.depthAll (pyL l) ≤ n + 1
  | n, [], _ => ⟨rfl, rfl, by simp [pyL, PyData.depthAll]⟩
  | n, d :: r, h => by
    simp only [fitL, Bool.and_eq_true] at h
    have ⟨a1, a2, a3⟩ := fit_plain n d h.1
    have ⟨b1, b2, b3⟩ := fitL_plain n r h.2
    refine ⟨by simp [plainL, a1, b1], by simp [pyL, PyData.canLayAll0, a2, b2], ?_⟩
    simp only [pyL, PyData.depthAll]
    omega
end
theorem fit_eqOk {n : Nat} {d : D} (h : d.fit n = true) (hn : n ≤ 60 := by decide) : d.eqOk = true := by
  have ⟨h1, h2, h3⟩ := fit_plain n d h
  simp [D.eqOk, h1, SeqAt.shaped, h2]
  omega
mutual
/-- no bool in it (so == is =) -/
def D.nb : D → Bool
  | .non => true
  | .int _ => true
  | .str _ => true
  | .tup l => nbL l
  | .lst l => nbL l
  | _ => false
def nbL : List D → Bool
  | [] => true
  | d :: r => d.nb && nbL r
end
mutual
theorem eqv_iff : ∀ (x y : D), x.nb = true → y.nb = true → (PyData.eqv x.py y.py = true ↔ x = y)
  | .non, y, _, hy => by cases y <;> simp_all [D.py, D.nb, PyData.eqv]
  | .int i, y, _, hy => by cases y <;> simp_all [D.py, D.nb, PyData.eqv]
  | .str i, y, _, hy => by cases y <;> simp_all [D.py, D.nb, PyData.eqv]
  | .tup l, y, hx, hy => by
    cases y with
    | tup m =>
      have z := eqvL_iff l m hx hy
      simp [D.py, PyData.eqv, z]
    | _ => simp_all [D.py, D.nb, PyData.eqv]
  | .lst l, y, hx, hy => by
    cases y with
    | lst m =>
      have z := eqvL_iff l m hx hy
      simp [D.py, PyData.eqv, z]
    | _ => simp_all [D.py, D.nb, PyData.eqv]
  | .bl _, y, hx, _ => by simp [D.nb] at hx
  | .dct _, y, hx, _ => by simp [D.nb] at hx
  | .ref _, y, hx, _ => by simp [D.nb] at hx
theorem eqvL_iff : ∀ (x y : List D), nbL x = true → nbL y = true → (PyData.eqvAll (pyL x) (pyL y) = true ↔ x = y)
  | [], [], _, _ => by simp [pyL, PyData.eqvAll]
  | [], _ :: _, _, _ => by simp [pyL, PyData.eqvAll]
  | _ :: _, [], _, _ => by simp [pyL, PyData.eqvAll]
  | a :: x, b :: y, hx, hy => by
    simp only [nbL, Bool.and_eq_true] at hx hy
    have z1 := eqv_iff a b hx.1 hy.1
    have z2 := eqvL_iff x y hx.2 hy.2
    simp [pyL, PyData.eqvAll, z1, z2]
end
theorem fitL_iff {n : Nat} {l : List D} : fitL n l = true ↔ ∀ d ∈ l, d.fit n = true := by
  induction l with
  | nil => simp [fitL]
  | cons a r ih => simp [fitL, ih]
theorem nbL_iff {l : List D} : nbL l = true ↔ ∀ d ∈ l, d.nb = true := by
  induction l with
  | nil => simp [nbL]
  | cons a r ih => simp [nbL, ih]
theorem in_iff {l : List D} {x : D} (hl : nbL l = true) (hx : x.nb = true) : ((pyL l).any fun z => PyData.eqv z x.py) = true ↔ x ∈ l := by
  induction l with
  | nil => simp [pyL]
  | cons a r ih =>
    simp only [nbL, Bool.and_eq_true] at hl
    simp only [pyL, List.any_cons, Bool.or_eq_true, ih hl.2, eqv_iff a x hl.1 hx, List.mem_cons]
    exact or_congr_left eq_comm
theorem nb_strs (zs : List Str) : nbL (zs.map .str) = true := nbL_iff.mpr fun d h => by
  obtain ⟨z, _, rfl⟩ := List.mem_map.mp h
  rfl
theorem nb_dT (zs : List Str) : (dT zs).nb = true := nb_strs zs
theorem nb_tups (gs : List (List Str)) : nbL (gs.map dT) = true := nbL_iff.mpr fun d h => by
  obtain ⟨z, _, rfl⟩ := List.mem_map.mp h
  exact nb_dT z
def OkS (zs : List Str) : Prop := ∀ z ∈ zs, PyData.strOk z = true
theorem fit_strs {n : Nat} {zs : List Str} (h : OkS zs) : fitL n (zs.map .str) = true := fitL_iff.mpr fun d hd => by
  obtain ⟨z, hz, rfl⟩ := List.mem_map.mp hd
  cases n <;> exact h z hz
theorem fit_dT {n : Nat} {zs : List Str} (h : OkS zs) : (dT zs).fit (n + 1) = true := fit_strs h
theorem fit_tups {n : Nat} {gs : List (List Str)} (h : ∀ g ∈ gs, OkS g) : fitL (n + 1) (gs.map dT) = true := fitL_iff.mpr fun d hd => by
  obtain ⟨z, hz, rfl⟩ := List.mem_map.mp hd
  exact fit_dT (h z hz)
theorem dT_inj {x y : List Str} (h : dT x = dT y) : x = y := by
  unfold dT at h
  have e := D.tup.inj h
  have := congrArg strsOf e
  rw [strsOf_map, strsOf_map] at this
  exact Option.some.inj this
theorem mem_strs {z : Str} {zs : List Str} : D.str z ∈ zs.map D.str ↔ z ∈ zs := by
  rw [List.mem_map]
  exact ⟨fun ⟨y, hy, e⟩ => by cases e; exact hy, fun h => ⟨z, h, rfl⟩⟩
theorem mem_tups {z : List Str} {zs : List (List Str)} : dT z ∈ zs.map dT ↔ z ∈ zs := by
  rw [List.mem_map]
  exact ⟨fun ⟨y, hy, e⟩ => by rw [← dT_inj e]; exact hy, fun h => ⟨z, h, rfl⟩⟩

/-! ### one order only -/
theorem sorted_one {α : Type} {r : α → α → Prop} (anti : ∀ a b, r a b → r b a → a = b) : ∀ {l m : List α}, l.Perm m → l.Pairwise r → m.Pairwise r → l = m
  | [], m, p, _, _ => (List.Perm.nil_eq p)
  | a :: l, [], p, _, _ => by simpa using p.length_eq
  | a :: l, b :: m, p, h1, h2 => by
    have e : a = b := by
      by_cases q : a = b
      · exact q
      · have ha : a ∈ m := (List.mem_cons.mp (p.mem_iff.mp (List.mem_cons_self ..))).resolve_left q
        have hb : b ∈ l := (List.mem_cons.mp (p.mem_iff.mpr (List.mem_cons_self ..))).resolve_left (Ne.symm q)
        exact anti a b ((List.pairwise_cons.mp h1).1 b hb) ((List.pairwise_cons.mp h2).1 a ha)
    subst e
    rw [sorted_one anti (List.Perm.cons_inv p) (List.pairwise_cons.mp h1).2 (List.pairwise_cons.mp h2).2]
def leS (a b : Str) : Bool := !decide (cds b < cds a)
def leT (a b : List Str) : Bool := !lexS b a
def sortS (zs : List Str) : List Str := zs.mergeSort leS
def sortT (gs : List (List Str)) : List (List Str) := gs.mergeSort leT
theorem leS_anti (a b : Str) (h1 : ¬ cds b < cds a) (h2 : ¬ cds a < cds b) : a = b := ext_cds (List.le_antisymm (as := cds a) (bs := cds b) h1 h2)
theorem leT_anti (a b : List Str) (h1 : lexS b a = false) (h2 : lexS a b = false) : a = b := by
  have e1 : ¬ b.map cds < a.map cds := fun z => by rw [lexS_iff.mpr z] at h1; cases h1
  have e2 : ¬ a.map cds < b.map cds := fun z => by rw [lexS_iff.mpr z] at h2; cases h2
  have e := List.le_antisymm (as := a.map cds) (bs := b.map cds) e1 e2
  have inj : ∀ (x y : List Str), x.map cds = y.map cds → x = y := fun x => by
    induction x with
    | nil => intro y h; cases y <;> simp_all
    | cons z x ih =>
      intro y h
      cases y with
      | nil => simp at h
      | cons w y =>
        rw [List.map_cons, List.map_cons] at h
        obtain ⟨q1, q2⟩ := List.cons.inj h
        rw [ext_cds q1, ih y q2]
  exact inj a b e
theorem sortS_perm (zs : List Str) : (sortS zs).Perm zs := List.mergeSort_perm _ _
theorem sortT_perm (zs : List (List Str)) : (sortT zs).Perm zs := List.mergeSort_perm _ _
theorem sortS_le (zs : List Str) : (sortS zs).Pairwise fun a b => ¬ cds b < cds a := by
  have h := List.pairwise_mergeSort (le := leS) (fun a b c h1 h2 => ?_) (fun a b => ?_) zs
  · exact h.imp fun z => by simpa [leS] using z
  · simp only [leS, Bool.not_eq_true', decide_eq_false_iff_not] at h1 h2 ⊢
    exact List.le_trans (l₁ := cds a) (l₂ := cds b) (l₃ := cds c) h1 h2
  · simp only [leS, Bool.or_eq_true, Bool.not_eq_true', decide_eq_false_iff_not]
    by_cases z : cds b < cds a
    · exact .inr (List.lt_asymm z)
    · exact .inl z
theorem sortT_le (zs : List (List Str)) : (sortT zs).Pairwise fun a b => lexS b a = false := by
  have h := List.pairwise_mergeSort (le := leT) (fun a b c h1 h2 => ?_) (fun a b => ?_) zs
  · exact h.imp fun z => by simpa [leT] using z
  · simp only [leT, Bool.not_eq_true'] at h1 h2 ⊢
    exact lexS_swo.tr _ _ _ h1 h2
  · simp only [leT, Bool.or_eq_true, Bool.not_eq_true']
    cases z : lexS b a with
    | false => exact .inl rfl
    | true => exact .inr (lexS_swo.asym _ _ z)
theorem sortS_eq {ms zs : List Str} (p : ms.Perm zs) (h : ms.Pairwise fun a b => ¬ cds b < cds a) : ms = sortS zs := sorted_one leS_anti (p.trans (sortS_perm zs).symm) h (sortS_le zs)
theorem sortT_eq {ms zs : List (List Str)} (p : ms.Perm zs) (h : ms.Pairwise fun a b => lexS b a = false) : ms = sortT zs := sorted_one leT_anti (p.trans (sortT_perm zs).symm) h (sortT_le zs)
end Dl
set_option maxRecDepth 100000
namespace Dl
open PySem PySem.Spec PyProof.Rows L2 Lk

variable {L : Wd}
/-! ### what has one value, and changes nothing -/
abbrev Ev (e : DE L) (δ : DEnv) (w : L.W) (x : D) : Prop := ∀ Q : D → DEnv → L.W → Prop, Q x δ w → e δ w Q
abbrev EvT (e : DT L) (δ : DEnv) (w : L.W) (x : Bool) : Prop := ∀ Q : Bool → DEnv → L.W → Prop, Q x δ w → e δ w Q
abbrev EvA (e : DA L) (δ : DEnv) (w : L.W) (x : List D) : Prop := ∀ Q : List D → DEnv → L.W → Prop, Q x δ w → e δ w Q
abbrev EvO (e : DPt L) (δ : DEnv) (w : L.W) (x : Option Int) : Prop := ∀ Q : Option Int → DEnv → L.W → Prop, Q x δ w → e δ w Q
section
variable {δ : DEnv} {w : L.W} {x y z : D} {xs ys : List D} {a b d : DE L} {da db : DA L} {t u : DT L} {c c' : Bool} {i : Nat}
theorem Ev.var (h : δ[i]? = some (.val x)) : Ev (deVar (L := L) i) δ w x := fun Q q => by
  unfold deVar
  rw [h]
  exact q
theorem Ev.con : Ev (deC (L := L) x) δ w x := fun Q q => q
theorem EvA.nil : EvA (daNil (L := L)) δ w [] := fun Q q => q
theorem EvA.cons (h : Ev a δ w x) (h2 : EvA da δ w xs) : EvA (daCons a da) δ w (x :: xs) := fun Q q => h _ (h2 _ q)
theorem Ev.tup (h : EvA da δ w xs) (hl : xs.length ≤ sizeLine) : Ev (deTup da) δ w (.tup xs) := fun Q q => h _ ⟨hl, q⟩
theorem EvA.lst (h : EvA da δ w xs) (hl : xs.length ≤ sizeLine) : EvA (dfLst da) δ w xs := fun Q q => h _ ⟨hl, q⟩
theorem Ev.F (h : EvA da δ w xs) : Ev (deF da) δ w (.lst xs) := fun Q q => h _ q
theorem Ev.op {f : DO} (ha : Ev a δ w x) (hb : Ev b δ w y) (h : ∀ k : D → Prop, k z → f x y k) : Ev (deOp f a b) δ w z := fun Q q => ha _ (hb _ (h _ q))
theorem EvT.of (h : Ev d δ w (.bl c)) : EvT (dtOf d) δ w c := fun Q q => h _ q
theorem EvT.and (h : EvT t δ w c) (h2 : c = true → EvT u δ w c') : EvT (dtAnd t u) δ w (c && c') := fun Q q => h _ (by
  cases c with
  | true => exact h2 rfl _ q
  | false => exact q)
theorem EvT.or (h : EvT t δ w c) (h2 : c = false → EvT u δ w c') : EvT (dtOr t u) δ w (c || c') := fun Q q => h _ (by
  cases c with
  | true => exact q
  | false => exact h2 rfl _ q)
theorem EvT.not (h : EvT t δ w c) : EvT (dtNot t) δ w (!c) := fun Q q => h _ q
theorem Ev.and (h : Ev a δ w (.bl c)) (h2 : c = true → Ev b δ w (.bl c')) : Ev (deAnd a b) δ w (.bl (c && c')) := fun Q q => h _ (by
  show if c = true then _ else _
  cases c with
  | true => exact h2 rfl _ q
  | false => exact q)
theorem Ev.or (h : Ev a δ w (.bl c)) (h2 : c = false → Ev b δ w (.bl c')) : Ev (deOr a b) δ w (.bl (c || c')) := fun Q q => h _ (by
  show if c = true then _ else _
  cases c with
  | true => exact q
  | false => exact h2 rfl _ q)
theorem Ev.not (h : Ev a δ w (.bl c)) : Ev (deNot a) δ w (.bl (!c)) := fun Q q => h _ q
theorem Ev.ite (h : EvT t δ w c) (h1 : c = true → Ev a δ w x) (h2 : c = false → Ev b δ w x) : Ev (deIf t a b) δ w x := fun Q q => h _ (by
  cases c with
  | true => exact h1 rfl _ q
  | false => exact h2 rfl _ q)
theorem Ev.call {f : DF L} (h : EvA da δ w xs) (hf : ∀ R : D → L.W → Prop, R x w → f xs w R) : Ev (deCall f da) δ w x := fun Q q => h _ (hf _ q)
theorem Ev.callK {f : DF L} {ix : List Nat} (h : EvA da δ w xs) (hf : ∀ R : D → L.W → Prop, R x w → f (permL ix xs) w R) : Ev (deCallK f ix da) δ w x := fun Q q => h _ (hf _ q)
theorem Ev.cb {f : DC} (h : EvA da δ w xs) (hf : ∀ k : D → Prop, k x → f xs k) : Ev (deCB f da) δ w x := fun Q q => h _ (hf _ q)
theorem EvA.fcb {f : List D → (List D → Prop) → Prop} (h : EvA da δ w xs) (hf : ∀ k : List D → Prop, k ys → f xs k) : EvA (dfCB f da) δ w ys := fun Q q => h _ (hf _ q)
theorem EvO.none : EvO (dpNone (L := L)) δ w none := fun Q q => q
theorem EvO.some {j : Int} (h : Ev a δ w (.int j)) : EvO (dpSome a) δ w (some j) := fun Q q => h _ q
theorem Ev.slL {lo hi : DPt L} {l u : Option Int} (h : Ev a δ w (.lst xs)) (h1 : EvO lo δ w l) (h2 : EvO hi δ w u) : Ev (deSl a lo hi) δ w (.lst (cutD xs l u)) := fun Q q => h _ (h1 _ (h2 _ q))
theorem Ev.slT {lo hi : DPt L} {l u : Option Int} (h : Ev a δ w (.tup xs)) (h1 : EvO lo δ w l) (h2 : EvO hi δ w u) : Ev (deSl a lo hi) δ w (.tup (cutD xs l u)) := fun Q q => h _ (h1 _ (h2 _ q))
theorem EvA.catL (h : Ev a δ w (.lst xs)) (h2 : Ev b δ w (.lst ys)) (hl : xs.length + ys.length ≤ sizeLine) : EvA (dfCat a b) δ w (xs ++ ys) := fun Q q => h _ (h2 _ ⟨hl, q⟩)
theorem EvA.seqL (h : Ev a δ w (.lst xs)) : EvA (diSeq a) δ w xs := fun Q q => h _ q
theorem EvA.seqT (h : Ev a δ w (.tup xs)) : EvA (diSeq a) δ w xs := fun Q q => h _ q
theorem Ev.ixL {l : List D} {j : Nat} {y : D} (h : Ev a δ w (.lst l)) (h2 : Ev b δ w (.int j)) (e : l[j]? = some y) : Ev (deOp dIx a b) δ w y := Ev.op h h2 fun k q => ⟨y, atI_nat e, q⟩
theorem Ev.ixT {l : List D} {j : Nat} {y : D} (h : Ev a δ w (.tup l)) (h2 : Ev b δ w (.int j)) (e : l[j]? = some y) : Ev (deOp dIx a b) δ w y := Ev.op h h2 fun k q => ⟨y, atI_nat e, q⟩
theorem Ev.eq {n m : Nat} (h : Ev a δ w x) (h2 : Ev b δ w y) (hx : x.fit n = true) (hy : y.fit m = true) (nx : x.nb = true) (ny : y.nb = true) {c : Bool} (hc : c = true ↔ x = y) (hn : n ≤ 60 := by decide) (hm : m ≤ 60 := by decide) : Ev (deOp dEq a b) δ w (.bl c) :=
  Ev.op h h2 fun k q => ⟨fit_eqOk hx hn, fit_eqOk hy hm, by rw [show PyData.eqv x.py y.py = c from Bool.eq_iff_iff.mpr ((eqv_iff x y nx ny).trans hc.symm)]; exact q⟩
theorem Ev.ne {n m : Nat} (h : Ev a δ w x) (h2 : Ev b δ w y) (hx : x.fit n = true) (hy : y.fit m = true) (nx : x.nb = true) (ny : y.nb = true) {c : Bool} (hc : c = true ↔ x ≠ y) (hn : n ≤ 60 := by decide) (hm : m ≤ 60 := by decide) : Ev (deOp dNe a b) δ w (.bl c) :=
  Ev.op h h2 fun k q => ⟨fit_eqOk hx hn, fit_eqOk hy hm, by
    rw [show (!PyData.eqv x.py y.py) = c from Bool.eq_iff_iff.mpr (by rw [Bool.not_eq_true', hc, ← Bool.not_eq_true, eqv_iff x y nx ny])]
    exact q⟩
theorem Ev.in {n m : Nat} {l : List D} (h : Ev a δ w x) (h2 : Ev b δ w y) (hy : y = .lst l ∨ y = .tup l) (hx : x.fit n = true) (hl : fitL m l = true) (nx : x.nb = true) (nl : nbL l = true) {c : Bool} (hc : c = true ↔ x ∈ l) (hn : n ≤ 60 := by decide) (hm : m < 60 := by decide) : Ev (deOp (dIn false) a b) δ w (.bl c) :=
  Ev.op h h2 fun k q => ⟨fit_eqOk hx hn, by
    have e : ((pyL l).any fun z => PyData.eqv z x.py) = c := Bool.eq_iff_iff.mpr ((in_iff nl nx).trans hc.symm)
    have f : (D.lst l).eqOk = true := fit_eqOk (n := m + 1) hl hm
    rcases hy with rfl | rfl
    · exact ⟨f, by rw [if_neg (by decide), e]; exact q⟩
    · exact ⟨f, by rw [if_neg (by decide), e]; exact q⟩⟩
theorem Ev.nin {n m : Nat} {l : List D} (h : Ev a δ w x) (h2 : Ev b δ w y) (hy : y = .lst l ∨ y = .tup l) (hx : x.fit n = true) (hl : fitL m l = true) (nx : x.nb = true) (nl : nbL l = true) {c : Bool} (hc : c = true ↔ x ∉ l) (hn : n ≤ 60 := by decide) (hm : m < 60 := by decide) : Ev (deOp (dIn true) a b) δ w (.bl c) :=
  Ev.op h h2 fun k q => ⟨fit_eqOk hx hn, by
    have e : (!(pyL l).any fun z => PyData.eqv z x.py) = c := Bool.eq_iff_iff.mpr (by rw [Bool.not_eq_true', hc, ← Bool.not_eq_true, in_iff nl nx])
    have f : (D.lst l).eqOk = true := fit_eqOk (n := m + 1) hl hm
    rcases hy with rfl | rfl
    · exact ⟨f, by rw [if_pos rfl, e]; exact q⟩
    · exact ⟨f, by rw [if_pos rfl, e]; exact q⟩⟩
theorem Ev.addI {p q : Int} (h : Ev a δ w (.int p)) (h2 : Ev b δ w (.int q)) : Ev (deOp dAdd a b) δ w (.int (p + q)) := Ev.op h h2 fun k z => z
theorem Ev.addL (h : Ev a δ w (.lst xs)) (h2 : Ev b δ w (.lst ys)) (hl : xs.length + ys.length ≤ sizeLine) : Ev (deOp dAdd a b) δ w (.lst (xs ++ ys)) := Ev.op h h2 fun k z => ⟨hl, z⟩
theorem Ev.addT (h : Ev a δ w (.tup xs)) (h2 : Ev b δ w (.tup ys)) (hl : xs.length + ys.length ≤ sizeLine) : Ev (deOp dAdd a b) δ w (.tup (xs ++ ys)) := Ev.op h h2 fun k z => ⟨hl, z⟩
theorem Ev.addS {p q : Str} (h : Ev a δ w (.str p)) (h2 : Ev b δ w (.str q)) (hl : p.length + q.length ≤ sizeLine) : Ev (deOp dAdd a b) δ w (.str (p ++ q)) := Ev.op h h2 fun k z => ⟨hl, z⟩
theorem Ev.subI {p q : Int} (h : Ev a δ w (.int p)) (h2 : Ev b δ w (.int q)) : Ev (deOp dSub a b) δ w (.int (p - q)) := Ev.op h h2 fun k z => z
theorem Ev.mulI {p q : Int} (h : Ev a δ w (.int p)) (h2 : Ev b δ w (.int q)) (hp : Sm p) (hq : Sm q) : Ev (deOp dMul a b) δ w (.int (p * q)) := Ev.op h h2 fun k z => ⟨hp, hq, z⟩
theorem Ev.modI {p q : Int} (h : Ev a δ w (.int p)) (h2 : Ev b δ w (.int q)) (hq : 0 < q) : Ev (deOp dMod a b) δ w (.int (p % q)) := Ev.op h h2 fun k z => ⟨hq, z⟩
theorem Ev.ltI {p q : Int} (h : Ev a δ w (.int p)) (h2 : Ev b δ w (.int q)) : Ev (deOp dLt a b) δ w (.bl (decide (p < q))) := Ev.op h h2 fun k z => z
theorem Ev.leI {p q : Int} (h : Ev a δ w (.int p)) (h2 : Ev b δ w (.int q)) : Ev (deOp dLe a b) δ w (.bl (decide (p ≤ q))) := Ev.op h h2 fun k z => z
theorem Ev.gtI {p q : Int} (h : Ev a δ w (.int p)) (h2 : Ev b δ w (.int q)) : Ev (deOp dGt a b) δ w (.bl (decide (q < p))) := Ev.op h h2 fun k z => z
theorem Ev.geI {p q : Int} (h : Ev a δ w (.int p)) (h2 : Ev b δ w (.int q)) : Ev (deOp dGe a b) δ w (.bl (decide (q ≤ p))) := Ev.op h h2 fun k z => z
theorem Ev.len (h : Ev a δ w (.lst xs)) : Ev (deCB dLen (daCons a daNil)) δ w (.int xs.length) := Ev.cb (EvA.cons h EvA.nil) fun k q => q
theorem Ev.lenT (h : Ev a δ w (.tup xs)) : Ev (deCB dLen (daCons a daNil)) δ w (.int xs.length) := Ev.cb (EvA.cons h EvA.nil) fun k q => q
theorem Ev.tupL (h : Ev a δ w (.lst xs)) : Ev (deCB dTuple (daCons a daNil)) δ w (.tup xs) := Ev.cb (EvA.cons h EvA.nil) fun k q => q
theorem Ev.tupT (h : Ev a δ w (.tup xs)) : Ev (deCB dTuple (daCons a daNil)) δ w (.tup xs) := Ev.cb (EvA.cons h EvA.nil) fun k q => q
theorem EvA.listA (h : Ev a δ w x) (e : x.coll = some xs) : EvA (dfCB dfListA (daCons a daNil)) δ w xs := EvA.fcb (EvA.cons h EvA.nil) fun k q => ⟨x, xs, rfl, e, q⟩
theorem EvA.sortedS {zs : List Str} (h : Ev a δ w x) (e : x.coll = some (zs.map .str)) : EvA (dfCB dfSorted (daCons a daNil)) δ w ((sortS zs).map .str) := EvA.fcb (EvA.cons h EvA.nil) fun k q => ⟨x, _, rfl, e, .inr (.inl ⟨zs, rfl, fun ms p hs => by rw [sortS_eq p hs]; exact q⟩)⟩
theorem EvA.sortedT {zs : List (List Str)} (h : Ev a δ w x) (e : x.coll = some (zs.map dT)) : EvA (dfCB dfSorted (daCons a daNil)) δ w ((sortT zs).map dT) := EvA.fcb (EvA.cons h EvA.nil) fun k q => ⟨x, _, rfl, e, .inr (.inr ⟨zs, rfl, fun ms p hs => by rw [sortT_eq p hs]; exact q⟩)⟩
theorem Ev.dictS {zs : List Str} (h : Ev a δ w (.lst (zs.map fun z => .tup [.str z, .bl true]))) : Ev (deCB dDictT (daCons a daNil)) δ w (.dct ((dedup zs).map fun z => (.str z, .bl true))) := Ev.cb (EvA.cons h EvA.nil) fun k q => .inl ⟨zs, rfl, q⟩
theorem Ev.dictT {zs : List (List Str)} (h : Ev a δ w (.lst (zs.map fun z => .tup [dT z, .bl true]))) : Ev (deCB dDictT (daCons a daNil)) δ w (.dct ((dedup zs).map fun z => (dT z, .bl true))) := Ev.cb (EvA.cons h EvA.nil) fun k q => .inr ⟨zs, rfl, q⟩
theorem coll_S (zs : List Str) : (D.dct (zs.map fun z => (.str z, .bl true))).coll = some (zs.map .str) := by simp [D.coll]
theorem coll_T (zs : List (List Str)) : (D.dct (zs.map fun z => (dT z, .bl true))).coll = some (zs.map dT) := by simp [D.coll]
theorem Ev.repr (h : Ev a δ w x) (h1 : x.showOk = true) (h2 : x.py.shown.length ≤ sizeLine) : Ev (deCB dRepr (daCons a daNil)) δ w (.str x.py.shown) := Ev.cb (EvA.cons h EvA.nil) fun k q => ⟨h1, h2, q⟩
end
/-! ### comprehensions -/
theorem wipe_set (δ : DEnv) (i : Nat) (x : D) : (wipeD [i] 0 δ).set i (.val x) = δ.set i (.val x) := by
  refine List.ext_getElem? fun j => ?_
  by_cases e : i = j
  · subst e
    by_cases h : i < δ.length
    · rw [List.getElem?_set_self (by rw [wipeD_length]; exact h), List.getElem?_set_self h]
    · rw [List.getElem?_eq_none (by rw [List.length_set, wipeD_length]; omega), List.getElem?_eq_none (by rw [List.length_set]; omega)]
  · rw [List.getElem?_set_ne e, List.getElem?_set_ne e, wipeD_get, Nat.zero_add, if_neg (by simpa using Ne.symm e)]
theorem mix_set (δ : DEnv) (i : Nat) (x : DV) : mixD [i] 0 δ (δ.set i x) = δ := by
  refine List.ext_getElem? fun j => ?_
  rw [mixD_get (by rw [List.length_set]), Nat.zero_add]
  by_cases e : j = i
  · rw [if_pos (by simpa using e)]
  · rw [if_neg (by simpa using e), List.getElem?_set_ne (Ne.symm e)]
section
variable {δ : DEnv} {w : L.W} {t : DT L} {e : DE L} {i : Nat} {xs : List D}
/-- a list comprehension, item by item -/
theorem comp_ind {Q : List D → DEnv → L.W → Prop} (hi : i < δ.length) (I : Nat → List D → L.W → Prop)
    (step : ∀ j x acc w, xs[j]? = some x → I j acc w → ∀ (Y : D → DEnv → L.W → Prop) (N : DEnv → L.W → Prop), (∀ y w', acc.length < sizeLine → I (j + 1) (acc ++ [y]) w' → Y y (δ.set i (.val x)) w') → (∀ w', I (j + 1) acc w' → N (δ.set i (.val x)) w') →
      t (δ.set i (.val x)) w fun c δ2 w2 => if c = true then e δ2 w2 Y else N δ2 w2)
    (fin : ∀ acc w, I xs.length acc w → Q acc δ w) (hl : ∀ j acc w, I j acc w → acc.length ≤ j) (hx : xs.length ≤ sizeLine) (h0 : I 0 [] w) : dComp [i] (dgName i) t e Q xs [] δ w := by
  have key : ∀ (n j : Nat) (acc : List D) (w : L.W), n = xs.length - j → j ≤ xs.length → I j acc w → dComp [i] (dgName i) t e Q (xs.drop j) acc δ w := fun n => by
    induction n with
    | zero =>
      intro j acc w hn hj h
      have : j = xs.length := by omega
      subst this
      rw [List.drop_length]
      exact fin _ _ h
    | succ n ih =>
      intro j acc w hn hj h
      have hlt : j < xs.length := by omega
      rw [List.drop_eq_getElem_cons hlt]
      refine ⟨by rw [wipeD_length]; exact hi, ?_⟩
      rw [wipe_set]
      refine step j _ acc w (List.getElem?_eq_getElem hlt) h (fun y δ3 w3 => acc.length < sizeLine ∧ dComp [i] (dgName i) t e Q (xs.drop (j + 1)) (acc ++ [y]) (mixD [i] 0 δ δ3) w3) (fun δ2 w2 => dComp [i] (dgName i) t e Q (xs.drop (j + 1)) acc (mixD [i] 0 δ δ2) w2) (fun y w' ha hI => ⟨ha, ?_⟩) (fun w' hI => ?_)
      · rw [mix_set]
        exact ih (j + 1) _ w' (by omega) hlt hI
      · rw [mix_set]
        exact ih (j + 1) _ w' (by omega) hlt hI
  simpa using key _ 0 [] w rfl (Nat.zero_le _) h0
/-- .. that changes nothing: what passes, and its values -/
theorem EvA.comp {it : DA L} {p : D → Bool} {f : D → D} (hit : EvA it δ w xs) (hi : i < δ.length) (no : ∀ d, δ[i]? ≠ some (DV.own d)) (hx : xs.length ≤ sizeLine) (ht : ∀ x ∈ xs, EvT t (δ.set i (.val x)) w (p x)) (he : ∀ x ∈ xs, p x = true → Ev e (δ.set i (.val x)) w (f x)) :
    EvA (dfLc [i] it (dgName i) t e) δ w ((xs.filter p).map f) := fun Q q => by
  refine hit _ ⟨fun j hj d => by rw [List.mem_singleton.mp hj]; exact no d, ?_⟩
  refine comp_ind hi (fun j acc w' => w' = w ∧ acc = ((xs.take j).filter p).map f) (fun j x acc w' hxj h Y N hY hN => ?_) (fun acc w' h => ?_) (fun j acc w' h => ?_) hx ⟨rfl, rfl⟩
  · obtain ⟨rfl, rfl⟩ := h
    have hm := List.mem_of_getElem? hxj
    have tk : xs.take (j + 1) = xs.take j ++ [x] := by rw [List.take_add_one, hxj]; rfl
    refine ht x hm _ ?_
    cases hp : p x with
    | true =>
      refine he x hm hp _ (hY _ _ ?_ ⟨rfl, ?_⟩)
      · rw [List.length_map]
        have h1 := List.length_filter_le p (xs.take j)
        have h2 : (xs.take j).length ≤ j := List.length_take_le _ _
        have h3 := (List.getElem?_eq_some_iff.mp hxj).1
        omega
      · rw [tk, List.filter_append, List.map_append, List.filter_cons_of_pos hp]; rfl
    | false =>
      refine hN _ ⟨rfl, ?_⟩
      rw [tk, List.filter_append, List.map_append, List.filter_cons_of_neg (by rw [hp]; decide)]
      simp
  · obtain ⟨rfl, rfl⟩ := h
    rw [List.take_length]
    exact q
  · obtain ⟨rfl, rfl⟩ := h
    rw [List.length_map]
    exact Nat.le_trans (List.length_filter_le _ _) (List.length_take_le _ _)
theorem EvT.yes : EvT (dtYes (L := L)) δ w true := fun Q q => q
/-- any, all of a generator expression that changes nothing -/
theorem Ev.any {it : DA L} {f : D → Bool} (hit : EvA it δ w xs) (hi : i < δ.length) (no : ∀ d, δ[i]? ≠ some (DV.own d)) (he : ∀ x ∈ xs, Ev e (δ.set i (.val x)) w (.bl (f x))) : Ev (deAny [i] it (dgName i) dtYes e) δ w (.bl (xs.any f)) := fun Q q => by
  refine hit _ ⟨fun j hj d => by rw [List.mem_singleton.mp hj]; exact no d, ?_⟩
  have key : ∀ (ys : List D) (acc : List D), (∀ x ∈ ys, Ev e (δ.set i (.val x)) w (.bl (f x))) → Q (.bl (ys.any f)) δ w → dGen [i] (dgName i) dtYes e (dcAny Q) (fun _ => Q (.bl false)) ys acc δ w := fun ys => by
    induction ys with
    | nil => exact fun _ _ q => q
    | cons x ys ih =>
      intro acc h q
      refine ⟨by rw [wipeD_length]; exact hi, ?_⟩
      rw [wipe_set]
      refine h x (List.mem_cons_self ..) _ ⟨f x, rfl, ?_⟩
      rw [mix_set]
      rw [List.any_cons] at q
      cases hf : f x with
      | true => rw [hf] at q; exact q
      | false => rw [hf] at q; exact ih _ (fun y hy => h y (List.mem_cons_of_mem _ hy)) q
  exact key xs [] he q
theorem Ev.all {it : DA L} {f : D → Bool} (hit : EvA it δ w xs) (hi : i < δ.length) (no : ∀ d, δ[i]? ≠ some (DV.own d)) (he : ∀ x ∈ xs, Ev e (δ.set i (.val x)) w (.bl (f x))) : Ev (deAll [i] it (dgName i) dtYes e) δ w (.bl (xs.all f)) := fun Q q => by
  refine hit _ ⟨fun j hj d => by rw [List.mem_singleton.mp hj]; exact no d, ?_⟩
  have key : ∀ (ys : List D) (acc : List D), (∀ x ∈ ys, Ev e (δ.set i (.val x)) w (.bl (f x))) → Q (.bl (ys.all f)) δ w → dGen [i] (dgName i) dtYes e (dcAll Q) (fun _ => Q (.bl true)) ys acc δ w := fun ys => by
    induction ys with
    | nil => exact fun _ _ q => q
    | cons x ys ih =>
      intro acc h q
      refine ⟨by rw [wipeD_length]; exact hi, ?_⟩
      rw [wipe_set]
      refine h x (List.mem_cons_self ..) _ ⟨f x, rfl, ?_⟩
      rw [mix_set]
      rw [List.all_cons] at q
      cases hf : f x with
      | false => rw [hf] at q; exact q
      | true => rw [hf] at q; exact ih _ (fun y hy => h y (List.mem_cons_of_mem _ hy)) q
  exact key xs [] he q
/-! ### statements -/
variable {E : DEnds L} {r : DS L} {d : DE L} {x : D}
theorem s_set (h : Ev d δ w x) (hi : i < δ.length) (q : r E (δ.set i (.val x)) w) : dsSeq (dsSet i d) r E δ w := h _ ⟨hi, q⟩
theorem s_ret (h : Ev d δ w x) (q : E.rt x w) : dsRet d E δ w := h _ q
theorem s_if {a b : DS L} {c : Bool} (h : EvT t δ w c) (h1 : c = true → a E δ w) (h2 : c = false → b E δ w) : dsIf t a b E δ w := h _ (by
  cases c with
  | true => exact h1 rfl
  | false => exact h2 rfl)
theorem for_ind {g : DG} {b : DS L} {xs : List D} (I : Nat → DEnv → L.W → Prop)
    (step : ∀ j x δ w, xs[j]? = some x → I j δ w → ∀ N : DEnv → L.W → Prop, (∀ δ' w', I (j + 1) δ' w' → N δ' w') → g x δ fun δ' => b { nx := N, rt := E.rt, bk := E.nx, ct := N } δ' w)
    (fin : ∀ δ w, I xs.length δ w → E.nx δ w) (h0 : I 0 δ w) : dFor g b E xs δ w := by
  have key : ∀ (n j : Nat) (δ : DEnv) (w : L.W), n = xs.length - j → j ≤ xs.length → I j δ w → dFor g b E (xs.drop j) δ w := fun n => by
    induction n with
    | zero =>
      intro j δ w hn hj h
      have : j = xs.length := by omega
      subst this
      rw [List.drop_length]
      exact fin _ _ h
    | succ n ih =>
      intro j δ w hn hj h
      have hlt : j < xs.length := by omega
      rw [List.drop_eq_getElem_cons hlt]
      exact step j _ δ w (List.getElem?_eq_getElem hlt) h (dFor g b E (xs.drop (j + 1))) fun δ' w' hI => ih (j + 1) _ _ (by omega) hlt hI
  simpa using key _ 0 δ w rfl (Nat.zero_le _) h0
end
end Dl
set_option maxRecDepth 100000
namespace Dl
open PySem PySem.Spec PyProof.Rows L2 Lk

variable {L : Wd}
section
variable {δ : DEnv} {w : L.W} {t : DT L} {e : DE L} {i : Nat} {α : Type} {emb : α → D} {zs : List α}
/-- a comprehension over what stands for the members of a list -/
theorem EvA.compM {it : DA L} {p : α → Bool} {f : α → D} (hit : EvA it δ w (zs.map emb)) (hi : i < δ.length) (no : ∀ d, δ[i]? ≠ some (DV.own d)) (hx : zs.length ≤ sizeLine) (ht : ∀ x ∈ zs, EvT t (δ.set i (.val (emb x))) w (p x)) (he : ∀ x ∈ zs, p x = true → Ev e (δ.set i (.val (emb x))) w (f x)) :
    EvA (dfLc [i] it (dgName i) t e) δ w ((zs.filter p).map f) := fun Q q => by
  refine hit _ ⟨fun j hj d => by rw [List.mem_singleton.mp hj]; exact no d, ?_⟩
  refine comp_ind hi (fun j acc w' => w' = w ∧ acc = ((zs.take j).filter p).map f) (fun j y acc w' hxj h Y N hY hN => ?_) (fun acc w' h => ?_) (fun j acc w' h => ?_) (by rw [List.length_map]; exact hx) ⟨rfl, rfl⟩
  · obtain ⟨rfl, rfl⟩ := h
    rw [List.getElem?_map] at hxj
    obtain ⟨x, hxk, rfl⟩ := Option.map_eq_some_iff.mp hxj
    have hm := List.mem_of_getElem? hxk
    have tk : zs.take (j + 1) = zs.take j ++ [x] := by rw [List.take_add_one, hxk]; rfl
    refine ht x hm _ ?_
    cases hp : p x with
    | true =>
      refine he x hm hp _ (hY _ _ ?_ ⟨rfl, ?_⟩)
      · rw [List.length_map]
        have h1 := List.length_filter_le p (zs.take j)
        have h2 : (zs.take j).length ≤ j := List.length_take_le _ _
        have h3 := (List.getElem?_eq_some_iff.mp hxk).1
        omega
      · rw [tk, List.filter_append, List.map_append, List.filter_cons_of_pos hp]; rfl
    | false =>
      refine hN _ ⟨rfl, ?_⟩
      rw [tk, List.filter_append, List.map_append, List.filter_cons_of_neg (by rw [hp]; decide)]
      simp
  · obtain ⟨rfl, rfl⟩ := h
    rw [List.length_map, List.take_length]
    exact q
  · obtain ⟨rfl, rfl⟩ := h
    rw [List.length_map]
    exact Nat.le_trans (List.length_filter_le _ _) (List.length_take_le _ _)
theorem filter_yes {α : Type} (l : List α) : l.filter (fun _ => true) = l := List.filter_eq_self.mpr fun _ _ => rfl
theorem EvA.mapM {it : DA L} {f : α → D} (hit : EvA it δ w (zs.map emb)) (hi : i < δ.length) (no : ∀ d, δ[i]? ≠ some (DV.own d)) (hx : zs.length ≤ sizeLine) (he : ∀ x ∈ zs, Ev e (δ.set i (.val (emb x))) w (f x)) : EvA (dfLc [i] it (dgName i) dtYes e) δ w (zs.map f) := by
  have h := EvA.compM (p := fun _ => true) hit hi no hx (fun x _ => EvT.yes) fun x hx _ => he x hx
  rwa [filter_yes] at h
/-- .. whose filter may do something -/
theorem comp_indM {Q : List D → DEnv → L.W → Prop} (hi : i < δ.length) (I : Nat → List D → L.W → Prop)
    (step : ∀ j x acc w, zs[j]? = some x → I j acc w → ∀ (Y : D → DEnv → L.W → Prop) (N : DEnv → L.W → Prop), (∀ y w', acc.length < sizeLine → I (j + 1) (acc ++ [y]) w' → Y y (δ.set i (.val (emb x))) w') → (∀ w', I (j + 1) acc w' → N (δ.set i (.val (emb x))) w') →
      t (δ.set i (.val (emb x))) w fun c δ2 w2 => if c = true then e δ2 w2 Y else N δ2 w2)
    (fin : ∀ acc w, I zs.length acc w → Q acc δ w) (hl : ∀ j acc w, I j acc w → acc.length ≤ j) (hx : zs.length ≤ sizeLine) (h0 : I 0 [] w) : dComp [i] (dgName i) t e Q (zs.map emb) [] δ w := by
  refine comp_ind hi I (fun j y acc w hy hI => ?_) (fun acc w h => fin acc w (by rwa [List.length_map] at h)) hl (by rw [List.length_map]; exact hx) h0
  rw [List.getElem?_map] at hy
  obtain ⟨x, hxj, rfl⟩ := Option.map_eq_some_iff.mp hy
  exact step j x acc w hxj hI
theorem Ev.anyM {it : DA L} {f : α → Bool} (hit : EvA it δ w (zs.map emb)) (hi : i < δ.length) (no : ∀ d, δ[i]? ≠ some (DV.own d)) (he : ∀ x ∈ zs, Ev e (δ.set i (.val (emb x))) w (.bl (f x))) : Ev (deAny [i] it (dgName i) dtYes e) δ w (.bl (zs.any f)) := fun Q q => by
  refine hit _ ⟨fun j hj d => by rw [List.mem_singleton.mp hj]; exact no d, ?_⟩
  have key : ∀ (ys : List α) (acc : List D), (∀ x ∈ ys, Ev e (δ.set i (.val (emb x))) w (.bl (f x))) → Q (.bl (ys.any f)) δ w → dGen [i] (dgName i) dtYes e (dcAny Q) (fun _ => Q (.bl false)) (ys.map emb) acc δ w := fun ys => by
    induction ys with
    | nil => exact fun _ _ q => q
    | cons x ys ih =>
      intro acc h q
      refine ⟨by rw [wipeD_length]; exact hi, ?_⟩
      rw [wipe_set]
      refine h x (List.mem_cons_self ..) _ ⟨f x, rfl, ?_⟩
      rw [mix_set]
      rw [List.any_cons] at q
      cases hf : f x with
      | true => rw [hf] at q; exact q
      | false => rw [hf] at q; exact ih _ (fun y hy => h y (List.mem_cons_of_mem _ hy)) q
  exact key zs [] he q
theorem Ev.allM {it : DA L} {f : α → Bool} (hit : EvA it δ w (zs.map emb)) (hi : i < δ.length) (no : ∀ d, δ[i]? ≠ some (DV.own d)) (he : ∀ x ∈ zs, Ev e (δ.set i (.val (emb x))) w (.bl (f x))) : Ev (deAll [i] it (dgName i) dtYes e) δ w (.bl (zs.all f)) := fun Q q => by
  refine hit _ ⟨fun j hj d => by rw [List.mem_singleton.mp hj]; exact no d, ?_⟩
  have key : ∀ (ys : List α) (acc : List D), (∀ x ∈ ys, Ev e (δ.set i (.val (emb x))) w (.bl (f x))) → Q (.bl (ys.all f)) δ w → dGen [i] (dgName i) dtYes e (dcAll Q) (fun _ => Q (.bl true)) (ys.map emb) acc δ w := fun ys => by
    induction ys with
    | nil => exact fun _ _ q => q
    | cons x ys ih =>
      intro acc h q
      refine ⟨by rw [wipeD_length]; exact hi, ?_⟩
      rw [wipe_set]
      refine h x (List.mem_cons_self ..) _ ⟨f x, rfl, ?_⟩
      rw [mix_set]
      rw [List.all_cons] at q
      cases hf : f x with
      | false => rw [hf] at q; exact q
      | true => rw [hf] at q; exact ih _ (fun y hy => h y (List.mem_cons_of_mem _ hy)) q
  exact key zs [] he q
end
section
variable {E : DEnds L} {δ : DEnv} {w : L.W} {α : Type} {emb : α → D} {zs : List α} {it : DA L} {g : DG} {b : DS L}
/-- a for loop over what stands for the members of a list -/
theorem s_for (hit : EvA it δ w (zs.map emb)) (I : Nat → DEnv → L.W → Prop) (h0 : I 0 δ w)
    (step : ∀ j x δ w, zs[j]? = some x → I j δ w → ∀ N : DEnv → L.W → Prop, (∀ δ' w', I (j + 1) δ' w' → N δ' w') → g (emb x) δ fun δ' => b { nx := N, rt := E.rt, bk := E.nx, ct := N } δ' w)
    (fin : ∀ δ w, I zs.length δ w → E.nx δ w) : dsFor it g b E δ w := by
  refine hit _ (for_ind I (fun j y δ w hy hI => ?_) (fun δ w h => fin δ w (by rwa [List.length_map] at h)) h0)
  rw [List.getElem?_map] at hy
  obtain ⟨x, hxj, rfl⟩ := Option.map_eq_some_iff.mp hy
  exact step j x δ w hxj hI
theorem s_forS {r : DS L} (hit : EvA it δ w (zs.map emb)) (I : Nat → DEnv → L.W → Prop) (h0 : I 0 δ w)
    (step : ∀ j x δ w, zs[j]? = some x → I j δ w → ∀ N : DEnv → L.W → Prop, (∀ δ' w', I (j + 1) δ' w' → N δ' w') → g (emb x) δ fun δ' => b { nx := N, rt := E.rt, bk := r E, ct := N } δ' w)
    (fin : ∀ δ w, I zs.length δ w → r E δ w) : dsSeq (dsFor it g b) r E δ w := s_for (E := { E with nx := r E }) hit I h0 step fin
theorem EvA.range {d : DE L} {m : Nat} (h : Ev d δ w (.int m)) (hm : m < 2 ^ 62) : EvA (diRange1 d) δ w ((List.range m).map fun i => .int (i : Nat)) := fun Q q => h _ ⟨⟨by omega, by omega⟩, by
  have e : upTo 0 (Int.toNat (m : Int)) = (List.range m).map fun i => D.int (i : Nat) := by
    unfold upTo
    rw [Int.toNat_natCast]
    exact List.map_congr_left fun i _ => by rw [Int.zero_add]
  rw [e]
  exact q⟩
end
end Dl
set_option maxRecDepth 100000
namespace Dl
open PySem PySem.Spec PyProof.Rows L2 Lk

/-! ### how long the text of data is -/
theorem textFrom_bd : ∀ (ts : List Str) (k : Nat) (acc : Str), (textFrom k acc ts).length ≤ acc.length + piled ts
  | [], _, acc => by show acc.length ≤ _; omega
  | t :: r, k, acc => by
    have ih := textFrom_bd r (k + 1) (acc ++ (if k > 0 then ", " else "" : String) ++ t)
    have e : (acc ++ (if k > 0 then ", " else "" : String) ++ t).length ≤ acc.length + 2 + t.length := by
      rw [strLen_append, strLen_append]
      have : ((if k > 0 then ", " else "" : String) : Str).length ≤ 2 := by split <;> decide
      omega
    show (textFrom (k + 1) _ r).length ≤ _
    rw [piled_cons]
    omega
theorem listText_bd (ts : List Str) : (listText ts).length ≤ 2 + piled ts := by
  have := textFrom_bd ts 0 "["
  unfold listText
  rw [strLen_append]
  have e1 : (("[" : String) : Str).length = 1 := rfl
  have e2 : (("]" : String) : Str).length = 1 := rfl
  omega
theorem tupleText_bd (ts : List Str) : (tupleText ts).length ≤ 3 + piled ts := by
  unfold tupleText
  rw [strLen_append, strLen_append]
  have e1 : ((("(" : String) : Str)).length = 1 := rfl
  have e3 : (((if ts.length == 1 then ",)" else ")" : String) : Str)).length ≤ 2 := by split <;> decide
  rw [e1]
  by_cases h : ts = []
  · subst h
    have : (Str.join ", " []).length = 0 := rfl
    omega
  · have := join_length_add ts h
    omega
theorem piled_bd {B : Nat} : ∀ ts : List Str, (∀ t ∈ ts, t.length ≤ B) → piled ts ≤ ts.length * (B + 2)
  | [], _ => Nat.zero_le _
  | t :: r, h => by
    have ih := piled_bd r fun x hx => h x (List.mem_cons_of_mem _ hx)
    have := h t (List.mem_cons_self ..)
    rw [piled_cons, List.length_cons, Nat.add_mul, Nat.one_mul]
    omega
/-! ### .. and that it is text -/
theorem strOk_iff {x : Str} : PyData.strOk x = true ↔ ∀ c ∈ x.cps.toList, c < 0x110000 := by
  show x.cps.all (· < 0x110000) = true ↔ _
  rw [Array.all_eq_true_iff_forall_mem]
  refine ⟨fun h c hc => by simpa using h c (Array.mem_toList_iff.mp hc), fun h c hc => by simpa using h c (Array.mem_toList_iff.mpr hc)⟩
theorem strOk_app {x y : Str} (h : PyData.strOk x = true) (h2 : PyData.strOk y = true) : PyData.strOk (x ++ y) = true := by
  rw [strOk_iff] at *
  intro c hc
  have e : (x ++ y).cps.toList = x.cps.toList ++ y.cps.toList := by show (x.cps ++ y.cps).toList = _; simp
  rw [e] at hc
  exact (List.mem_append.mp hc).elim (h c) (h2 c)
theorem char_lt (c : Char) : c.toNat < 0x110000 := by
  have := c.valid
  have e : c.toNat = c.val.toNat := rfl
  rw [e]
  simp only [UInt32.isValidChar, Nat.isValidChar] at this
  omega
theorem strOk_lit (s : String) : PyData.strOk (Str.ofString s) = true := by
  rw [strOk_iff, Str.ofString_eq_toList]
  intro c hc
  simp only [List.mem_map] at hc
  obtain ⟨a, _, rfl⟩ := hc
  exact char_lt a
theorem reprChar_lt {q c : Nat} (hc : c < 0x110000) : ∀ d ∈ Builtin.Str.reprChar q c, d < 0x110000 := by
  intro d hd
  have hex : ∀ w : Nat, ∀ d ∈ (List.replicate (w - ((Nat.toDigits 16 c).map Char.toNat).length) 48 ++ (Nat.toDigits 16 c).map Char.toNat), d < 0x110000 := fun w d hd => by
    rcases List.mem_append.mp hd with h | h
    · rw [(List.mem_replicate.mp h).2]; decide
    · obtain ⟨a, _, rfl⟩ := List.mem_map.mp h
      exact char_lt a
  unfold Builtin.Str.reprChar at hd
  simp only at hd
  repeat' split at hd
  all_goals first
    | (simp only [List.mem_cons, List.not_mem_nil, or_false] at hd; omega)
    | (rcases List.mem_append.mp hd with h | h
       · simp only [List.mem_cons, List.not_mem_nil, or_false] at h; omega
       · exact hex _ d h)
theorem strOk_repr {x : Str} (h : PyData.strOk x = true) : PyData.strOk (reprText x) = true := by
  rw [strOk_iff] at *
  unfold reprText
  have hq : reprQuote x < 0x110000 := by unfold reprQuote; split <;> decide
  have key : ∀ (l : List Nat) (acc : Array Nat), (∀ c ∈ l, c < 0x110000) → (∀ c ∈ acc.toList, c < 0x110000) → ∀ c ∈ (l.foldl (fun out c => out ++ (Builtin.Str.reprChar (reprQuote x) c).toArray) acc).toList, c < 0x110000 := fun l => by
    induction l with
    | nil => exact fun acc _ h => h
    | cons a l ih =>
      intro acc h1 h2
      rw [List.foldl_cons]
      refine ih _ (fun c hc => h1 c (List.mem_cons_of_mem _ hc)) fun c hc => ?_
      simp only [Array.toList_append, List.mem_append] at hc
      rcases hc with hc | hc
      · exact h2 c hc
      · exact reprChar_lt (h1 a (List.mem_cons_self ..)) c hc
  intro c hc
  rw [Array.toList_push, ← Array.foldl_toList] at hc
  rcases List.mem_append.mp hc with hc | hc
  · exact key _ _ h (fun c hc => by have : c = reprQuote x := by simpa using hc
                                    rw [this]; exact hq) c hc
  · rw [List.mem_singleton.mp hc]; exact hq
theorem strOk_textFrom : ∀ (ts : List Str) (k : Nat) (acc : Str), PyData.strOk acc = true → (∀ t ∈ ts, PyData.strOk t = true) → PyData.strOk (textFrom k acc ts) = true
  | [], _, acc, h, _ => h
  | t :: r, k, acc, h, h2 => strOk_textFrom r (k + 1) _ (strOk_app (strOk_app h (strOk_lit _)) (h2 t (List.mem_cons_self ..))) fun x hx => h2 x (List.mem_cons_of_mem _ hx)
theorem strOk_list {ts : List Str} (h : ∀ t ∈ ts, PyData.strOk t = true) : PyData.strOk (listText ts) = true := strOk_app (strOk_textFrom ts 0 _ (strOk_lit _) h) (strOk_lit _)
theorem strOk_join : ∀ {ts : List Str}, (∀ t ∈ ts, PyData.strOk t = true) → PyData.strOk (Str.join ", " ts) = true
  | [], _ => by decide +kernel
  | [x], h => h x (List.mem_cons_self ..)
  | x :: y :: r, h => strOk_app (strOk_app (h x (List.mem_cons_self ..)) (strOk_lit _)) (strOk_join fun t ht => h t (List.mem_cons_of_mem _ ht))
theorem strOk_tuple {ts : List Str} (h : ∀ t ∈ ts, PyData.strOk t = true) : PyData.strOk (tupleText ts) = true := by
  unfold tupleText
  refine strOk_app (strOk_app (strOk_lit _) (strOk_join h)) ?_
  exact strOk_lit _
/-- repr shows it: its text is at most n long, its depth at most m -/
structure Sh (d : D) (n m : Nat) : Prop where
  pl : d.plain = true
  ok : d.py.showable = true
  nd : d.py.hasDict = false
  dp : d.py.depth ≤ m
  le : d.py.shown.length ≤ n
  tx : PyData.strOk d.py.shown = true
theorem Sh.showOk {d : D} {n m : Nat} (h : Sh d n m) (hm : m ≤ 30 := by decide) : d.showOk = true := by
  have := h.dp
  simp [D.showOk, h.pl, h.ok, h.nd]
  omega
theorem Sh.mono {d : D} {n m n' m' : Nat} (h : Sh d n m) (l : n ≤ n') (l2 : m ≤ m') : Sh d n' m' := ⟨h.pl, h.ok, h.nd, Nat.le_trans h.dp l2, Nat.le_trans h.le l, h.tx⟩
theorem sh_str {x : Str} {k : Nat} (hl : x.length ≤ k) (hx : PyData.strOk x = true) : Sh (.str x) (10 * k + 2) 1 := by
  have hc := strOk_iff.mp hx
  refine ⟨rfl, rfl, rfl, by simp [D.py, PyData.depth], ?_, by show PyData.strOk (PyData.shown (.str x)) = true; rw [PyData.shown_str]; exact strOk_repr hx⟩
  have z := PySem.StrLaws.reprText_len x fun c hc' => by
    have z := hc c (by simpa using hc')
    have : (16 : Nat) ^ 8 = 4294967296 := by decide
    omega
  show (reprText x).length ≤ _
  omega
theorem sh_bl (b : Bool) : Sh (.bl b) 5 1 := ⟨rfl, rfl, rfl, by simp [D.py, PyData.depth], by cases b <;> decide, by show PyData.strOk (PyData.shown (.bool b)) = true; rw [PyData.shown_bool]; cases b <;> exact strOk_lit _⟩
theorem sh_all {n m : Nat} : ∀ {ds : List D}, (∀ d ∈ ds, Sh d n m) → plainL ds = true ∧ PyData.showableAll (pyL ds) = true ∧ PyData.hasDictAll (pyL ds) = false ∧ PyData.depthAll (pyL ds) ≤ m ∧ (PyData.shownAll (pyL ds)).length = ds.length ∧ ∀ t ∈ PyData.shownAll (pyL ds), t.length ≤ n ∧ PyData.strOk t = true
  | [], _ => ⟨rfl, rfl, rfl, Nat.zero_le _, rfl, fun t h => by simp [pyL, PyData.shownAll] at h⟩
  | d :: ds, h => by
    obtain ⟨a1, a2, a3, a4, a5, a6⟩ := sh_all (ds := ds) fun x hx => h x (List.mem_cons_of_mem _ hx)
    have z := h d (List.mem_cons_self ..)
    refine ⟨by simp [plainL, z.pl, a1], by simp [pyL, PyData.showableAll, z.ok, a2], by simp [pyL, PyData.hasDictAll, z.nd, a3], ?_, by simp [pyL, PyData.shownAll, a5], fun t ht => ?_⟩
    · have := z.dp
      simp only [pyL, PyData.depthAll]
      omega
    · simp only [pyL, PyData.shownAll, List.mem_cons] at ht
      rcases ht with rfl | ht
      · exact ⟨z.le, z.tx⟩
      · exact a6 t ht
theorem sh_lst {ds : List D} {n m k : Nat} (h : ∀ d ∈ ds, Sh d n m) (hl : ds.length ≤ k) : Sh (.lst ds) (3 + k * (n + 2)) (m + 1) := by
  obtain ⟨a1, a2, a3, a4, a5, a6⟩ := sh_all h
  refine ⟨a1, by simp [D.py, PyData.showable, a2], by simp [D.py, PyData.hasDict, a3], by simp only [D.py, PyData.depth]; omega, ?_, ?_⟩
  rotate_left
  · show PyData.strOk (PyData.shown (.list (pyL ds))) = true
    rw [PyData.shown]
    exact strOk_list fun t ht => (a6 t ht).2
  have z1 := listText_bd (PyData.shownAll (pyL ds))
  have z2 := piled_bd _ fun t ht => (a6 t ht).1
  rw [a5] at z2
  have z3 : ds.length * (n + 2) ≤ k * (n + 2) := Nat.mul_le_mul_right _ hl
  show (PyData.shown (.list (pyL ds))).length ≤ _
  rw [PyData.shown]
  omega
theorem sh_tup {ds : List D} {n m k : Nat} (h : ∀ d ∈ ds, Sh d n m) (hl : ds.length ≤ k) : Sh (.tup ds) (3 + k * (n + 2)) (m + 1) := by
  obtain ⟨a1, a2, a3, a4, a5, a6⟩ := sh_all h
  refine ⟨a1, by simp [D.py, PyData.showable, a2], by simp [D.py, PyData.hasDict, a3], by simp only [D.py, PyData.depth]; omega, ?_, ?_⟩
  rotate_left
  · show PyData.strOk (PyData.shown (.tuple (pyL ds))) = true
    rw [PyData.shown]
    exact strOk_tuple fun t ht => (a6 t ht).2
  have z1 := tupleText_bd (PyData.shownAll (pyL ds))
  have z2 := piled_bd _ fun t ht => (a6 t ht).1
  rw [a5] at z2
  have z3 : ds.length * (n + 2) ≤ k * (n + 2) := Nat.mul_le_mul_right _ hl
  show (PyData.shown (.tuple (pyL ds))).length ≤ _
  rw [PyData.shown]
  omega
theorem sh_int {i : Int} {n : Nat} (h : (PyData.int i).showable = true) (h2 : (PyData.int i).shown.length ≤ n) : Sh (.int i) n 1 := ⟨rfl, h, rfl, by simp [D.py, PyData.depth], h2, by show PyData.strOk (PyData.shown (.int i)) = true; rw [PyData.shown_int]; exact strOk_lit _⟩
end Dl
set_option maxRecDepth 100000
set_option maxHeartbeats 1000000
namespace Dl
open PySem PySem.Spec PyProof.Rows L2
variable {L : Wd}
/-- x, y, z = [], e, f : the first is held alone -/
def dsParOVV (i j m : Nat) (da : DA L) (d e : DE L) : DS L := fun E δ w => da δ w fun l δ1 w1 => d δ1 w1 fun x δ2 w2 => e δ2 w2 fun y δ' w' => i ≠ j ∧ i ≠ m ∧ j ≠ m ∧ i < δ'.length ∧ j < δ'.length ∧ m < δ'.length ∧ E.nx (((δ'.set j (.val x)).set m (.val y)).set i (.own (.lst l))) w'
theorem TDS_parOVV {i j m : Nat} {d e : DE L} {da : DA L} : ∀ D σ H, TDS (dsParOVV i j m da d e) D σ H → tPar3 i j m (tCons (TF da) (tCons (TD d) (tCons (TD e) tNil))) D σ H := fun D σ H ⟨Φ, δ, w, E, A, hd, h1, _⟩ => ⟨Φ, δ, w, _, A, hd, fun l δ1 w1 a vs H1 hx A1 n1 h0 e1 r1 s1 => ⟨Φ.add a, δ1, w1, _, A1, hx, fun x δ2 w2 v H2 hy A2 s2 rv => ⟨Φ.add a, δ2, w2, _, A2, hy, fun y δ' w' u H3 ⟨n12, n13, n23, hi, hj, hm, hq⟩ A3 s3 ru => by
    have nF : ¬ Φ.F a := fun z => A.trk a z h0
    have n3 := A3.notS nF
    have e3 : H3 a = some (.lst vs) := s3.keep a _ (fun z => (A2.notS nF) z.S) (s2.keep a _ (fun z => (A1.notS nF) z.S) e1)
    have r3 := (r1.go s2.S).go s3.S
    have rx := rv.go s3.S
    obtain ⟨A4, b4⟩ := A3.set hj rx
    have t4 := sub_step b4 H3
    obtain ⟨A5, b5⟩ := A4.set (i := m) (by rw [List.length_set]; exact hm) (ru.go t4.S)
    have t5 := t4.trans (sub_step b5 H3)
    have n5 : ¬ Sof Φ ((δ'.set j (.val x)).set m (.val y)) ((σ.set j (some v)).set m (some u)) w' a := fun z => n3 (z.M.elim (fun z => (b4 a (b5 a z)).S) fun z => .inr (.inl z))
    obtain ⟨A6, s6⟩ := A5.give (i := i) (by rw [List.length_set, List.length_set]; exact hi) n5 (A.new0 h0) e3 (r3.go t5.S) (s1.trans (s2.trans (s3.trans t5))) h0
    rw [List.set_comm (l := σ.set j (some v)) _ _ (Ne.symm n13), List.set_comm (l := σ) _ _ (Ne.symm n12)] at A6 s6
    exact ⟨_, _, _, rfl, h1 _ _ _ _ hq A6 s6⟩⟩⟩⟩
theorem pds_parOVV {X : Cx} {i j m : Nat} {st : Stmt} {e1 e2 e3 : Expr} {d e : DE L} {da : DA L} (h : ∀ ta, PA X [e1, e2, e3] ta → PS X st (tPar3 i j m ta)) (h1 : PE X e1 (TF da)) (h2 : PE X e2 (TD d)) (h3 : PE X e3 (TD e)) (hs : starEach [e1, e2, e3] X.env = (false, eval e1 X.env) :: starEach [e2, e3] X.env := by rfl) (hs2 : starEach [e2, e3] X.env = (false, eval e2 X.env) :: starEach [e3] X.env := by rfl) (hs3 : starEach [e3] X.env = (false, eval e3 X.env) :: starEach [] X.env := by rfl) : PS X st (TDS (dsParOVV i j m da d e)) :=
  psI (h _ (pa_cons h1 (pa_cons h2 (pa_cons h3 pa_nil hs3) hs2) hs)) TDS_parOVV
end Dl
set_option maxRecDepth 100000
set_option maxHeartbeats 1000000
namespace Dl
open PySem PySem.Spec PyProof.Rows L2
variable {L : Wd}
/-! ### isinstance, of one built-in type -/
def D.ty : D → String
  | .non => "NoneType"
  | .bl _ => "bool"
  | .int _ => "int"
  | .str _ => "str"
  | .tup _ => "tuple"
  | .lst _ => "list"
  | .dct _ => "dict"
  | .ref _ => ""
def D.isRef : D → Bool
  | .ref _ => true
  | _ => false
theorem Rep.ty {K : PySem.W.Frag} {S : Addr → Prop} {H : Hp} {v : V} {d : D} (r : Rep S H v d) (n : d.isRef = false) : TyX K H v (.type d.ty) := by
  cases r with
  | non => exact .base .non
  | bl b => exact .base (.bl b)
  | int i => exact .base (.int i)
  | str z => exact .base (.str z)
  | ref a => cases n
  | lst e _ _ => exact .base (.lst e)
  | tup e _ => exact .base (.tup e)
  | dK e _ _ => exact .base (.dK e)
  | dT e _ _ => exact .base (.dT e)
def deIs (n : String) (d : DE L) : DE L := fun δ w Q => d δ w fun x δ' w' => x.isRef = false ∧ ∃ b, kitB x.ty n = some b ∧ Q (.bl b) δ' w'
theorem pd_is {X : Cx} {d : DE L} {e : Expr} {x : Str} {n : String} {p p2 pos : Pos} (hv : bootBuiltins x = some (.type n)) (hn : x ≠ "__name__") (hdb : (x == ("__debug__" : Str)) = false) (hm : X.mg "isinstance" = none) (hx : X.mg x = none) (h : PE X e (TD d)) (hg : Gl X "isinstance" := by rfl) (hg2 : Gl X x := by rfl)
    (he : starEach [e, .Name x p2] X.env = (false, eval e X.env) :: starEach [.Name x p2] X.env := by rfl) (he2 : starEach [.Name x p2] X.env = (false, eval (.Name x p2) X.env) :: starEach [] X.env := by rfl) (hpl : (backTo pos (starEach [.Name x p2] X.env)).any (·.1) = false := by rfl) : PE X (.Call (.Name "isinstance" p) [e, .Name x p2] [] pos) (TD (deIs n d)) := by
  refine peI (pe_callB call_isi hg hm (by decide +kernel) (pa_cons h (pa_cons (pe_bltn hg2 hx hv (v := .ty n) rfl hn hdb) pa_nil he2) he) (by decide) (by decide) he hpl) fun σ H Q ⟨Φ, δ, w, R, A, hd, q⟩ => ?_
  exact ⟨Φ, δ, w, _, A, hd, fun y δ1 w1 v H1 ⟨nr, b, e, hq⟩ A1 s1 r1 => ⟨v, .ty n, .type y.ty, .type n, b, rfl, .ty n, r1.ty nr, kit_ty e, q _ _ _ _ _ hq A1 s1 (.bl b)⟩⟩
/-! ### a < b < c as a test -/
theorem TD_chain {r r' : R2} {o o' : DO} {a b c : DE L} (hd : OpD r o) (hd' : OpD r' o') : ∀ σ H Q, TD (deChain o o' a b c) σ H Q → tChain r r' (TD a) (TD b) (TD c) σ H Q := fun σ H Q ⟨Φ, δ, w, R, A, h, q⟩ => ⟨Φ, δ, w, _, A, h, fun x δ1 w1 v H1 h1 A1 s1 r1 => ⟨Φ, δ1, w1, _, A1, h1, fun y δ2 w2 u H2 h2 A2 s2 r2 => by
  refine hd _ H2 x y v u _ _ (fun b => A2.tr) (r1.go s2.S) r2 h2 fun z v' H3 ⟨k, hk, hz⟩ sm r3 => ?_
  subst hk
  cases r3
  refine ⟨k, rfl, ?_⟩
  have A3 := A2.same sm
  have s3 : Step (Mof L δ σ w) H (Mof L δ2 σ w2) H3 := (s1.trans s2).trans (Step.same sm)
  cases k with
  | false => exact q _ _ _ _ _ hz A3 s3 (.bl false)
  | true =>
    refine ⟨Φ, δ2, w2, _, A3, hz, fun u2 δ4 w4 v4 H4 h4 A4 s4 r4 => ?_⟩
    refine hd' _ H4 y u2 u v4 _ _ (fun b => A4.tr) ((r2.go (Step.same sm)).go s4.S) r4 h4 fun z v' H5 hz5 sm5 r5 => ?_
    exact q _ _ _ _ _ hz5 (A4.same sm5) (s3.trans (s4.trans (Step.same sm5))) r5⟩⟩
theorem pdt_chain {X : Cx} {op op' : CmpOp} {r r' : R2} {o o' : DO} {ea eb ec : Expr} {a b c : DE L} {pos : Pos} (ho : OpR X (compareOp op) r) (hd : OpD r o) (ho' : OpR X (compareOp op') r') (hd' : OpD r' o') (ha : PE X ea (TD a)) (hb : PE X eb (TD b)) (hc : PE X ec (TD c))
    (hm : lastMarks [op, op'] [eb, ec] = false := by with_unfolding_all rfl) : PT X (.Compare ea [op, op'] [eb, ec] pos) (TDT (dtOf (deChain o o' a b c))) := ptI (pt_chain ho ho' ha hb hc hm) (TD_test (TD_chain hd hd'))
/-! ### a module's number -/
theorem pd_glob {X : Cx} {x : Str} {i : Int} {t : Tok} {pos : Pos} (hd : (x == ("__debug__" : Str)) = false) (hm : X.mg x = some (.int i t)) (hg : Gl X x := by rfl) : PE X (.Name x pos) (TD (deC (L := L) (.int i))) := pd_c (pe_glob (v := .int i) hg hm ⟨_, rfl⟩ hd) fun _ _ => .int i
theorem pd_globE {X : Cx} {x : Str} {i : Int} {pos : Pos} (hd : (x == ("__debug__" : Str)) = false) (hm : ∃ t, X.mg x = some (.int i t)) (hg : Gl X x := by rfl) : PE X (.Name x pos) (TD (deC (L := L) (.int i))) := let ⟨_, h⟩ := hm; pd_glob hd h hg
theorem boot_str : bootBuiltins "str" = some (.type "str") := by decide +kernel
theorem boot_tuple : bootBuiltins "tuple" = some (.type "tuple") := by decide +kernel
theorem boot_int : bootBuiltins "int" = some (.type "int") := by decide +kernel
theorem boot_bool : bootBuiltins "bool" = some (.type "bool") := by decide +kernel
theorem boot_list : bootBuiltins "list" = some (.type "list") := by decide +kernel
theorem boot_dict : bootBuiltins "dict" = some (.type "dict") := by decide +kernel
/-! ### {} and {"k": n} -/
theorem sof_new {Φ : Ph L} {δ : DEnv} {w : L.W} {σ : L2.St} {H : Hp} (A : At Φ δ w σ H) {p : Addr} (h : H p = none) : ¬ Sof Φ δ σ w p := fun z => A.tr z h
def deDct0 : DE L := fun δ w Q => Q (.dct []) δ w
theorem pd_dct0 {X : Cx} {pos : Pos} : PE X (.Dict [] [] pos) (TD (deDct0 (L := L))) := peI pe_dnewK fun σ H Q ⟨Φ, δ, w, R, A, hd, q⟩ p np =>
  q _ _ _ _ _ hd (A.same (same_new np)) (Step.same (same_new np)) (.dK upd_same (sof_new A np) .nil)
def deDct1 (z : Str) (i : Int) : DE L := fun δ w Q => Q (.dct [(.str z, .int i)]) δ w
theorem pd_dct1 {X : Cx} {z : Str} {i : Int} {j1 j2 : Nat} {p1 p2 pos : Pos} : PE X (.Dict [some (.Constant (.str z) j1 p1)] [.Constant (.int i) j2 p2] pos) (TD (deDct1 (L := L) z i)) := peI (pe_disp (pps_cons pe_str pe_int pps_nil) (by rfl) (by rfl) (fun z => by cases z) (by show 1 ≤ 15; decide)) fun σ H Q ⟨Φ, δ, w, R, A, hd, q⟩ p np => by
  refine ⟨upd_same, [(Sum.inr z, .int i)], rfl, (by show 1 ≤ 15; decide), ?_⟩
  have e : mergeK [] [((Sum.inr z : Key), V.int i)] = [(Sum.inr z, .int i)] := rfl
  rw [e]
  have sm : Same H (upd (upd H p (.dK [])) p (.dK [((Sum.inr z : Key), V.int i)])) := fun b o h => by
    have nb : b ≠ p := fun z => by rw [z, np] at h; cases h
    rw [upd_ne nb, upd_ne nb]
    exact h
  exact q _ _ _ _ _ hd (A.same sm) (Step.same sm) (.dK upd_same (sof_new A np) (.cons (.int i) .nil))
end Dl
set_option maxRecDepth 100000
set_option maxHeartbeats 1000000
namespace Dl
open PySem PySem.Spec PyProof.Rows L2
/-! ### repr of tuples that hold dicts -/
mutual
def D.px : D → PyData
  | .non => .none
  | .bl b => .bool b
  | .int i => .int i
  | .str z => .str z
  | .tup l => .tuple (pxL l)
  | .lst l => .list (pxL l)
  | .dct l => .dict (pxK l)
  | .ref _ => .none
def pxL : List D → List PyData
  | [] => []
  | d :: r => d.px :: pxL r
def pxK : List (D × D) → List (PyData × PyData)
  | [] => []
  | (k, d) :: r => (k.px, d.px) :: pxK r
end
mutual
/-- no list, no object in it -/
def D.okx : D → Bool
  | .tup l => okxL l
  | .lst _ => false
  | .dct l => okxK l
  | .ref _ => false
  | _ => true
def okxL : List D → Bool
  | [] => true
  | d :: r => d.okx && okxL r
def okxK : List (D × D) → Bool
  | [] => true
  | (k, d) :: r => (match k with
    | .int _ => true
    | .str _ => true
    | _ => false) && d.okx && okxK r
end
section
variable {X : Cx} {pins : List (Addr × Obj)} {σ : L2.St} {H : Hp} {s : Shared} {S : Addr → Prop}
mutual
theorem Rep.reads (I : Inv X pins σ H s) {v : V} {d : D} (h : Rep S H v d) (p : d.okx = true) {u : Value} (r : RelV v u) : ∃ as, Reads s.heap u d.px as ∧ sysModules ∉ as := by
  cases h with
  | non => cases (show u = Value.none from r); exact ⟨_, .none, by simp⟩
  | bl b => cases (show u = Value.bool b from r); exact ⟨_, .bool b, by simp⟩
  | int i => obtain ⟨t, q⟩ := (show ∃ t, u = Value.int i t from r); cases q; exact ⟨_, .int i t, by simp⟩
  | str z => obtain ⟨t, q⟩ := (show ∃ t, u = Value.str z t from r); cases q; exact ⟨_, .str z t, by simp⟩
  | ref a => cases p
  | lst e n q => cases p
  | @tup a vs ds e q =>
    cases (show u = Value.ref a from r)
    obtain ⟨_, its, rv, o, h1, h2, n, h3⟩ := (show ObjOk X.prog X.w H s.heap a (.tup vs) from I.hok a _ e)
    obtain ⟨as, ra, hn⟩ := RepL.reads I q p rv
    exact ⟨as, .tuple h1 h2 h3 (by simpa using ra), hn⟩
  | @dK a ks ds e n q =>
    cases (show u = Value.ref a from r)
    obtain ⟨_, hs, vs, kv, o, es, ep, h1, h2, h3, _, h5, _⟩ := dk_of I.hok e
    obtain ⟨as, ra, hn⟩ := RepK.reads I q p kv h5
    refine ⟨_, .dict (kvs := pxK ds) h1 h2.1 h3 hn.2 ra, ?_⟩
    have ne : a ≠ sysModules := by simpa using hs
    intro z
    rcases List.mem_append.mp z with z | z
    · rw [List.mem_singleton.mp z] at ne; exact ne rfl
    · exact hn.1 z
  | @dT a ks ds e n q =>
    cases q with
    | cons _ _ => simp [D.okx, okxK] at p
    | nil =>
      cases (show u = Value.ref a from r)
      obtain ⟨_, hs, xs, kt, o, es, ep, h1, h2, h3, h4, _⟩ := dt_rd I.hok (.inl e)
      cases kt
      have e0 : es.toList = [] := h4
      refine ⟨_, .dict (kvs := []) (as := []) (bs := []) h1 h2.1 h3 (by rw [e0]; exact .nil) (by rw [e0]; exact .nil), ?_⟩
      have ne : a ≠ sysModules := by simpa using hs
      intro z
      have : sysModules = a := by simpa using z
      exact ne this.symm
theorem RepL.reads (I : Inv X pins σ H s) {vs : List V} {ds : List D} (h : RepL S H vs ds) (p : okxL ds = true) {us : List Value} (r : Vals vs us) : ∃ as, ReadsAll s.heap us (pxL ds) as ∧ sysModules ∉ as := by
  cases h with
  | nil => cases r; exact ⟨_, .nil, by simp⟩
  | cons a b =>
    simp only [okxL, Bool.and_eq_true] at p
    cases r with
    | cons r1 r2 =>
      obtain ⟨as, x1, n1⟩ := Rep.reads I a p.1 r1
      obtain ⟨bs, x2, n2⟩ := RepL.reads I b p.2 r2
      exact ⟨_, .cons x1 x2, fun h => (List.mem_append.mp h).elim n1 n2⟩
theorem RepK.reads (I : Inv X pins σ H s) {ks : List (Key × V)} {ds : List (D × D)} (h : RepK S H ks ds) (p : okxK ds = true) {vs : List (Key × Value)} (r : KV ks vs) {es : List DictEntry} (q : Pairs (mixKind X.prog X.w) es vs) : ∃ as, ReadsAll s.heap (es.map (·.val)) ((pxK ds).map (·.2)) as ∧ sysModules ∉ as ∧ ReadsAll s.heap (es.map (·.key)) ((pxK ds).map (·.1)) [] := by
  cases h with
  | nil => cases r; cases q; exact ⟨_, .nil, by simp, .nil⟩
  | cons a b =>
    simp only [okxK, Bool.and_eq_true] at p
    cases r with
    | cons r1 r2 =>
      cases q with
      | cons q1 q2 q3 =>
        obtain ⟨as, x1, n1⟩ := Rep.reads I a p.1.2 r1.2
        obtain ⟨bs, x2, n2, x3⟩ := RepK.reads I b p.2 r2 q3
        refine ⟨_, .cons (by dsimp only; rw [q2]; exact x1) x2, fun h => (List.mem_append.mp h).elim n1 n2, ?_⟩
        refine ReadsAll.cons (as := []) (bs := []) ?_ x3
        rcases keyIs_shape q1 with ⟨i, t, e1, e2⟩ | ⟨x, t, e1, e2⟩
        · have r11 := r1.1
          dsimp only at r11 ⊢
          rw [e2, r11, e1]; exact .int i t
        · have r11 := r1.1
          dsimp only at r11 ⊢
          rw [e2, r11, e1]; exact .str x t
end
/-- repr of data, dicts in tuples too -/
def dReprX : DC := fun xs k => match xs with
  | [x] => (x.showOk = true ∧ x.py.shown.length ≤ sizeLine ∧ k (.str x.py.shown)) ∨ (x.okx = true ∧ x.px.showable = true ∧ x.px.depth ≤ 30 ∧ x.px.shown.length ≤ sizeLine ∧ k (.str x.px.shown))
  | _ => False
def rReprX : List V → Hp → VK → Prop := fun xs H Q => ∃ (v : V) (d : D) (S : Addr → Prop), xs = [v] ∧ Rep S H v d ∧ d.okx = true ∧ d.px.showable = true ∧ d.px.depth ≤ 30 ∧ d.px.shown.length ≤ sizeLine ∧ Q (.str d.px.shown) H
theorem cr_reprX {k : Nat} (hr : Room k X.A) (hg : X.A.guards = some []) : CallR X (.builtin "repr") rReprX := by
  intro pins s σ H xs us Q I r h
  obtain ⟨v, d, S, rfl, hd, h0, h1, h3, h4, q⟩ := h
  obtain ⟨u, rfl, ru⟩ := vals1 r
  obtain ⟨as, rd, hn⟩ := Rep.reads I hd h0 ru
  have asRef : ∀ a : Addr, v = .ref a → wpAny (model X.prog X.w) X.A (call (.builtin "repr") [u]) (EP X pins σ Q) X.xe s := fun a e => by
    subst e
    obtain rfl : u = Value.ref a := ru
    refine repr_of_reads' rd h1 (fun _ => hn) hg (by have := hr.un; omega) (fun b o e => e) (fun h' u tk hk => ?_) h4
    exact ⟨.str d.px.shown, H, I.kept (t' := tk) hk, ⟨u, rfl⟩, q⟩
  cases hd with
  | non =>
    obtain rfl : u = Value.none := ru
    exact PySem.P.repr_of_none ⟨.str _, H, I.tok _, ⟨_, rfl⟩, q⟩
  | bl b =>
    obtain rfl : u = Value.bool b := ru
    exact PySem.P.repr_of_bool ⟨.str _, H, I.tok _, ⟨_, by cases b <;> rfl⟩, q⟩
  | int i =>
    obtain ⟨t, rfl⟩ := ru
    exact PySem.P.repr_of_int (by simpa [D.px, PyData.showable] using h1) ⟨.str _, H, I.tok _, ⟨_, rfl⟩, q⟩
  | str z =>
    obtain ⟨t, rfl⟩ := ru
    exact PySem.P.repr_of_str ⟨.str _, H, I.tok _, ⟨_, rfl⟩, q⟩ h4
  | ref a => cases h0
  | lst _ _ _ => exact asRef _ rfl
  | tup _ _ => exact asRef _ rfl
  | dK _ _ _ => exact asRef _ rfl
  | dT _ _ _ => exact asRef _ rfl
theorem reprX_D {K : PySem.W.Frag} : CallD (fun xs H Q => rReprA K xs H Q ∨ rReprX xs H Q) dReprX := fun S H xs vs k Q hS r hf q => by
  unfold dReprX at hf
  split at hf
  · rename_i x
    rcases hf with ⟨h1, h2, h3⟩ | ⟨h1, h2, h3, h4, h5⟩
    · exact .inl (repr_D S H [x] vs k Q hS r ⟨h1, h2, h3⟩ q)
    · cases r with
      | cons r1 r2 =>
        cases r2
        exact .inr ⟨_, _, _, rfl, r1, h1, h2, h3, h4, q _ _ _ h5 (Same.refl _) (.str _)⟩
  · exact hf.elim
theorem pd_reprX {L : Wd} {k : Nat} {e : Expr} {es : List Expr} {p pos : Pos} {da : DA L} (hr : Room k X.A) (hgu : X.A.guards = some []) (hm : X.mg "repr" = none) (ha : PA X (e :: es) (TDA da)) (hg : Gl X "repr" := by rfl) (he : starEach (e :: es) X.env = (false, eval e X.env) :: starEach es X.env := by rfl) (hpl : (backTo pos (starEach es X.env)).any (·.1) = false := by rfl) : PE X (.Call (.Name "repr" p) (e :: es) [] pos) (TD (deCB dReprX da)) :=
  pd_B (CallR.or (cr_reprA hr hgu) (cr_reprX hr hgu)) reprX_D hg hm (by decide +kernel) ha (by decide) (by decide) he hpl
end
end Dl
set_option maxRecDepth 100000
set_option maxHeartbeats 1000000
namespace Dl
open PySem PySem.Spec PyProof.Rows L2
/-! ### a list of anything, held against [] -/
def rNilX (K : PySem.W.Frag) (k : Bool) : R2 := fun x y H Q => ∃ a b xs, x = .ref a ∧ y = .ref b ∧ SqL K H a xs ∧ SqL K H b [] ∧ xs ≠ [] ∧ Q (.bl k) H
section
variable {X : Cx}
theorem lists_of {pins : List (Addr × Obj)} {σ : L2.St} {H : Hp} {s : Shared} {a b : Addr} {xs : List V} (I : Inv X pins σ H s) (h1 : SqL X.K H a xs) (h2 : SqL X.K H b []) (n : xs ≠ []) : ∃ i j, s.heap.IsList a i ∧ s.heap.IsList b j ∧ (i.size != j.size) = true := by
  obtain ⟨its, rv, ⟨o, m, ho, hc, _, hd⟩, _⟩ := I.list h1
  obtain ⟨its2, rv2, ⟨o2, m2, ho2, hc2, _, hd2⟩, _⟩ := I.list h2
  refine ⟨_, _, ⟨_, ho, hc, _, hd⟩, ⟨_, ho2, hc2, _, hd2⟩, ?_⟩
  have l1 := rv.length
  have l2 := rv2.length
  have : 0 < xs.length := List.length_pos_iff.mpr n
  rw [List.length_nil] at l2
  simp
  omega
theorem op_eqNilX (hu : X.A.units + 64 < cLine) : OpR X (compareOp .Eq) (rNilX X.K false) := by
  intro pins s σ H x y v u Q I rx ry h
  obtain ⟨a, b, xs, rfl, rfl, h1, h2, n, q⟩ := h
  cases (show v = Value.ref a from rx)
  cases (show u = Value.ref b from ry)
  obtain ⟨i, j, hl, hb, hsz⟩ := lists_of I h1 h2 n
  exact SeqAt.RcAt.lists_lengths hl hb hsz (by omega) _ _ _ _ ⟨.bl _, H, I, rfl, q⟩
theorem op_neNilX (hu : X.A.units + 64 < cLine) : OpR X (compareOp .NotEq) (rNilX X.K true) := by
  intro pins s σ H x y v u Q I rx ry h
  obtain ⟨a, b, xs, rfl, rfl, h1, h2, n, q⟩ := h
  cases (show v = Value.ref a from rx)
  cases (show u = Value.ref b from ry)
  obtain ⟨i, j, hl, hb, hsz⟩ := lists_of I h1 h2 n
  exact SeqAt.RcNeAt.lists_lengths hl hb hsz (by omega) _ _ _ _ ⟨.bl _, H, I, rfl, q⟩
/-- ==, != with [] -/
def dEqX : DO := fun x y k => dEq x y k ∨ ∃ l, x = .lst l ∧ y = .lst [] ∧ l ≠ [] ∧ k (.bl false)
def dNeX : DO := fun x y k => dNe x y k ∨ ∃ l, x = .lst l ∧ y = .lst [] ∧ l ≠ [] ∧ k (.bl true)
theorem nil_D {K : PySem.W.Frag} {b : Bool} {S : Addr → Prop} {H : Hp} {x y : D} {u v : V} {k : D → Prop} {Q : VK} (hu : Rep S H u x) (hv : Rep S H v y) (h : ∃ l, x = .lst l ∧ y = .lst [] ∧ l ≠ [] ∧ k (.bl b)) (q : k (.bl b) → Q (.bl b) H) : rNilX K b u v H Q := by
  obtain ⟨l, rfl, rfl, n, hk⟩ := h
  cases hu with
  | lst e1 n1 r1 =>
    cases hv with
    | lst e2 n2 r2 =>
      cases r2
      refine ⟨_, _, _, rfl, rfl, SqL.of e1, SqL.of e2, fun z => ?_, q hk⟩
      subst z
      cases r1
      exact n rfl
theorem eqX_D {K : PySem.W.Frag} : OpD (fun x y H Q => rEqD K x y H Q ∨ rNilX K false x y H Q) dEqX := fun S H x y u v k Q hS hu hv h q => by
  rcases h with h | h
  · exact .inl (eq_D S H x y u v k Q hS hu hv h q)
  · exact .inr (nil_D hu hv h fun z => q _ _ _ z (Same.refl _) (.bl _))
theorem neX_D {K : PySem.W.Frag} : OpD (fun x y H Q => rNeD K x y H Q ∨ rNilX K true x y H Q) dNeX := fun S H x y u v k Q hS hu hv h q => by
  rcases h with h | h
  · exact .inl (ne_D S H x y u v k Q hS hu hv h q)
  · exact .inr (nil_D hu hv h fun z => q _ _ _ z (Same.refl _) (.bl _))
variable {L : Wd} {k : Nat} {a b : Expr} {da' db' : DE L} {pos : Pos}
theorem pd_eqX (hr : Room k X.A) (ha : PE X a (TD da')) (hb : PE X b (TD db')) : PE X (.Compare a [.Eq] [b] pos) (TD (deOp dEqX da' db')) := pd_cmp (OpR.or (op_eqD hr.units) (op_eqNilX hr.units)) eqX_D ha hb (nomark _)
theorem pd_neX (hr : Room k X.A) (ha : PE X a (TD da')) (hb : PE X b (TD db')) : PE X (.Compare a [.NotEq] [b] pos) (TD (deOp dNeX da' db')) := pd_cmp (OpR.or (op_neD hr.units) (op_neNilX hr.units)) neX_D ha hb (nomark _)
theorem pdt_eqX (hr : Room k X.A) (ha : PE X a (TD da')) (hb : PE X b (TD db')) : PT X (.Compare a [.Eq] [b] pos) (TDT (dtOf (deOp dEqX da' db'))) := ptI (pt_cmpR (OpR.or (op_eqD hr.units) (op_eqNilX hr.units)) ha hb (nomark _)) (TD_test (TD_op eqX_D))
theorem pdt_neX (hr : Room k X.A) (ha : PE X a (TD da')) (hb : PE X b (TD db')) : PT X (.Compare a [.NotEq] [b] pos) (TDT (dtOf (deOp dNeX da' db'))) := ptI (pt_cmpR (OpR.or (op_neD hr.units) (op_neNilX hr.units)) ha hb (nomark _)) (TD_test (TD_op neX_D))
end
/-- what they say -/
theorem Ev.eqX {L : Wd} {δ : DEnv} {w : L.W} {a b : DE L} {l : List D} (h : Ev a δ w (.lst l)) (h2 : Ev b δ w (.lst [])) : Ev (deOp dEqX a b) δ w (.bl l.isEmpty) := by
  cases l with
  | nil => exact Ev.op h h2 fun k q => .inl ⟨rfl, rfl, q⟩
  | cons d l => exact Ev.op h h2 fun k q => .inr ⟨_, rfl, rfl, List.cons_ne_nil _ _, q⟩
theorem Ev.neX {L : Wd} {δ : DEnv} {w : L.W} {a b : DE L} {l : List D} (h : Ev a δ w (.lst l)) (h2 : Ev b δ w (.lst [])) : Ev (deOp dNeX a b) δ w (.bl (!l.isEmpty)) := by
  cases l with
  | nil => exact Ev.op h h2 fun k q => .inl ⟨rfl, rfl, q⟩
  | cons d l => exact Ev.op h h2 fun k q => .inr ⟨_, rfl, rfl, List.cons_ne_nil _ _, q⟩
end Dl
set_option maxRecDepth 100000
set_option maxHeartbeats 2000000
namespace Dl
open PySem PySem.Spec PyProof.Rows L2
/-! ### enumerate of a tuple -/
abbrev tupIt (a : Addr) : Obj := { cls := .type "tuple_iterator", data := .fields #[.ref a, .int 0 0] }
abbrev enmOf (i : Addr) : Obj := { cls := .type "enumerate", data := .fields #[.none, .bool false, .ref i, rawInt 0, .none, .none] }
theorem enum_tup_new (a : Addr) (its : Array Value) : Meets (Builtin.«enumerate.__new__» ⟨[.type "enumerate", .ref a], []⟩) (fun _ R s => s.heap.IsTuple a its ∧ R (.ok (.ret (.ref (s.heap.push (tupIt a)).objs.size))) { s with heap := (s.heap.push (tupIt a)).push (enmOf s.heap.objs.size) }) :=
  .of_wp fun prog w A R s hyp => by
    obtain ⟨hp, g, d, tk, os⟩ := s; obtain ⟨tup, q⟩ := hyp
    have sub := sub_enumerate
    have itr : ∀ {B : Around} {E Q : Value → Shared → Prop}, Q (.ref hp.objs.size) ⟨hp.push (tupIt a), g, d, tk, os⟩ → wpAny (model prog w) B (pyIter (.ref a)) Q E ⟨hp, g, d, tk, os⟩ := fun z => wpAny_pyIter_tuple (s := ⟨hp, g, d, tk, os⟩) tup z
    wp_walk using itr
    apply wpAny_stack_any; intro stk; apply wpAny_pure
    split <;> first
      | (wp_walk using itr; exact ⟨_, rfl, q⟩)
      | (rename_i c _ _ _ _ _; cases (c == Value.type "enumerate") <;> (wp_walk using itr; exact ⟨_, rfl, q⟩))
section
variable {prog : Program} {w : World} {A : Around} {E : Value → Shared → Prop} {s : Shared}
theorem enum_tup_call {a : Addr} {its : Array Value} {Q : Value → Shared → Prop} (tup : s.heap.IsTuple a its)
    (h : ∀ h', IsEnum h' (s.heap.objs.size + 1) s.heap.objs.size 0 .none → h'.IsTupleIter s.heap.objs.size a 0 → (∀ b o, s.heap.get? b = some o → h'.get? b = some o) → Q (.ref (s.heap.objs.size + 1)) { s with heap := h' }) : wpAny (model prog w) A (call (.type "enumerate") [.ref a]) Q E s := by
  refine callType_new F.called_enumerate (by decide) (F.typeCall_enumerate_1 _) (F.newCall_enumerate_1 _) (fun obj => F.args_object_init_2 obj _) F.entry_enumerate_new (enum_tup_new a its) ⟨tup, ?_⟩
  have sz1 : (s.heap.push (tupIt a)).objs.size = s.heap.objs.size + 1 := Heap.size_push ..
  have top := Heap.get?_push_size (s.heap.push (tupIt a)) (o := enmOf s.heap.objs.size) rfl
  rw [sz1] at top
  show _ ∧ _
  rw [sz1]
  exact ⟨⟨_, top, rfl⟩, h _ top ⟨_, Heap.get?_push_of_some _ (Heap.get?_push_size _ rfl), rfl, rfl⟩ fun b o z => Heap.get?_push_of_some _ (Heap.get?_push_of_some _ z)⟩
end
def IteT (K : PySem.W.Frag) (a : Addr) : It :=
  ⟨fun i H => ∃ (xs : List V) (x : V), SqT K H a xs ∧ xs[i]? = some x, fun i H v H' => ∃ T x, v = .ref T ∧ H T = none ∧ H' = upd H T (.tup [.int (i : Nat), x]) ∧ ∀ xs, SqT K H a xs → xs[i]? = some x, fun i H => ∃ xs : List V, SqT K H a xs ∧ xs.length = i⟩
theorem turn_enumT {P : Program} {w : World} {K : PySem.W.Frag} {elts : List Expr} {kk : Nat} {tpos : Pos} (a e it : Addr) :
    Turn P w K (.Tuple elts kk tpos) (IteT K a) [e, it] e (fun i h => (∃ old, IsEnum h e it ((i : Nat) : Int) old) ∧ h.IsTupleIter it a i ∧ e ≠ it) where
  mem := List.mem_cons_self ..
  obj := fun i h ⟨⟨old, he⟩, ⟨o, ho, hc, hd⟩, _⟩ b hb => by
    rcases List.mem_cons.mp hb with z | z
    · rw [z]; exact ⟨_, he, fun v q => nomatch q⟩
    · rw [List.mem_singleton.mp z]; exact ⟨o, ho, fun v q => by rw [hd] at q; cases q⟩
  keep := fun i h h' ⟨⟨old, he⟩, ht, ne⟩ k => ⟨⟨old, k e (by simp) _ he⟩, ht.at fun o q => k it (by simp) o q, ne⟩
  item := by
    intro X hP hw hK hc i pins s σ H E I hf st hg
    subst hP hw hK
    obtain ⟨⟨old, he⟩, hit, hne⟩ := st
    obtain ⟨xs, x, hq, hx⟩ := hg
    obtain ⟨its, rv, p, _⟩ := I.tuple hq
    obtain ⟨u, hu, ru⟩ := rv.get hx
    have tup : s.heap.IsTuple a its.toArray := p
    have hel : e < s.heap.objs.size := Heap.lt_size he
    have hil : it < s.heap.objs.size := by obtain ⟨_, q, _⟩ := hit; exact Heap.lt_size q
    have nea : a ≠ e := fun z => by
      obtain ⟨o, ho, ht, _⟩ := tup
      rw [z, he] at ho
      cases ho
      exact absurd (Value.type.inj ht) (by decide)
    have neb : a ≠ it := fun z => by
      obtain ⟨o, ho, ht, _⟩ := tup
      obtain ⟨o2, ho2, ht2, _⟩ := hit
      rw [z, ho2] at ho
      cases ho
      rw [ht2] at ht
      exact absurd (Value.type.inj ht) (by decide)
    have hd0 : X.A.in1.handled = none := I.ok.hd hc
    refine wpAny_pyNext_enum_itemD (Draws.tuple hd0 it a neb its.toArray) he ⟨hit, tup⟩ (by have := (List.getElem?_eq_some_iff.mp hu).1; simpa using this) hne (by simp; exact ⟨hne, Ne.symm nea⟩) fun y h' tk hy ho hst hT hsz hk => ?_
    have ey : y = u := by
      have z : its[i]? = some y := by simpa using hy
      rw [hu] at z
      exact (Option.some.inj z).symm
    subst ey
    refine ⟨_, rfl, wpAny_letOwnedTupleGo_enum (s := { s with heap := h', toks := tk + 1 }) ho fun h'' he' sb => ?_⟩
    have hT2 : h''.get? s.heap.objs.size = some { cls := .type "tuple", data := .seq #[.int i tk, y] } := (sb.2 _ (Nat.ne_of_gt hel)).trans hT
    have new : ObjOk X.prog X.w (upd H s.heap.objs.size (.tup [.int (i : Nat), x])) h'' s.heap.objs.size (.tup [.int (i : Nat), x]) := ⟨by show 2 ≤ sizeLine; rw [sizeLine_eq]; decide, [.int i tk, y], .cons ⟨_, rfl⟩ (.cons ru .nil), ⟨_, hT2, rfl, _, rfl⟩⟩
    have I1 : Inv X pins σ (upd H s.heap.objs.size (.tup [.int (i : Nat), x])) { s with heap := h'', toks := tk + 1 } :=
      I.turnedNew (ch := [e, it]) (fun b ob hb q => (sb.2 b fun z => hb (by simp [z])).trans (hk b ob (fun z => hb (by simp [z])) (fun z => hb (by simp [z])) q)) hf (Nat.le_refl _) new
    refine ⟨.ref s.heap.objs.size, _, I1, rfl, ⟨_, x, rfl, I.hok.fresh (Nat.le_refl _), rfl, fun ys hy => I.tuple_inj hy hq ▸ hx⟩, ⟨⟨y, ?_⟩, hst.1.at fun o q => (sb.2 it (Ne.symm hne)).trans q, hne⟩, fun b hb => ?_⟩
    · rw [show ((i + 1 : Nat) : Int) = (i : Int) + 1 by omega]; exact he'
    · have hb' : b < s.heap.objs.size := by
        rcases List.mem_cons.mp hb with z | z
        · rw [z]; exact hel
        · rw [List.mem_singleton.mp z]; exact hil
      rw [upd_ne (Nat.ne_of_lt hb')]
      exact (hf b hb).1
  done := by
    intro X hP hw hK hc i pins s σ H E I hf st hg
    subst hP hw hK
    obtain ⟨⟨old, he⟩, hit, hne⟩ := st
    obtain ⟨xs, hq, hx⟩ := hg
    obtain ⟨its, rv, p, _⟩ := I.tuple hq
    have tup : s.heap.IsTuple a its.toArray := p
    have neb : a ≠ it := fun z => by
      obtain ⟨o, ho, ht, _⟩ := tup
      obtain ⟨o2, ho2, ht2, _⟩ := hit
      rw [z, ho2] at ho
      cases ho
      rw [ht2] at ht
      exact absurd (Value.type.inj ht) (by decide)
    have hd0 : X.A.in1.handled = none := I.ok.hd hc
    have hi : its.toArray.size = i := by rw [← hx, List.size_toArray]; exact rv.length.symm
    obtain ⟨f0, f1, f2, f3, f4, f5⟩ := hf it (by simp)
    exact wpAny_pyNext_enum_endD (Draws.tuple hd0 it a neb its.toArray) he ⟨hi ▸ hit, tup⟩ fun h' eb => ⟨rfl, I.turned (t' := s.toks) (fun b o hb q => eb b o hb q) f0 f1 f3 f4 f5⟩
  self := fun A i s Q E ⟨⟨_, he⟩, _⟩ h => wpAny_pyIter_enum he h
def iEnumT (K : PySem.W.Frag) (ta : TA) : TI := fun σ H R => ta σ H fun vs H1 => ∃ a xs, vs = [.ref a] ∧ SqT K H1 a xs ∧ R (IteT K a) H1
theorem pi_enumT {X : Cx} {e : Expr} {ta : TA} {p pos tpos : Pos} {elts : List Expr} {kk : Nat} (hg : Gl X "enumerate") (hm : X.mg "enumerate" = none) (ha : PA X [e] ta) (hs : starEach [e] X.env = [(false, eval e X.env)] := by rfl) :
    PI X (.Tuple elts kk tpos) (.Call (.Name "enumerate" p) [e] [] pos) (iEnumT X.K ta) := by
  refine ⟨fun pins s σ H R I h => Call_ (ld_blt I hg hm boot_enumerate (PyProof.Rows.callWith_type1 (thn (ha.run pos pins s σ H _ I h) fun us s1 ⟨vs, H1, I1, r1, a, xs, ex, hq, q⟩ => ?_) hs rfl))⟩
  subst ex
  cases r1 with
  | cons r rr =>
    cases rr
    cases r
    obtain ⟨its, rv, p', _⟩ := I1.tuple hq
    refine enum_tup_call (its := its.toArray) p' fun h' he hit hk => wpAny_pyIter_enum he ?_
    have I2 : Inv X pins σ H1 { s1 with heap := h' } := I1.kept (t' := s1.toks) hk
    refine ⟨s1.heap.objs.size + 1, [s1.heap.objs.size + 1, s1.heap.objs.size], _, _, H1, rfl, I2, turn_enumT a (s1.heap.objs.size + 1) s1.heap.objs.size, ⟨⟨.none, he⟩, hit, Nat.succ_ne_self _⟩, fun b hb => ?_, q⟩
    have hle : s1.heap.objs.size ≤ b := by
      rcases List.mem_cons.mp hb with z | z
      · rw [z]; exact Nat.le_succ _
      · rw [List.mem_singleton.mp z]; exact Nat.le_refl _
    exact I1.fpOk hle (I1.hok.fresh hle)
theorem walk_enumT {K : PySem.W.Frag} {S : Addr → Prop} {H : Hp} {a : Addr} {vs : List V} {ds : List D} (e : H a = some (.tup vs)) (r : RepL S H vs ds) : Walk (IteT K a) S H (numbered ds) where
  stop := fun S' H' s => ⟨vs, SqT.of (s.tup a _ e), by rw [r.length, numbered_length]⟩
  go := fun i S' H' hi s => ⟨vs, vs[i]'(by rw [r.length, ← numbered_length]; exact hi), SqT.of (s.tup a _ e), List.getElem?_eq_getElem _⟩
  yld := fun i S' H' v H'' hi s hS ⟨T, x, h1, h2, h3, h4⟩ => by
    subst h1 h3
    obtain ⟨y, hy, ry⟩ := r.get' (h4 vs (SqT.of (s.tup a _ e)))
    have sm : Same H' (upd H' T (.tup [.int (i : Nat), x])) := same_new h2
    exact ⟨_, numbered_get hy, sm, .tup upd_same (.cons (.int _) (.cons ((ry.go s).go (Step.same sm)) .nil))⟩
section
variable {L : Wd} {X : Cx} {e : Expr} {d : DE L}
def diEnumT (d : DE L) : DA L := fun δ w Q => d δ w fun x δ' w' => match x with
  | .tup l => Q (numbered l) δ' w'
  | _ => False
theorem pdi_enumT {p pos tpos : Pos} {elts : List Expr} {kk : Nat} (hg : Gl X "enumerate") (hm : X.mg "enumerate" = none) (h : PE X e (TD d)) (hs : starEach [e] X.env = (false, eval e X.env) :: starEach [] X.env := by rfl) (hs2 : starEach [e] X.env = [(false, eval e X.env)] := by rfl) :
    PI X (.Tuple elts kk tpos) (.Call (.Name "enumerate" p) [e] [] pos) (TDI (diEnumT d)) := by
  refine piI (pi_enumT hg hm (pa_cons h pa_nil hs) hs2) fun σ H R ⟨Φ, δ, w, R', A, hd, q⟩ => ⟨Φ, δ, w, _, A, hd, fun x δ' w' v H' hx A' s r => ?_⟩
  split at hx
  · cases r with
    | tup e1 rl => exact ⟨_, _, rfl, SqT.of e1, q _ _ _ _ _ hx A' s (walk_enumT e1 rl)⟩
  · exact hx.elim
end
end Dl
set_option maxRecDepth 100000
set_option maxHeartbeats 4000000
namespace Ws
open PySem PySem.Spec PyProof.Rows L2

/-! ### a set whose members are tuples, of items of any one kind -/
section
variable {P : Program} {w : World} {T : Type} [DecidableEq T] {kd : KeyKind P w T} {A : Around} {E : Value → Shared → Prop} {s : Shared}

/-- items that a look at two of them does not show -/
def Quiet (kd : KeyKind P w T) : Prop := ∀ k v, kd.is k v = true → (∀ n, ofAClassStatement n v = pure false) ∧ ∀ n, ∃ c, hashByValue n v = pure c
theorem quiet_all (q : Quiet kd) {ks : List T} {us : List Value} (i : ItemsAre kd ks us) : ∀ v ∈ us, (∀ n, ofAClassStatement n v = pure false) ∧ ∀ n, ∃ c, hashByValue n v = pure c := by
  induction i with
  | nil => exact fun v z => nomatch z
  | cons y _ ih => exact fun v z => (List.mem_cons.mp z).elim (fun e => e ▸ q _ _ y) (ih v)
/-- the tuple at b has the items ks -/
abbrev Tk (kd : KeyKind P w T) (g : Heap) (ks : List T) (b : Addr) : Prop := IsTupleKey kd g ks b
theorem Tk.on {g g' : Heap} {ks : List T} {b : Addr} (x : Tk kd g ks b) (k : ∀ o, g.get? b = some o → g'.get? b = some o) : Tk kd g' ks b :=
  let ⟨o, i, n, y, r⟩ := x; ⟨o, i, n, k o y, r⟩

theorem class_no (q : Quiet kd) {ks : List T} {b : Addr} {Q : Bool → Shared → Prop} (x : Tk kd s.heap ks b) (fin : Q false s) : wpAny (model P w) A (ofAClassStatement 8 (.ref b)) Q E s := by
  have ty := x.typeIs
  obtain ⟨ob, its, cnt, y1, _, y3, y4⟩ := x
  have qs := quiet_all q y4
  unfold ofAClassStatement
  refine wpAny_bind (wpAny_typeOf ty ?_)
  dsimp only
  have tt : (("tuple" : String) == "tuple") = true := by decide
  simp only [tt, if_true, Bool.not_true, Bool.false_eq_true, if_false]
  try refine wpAny_bind (wpAny_pure ?_)
  try simp only [Bool.not_true, Bool.false_eq_true, if_false]
  show wpAny _ _ (seqItems? (.ref b) >>= _) _ _ s
  refine wpAny_bind (wpAny_seqItems y1 y3 ?_)
  dsimp only
  refine wpAny_bind ?_
  show wpAny _ _ (forIn its _ _) _ _ s
  rw [← Array.forIn_toList]
  refine wpAny_forIn_list _ (fun todo r s2 => r.1 = none ∧ s2 = s ∧ ∀ v ∈ todo, ∀ n, ofAClassStatement n v = pure false) _ ?_ ?_ _ _ ⟨rfl, rfl, fun v z => (qs v z).1⟩
  · rintro v todo r s2 ⟨r0, rfl, al⟩
    rw [al v List.mem_cons_self]
    refine wpAny_bind (wpAny_pure ?_)
    simp only [Bool.false_eq_true, if_false]
    exact wpAny_pure ⟨rfl, rfl, fun u z => al u (List.mem_cons_of_mem _ z)⟩
  · rintro ⟨r1, r2⟩ s2 ⟨r0, rfl, _⟩
    simp only at r0
    subst r0
    exact wpAny_pure fin
theorem hash_any (q : Quiet kd) {ks : List T} {b : Addr} {Q : Bool → Shared → Prop} (x : Tk kd s.heap ks b) (fin : ∀ c, Q c s) : wpAny (model P w) A (hashByValue 8 (.ref b)) Q E s := by
  have ty := x.typeIs
  obtain ⟨ob, its, cnt, y1, _, y3, y4⟩ := x
  have qs := quiet_all q y4
  unfold hashByValue
  refine wpAny_bind (wpAny_specialOf ty F.slot_tuple_hash.lookup ?_)
  show wpAny _ _ (seqItems? (.ref b) >>= _) _ _ s
  refine wpAny_bind (wpAny_seqItems y1 y3 ?_)
  refine wpAny_bind ?_
  show wpAny _ _ (forIn its _ _) _ _ s
  rw [← Array.forIn_toList]
  refine wpAny_forIn_list _ (fun todo r s2 => r.1 = none ∧ s2 = s ∧ ∀ v ∈ todo, ∀ n, ∃ c, hashByValue n v = pure c) _ ?_ ?_ _ _ ⟨rfl, rfl, fun v z => (qs v z).2⟩
  · rintro v todo r s2 ⟨r0, rfl, al⟩
    obtain ⟨c, e⟩ := al v List.mem_cons_self 7
    rw [e]
    refine wpAny_bind (wpAny_pure ?_)
    cases c with
    | true =>
      simp only [Bool.not_true, Bool.false_eq_true, if_false]
      exact wpAny_pure ⟨rfl, rfl, fun u z => al u (List.mem_cons_of_mem _ z)⟩
    | false =>
      simp only [Bool.not_false, if_true]
      exact wpAny_pure (wpAny_pure (fin false))
  · rintro ⟨r1, r2⟩ s2 ⟨r0, rfl, _⟩
    simp only at r0
    subst r0
    exact wpAny_pure (fin true)
theorem unseen (q : Quiet kd) {ks : List T} {b : Addr} {Q : Bool → Shared → Prop} (x : Tk kd s.heap ks b) {us : List Value} (hy : ∀ u ∈ us, ∃ k2 c, u = Value.ref c ∧ Tk kd s.heap k2 c) (fin : Q false s) :
    wpAny (model P w) A (searchCouldBeSeen (.ref b) us) Q E s := by
  unfold searchCouldBeSeen
  refine wpAny_bind ?_
  refine wpAny_forIn_list _ (fun todo r s2 => r.1 = none ∧ s2 = s ∧ ∀ u ∈ todo, ∃ k2 c, u = Value.ref c ∧ Tk kd s.heap k2 c) _ ?_ ?_ _ _ ⟨rfl, rfl, hy⟩
  · rintro v todo r s2 ⟨r0, rfl, al⟩
    obtain ⟨k2, c, rfl, xc⟩ := al v List.mem_cons_self
    have al2 : ∀ u ∈ todo, ∃ k2 c, u = Value.ref c ∧ Tk kd s2.heap k2 c := fun u z => al u (List.mem_cons_of_mem _ z)
    dsimp only
    by_cases cc : (b == c || (carriedByValue (.ref b) && carriedByValue (.ref c))) = true
    · exact wp_if_pos cc (wpAny_pure ⟨rfl, rfl, al2⟩)
    · refine wp_if_neg cc ?_
      refine wpAny_bind (wpAny_eqIsQuiet_tuple x ?_)
      simp only [Bool.not_true, Bool.false_eq_true, if_false]
      refine wpAny_bind (wpAny_eqIsQuiet_tuple xc ?_)
      simp only [Bool.not_true, Bool.false_eq_true, if_false]
      refine wpAny_bind (class_no q x ?_)
      simp only [Bool.false_eq_true, if_false]
      refine wpAny_bind (class_no q xc ?_)
      simp only [Bool.false_eq_true, if_false]
      exact wpAny_pure ⟨rfl, rfl, al2⟩
  · rintro ⟨r1, r2⟩ s2 ⟨r0, rfl, _⟩
    simp only at r0
    subst r0
    exact wpAny_pure fin

/-! ### the bag: what a set object holds -/
abbrev Row (T : Type) := Addr × List T
def ents (kd : KeyKind P w T) (M : List (Row T)) : List (Int × Value) := M.map fun m => (tupleKeyHash kd m.2, Value.ref m.1)
theorem ents_len {M : List (Row T)} {arr : Array (Int × Value)} (e : arr.toList = ents kd M) : arr.size = M.length := by
  rw [← Array.length_toList, e]
  exact List.length_map _
theorem ents_get {M : List (Row T)} {arr : Array (Int × Value)} (e : arr.toList = ents kd M) {i : Nat} {m : Row T} (hm : M[i]? = some m) : arr[i]? = some (tupleKeyHash kd m.2, Value.ref m.1) := by
  rw [← Array.getElem?_toList, e]
  show (M.map _)[i]? = _
  rw [List.getElem?_map, hm]
  rfl
structure Bag (kd : KeyKind P w T) (g : Heap) (z : Addr) (M : List (Row T)) (arr : Array (Int × Value)) (ep : Nat) (tb : SetTable) : Prop where
  obj : ∃ o, g.get? z = some o ∧ o.ExactSet ∧ o.data = .set arr ep tb
  ent : arr.toList = ents kd M
  tab : TabOk tb (M.map fun m => tupleKeyHash kd m.2)
  dist : (M.map Prod.snd).Nodup
  key : ∀ m ∈ M, Tk kd g m.2 m.1
  led : w.params.followText "set-order" = true ∨ tb.led = true
  gap : M.length * 5 < tb.mask * 3
  few : M.length < 64
variable {z : Addr} {M : List (Row T)} {arr : Array (Int × Value)} {ep : Nat} {tb : SetTable}
theorem fits_of (a1 : tb.place.size = arr.size) (a2 : tb.dummies = #[]) (a3 : arr.size ≤ tb.mask) : tb.fits arr.size = true := by
  unfold SetTable.fits SetTable.fill
  rw [a2, Bool.and_eq_true, beq_iff_eq, decide_eq_true_eq]
  exact ⟨a1, by show tb.place.size + 0 ≤ tb.mask; omega⟩
theorem Bag.psz (B : Bag kd s.heap z M arr ep tb) : tb.place.size = M.length := by
  have y := B.tab.sz
  rwa [List.length_map] at y
theorem Bag.fit (B : Bag kd s.heap z M arr ep tb) : tb.fits arr.size = true := by
  have y1 := B.psz
  have y2 := ents_len B.ent
  have y3 := B.gap
  exact fits_of (by omega) B.tab.dm (by omega)
theorem Bag.kept {g g' : Heap} (B : Bag kd g z M arr ep tb) (a : ∀ o, g.get? z = some o → g'.get? z = some o) (b : ∀ m ∈ M, Tk kd g' m.2 m.1) : Bag kd g' z M arr ep tb :=
  let ⟨o, y, r⟩ := B.obj; ⟨⟨o, a o y, r⟩, B.ent, B.tab, B.dist, b, B.led, B.gap, B.few⟩
abbrev hAt (arr : Array (Int × Value)) : Nat → Int := fun i => (arr[i]?.map (·.1)).getD 0
/-- the way of a search for k, from its first step on -/
abbrev path (tb : SetTable) (hk : Int) (c : Nat) : SetTable.Probe := nth tb.mask (runAt tb.mask (SetTable.bits hk % (tb.mask + 1)) (SetTable.bits hk)) c
theorem path_more (tb : SetTable) (hk : Int) (c q : Nat) : nth tb.mask (path tb hk c) q = path tb hk (c + q) := (nth_add tb.mask c _ q).symm
theorem path_clean (tb : SetTable) (hk : Int) (c : Nat) : (path tb hk c).dummy = none := by
  have key : ∀ (n : Nat) (p : SetTable.Probe), p.dummy = none → (nth tb.mask p n).dummy = none := by
    intro n
    induction n with
    | zero => exact fun p h => h
    | succ n ih =>
      refine fun p h => ih (adv tb.mask p) ?_
      unfold adv
      split
      · exact h
      · exact h
  exact key c _ rfl
/-- the search: K is the first empty place of the way -/
theorem seek (q : Quiet kd) (B : Bag kd s.heap z M arr ep tb) {x : Addr} {k : List T} (hx : Tk kd s.heap k x) (hu : A.units < cLine) {K : Nat} (k1 : K < 10 * SetTable.turns tb.mask)
    (k2 : way tb.mask (tupleKeyHash kd k) K ∉ tb.place.toList) (k3 : ∀ c, c < K → way tb.mask (tupleKeyHash kd k) c ∈ tb.place.toList) {Q : SetFound → Shared → Prop}
    (yes : k ∈ M.map Prod.snd → Q (.there none) s) (no : k ∉ M.map Prod.snd → Q (.free (way tb.mask (tupleKeyHash kd k) K) false) s) (fuel : Nat) :
    ∀ (c : Nat) (from? : Option SetTable.Probe), from?.getD (tb.probeStart (tupleKeyHash kd k)) = path tb (tupleKeyHash kd k) c → c ≤ K → K - c < fuel →
      (∀ (i : Nat) m, M[i]? = some m → m.2 = k → ∃ d, c ≤ d ∧ d < K ∧ tb.place.toList[i]? = some (way tb.mask (tupleKeyHash kd k) d)) →
      wpAny (model P w) A (setSearchFrom z (.ref x) (tupleKeyHash kd k) true fuel from?) Q E s := by
  induction fuel with
  | zero => exact fun c _ _ _ lt _ => absurd lt (Nat.not_lt_zero _)
  | succ fuel ih =>
    intro c from? hst hc lt left
    obtain ⟨o, ho, hex, hd⟩ := B.obj
    generalize hkk : tupleKeyHash kd k = hk at k2 k3 yes no ih hst left ⊢
    rw [setSearchFrom_succ]
    refine wpAny_bind (wpAny_setState_of ho hd B.fit ?_)
    dsimp only
    have notGave : ¬ tb.gaveWay = true := by
      unfold SetTable.gaveWay
      rw [mask_odd B.tab.mok]
      decide
    refine wp_if_neg notGave ?_
    try refine wpAny_bind (wpAny_pure ?_)
    have pj : ∀ n, (nth tb.mask (path tb hk c) n).j = way tb.mask hk (c + n) := fun n => congrArg SetTable.Probe.j (path_more tb hk c n)
    have ha : ∀ (i : Nat) m, M[i]? = some m → (hAt arr) i = tupleKeyHash kd m.2 := fun i m y => by
      show (arr[i]?.map (·.1)).getD 0 = _
      rw [ents_get B.ent y]
      rfl
    -- what would have been met before n is not k's
    have miss : ∀ n, (∀ k' i', k' < n → tb.place.toList[i']? = some (nth tb.mask (path tb hk c) k').j → (hAt arr) i' ≠ hk) → ∀ (i : Nat) m, M[i]? = some m → m.2 = k → ∃ d, c + n ≤ d ∧ d < K ∧ tb.place.toList[i]? = some (way tb.mask hk d) := fun n hno i m y ek => by
      obtain ⟨d, d1, d2, d3⟩ := left i m y ek
      refine ⟨d, ?_, d2, d3⟩
      rcases Nat.lt_or_ge d (c + n) with u | u
      · refine absurd ((ha i m y).trans (by rw [ek]; exact hkk)) (hno (d - c) i (by omega) ?_)
        rw [pj, show c + (d - c) = d by omega]
        exact d3
      · exact u
    rcases go_spec tb B.tab.ris B.tab.dm (hAt arr) hk (10 * SetTable.turns tb.mask) (K - c) _ (path_clean tb hk c) (by omega) (fun n hn => by rw [pj]; exact k3 _ (by omega)) (by rw [pj, show c + (K - c) = K by omega]; exact k2) with ⟨n, i, n1, n2, n3, n4, n5⟩ | ⟨n1, n2⟩
    · -- one of equal hash
      rw [pj] at n2 n5
      rw [path_more] at n5
      have got : tb.probe (hAt arr) hk (from?.getD (tb.probeStart hk)) = some (.candidate (way tb.mask hk (c + n)) i (path tb hk (c + (n + 1)))) := by
        rw [hst]
        exact n5
      rw [got]
      dsimp only
      have il : i < M.length := by
        have u := (List.getElem?_eq_some_iff.mp n2).1
        have v := B.psz
        rw [Array.length_toList] at u
        omega
      obtain ⟨m, hm⟩ : ∃ m, M[i]? = some m := ⟨_, List.getElem?_eq_getElem il⟩
      have mem : m ∈ M := List.mem_of_getElem? hm
      have later := miss n n4
      have rest : wpAny (model P w) A (searchRest z (.ref x) hk true fuel arr tb (way tb.mask hk (c + n)) i (path tb hk (c + (n + 1)))) Q E s := by
        unfold searchRest
        rw [ents_get B.ent hm]
        dsimp only
        refine wpAny_bind (wpAny_holding (wpAny_eqBool_tuple hu (B.key m mem) hx ?_))
        refine wpAny_bind (wpAny_setState_of ho hd B.fit ?_)
        dsimp only
        by_cases ek : m.2 = k
        · refine wp_if_pos (by simp [ek]) (wpAny_pure (yes (List.mem_map.mpr ⟨m, mem, ek⟩)))
        · refine wp_if_neg (by simp [ek]) ?_
          try refine wpAny_bind (wpAny_pure ?_)
          rw [sameMem]
          dsimp only
          have live : tb.slot (way tb.mask hk (c + n)) = .live i := slot_live B.tab.ris n2
          simp only [if_true, live, ents_get B.ent hm]
          refine wpAny_bind (wpAny_isSame_ref_self (wpAny_bind (wpAny_pure ?_)))
          simp only [if_true]
          refine wp_if_neg (by simp [ek]) ?_
          refine ih (c + (n + 1)) _ rfl (by omega) (by omega) fun i0 m0 y0 e0 => ?_
          obtain ⟨d, d1, d2, d3⟩ := later i0 m0 y0 e0
          refine ⟨d, ?_, d2, d3⟩
          rcases Nat.lt_or_ge (c + n) d with u | u
          · omega
          · have ed : d = c + n := Nat.le_antisymm u d1
            rw [ed] at d3
            have live0 := slot_live B.tab.ris d3
            rw [live] at live0
            injection live0 with live0
            rw [← live0, hm] at y0
            cases y0
            exact absurd e0 ek
      cases hl : tb.led with
      | true =>
        refine wp_if_neg (by simp) ?_
        try refine wpAny_bind (wpAny_pure ?_)
        exact rest
      | false =>
        refine wp_if_pos (by simp) ?_
        refine wpAny_bind (unseen q hx (fun u hu => ?_) ?_)
        · obtain ⟨e, he, rfl⟩ := List.mem_map.mp hu
          have he : e ∈ arr.toList := by
            have y : e ∈ arr ∧ e.1 = hk := by simpa using he
            simpa using y.1
          rw [B.ent] at he
          obtain ⟨m2, hm2, rfl⟩ := List.mem_map.mp he
          exact ⟨m2.2, m2.1, rfl, B.key m2 hm2⟩
        · refine wp_if_neg (by decide) ?_
          try refine wpAny_bind (wpAny_pure ?_)
          exact rest
    · -- an empty place
      have got : tb.probe (hAt arr) hk (from?.getD (tb.probeStart hk)) = some (.empty (way tb.mask hk K) none) := by
        rw [hst, ← show c + (K - c) = K by omega, ← pj]
        exact n2
      rw [got]
      dsimp only
      refine wpAny_pure (no fun hm => ?_)
      obtain ⟨m, mem, ek⟩ := List.mem_map.mp hm
      obtain ⟨i, hi⟩ := List.getElem?_of_mem mem
      obtain ⟨d, d1, d2, d3⟩ := miss (K - c) n1 i m hi ek
      omega
theorem seek0 (q : Quiet kd) (B : Bag kd s.heap z M arr ep tb) {x : Addr} {k : List T} (hx : Tk kd s.heap k x) (hu : A.units < cLine) {Q : SetFound → Shared → Prop}
    (yes : k ∈ M.map Prod.snd → Q (.there none) s)
    (no : ∀ K, k ∉ M.map Prod.snd → way tb.mask (tupleKeyHash kd k) K ∉ tb.place.toList → (∀ c, c < K → way tb.mask (tupleKeyHash kd k) c ∈ tb.place.toList) → Q (.free (way tb.mask (tupleKeyHash kd k) K) false) s) :
    wpAny (model P w) A (setSearch z (.ref x) (tupleKeyHash kd k) true) Q E s := by
  have gap := B.gap
  obtain ⟨K, k1, k2, k3⟩ := B.tab.first (by rw [List.length_map]; omega) (tupleKeyHash kd k)
  have small : 10 * SetTable.turns tb.mask ≤ 1420 := by
    unfold SetTable.turns
    rcases B.tab.mok with e | e | e
    · omega
    · omega
    · omega
  unfold setSearch
  refine seek q B hx hu k1 k2 k3 yes (fun n => no K n k2 k3) 100000 0 none rfl (Nat.zero_le _) (by omega) fun i m hm ek => ?_
  have y1 : (M.map fun m => tupleKeyHash kd m.2)[i]? = some (tupleKeyHash kd k) := by
    rw [List.getElem?_map, hm, ← ek]
    rfl
  have il : i < tb.place.toList.length := by
    have u := (List.getElem?_eq_some_iff.mp hm).1
    rw [Array.length_toList, B.psz]
    exact u
  obtain ⟨d, d1, d2⟩ := B.tab.before k2 y1 (List.getElem?_eq_getElem il)
  exact ⟨d, Nat.zero_le _, d1, by rw [List.getElem?_eq_getElem il, d2]⟩
end
end Ws
set_option maxRecDepth 100000
set_option maxHeartbeats 4000000
namespace Ws
open PySem PySem.Spec PyProof.Rows L2

section
variable {P : Program} {w : World} {T : Type} [DecidableEq T] {kd : KeyKind P w T} {A : Around} {E : Value → Shared → Prop} {s : Shared}
variable {z : Addr} {M : List (Row T)} {arr : Array (Int × Value)} {ep : Nat} {tb : SetTable}
/-- a tuple is another object than the set -/
theorem Tk.off {g g' : Heap} {k : List T} {b : Addr} {o : Obj} (x : Tk kd g k b) (ho : g.get? z = some o) (hd : o.data = .set arr ep tb) (sb : Heap.SameBut z g g') : Tk kd g' k b := by
  refine x.on fun o2 h2 => (sb.2 b fun e => ?_).trans h2
  obtain ⟨o3, i, n, y1, _, y2, _⟩ := x
  rw [e, ho] at y1
  cases y1
  rw [hd] at y2
  exact nomatch y2
theorem mid_perm {α : Type} (l : List α) (p : Nat) (x : α) : (l.take p ++ x :: l.drop p).Perm (x :: l) := by
  have y := @List.perm_middle α x (l.take p) (l.drop p)
  rwa [List.take_append_drop] at y
/-- the entries in another order -/
theorem shuffled {order : Array Nat} (e : arr.toList = ents kd M) (pm : order.toList.Perm (List.range M.length)) :
    ∃ N : List (Row T), (order.filterMap (arr[·]?)).toList = ents kd N ∧ N.Perm M ∧ (N.map fun m => tupleKeyHash kd m.2) = order.toList.map fun i => (arr.map (·.1)).getD i 0 := by
  have sz := ents_len e
  have all : ∀ is : List Nat, (∀ i ∈ is, i < M.length) → is.filterMap (fun i => arr[i]?) = ents kd (is.filterMap fun i => M[i]?) ∧ ((is.filterMap fun i => M[i]?).map fun m => tupleKeyHash kd m.2) = is.map fun i => (arr.map (·.1)).getD i 0 := by
    intro is
    induction is with
    | nil => exact fun _ => ⟨rfl, rfl⟩
    | cons i is ih =>
      intro lt
      obtain ⟨u1, u2⟩ := ih fun j y => lt j (List.mem_cons_of_mem _ y)
      obtain ⟨m, hm⟩ : ∃ m, M[i]? = some m := ⟨_, List.getElem?_eq_getElem (lt i List.mem_cons_self)⟩
      have hg := ents_get e hm
      rw [List.filterMap_cons_some hg, List.filterMap_cons_some hm, u1]
      refine ⟨rfl, ?_⟩
      rw [List.map_cons, List.map_cons, u2]
      refine congrArg (· :: _) ?_
      have : (arr.map (·.1))[i]? = some (tupleKeyHash kd m.2) := by
        rw [Array.getElem?_map, hg]
        rfl
      rw [Array.getD_eq_getD_getElem?, this]
      rfl
  obtain ⟨u1, u2⟩ := all order.toList fun i y => List.mem_range.mp (pm.mem_iff.mp y)
  refine ⟨_, by rw [Array.toList_filterMap]; exact u1, ?_, u2⟩
  refine (pm.filterMap _).trans (List.Perm.of_eq ?_)
  have take : ∀ n, n ≤ M.length → (List.range n).filterMap (fun i => M[i]?) = M.take n := by
    intro n
    induction n with
    | zero => exact fun _ => rfl
    | succ n ih =>
      intro y
      rw [List.range_succ, List.filterMap_append, ih (by omega), List.take_succ, List.getElem?_eq_getElem (show n < M.length from y), List.filterMap_cons_some (List.getElem?_eq_getElem (show n < M.length from y))]
      rfl
  rw [take _ (Nat.le_refl _), List.take_length]

theorem _root_.L2.TabOk.like {t t' : SetTable} {hs : List Int} (y : TabOk t hs) (a : t'.place = t.place) (b : t'.dummies = t.dummies) (c : t'.mask = t.mask) : TabOk t' hs := by
  obtain ⟨y1, y2, y3, y4, y5, y6⟩ := y
  rw [← a] at y1 y3 y5 y6
  rw [← b] at y2
  rw [← c] at y4 y5 y6
  exact ⟨y1, y2, y3, y4, y5, y6⟩
/-- the table is laid anew, larger -/
theorem relay_bag {o : Obj} (ho : s.heap.get? z = some o) (hx : o.ExactSet) (hd : o.data = .set arr ep tb) (e : arr.toList = ents kd M) (a1 : tb.place.size = arr.size) (a2 : tb.dummies = #[]) (a3 : arr.size ≤ tb.mask)
    (dist : (M.map Prod.snd).Nodup) (key : ∀ m ∈ M, Tk kd s.heap m.2 m.1) (led : w.params.followText "set-order" = true ∨ tb.led = true) (few : M.length < 64) {wanted m' : Nat}
    (w1 : SetTable.sizeAbove wanted - 1 = m') (w2 : MaskOk m') (w3 : SetTable.sizeAbove wanted ≤ 128) (w4 : M.length * 5 < m' * 3) {Q : Unit → Shared → Prop}
    (fin : ∀ g N arr' ep' tb', Heap.SameBut z s.heap g → Bag kd g z N arr' ep' tb' → N.Perm M → Q () { s with heap := g }) : wpAny (model P w) A (setRelay z wanted) Q E s := by
  have sz := ents_len e
  obtain ⟨tb', order, r0, r1, r2, r3, r4, r5, r6⟩ := relaid_ok tb (hs := arr.map (·.1)) (wanted := wanted) w1 w2 (by rw [Array.size_map, sz]; omega)
  rw [Array.size_map, sz] at r1
  obtain ⟨N, n1, n2, n3⟩ := shuffled e r1
  rw [← n3] at r2
  have sz2 : (order.filterMap (arr[·]?)).size = arr.size := by rw [ents_len n1, n2.length_eq, sz]
  rw [setRelay_eq]
  refine wpAny_bind (wpAny_setState_of ho hd (fits_of a1 a2 a3) ?_)
  dsimp only
  refine wp_if_neg (by rw [sizeLine_eq]; omega) ?_
  try refine wpAny_bind (wpAny_pure ?_)
  rw [r0]
  dsimp only
  refine wpAny_bind ?_
  refine wp_if_neg (by rw [sz2]; simp) ?_
  try refine wpAny_bind (wpAny_pure ?_)
  refine wpAny_pure ?_
  dsimp only
  refine wpAny_storeSet_of ho hd ?_ (by rw [sz2, sz, sizeLine_eq]; omega)
  have sb : Heap.SameBut z s.heap (s.heap.update z (Obj.putSet (order.filterMap (arr[·]?)) tb')) := .update ..
  refine fin _ N _ (ep + 1) tb' sb ⟨⟨_, store_at ho hd, ⟨hx.1, hx.2.1, hx.2.2⟩, rfl⟩, n1, r2, (n2.map _).nodup_iff.mpr dist, fun m y => (key m (n2.mem_iff.mp y)).off ho hd sb, ?_, ?_, ?_⟩ n2
  · rw [r4]
    exact led
  · rw [n2.length_eq, r3]
    exact w4
  · rw [n2.length_eq]
    exact few

/-- an add -/
theorem add_bag (q : Quiet kd) (B : Bag kd s.heap z M arr ep tb) {x : Addr} {k : List T} (hx : Tk kd s.heap k x) (hu : A.units < cLine) (few : M.length + 1 < 64) {Q : Bool → Shared → Prop}
    (fin : ∀ b g N arr' ep' tb', Heap.SameBut z s.heap g → Bag kd g z N arr' ep' tb' → (k ∈ M.map Prod.snd → N = M) → (k ∉ M.map Prod.snd → N.Perm ((x, k) :: M)) → Q b { s with heap := g }) :
    wpAny (model P w) A (setAddHashed z (.ref x) (tupleKeyHash kd k)) Q E s := by
  obtain ⟨o, ho, hex, hd⟩ := B.obj
  have sz := ents_len B.ent
  have gap := B.gap
  unfold setAddHashed
  refine wpAny_holding ?_
  rw [show (100000 : Nat) = 99999 + 1 from rfl, setAddHashedIn_succ]
  refine wpAny_bind (wpAny_setState_of ho hd B.fit ?_)
  dsimp only
  refine wp_if_neg (by simp [byScan, Value.scannable]) ?_
  try refine wpAny_bind (wpAny_pure ?_)
  refine wpAny_bind (seek0 q B hx hu (fun hm => ?_) fun K hm k2 k3 => ?_)
  · dsimp only
    exact wpAny_pure (fin false s.heap M arr ep tb (.refl z s.heap) B (fun _ => rfl) fun y => absurd hm y)
  dsimp only
  refine wpAny_bind (wpAny_setState_of ho hd B.fit ?_)
  dsimp only
  obtain ⟨p1, p2, p3, p4, p5, p6, p7, p8, p9⟩ := B.tab.put k2 k3
  generalize tb.put (way tb.mask (tupleKeyHash kd k) K) = pt at p1 p3 p4 p5 p6 p7 p8 p9 ⊢
  obtain ⟨tb0, at1⟩ := pt
  dsimp only at p1 p3 p4 p5 p6 p7 p8 p9 ⊢
  subst p1
  -- with the sign that is kept of it
  suffices after : ∀ tb1 : SetTable, tb1.place = tb0.place → tb1.dummies = tb0.dummies → tb1.mask = tb0.mask → tb1.led = tb0.led → tb1.tooFull = tb0.tooFull →
      wpAny (model P w) A (do
        storeSet z (SetTable.insertAt arr (SetTable.below tb.place (way tb.mask (tupleKeyHash kd k) K)) (tupleKeyHash kd k, .ref x)) tb1
        if (!false && tb1.tooFull) = true then do
            setRelay z (SetTable.grown (arr.size + 1))
            pure true
          else pure true) Q E s by
    by_cases c : tb0.plain = true
    · first
        | (refine wpAny_bind ?_; refine wp_if_pos c ?_; refine hash_any q hx fun cc => ?_)
        | refine wp_if_pos c (wpAny_bind (hash_any q hx fun cc => ?_))
      cases cc with
      | true => exact after tb0 rfl rfl rfl rfl rfl
      | false => exact after { tb0 with plain := false } rfl rfl rfl rfl rfl
    · first
        | (refine wpAny_bind ?_; refine wp_if_neg c ?_; refine wpAny_pure ?_)
        | refine wp_if_neg c ?_
      exact after tb0 rfl rfl rfl rfl rfl
  intro tb1 q1 q2 q3 q4 q5
  have p3 : TabOk tb1 _ := p3.like q1 q2 q3
  have p4 := q3.trans p4
  have p5 := q4.trans p5
  have p9 := (show tb1.fill = tb0.fill by unfold SetTable.fill; rw [q1, q2]).trans p9
  have ent1 : ∀ n, (SetTable.insertAt arr n (tupleKeyHash kd k, Value.ref x)).toList = ents kd (M.take n ++ (x, k) :: M.drop n) := fun n => by
    rw [SetTable.toList_insertAt, B.ent]
    unfold ents
    rw [List.map_append, List.map_cons, List.map_take, List.map_drop]
  generalize SetTable.below tb.place (way tb.mask (tupleKeyHash kd k) K) = n at p2 p3 ⊢
  have ent1 := ent1 n
  have pm := mid_perm M n (x, k)
  have len1 : (M.take n ++ (x, k) :: M.drop n).length = M.length + 1 := pm.length_eq
  have tab1 : TabOk tb1 ((M.take n ++ (x, k) :: M.drop n).map fun m => tupleKeyHash kd m.2) := by
    rw [List.map_append, List.map_cons, List.map_take, List.map_drop]
    exact p3
  have dist1 : ((M.take n ++ (x, k) :: M.drop n).map Prod.snd).Nodup := (pm.map Prod.snd).nodup_iff.mpr (List.nodup_cons.mpr ⟨hm, B.dist⟩)
  generalize SetTable.insertAt arr n (tupleKeyHash kd k, Value.ref x) = arr1 at ent1 ⊢
  generalize M.take n ++ (x, k) :: M.drop n = M1 at pm len1 tab1 dist1 ent1
  have sz1 : arr1.size = M.length + 1 := (ents_len ent1).trans len1
  refine wpAny_bind (wpAny_storeSet_of ho hd ?_ (by rw [sz1, sizeLine_eq]; omega))
  have sb : Heap.SameBut z s.heap (s.heap.update z (Obj.putSet arr1 tb1)) := .update ..
  have ho1 := store_at (es' := arr1) (t' := tb1) ho hd
  generalize s.heap.update z (Obj.putSet arr1 tb1) = g1 at sb ho1 ⊢
  have key1 : ∀ m ∈ M1, Tk kd g1 m.2 m.1 := fun m y => (List.mem_cons.mp (pm.mem_iff.mp y)).elim (fun e => by rw [e]; exact hx.off ho hd sb) fun y => (B.key m y).off ho hd sb
  have led1 : w.params.followText "set-order" = true ∨ tb1.led = true := by
    rw [p5]
    exact B.led
  have full : tb1.tooFull = decide ((M.length + 1) * 5 ≥ tb1.mask * 3) := by
    unfold SetTable.tooFull
    rw [p9, List.length_map]
  by_cases c : (M.length + 1) * 5 ≥ tb1.mask * 3
  · have c1 : tb1.tooFull = true := by rw [full]; exact decide_eq_true c
    first
      | (refine wpAny_bind ?_; refine wp_if_pos (by simp [c1]) ?_)
      | (refine wp_if_pos (by simp [c1]) ?_; refine wpAny_bind ?_)
    rw [sz]
    have psz1 : tb1.place.size = arr1.size := by
      have y := tab1.sz
      rw [List.length_map, len1] at y
      rw [y, sz1]
    rw [p4] at c
    have two : (tb.mask = 7 ∧ M.length = 4) ∨ (tb.mask = 31 ∧ M.length = 18) := by
      rcases B.tab.mok with e | e | e
      · exact .inl ⟨e, by omega⟩
      · exact .inr ⟨e, by omega⟩
      · omega
    have go : ∀ m', SetTable.sizeAbove (SetTable.grown (M.length + 1)) - 1 = m' → MaskOk m' → SetTable.sizeAbove (SetTable.grown (M.length + 1)) ≤ 128 → (M.length + 1) * 5 < m' * 3 →
        wpAny (model P w) A (setRelay z (SetTable.grown (M.length + 1))) (fun _ s' => wpAny (model P w) A (pure true) Q E s') E { s with heap := g1 } := fun m' v1 v2 v3 v4 => by
      refine relay_bag (s := { s with heap := g1 }) ho1 ⟨hex.1, hex.2.1, hex.2.2⟩ rfl ent1 psz1 tab1.dm (by rw [sz1, p4]; omega) dist1 key1 led1 (by rw [len1]; exact few) v1 v2 v3 (by rw [len1]; exact v4) ?_
      exact fun g2 N arr2 ep2 tb2 sb2 B2 pm2 => wpAny_pure (fin true g2 N arr2 ep2 tb2 (sb.trans sb2) B2 (fun y => absurd y hm) fun _ => pm2.trans pm)
    rcases two with ⟨_, e⟩ | ⟨_, e⟩
    · exact go 31 (by rw [e, size_20]) (.inr (.inl rfl)) (by rw [e, size_20]; decide) (by omega)
    · exact go 127 (by rw [e, size_76]) (.inr (.inr rfl)) (by rw [e, size_76]; decide) (by omega)
  · have c1 : tb1.tooFull = false := by rw [full]; exact decide_eq_false c
    first
      | refine wp_if_neg (by simp [c1]) ?_
      | (refine wpAny_bind ?_; refine wp_if_neg (by simp [c1]) ?_; refine wpAny_pure ?_)
    exact wpAny_pure (fin true g1 M1 arr1 (ep + 1) tb1 sb ⟨⟨_, ho1, ⟨hex.1, hex.2.1, hex.2.2⟩, rfl⟩, ent1, tab1, dist1, key1, led1, by rw [len1]; omega, by rw [len1]; exact few⟩ (fun y => absurd y hm) fun _ => pm)
end
end Ws
set_option maxRecDepth 100000
set_option maxHeartbeats 4000000
namespace Ws
open PySem PySem.Spec PyProof.Rows L2

section
variable {P : Program} {w : World} {A : Around} {E : Value → Shared → Prop} {s : Shared}
/-- what an add does: z alone is written -/
def AddsTo {α : Type} (z : Addr) (B : Heap → Prop) (s : Shared) : α → Shared → Prop := fun _ s2 => ∃ g tk, s2 = { s with heap := g, toks := tk } ∧ s.toks ≤ tk ∧ Heap.SameBut z s.heap g ∧ B g
/-- the loop of set.update; B i: what z holds behind i items -/
theorem update_any {J : Addr} {fp wr : List Addr} {G : Array GenState → Array GenState → Prop} {n : Nat} {Pv : Nat → Value → Prop} {St : Nat → Shared → Prop} {R : Result → Shared → Prop}
    (W : WalksS P w A.in1 J fp wr G n Pv St) (z : Addr) (zf : z ∉ fp) (g0 : Heap) (B : Nat → Heap → Prop) (z0 : g0.get? z = none) (w0 : ∀ b ∈ wr, g0.get? b = none)
    (keep : ∀ i g g', i ≤ n → B i g → (∀ o, g.get? z = some o → g'.get? z = some o) → (∀ b o, g0.get? b = some o → g'.get? b = some o) → B i g')
    (add : ∀ i v (s : Shared) (E : Value → Shared → Prop), i < n → Pv i v → B i s.heap → (∀ b o, g0.get? b = some o → s.heap.get? b = some o) → wpAny (model P w) A.in1 (setAdd z v) (AddsTo z (B (i + 1)) s ·) E s) (left : Nat) :
    ∀ (i : Nat) (s : Shared), n - i = left → i ≤ n → St i s → (∀ b o, g0.get? b = some o → s.heap.get? b = some o) → B i s.heap →
      (∀ s', Moved (z :: wr) G s s' → B n s'.heap → (∀ b o, g0.get? b = some o → s'.heap.get? b = some o) → R (.ok (.ret .none)) s') →
      codeAny (model P w) A (.builtin "set.update.loop" ⟨[.ref z, .ref J], []⟩) R s := by
  have zw : z ∉ wr := fun y => zf (W.sub _ y)
  have more : ∀ b ∈ wr, b ∈ z :: wr := fun b y => List.mem_cons_of_mem _ y
  have go : ∀ {s s' : Shared}, Moved wr G s s' → (∀ b o, g0.get? b = some o → s.heap.get? b = some o) → ∀ b o, g0.get? b = some o → s'.heap.get? b = some o := fun mv y b o e =>
    mv.heap b o (fun yb => by rw [w0 b yb] at e; cases e) (y b o e)
  induction left with
  | zero =>
    intro i s e0 le st kp b fin
    obtain rfl : i = n := by omega
    refine codeAny_builtin F.entry_set_update_loop ?_
    rw [Around.under_plainId F.plain_set_update_loop _]
    show wpAny _ A.in1 (pyNext (.ref J) >>= _) _ _ s
    refine wpAny_bind (W.done s _ _ st fun s' mv => ?_)
    have kp' := go mv kp
    show wpAny _ A.in1 (ret Value.none) _ _ s'
    exact wpAny_pure (fin s' (mv.mono more) (keep _ _ _ le b (fun o e => mv.heap z o zw e) kp') kp')
  | succ left ih =>
    intro i s e0 le st kp b fin
    have lt : i < n := by omega
    refine codeAny_builtin F.entry_set_update_loop ?_
    rw [Around.under_plainId F.plain_set_update_loop _]
    show wpAny _ A.in1 (pyNext (.ref J) >>= _) _ _ s
    refine wpAny_bind (W.item i s _ _ lt st fun v s' hv st' mv => ?_)
    have kp' := go mv kp
    have b' := keep _ _ _ le b (fun o e => mv.heap z o zw e) kp'
    show wpAny _ A.in1 (holding [v] (setAdd z v) >>= _) _ _ s'
    refine wpAny_bind (wpAny_holding (wpAny_mono (add i v s' _ lt hv b' kp') (fun r s2 h2 => ?_) fun e s2 h2 => h2))
    obtain ⟨g, tk, rfl, tke, sb, b2⟩ := h2
    have kp2 : ∀ b o, g0.get? b = some o → g.get? b = some o := fun b o e => (sb.2 b fun y => by rw [y, z0] at e; cases e).trans (kp' b o e)
    refine wpAny_pure ⟨plainId_quiet F.plain_set_update_loop _, ih (i + 1) _ (by omega) lt (W.frame _ s' _ _ st' tke fun b yb o e => ?_) kp2 b2 fun s3 mv3 b3 kp3 => ?_⟩
    · exact (sb.2 b fun y : b = z => zf (by rw [← y]; exact yb)).trans e
    · refine fin s3 (Moved.trans W.gtrans ((mv.mono more).then_heap tke fun b o yb e => ?_) mv3) b3 kp3
      exact (sb.2 b fun y : b = z => yb (by rw [y]; exact List.mem_cons_self)).trans e
/-- set(a list), set(a tuple) -/
theorem set_any {l : Addr} {o : Obj} {ty : String} {items : Array Value} {n : Nat} {Q : Value → Shared → Prop} (hh : A.handled = none) (tyo : ty = "list" ∨ ty = "tuple") (hol : s.heap.get? l = some o) (hcl : o.cls = .type ty) (hdl : o.data = .seq items n) (B : Nat → Heap → Prop)
    (b0 : ∀ g : Heap, g.get? s.heap.objs.size = some { cls := .type "set", dict := none, data := .set #[] 0 (.fresh 0 0 (!w.params.followText "set-order")) } → B 0 g)
    (keep : ∀ i g g', i ≤ items.size → B i g → (∀ o, g.get? s.heap.objs.size = some o → g'.get? s.heap.objs.size = some o) → (∀ b o, s.heap.get? b = some o → g'.get? b = some o) → B i g')
    (add : ∀ i v (A' : Around) (s' : Shared) (E : Value → Shared → Prop), A'.units ≤ A.units + 5 → items[i]? = some v → B i s'.heap → (∀ b o, s.heap.get? b = some o → s'.heap.get? b = some o) → wpAny (model P w) A' (setAdd s.heap.objs.size v) (AddsTo s.heap.objs.size (B (i + 1)) s' ·) E s')
    (fin : ∀ (g : Heap) (tk : Nat), B items.size g → (∀ b o, s.heap.get? b = some o → g.get? b = some o) → Q (.ref s.heap.objs.size) { s with heap := g, toks := tk }) :
    wpAny (model P w) A (call (.type "set") [.ref l]) Q E s := by
  obtain ⟨c, tl, hmro⟩ := F.called_set.mro
  have hmade := F.called_set.made
  have hsub := F.called_set.sub
  refine wpAny_call (codeAny_of_tree ?_)
  show wpAny _ _ (callAny (.type "set") _) _ _ _
  refine wpAny_pure ⟨Code.quiet_builtin _ (by decide +kernel), codeAny_builtin F.entry_type_call ?_⟩
  rw [Around.under_plain (weight_type_call_type "set" [.ref l] []) rfl]
  have n1 := F.called_set.notType
  have n2 := F.called_set.canCreate
  have n3 := F.typeCall_set_1 (.ref l)
  repeat (any_goals (first | assumption | wp_step))

  generalize eo : ({ cls := .type "set", dict := none, data := .set #[] 0 (.fresh 0 0 (!w.params.followText "set-order")) } : Obj) = newO at b0
  refine codeAny_mono (code_set_led1 (.ref l) (E := E) (Q₁ := fun v s1 => v = .ref s.heap.objs.size ∧ s1 = { s with heap := s.heap.push newO }) (by rw [← eo]; exact ⟨rfl, rfl⟩)) fun r s1 hr => ?_
  match r, hr with
  | .error e, hr => exact hr
  | .ok (.ret v), hr =>
    obtain ⟨rfl, rfl⟩ := hr
    have atS : (s.heap.push newO).get? s.heap.objs.size = some newO := Heap.get?_push_size _ (by rw [← eo]; rfl)
    have tyS : Shared.TypeIs { s with heap := s.heap.push newO } (.ref s.heap.objs.size) "set" := ⟨_, atS, by rw [← eo]⟩
    have m1 := F.called_set.init.lookup
    have m2 := F.called_set.init.bind (.ref s.heap.objs.size)
    repeat (any_goals (first | assumption | wp_step))

    refine codeAny_mono (codeAny_call_builtin (R := wants (fun r s2 => r = .none ∧ ∃ g tk, s2 = { s with heap := g, toks := tk } ∧ B items.size g ∧ (∀ b o, s.heap.get? b = some o → g.get? b = some o)) E)
      F.called_set.init.plain F.entry_set_init (check_set_init_1 tyS ?_)) fun r2 s2 hr2 => ?_
    · subst eo
      obtain ⟨ocls, odict, odata, oslots⟩ := o
      simp only at hcl hdl
      subst hcl hdl
      have lS : l < s.heap.objs.size := Heap.lt_size hol
      have hh3 : A.in1.in1.in1.handled = none := by simp [hh]
      have z1 : ∀ o, (s.heap.push o).objs.size = s.heap.objs.size + 1 := fun o => Heap.size_push ..
      have neJ : ∀ o, l ≠ (s.heap.push o).objs.size := fun o => by rw [z1]; exact Nat.ne_of_lt (Nat.lt_succ_of_lt lS)
      have free : ∀ b, s.heap.objs.size ≤ b → s.heap.get? b = none := fun b y => by
        cases e : s.heap.get? b with
        | none => rfl
        | some o => exact absurd (Nat.lt_of_lt_of_le (Heap.lt_size e) y) (Nat.lt_irrefl _)
      have units : A.in1.in1.in1.units ≤ A.units + 5 := by simp [Around.in1]
      -- behind the loop, for either kind
      have loop : ∀ {fp wr : List Addr} {G : Array GenState → Array GenState → Prop} {St : Nat → Shared → Prop} {J : Addr} (s1 : Shared) (R : Result → Shared → Prop), WalksS P w A.in1.in1.in1 J fp wr G items.size (fun i v => items[i]? = some v) St → s.heap.objs.size ∉ fp → (∀ b ∈ wr, s.heap.get? b = none) → St 0 s1 →
          (∀ b o, s.heap.get? b = some o → s1.heap.get? b = some o) → s1.heap.get? s.heap.objs.size = some { cls := .type "set", dict := none, data := .set #[] 0 (.fresh 0 0 (!w.params.followText "set-order")) } →
          (∀ s', Moved (s.heap.objs.size :: wr) G s1 s' → B items.size s'.heap → (∀ b o, s.heap.get? b = some o → s'.heap.get? b = some o) → R (.ok (.ret .none)) s') →
          codeAny (model P w) A.in1.in1 (.builtin "set.update.loop" ⟨[.ref s.heap.objs.size, .ref J], []⟩) R s1 := fun s1 R WW f1 f2 st kp at1 fin' =>
        update_any WW s.heap.objs.size f1 s.heap B (free _ (Nat.le_refl _)) f2 keep (fun i v s' E' _ hv b k => add i v _ s' E' units hv b k) (items.size - 0) 0 s1 rfl (Nat.zero_le _) st kp (b0 _ at1) fin'
      have done : ∀ {wr : List Addr} {s1 s' : Shared}, Moved (s.heap.objs.size :: wr) (fun a b => b = a) s1 s' → s1.gens = s.gens → s1.drawn = s.drawn → s1.os = s.os → B items.size s'.heap → (∀ b o, s.heap.get? b = some o → s'.heap.get? b = some o) →
          (∃ g tk, s' = { s with heap := g, toks := tk } ∧ B items.size g ∧ ∀ b o, s.heap.get? b = some o → g.get? b = some o) := fun {wr s1 s'} mv a1 a2 a3 b kp => by
        obtain ⟨g, g2, d2, tk, os2⟩ := s'
        have e1 : g2 = s.gens := (show g2 = s1.gens from mv.gens).trans a1
        have e2 : d2 = s.drawn := (show d2 = s1.drawn from mv.drawn).trans a2
        have e3 : os2 = s.os := (show os2 = s1.os from mv.os).trans a3
        subst e1 e2 e3
        exact ⟨g, tk, rfl, b, kp⟩
      rcases tyo with rfl | rfl
      · have hol' := fun o => Heap.get?_push_of_some (h := s.heap) o hol
        have s1 := F.sub_list_set
        have s2 := F.sub_list_frozenset
        have ne : (Value.type "list" == Value.type "dict") = false := by decide
        have hl1 : ∀ o, (s.heap.push o).IsList l items := fun o => ⟨_, hol' o, rfl, n, rfl⟩
        have hol' := hol' { cls := .type "set", dict := none, data := .set #[] 0 (.fresh 0 0 (!w.params.followText "set-order")) }
        unfold Builtin.«set.__init__» noKeywords Builtin.Frozenset.updateFrom
        generalize hPI : pyIter = PI
        wp_walk
        subst hPI

        refine wpAny_pyIter_list (hl1 _) ?_
        refine wpAny_bind (wpAny_runValue ?_)
        refine loop _ _ (Walks.list (prog := P) (w := w) hh3 _ l (neJ { cls := .type "set", dict := none, data := .set #[] 0 (.fresh 0 0 (!w.params.followText "set-order")) }) items).toS ?_ (fun b y => ?_) ⟨⟨_, Heap.get?_push_size _ rfl, rfl, rfl⟩, ((hl1 _).push _)⟩ (fun b o e => Heap.get?_push_of_some _ (Heap.get?_push_of_some _ e)) (Heap.get?_push_of_some _ atS) fun s' mv b kp => ?_
        · rw [z1]
          simp only [List.mem_cons, List.mem_singleton, List.not_mem_nil, or_false, not_or]
          exact ⟨Nat.ne_of_lt (Nat.lt_succ_self _), Nat.ne_of_gt lS⟩
        · rw [List.mem_singleton.mp y]
          exact free _ (by rw [z1]; exact Nat.le_succ _)
        · refine wpAny_pure ?_
          show wpAny _ _ (ret Value.none) _ _ _
          exact wpAny_pure ⟨rfl, done mv rfl rfl rfl b kp⟩
      · have hol' := fun o => Heap.get?_push_of_some (h := s.heap) o hol
        have s1 := F.sub_tuple_set
        have s2 := F.sub_tuple_frozenset
        have ne : (Value.type "tuple" == Value.type "dict") = false := by decide
        have hl1 : ∀ o, (s.heap.push o).IsTuple l items := fun o => ⟨_, hol' o, rfl, n, rfl⟩
        have hol' := hol' { cls := .type "set", dict := none, data := .set #[] 0 (.fresh 0 0 (!w.params.followText "set-order")) }
        unfold Builtin.«set.__init__» noKeywords Builtin.Frozenset.updateFrom
        generalize hPI : pyIter = PI
        wp_walk
        subst hPI

        refine wpAny_pyIter_tuple (hl1 _) ?_
        refine wpAny_bind (wpAny_runValue ?_)
        refine loop _ _ (Walks.tuple (prog := P) (w := w) hh3 _ l (neJ { cls := .type "set", dict := none, data := .set #[] 0 (.fresh 0 0 (!w.params.followText "set-order")) }) items).toS ?_ (fun b y => ?_) ⟨⟨_, Heap.get?_push_size _ rfl, rfl, rfl⟩, ?_⟩ (fun b o e => Heap.get?_push_of_some _ (Heap.get?_push_of_some _ e)) (Heap.get?_push_of_some _ atS) fun s' mv b kp => ?_
        · rw [z1]
          simp only [List.mem_cons, List.mem_singleton, List.not_mem_nil, or_false, not_or]
          exact ⟨Nat.ne_of_lt (Nat.lt_succ_self _), Nat.ne_of_gt lS⟩
        · rw [List.mem_singleton.mp y]
          exact free _ (by rw [z1]; exact Nat.le_succ _)
        · exact ⟨_, Heap.get?_push_of_some _ hol', rfl, n, rfl⟩
        · refine wpAny_pure ?_
          show wpAny _ _ (ret Value.none) _ _ _
          exact wpAny_pure ⟨rfl, done mv rfl rfl rfl b kp⟩
    · match r2, hr2 with
      | .error e, hr2 => exact hr2
      | .ok (.ret r), hr2 =>
        obtain ⟨rfl, g, tk, rfl, b, kp⟩ := hr2
        repeat (any_goals (first | assumption | wp_step))
        exact fin _ _ b kp
end
end Ws
set_option maxRecDepth 100000
set_option maxHeartbeats 4000000
namespace Ws
open PySem PySem.Spec PyProof.Rows L2 Lk Dl PySem.Froz

/-! ### members: texts -/
def accS : List Str → List Str → List Str
  | acc, [] => acc
  | acc, k :: r => accS (if k ∈ acc then acc else k :: acc) r
theorem accS_snoc : ∀ (acc l : List Str) (k : Str), accS acc (l ++ [k]) = (if k ∈ accS acc l then accS acc l else k :: accS acc l)
  | _, [], _ => rfl
  | acc, x :: l, k => accS_snoc _ l k
theorem accS_mem : ∀ (l acc : List Str) (k : Str), k ∈ accS acc l ↔ k ∈ acc ∨ k ∈ l
  | [], acc, k => by simp [accS]
  | x :: l, acc, k => by
    rw [accS, accS_mem l _ k]
    by_cases c : x ∈ acc
    · rw [if_pos c, List.mem_cons]
      exact ⟨fun z => z.imp_right .inr, fun z => z.elim .inl fun z => z.elim (fun e => .inl (e ▸ c)) .inr⟩
    · rw [if_neg c, List.mem_cons, List.mem_cons]
      exact ⟨fun z => z.elim (fun z => z.elim (fun e => .inr (.inl e)) .inl) fun z => .inr (.inr z), fun z => z.elim (fun z => .inl (.inr z)) fun z => z.elim (fun e => .inl (.inl e)) .inr⟩
theorem accS_len : ∀ (l acc : List Str), (accS acc l).length ≤ acc.length + l.length
  | [], acc => Nat.le_refl _
  | x :: l, acc => by
    have y := accS_len l (if x ∈ acc then acc else x :: acc)
    rw [accS, List.length_cons]
    refine Nat.le_trans y ?_
    split
    · omega
    · rw [List.length_cons]
      omega
section
variable {P : Program} {w : World} {A : Around} {E : Value → Shared → Prop} {s : Shared}
theorem txt_add {z : Addr} {l : List Str} {k : Str} {u : Tok} (R : SetX P w s.heap z l) (few : l.length + 1 < scanBound) :
    wpAny (model P w) A (setAdd z (.str k u)) (AddsTo z (fun g => SetX P w g z (if k ∈ l then l else k :: l)) s) E s := by
  obtain ⟨D, ho, tw⟩ := R
  unfold setAdd
  refine wpAny_holding (wpAny_bind ((strKind P w).pyHash (is_str k u) ?_))
  by_cases c : k ∈ l
  · rw [if_pos c]
    exact add_h (s := { s with toks := s.toks + 1 }) ho tw.ok c (by omega) ⟨_, _, rfl, Nat.le_succ _, .refl z s.heap, D, ho, tw⟩
  · rw [if_neg c]
    exact add_x (s := { s with toks := s.toks + 1 }) ho tw.ok c few ⟨_, _, rfl, Nat.le_succ _, .update s.heap z _, _, get_upd _ ho rfl, tw.add u c⟩
theorem strs_at : ∀ {us : List Value} {zs : List Str}, StrsAre us zs → ∀ (i : Nat) v, us[i]? = some v → ∃ k u, zs[i]? = some k ∧ v = .str k u
  | _, _, .nil, i, v, e => by simp at e
  | _, _, .cons n t r, 0, v, e => by
    simp at e
    exact ⟨n, t, rfl, e.symm⟩
  | _, _, .cons n t r, i + 1, v, e => by
    simp at e
    simpa using strs_at r i v e
/-- set(a list or a tuple of texts) -/
theorem set_txts {l : Addr} {o : Obj} {ty : String} {items : Array Value} {n : Nat} {zs : List Str} {Q : Value → Shared → Prop} (hh : A.handled = none) (tyo : ty = "list" ∨ ty = "tuple") (hol : s.heap.get? l = some o) (hcl : o.cls = .type ty) (hdl : o.data = .seq items n)
    (hi : StrsAre items.toList zs) (few : zs.length + 1 < scanBound)
    (fin : ∀ (g : Heap) (tk : Nat), SetX P w g s.heap.objs.size (accS [] zs) → (∀ b o, s.heap.get? b = some o → g.get? b = some o) → Q (.ref s.heap.objs.size) { s with heap := g, toks := tk }) :
    wpAny (model P w) A (call (.type "set") [.ref l]) Q E s := by
  have sz : items.size = zs.length := by rw [← Array.length_toList]; exact strsAre_len hi
  refine set_any hh tyo hol hcl hdl (fun i g => SetX P w g s.heap.objs.size (accS [] (zs.take i))) (fun g e => ⟨(#[], 0, .fresh 0 0 (!w.params.followText "set-order")), e, TxW.fresh⟩) (fun i g g' _ b k _ => b.at k) (fun i v A' s' E' _ hv b _ => ?_) fun g tk b kp => fin g tk ?_ kp
  · obtain ⟨k, u, e1, rfl⟩ := strs_at hi i v (by rw [Array.getElem?_toList]; exact hv)
    have y := accS_len (zs.take i) []
    have e2 : zs.take (i + 1) = zs.take i ++ [k] := by
      rw [List.take_succ, e1]
      rfl
    have lt := (List.getElem?_eq_some_iff.mp e1).1
    rw [List.length_take] at y
    simp only [e2, accS_snoc]
    exact txt_add b (by simp at y; omega)
  · rw [sz, List.take_length] at b
    exact b

/-! ### members: tuples -/
section
variable {T : Type} [DecidableEq T] {kd : KeyKind P w T}
/-- the bag M holds what the rows have, each key once -/
structure From (rows : List (Row T)) (M : List (Row T)) : Prop where
  sub : ∀ m ∈ M, m ∈ rows
  all : ∀ m ∈ rows, m.2 ∈ M.map Prod.snd
  len : M.length ≤ rows.length
theorem From.next {rows M N : List (Row T)} {m : Row T} (f : From rows M) (c1 : m.2 ∈ M.map Prod.snd → N = M) (c2 : m.2 ∉ M.map Prod.snd → N.Perm (m :: M)) : From (rows ++ [m]) N := by
  by_cases c : m.2 ∈ M.map Prod.snd
  · rw [c1 c]
    refine ⟨fun y h => List.mem_append_left _ (f.sub y h), fun y h => ?_, by rw [List.length_append]; exact Nat.le_succ_of_le f.len⟩
    rcases List.mem_append.mp h with h | h
    · exact f.all y h
    · rw [List.mem_singleton.mp h]
      exact c
  · have pm := c2 c
    refine ⟨fun y h => ?_, fun y h => (pm.map Prod.snd).mem_iff.mpr ?_, by rw [List.length_append, pm.length_eq]; exact Nat.succ_le_succ f.len⟩
    · rcases List.mem_cons.mp (pm.mem_iff.mp h) with e | h
      · rw [e]
        exact List.mem_append_right _ (List.mem_singleton.mpr rfl)
      · exact List.mem_append_left _ (f.sub y h)
    · rcases List.mem_append.mp h with h | h
      · exact List.mem_cons_of_mem _ (f.all y h)
      · rw [List.mem_singleton.mp h]
        exact List.mem_cons_self
def BagAt (kd : KeyKind P w T) (g : Heap) (z : Addr) (M : List (Row T)) : Prop := ∃ arr ep tb, Bag kd g z M arr ep tb
theorem fresh_bag {g : Heap} {z : Addr} (ho : g.get? z = some { cls := .type "set", dict := none, data := .set #[] 0 (.fresh 0 0 (!w.params.followText "set-order")) }) : BagAt kd g z [] := by
  refine ⟨#[], 0, _, ⟨_, ho, ⟨rfl, rfl, rfl⟩, rfl⟩, rfl, ⟨List.Pairwise.nil, rfl, rfl, .inl rfl, fun x y => (by cases y), fun i h j y => (by simp at y)⟩, List.nodup_nil, fun m y => (by cases y), ?_, by show 0 * 5 < 7 * 3; decide, by show 0 < 64; decide⟩
  show _ ∨ (!w.params.followText "set-order") = true
  cases w.params.followText "set-order"
  · exact .inr rfl
  · exact .inl rfl
theorem set_tups (q : Quiet kd) {l : Addr} {o : Obj} {ty : String} {items : Array Value} {n : Nat} (rows : List (Row T)) {Q : Value → Shared → Prop} (hh : A.handled = none) (tyo : ty = "list" ∨ ty = "tuple") (hol : s.heap.get? l = some o) (hcl : o.cls = .type ty) (hdl : o.data = .seq items n)
    (hit : items.toList = rows.map fun m => Value.ref m.1) (keys : ∀ m ∈ rows, Tk kd s.heap m.2 m.1) (few : rows.length < 64) (hu : A.units + 5 < cLine)
    (fin : ∀ (g : Heap) (tk : Nat) M, BagAt kd g s.heap.objs.size M → From rows M → (∀ b o, s.heap.get? b = some o → g.get? b = some o) → Q (.ref s.heap.objs.size) { s with heap := g, toks := tk }) :
    wpAny (model P w) A (call (.type "set") [.ref l]) Q E s := by
  have isz : items.size = rows.length := by rw [← Array.length_toList, hit, List.length_map]
  refine set_any hh tyo hol hcl hdl (fun i g => ∃ M, BagAt kd g s.heap.objs.size M ∧ From (rows.take i) M) (fun g e => ⟨[], fresh_bag e, ⟨fun m y => (by cases y), fun m y => (by cases y), Nat.le_refl _⟩⟩) (fun i g g' _ b k kp => ?_) (fun i v A' s' E' hA hv b kp => ?_) fun g tk b kp => ?_
  · obtain ⟨M, ⟨arr, ep, tb, B⟩, f⟩ := b
    exact ⟨M, ⟨arr, ep, tb, B.kept k fun m y => (keys m (List.mem_of_mem_take (f.sub m y))).on fun o e => kp _ o e⟩, f⟩
  · obtain ⟨M, ⟨arr, ep, tb, B⟩, f⟩ := b
    have y : items.toList[i]? = some v := by rw [Array.getElem?_toList]; exact hv
    rw [hit, List.getElem?_map] at y
    obtain ⟨m, hm, rfl⟩ := Option.map_eq_some_iff.mp y
    have xm : Tk kd s'.heap m.2 m.1 := (keys m (List.mem_of_getElem? hm)).on fun o e => kp _ o e
    have lt := (List.getElem?_eq_some_iff.mp hm).1
    have len := f.len
    rw [List.length_take] at len
    unfold setAdd
    refine wpAny_holding (wpAny_bind (wpAny_pyHash_tuple (by omega) xm ?_))
    refine add_bag (s := { s' with toks := s'.toks + (m.2.length + 1) }) q B xm (by omega) (by omega) fun b g N arr2 ep2 tb2 sb B2 c1 c2 => ?_
    refine ⟨g, _, rfl, Nat.le_add_right _ _, sb, N, ⟨arr2, ep2, tb2, B2⟩, ?_⟩
    rw [List.take_succ, hm]
    exact f.next c1 c2
  · obtain ⟨M, B, f⟩ := b
    rw [isz, List.take_length] at f
    exact fin g tk M B f kp
end

/-! ### tracked -/
theorem quiet_str : Quiet (strKind P w) := fun k v h => by
  have h' : Value.isStrOf k v = true := h
  cases v with
  | str x t =>
    refine ⟨fun n => ?_, fun n => ⟨false, ?_⟩⟩
    · cases n <;> rfl
    · cases n <;> rfl
  | _ => simp [Value.isStrOf] at h'
theorem items_strs : ∀ {zs : List Str} {us : List Value}, Vals (zs.map V.str) us → ItemsAre (strKind P w) zs us
  | [], _, .nil => .nil
  | z :: zs, _, .cons r t => by
    obtain ⟨tk, rfl⟩ := r
    exact .cons (is_str z tk) (items_strs t)
/-- the bag, without the tuples themselves -/
def Bag0 (P : Program) (w : World) (g : Heap) (z : Addr) (M : List (Row Str)) : Prop := ∃ arr ep tb, (∃ o, g.get? z = some o ∧ o.ExactSet ∧ o.data = .set arr ep tb) ∧ arr.toList = ents (strKind P w) M ∧ TabOk tb (M.map fun m => tupleKeyHash (strKind P w) m.2) ∧ (M.map Prod.snd).Nodup ∧
  (w.params.followText "set-order" = true ∨ tb.led = true) ∧ M.length * 5 < tb.mask * 3 ∧ M.length < 64
theorem Bag0.of {g : Heap} {z : Addr} {M : List (Row Str)} (b : BagAt (strKind P w) g z M) : Bag0 P w g z M :=
  let ⟨arr, ep, tb, B⟩ := b; ⟨arr, ep, tb, B.obj, B.ent, B.tab, B.dist, B.led, B.gap, B.few⟩
theorem Bag0.full {g : Heap} {z : Addr} {M : List (Row Str)} (b : Bag0 P w g z M) (k : ∀ m ∈ M, Tk (strKind P w) g m.2 m.1) : BagAt (strKind P w) g z M :=
  let ⟨arr, ep, tb, h1, h2, h3, h4, h6, h7, h8⟩ := b; ⟨arr, ep, tb, h1, h2, h3, h4, k, h6, h7, h8⟩
def SetYO (P : Program) (w : World) (z : Addr) (M : List (Row Str)) : HO := .ext fun g => Bag0 P w g z M
theorem setYO_new {H : Hp} {g : Heap} {z : Addr} {M : List (Row Str)} (b : Bag0 P w g z M) : ObjOk P w H g z (SetYO P w z M) := by
  have ⟨arr, ep, tb, ⟨o, ho, r⟩, q⟩ := b
  refine ⟨b, ⟨o, ho⟩, fun h1 h2 p k => ?_⟩
  have ⟨arr', ep', tb', ⟨o', ho', r'⟩, q'⟩ := (show Bag0 P w h1 z M from p)
  exact ⟨arr', ep', tb', ⟨o', k o' ho', r'⟩, q'⟩
end
theorem row_refs : ∀ {rows : List (Row Str)} {us : List Value}, Vals (rows.map fun m => V.ref m.1) us → us = rows.map fun m => Value.ref m.1
  | [], us, y => by
    cases y
    rfl
  | m :: rows, us, y => by
    cases y with
    | cons r t =>
      cases r
      rw [row_refs t]
      rfl
theorem refs_row : ∀ rows : List (Row Str), Vals (rows.map fun m => V.ref m.1) (rows.map fun m => Value.ref m.1)
  | [] => .nil
  | m :: rows => .cons (show RelV (.ref m.1) (.ref m.1) from rfl) (refs_row rows)
section
variable {X : Cx}
theorem tk_of {pins : List (Addr × Obj)} {σ : L2.St} {H : Hp} {s : Shared} {b : Addr} {k : List Str} (I : Inv X pins σ H s) (h : H b = some (.tup (k.map V.str))) : Tk (strKind X.prog X.w) s.heap k b := by
  obtain ⟨its, r, ⟨o, ho, hc, n, hd⟩, _⟩ := I.tuple (SqT.of (K := X.K) h)
  exact ⟨o, its.toArray, n, ho, hc, hd, by simpa using items_strs r⟩
/-- set(xs): texts, or tuples of texts -/
def rSetA (K : PySem.W.Frag) (P : Program) (w : World) : List V → Hp → VK → Prop := fun vs H Q => ∃ (l : Addr) (us : List V), vs = [V.ref l] ∧ (SqL K H l us ∨ SqT K H l us) ∧
  ((∃ zs : List Str, us = zs.map V.str ∧ zs.length + 1 < scanBound ∧ ∀ a, H a = none → Q (.ref a) (upd H a (SetXO P w a (accS [] zs)))) ∨
  ∃ rows : List (Row Str), us = rows.map (fun m => V.ref m.1) ∧ rows.length < 64 ∧ (∀ m ∈ rows, H m.1 = some (.tup (m.2.map V.str))) ∧ ∀ a M, H a = none → From rows M → Q (.ref a) (upd H a (SetYO P w a M)))
theorem cr_setA (hc : X.calm = true) (hu : X.A.units + 64 < cLine) : CallR X (.type "set") (rSetA X.K X.prog X.w) := by
  intro pins s σ H vs us Q I r h
  obtain ⟨l, xs, rfl, hl, h⟩ := h
  rw [Vals.ref1 r]
  have hn : H s.heap.objs.size = none := I.hok.fresh (Nat.le_refl _)
  obtain ⟨its, ty, o, n, tyo, ho, hcl, hd, rv⟩ : ∃ (its : List Value) (ty : String) (o : Obj) (n : Nat), (ty = "list" ∨ ty = "tuple") ∧ s.heap.get? l = some o ∧ o.cls = .type ty ∧ o.data = .seq its.toArray n ∧ Vals xs its := by
    rcases hl with hl | hl
    · obtain ⟨its, rv, p, _⟩ := I.list hl
      obtain ⟨o, ho, hcl, n, hd⟩ := p.isList
      exact ⟨its, "list", o, n, .inl rfl, ho, hcl, hd, rv⟩
    · obtain ⟨its, rv, p, _⟩ := I.tuple hl
      obtain ⟨o, ho, hcl, n, hd⟩ := _root_.id p
      exact ⟨its, "tuple", o, n, .inr rfl, ho, hcl, hd, rv⟩
  rcases h with ⟨zs, rfl, few, q⟩ | ⟨rows, rfl, few, hk, q⟩
  · refine set_txts (P := X.prog) (w := X.w) (zs := zs) (I.ok.hd hc) tyo ho hcl hd (by simpa using strsAre_vals rv) few fun g tk b kp => ?_
    exact ⟨.ref s.heap.objs.size, upd H s.heap.objs.size (SetXO X.prog X.w s.heap.objs.size _), I.laid (t' := tk) kp (Nat.le_refl _) (setXO_new b), rfl, q _ hn⟩
  · refine set_tups (P := X.prog) (w := X.w) quiet_str rows (I.ok.hd hc) tyo ho hcl hd (by simpa using row_refs rv) (fun m y => tk_of I (hk m y)) few (by omega) fun g tk M b f kp => ?_
    exact ⟨.ref s.heap.objs.size, upd H s.heap.objs.size (SetYO X.prog X.w s.heap.objs.size M), I.laid (t' := tk) kp (Nat.le_refl _) (setYO_new (Bag0.of b)), rfl, q _ M hn f⟩
/-- sorted(set) -/
def rSortA (P : Program) (w : World) : List V → Hp → VK → Prop := fun vs H Q => ∃ a : Addr, vs = [V.ref a] ∧
  ((∃ l : List Str, H a = some (SetXO P w a l) ∧ l.length < 64 ∧ ∀ (ns : List Str) (p : Addr), sortedS ns = true → ns.Perm l → H p = none → Q (.ref p) (upd H p (.lst (ns.map V.str)))) ∨
  ∃ M : List (Row Str), H a = some (SetYO P w a M) ∧ (∀ m ∈ M, H m.1 = some (.tup (m.2.map V.str))) ∧
    ∀ (N : List (Row Str)) (p : Addr), N.Perm M → (M.map Prod.snd).Nodup → N.Pairwise (fun m n => lexS n.2 m.2 = false) → H p = none → Q (.ref p) (upd H p (.lst (N.map fun m => V.ref m.1))))
def tupV (H : Hp) : V → List Str
  | .ref a => match H a with
    | some (.tup vs) => vs.map svV
    | _ => []
  | _ => []
theorem svV_strs : ∀ k : List Str, (k.map V.str).map svV = k
  | [] => rfl
  | z :: k => by
    rw [List.map_cons, List.map_cons, svV_strs k]
    rfl
theorem tupV_at {H : Hp} {a : Addr} {k : List Str} (e : H a = some (.tup (k.map V.str))) : tupV H (.ref a) = k := by
  show (match H a with | some (.tup vs) => vs.map svV | _ => []) = k
  rw [e]
  exact svV_strs k
theorem cr_sortA (hc : X.calm = true) (hu : X.A.units + 64 < cLine) : CallR X (.builtin "sorted") (rSortA X.prog X.w) := by
  intro pins s σ H vs us Q I r h
  obtain ⟨a, rfl, h⟩ := h
  rcases h with ⟨l, ha, h64, q⟩ | ⟨M, ha, hk, q⟩
  · exact cr_sortedX hc pins s σ H _ us Q I r ⟨a, l, rfl, ha, h64, q⟩
  · rw [Vals.ref1 r]
    obtain ⟨arr, ep, tb, B⟩ := (show Bag0 X.prog X.w s.heap a M from (I.hok a _ ha).1).full fun m y => tk_of I (hk m y)
    obtain ⟨o, ho, hex, hd⟩ := B.obj
    have sz := ents_len B.ent
    have few := B.few
    refine sorted_coll (collect_set (A := X.A.in1) (I.ok.hd hc) ⟨o, ho, hex.1, hd⟩ B.fit (by unfold scanBound; omega) B.tab.ris B.led fun s1 out k1 hz g1 o1 pm => ?_)
    have ev : arr.toList.map (·.2) = M.map fun m => Value.ref m.1 := by
      rw [B.ent]
      unfold ents
      rw [List.map_map]
      rfl
    rw [ev] at pm
    obtain ⟨N, hN, e3⟩ := perm_lift (fun m : Row Str => Value.ref m.1) pm M rfl
    subst e3
    have I1 : Inv X pins σ H { s with heap := s1.heap, gens := s1.gens, drawn := s1.drawn, toks := s1.toks } := I.call (ch := []) (Un.kept k1) (I.hok.kept k1) (by rw [g1]; exact I.bare) (fun _ z => nomatch z)
    have es : s1 = { s with heap := s1.heap, gens := s1.gens, drawn := s1.drawn, toks := s1.toks } := by
      cases s1
      cases s
      cases o1
      rfl
    rw [es]
    refine sort_fin hu I1 (refs_row N) (by rw [List.length_map, sizeLine_eq, hN.length_eq]; omega) (.sTups (N.map fun m => V.ref m.1) (tupV H) fun x hx => ?_) fun ys p hp hs np => ?_
    · obtain ⟨m, hm, rfl⟩ := List.mem_map.mp hx
      have e := hk m (hN.mem_iff.mp hm)
      exact ⟨m.1, rfl, by rw [tupV_at e]; exact e⟩
    · obtain ⟨N2, hN2, e2⟩ := perm_lift (fun m : Row Str => V.ref m.1) hp N rfl
      subst e2
      refine q N2 p (hN2.trans hN) B.dist ?_ np
      refine (List.pairwise_map.mp hs).imp_of_mem fun {m n} hm hn z => ?_
      rwa [tupV_at (hk m (hN.mem_iff.mp (hN2.mem_iff.mp hm))), tupV_at (hk n (hN.mem_iff.mp (hN2.mem_iff.mp hn)))] at z
end
end Ws
set_option maxRecDepth 100000
set_option maxHeartbeats 1000000
namespace Dl
open PySem PySem.Spec PyProof.Rows L2 Lk Ws

variable {L : Wd}
/-! ### sorted(set(xs)), xs texts or tuples of texts -/

def dfSortSet (d : DE L) : DA L := fun δ w Q => d δ w fun x δ' w' =>
  (∃ zs : List Str, (x = .lst (zs.map .str) ∨ x = .tup (zs.map .str)) ∧ zs.length < 64 ∧ ∀ ns : List Str, sortedS ns = true → ns.Nodup → (∀ k, k ∈ ns ↔ k ∈ zs) → Q (ns.map .str) δ' w') ∨
  ∃ zss : List (List Str), (x = .lst (zss.map dT) ∨ x = .tup (zss.map dT)) ∧ zss.length < 64 ∧ ∀ nss : List (List Str), nss.Pairwise (fun a b => lexS b a = false) → nss.Nodup → (∀ k, k ∈ nss ↔ k ∈ zss) → Q (nss.map dT) δ' w'
theorem accS_nodup : ∀ (l acc : List Str), acc.Nodup → (accS acc l).Nodup
  | [], _, h => h
  | x :: l, acc, h => by
    refine accS_nodup l _ ?_
    split
    · exact h
    · rename_i c
      exact List.nodup_cons.mpr ⟨c, h⟩
theorem rows_of {S : Addr → Prop} {H : Hp} : ∀ {zss : List (List Str)} {vs : List V}, RepL S H vs (zss.map dT) → ∃ rows : List (Row Str), vs = rows.map (fun m => V.ref m.1) ∧ rows.map Prod.snd = zss ∧ ∀ m ∈ rows, H m.1 = some (.tup (m.2.map V.str))
  | [], vs, r => by
    cases r
    exact ⟨[], rfl, rfl, fun m y => nomatch y⟩
  | zs :: zss, vs, r => by
    cases r with
    | cons r1 r2 =>
      obtain ⟨rows, e1, e2, e3⟩ := rows_of r2
      cases r1 with
      | @tup a us _ e r =>
        have eu := r.strs'
        subst eu
        exact ⟨(a, zs) :: rows, by rw [e1]; rfl, by rw [← e2]; rfl, fun m y => (List.mem_cons.mp y).elim (fun q => by rw [q]; exact e) (e3 m)⟩
theorem of_rows {S : Addr → Prop} {H : Hp} : ∀ (rows : List (Row Str)), (∀ m ∈ rows, H m.1 = some (.tup (m.2.map V.str))) → RepL S H (rows.map fun m => V.ref m.1) ((rows.map Prod.snd).map dT)
  | [], _ => .nil
  | m :: rows, h => .cons (.tup (h m List.mem_cons_self) RepL.strs) (of_rows rows fun n y => h n (List.mem_cons_of_mem _ y))
section
variable {X : Cx} {e : Expr} {d : DE L} {p p2 q pos : Pos} {k : Nat}
theorem pf_sortSet (hc : X.calm = true) (hr : Room k X.A) (hm : X.mg "sorted" = none) (hm2 : X.mg "set" = none) (he : PE X e (TD d)) (hg : Gl X "sorted" := by rfl) (hg2 : Gl X "set" := by rfl)
    (hs : starEach [e] X.env = (false, eval e X.env) :: starEach [] X.env := by rfl)
    (hs2 : starEach [.Call (.Name "set" p2) [e] [] q] X.env = (false, eval (.Call (.Name "set" p2) [e] [] q) X.env) :: starEach [] X.env := by rfl) :
    PE X (.Call (.Name "sorted" p) [.Call (.Name "set" p2) [e] [] q] [] pos) (TF (dfSortSet d)) := by
  have inner := pe_callTy (pos := q) (p := p2) (cr_setA hc hr.units) hg2 hm2 PyProof.Rows.boot_set (pa_cons he pa_nil hs) (by decide) (by decide) hs (by rfl)
  refine peI (pe_callB (cr_sortA hc hr.units) hg hm boot_B.1 (pa_cons inner pa_nil hs2) (by decide) (by decide) hs2 (by rfl)) fun σ H Q ⟨Φ, δ, w, R, A, hd, q⟩ => ?_
  refine ⟨Φ, δ, w, _, A, hd, fun x δ1 w1 v H1 h1 A1 s1 r1 => ?_⟩
  -- what is walked
  have seq : ∀ (ds : List D), (x = .lst ds ∨ x = .tup ds) → ∃ (l : Addr) (us : List V), v = .ref l ∧ (SqL X.K H1 l us ∨ SqT X.K H1 l us) ∧ RepL (Sof Φ δ1 σ w1) H1 us ds := fun ds y => by
    rcases y with rfl | rfl
    · cases r1 with
      | @lst a us _ e1 n r => exact ⟨a, us, rfl, .inl (SqL.of e1), r⟩
    · cases r1 with
      | @tup a us _ e1 r => exact ⟨a, us, rfl, .inr (SqT.of e1), r⟩
  rcases h1 with ⟨zs, y, few, h1⟩ | ⟨zss, y, few, h1⟩
  · obtain ⟨l, us, rfl, hl, r⟩ := seq _ y
    have eu := r.strs'
    subst eu
    refine ⟨l, _, rfl, hl, .inl ⟨zs, rfl, by unfold scanBound; omega, fun a na => ?_⟩⟩
    have len := accS_len zs []
    refine ⟨a, rfl, .inl ⟨accS [] zs, upd_same, by simp at len; omega, fun ns p hs' hp np => ?_⟩⟩
    have sm : Same H1 (upd H1 a (SetXO X.prog X.w a (accS [] zs))) := same_new na
    obtain ⟨z1, z2, z3, z4, z5, z6⟩ := fresh_at (vs := ns.map V.str) (xs := ns.map D.str) (A1.same sm) (s1.trans (Step.same sm)) RepL.strs np
    refine q _ _ _ _ _ _ (h1 ns hs' (hp.nodup_iff.mpr (accS_nodup zs [] List.nodup_nil)) fun k => ?_) z1 z2 z3 z4 z5 z6
    rw [hp.mem_iff, accS_mem]
    simp
  · obtain ⟨l, us, rfl, hl, r⟩ := seq _ y
    obtain ⟨rows, rfl, e2, e3⟩ := rows_of r
    subst e2
    rw [List.length_map] at few
    refine ⟨l, _, rfl, hl, .inr ⟨rows, rfl, few, e3, fun a M na f => ?_⟩⟩
    have sm : Same H1 (upd H1 a (SetYO X.prog X.w a M)) := same_new na
    have key : ∀ m ∈ M, upd H1 a (SetYO X.prog X.w a M) m.1 = some (.tup (m.2.map V.str)) := fun m hm => sm _ _ (e3 m (f.sub m hm))
    refine ⟨a, rfl, .inr ⟨M, upd_same, key, fun N p hp dist hs' np => ?_⟩⟩
    obtain ⟨z1, z2, z3, z4, z5, z6⟩ := fresh_at (vs := N.map fun m => V.ref m.1) (xs := (N.map Prod.snd).map dT) (A1.same sm) (s1.trans (Step.same sm)) (of_rows N fun m hm => key m (hp.mem_iff.mp hm)) np
    refine q _ _ _ _ _ _ (h1 (N.map Prod.snd) (List.pairwise_map.mpr hs') ((hp.map Prod.snd).nodup_iff.mpr dist) fun k => ?_) z1 z2 z3 z4 z5 z6
    rw [(hp.map Prod.snd).mem_iff]
    constructor
    · intro y
      obtain ⟨m, hm, rfl⟩ := List.mem_map.mp y
      exact List.mem_map.mpr ⟨m, f.sub m hm, rfl⟩
    · intro y
      obtain ⟨m, hm, rfl⟩ := List.mem_map.mp y
      exact f.all m hm
end
end Dl
set_option maxRecDepth 100000
set_option maxHeartbeats 1000000
namespace Dl
open PySem PySem.Spec PyProof.Rows L2 Lk Ws

variable {L : Wd}
/-- list(range(n)) -/
def dfListRg (d : DE L) : DA L := fun δ w Q => d δ w fun x δ' w' => ∃ n : Nat, x = .int n ∧ n ≤ 100000 ∧ Q ((List.range n).map fun i => .int (i : Nat)) δ' w'
section
variable {X : Cx} {e : Expr} {d : DE L} {p p2 q pos : Pos}
theorem rgV_nat (n : Nat) : rgV 0 n = ((List.range n).map fun i => ((i : Nat) : Int)).map V.int := by
  unfold rgV
  rw [List.map_map]
  have e : ((n : Int) - 0).toNat = n := by omega
  rw [e]
  refine List.map_congr_left fun i _ => ?_
  show V.int (0 + (i : Nat)) = V.int (i : Nat)
  rw [Int.zero_add]
theorem pf_listRg (hc : X.calm = true) (hm : X.mg "list" = none) (hm2 : X.mg "range" = none) (he : PE X e (TD d)) (hg : Gl X "list" := by rfl) (hg2 : Gl X "range" := by rfl)
    (hs : starEach [e] X.env = (false, eval e X.env) :: starEach [] X.env := by rfl)
    (hs2 : starEach [.Call (.Name "range" p2) [e] [] q] X.env = (false, eval (.Call (.Name "range" p2) [e] [] q) X.env) :: starEach [] X.env := by rfl) :
    PE X (.Call (.Name "list" p) [.Call (.Name "range" p2) [e] [] q] [] pos) (TF (dfListRg d)) := by
  refine peI (pe_listRg hc hg hm (prg_1 hg2 hm2 he hs) hs2) fun σ H Q ⟨Φ, δ, w, R, A, hd, q⟩ => ?_
  refine ⟨Φ, δ, w, _, A, hd, fun x δ1 w1 v H1 ⟨n, ex, hn, h1⟩ A1 s1 r1 => ?_⟩
  subst ex
  cases r1
  refine ⟨n, rfl, RgOk.of_le (Int.le_refl _) (by omega) (by decide) (by omega), fun p np => ?_⟩
  rw [rgV_nat]
  have e1 : ((List.range n).map fun i => D.int (i : Nat)) = ((List.range n).map fun i => ((i : Nat) : Int)).map D.int := by
    rw [List.map_map]
    rfl
  obtain ⟨z1, z2, z3, z4, z5, z6⟩ := fresh_at (vs := ((List.range n).map fun i => ((i : Nat) : Int)).map V.int) (xs := ((List.range n).map fun i => ((i : Nat) : Int)).map D.int) A1 s1 RepL.ints np
  rw [e1] at h1
  exact q _ _ _ _ _ _ h1 z1 z2 z3 z4 z5 z6
/-- -i -/
def deNeg (d : DE L) : DE L := fun δ w Q => d δ w fun x δ' w' => ∃ i : Int, x = .int i ∧ Q (.int (-i)) δ' w'
theorem pd_neg (he : PE X e (TD d)) : PE X (.UnaryOp .USub e pos) (TD (deNeg d)) := by
  refine peI (pe_un un_neg he) fun σ H Q ⟨Φ, δ, w, R, A, hd, q⟩ => ?_
  refine ⟨Φ, δ, w, _, A, hd, fun x δ1 w1 v H1 ⟨i, ex, h1⟩ A1 s1 r1 => ?_⟩
  subst ex
  cases r1
  exact ⟨i, rfl, q _ _ _ _ _ h1 A1 s1 (.int _)⟩
end
end Dl
set_option maxRecDepth 100000
set_option maxHeartbeats 2000000
namespace Dl
open PySem PySem.Spec PyProof.Rows L2 Lk Ws

section
variable {prog : Program} {w : World} {A : Around} {E : Value → Shared → Prop} {s : Shared}
/-- list(a text) -/
theorem list_of_txt {Q : Value → Shared → Prop} (hh : A.handled = none) (x : Str) (t : Tok) (hn : x.cps.size ≤ sizeLine)
    (fin : ∀ (g : Heap) (tk : Nat) (acc : Array Value) (c : Nat), (∀ b o, s.heap.get? b = some o → g.get? b = some o) → g.get? s.heap.objs.size = some { cls := .type "list", data := .seq acc c } → ItemsOf (SignAt x) acc x.cps.size → Q (.ref s.heap.objs.size) { s with heap := g, toks := tk }) :
    wpAny (model prog w) A (call (.type "list") [.str x t]) Q E s := by
  refine callType_codes (Q₁ := fun v s1 => v = .ref s.heap.objs.size ∧ s1 = { s with heap := s.heap.push { cls := .type "list", data := .seq #[] } }) F.called_list (F.typeCall_list_1 _) F.entry_list_init (code_list_new _ ⟨rfl, rfl⟩) fun v s1 y => ?_
  obtain ⟨rfl, rfl⟩ := y
  have at0 : (s.heap.push { cls := .type "list", data := .seq #[] }).get? s.heap.objs.size = some { cls := .type "list", data := .seq #[] } := Heap.get?_push_size _ rfl
  refine ⟨⟨_, at0, rfl⟩, F.args_list_init_2 _ _, ?_⟩
  show wpAny _ A.in1.in1 (do let old ← Builtin.List.listItems (.ref s.heap.objs.size); Builtin.List.listUpdate (.ref s.heap.objs.size) (fun _ => #[]); letGo old.toList.reverse; Builtin.List.listExtendWith (.ref s.heap.objs.size) (.str x t) .none) _ _ _
  refine wpAny_bind ?_
  unfold Builtin.List.listItems
  refine wpAny_bind (wpAny_seqItems at0 rfl (wpAny_pure ?_))
  show wpAny _ A.in1.in1 (updateSeq s.heap.objs.size (fun _ => #[]) >>= fun _ => letGo (#[] : Array Value).toList.reverse >>= fun _ => Builtin.List.listExtendWith (.ref s.heap.objs.size) (.str x t) .none) _ _ _
  refine wpAny_bind (wpAny_updateSeq at0 rfl ?_)
  obtain ⟨c1, at1⟩ : ∃ c1, ((s.heap.push { cls := .type "list", data := .seq #[] }).update s.heap.objs.size (Obj.mapSeq (fun _ => (#[] : Array Value)))).get? s.heap.objs.size = some { cls := .type "list", data := .seq #[] c1 } := ⟨_, Heap.get?_update_self (Obj.mapSeq (fun _ => (#[] : Array Value))) at0 rfl⟩
  refine wpAny_bind (wpAny_letGo ?_)
  have kp : ∀ b o, s.heap.get? b = some o → ((s.heap.push { cls := .type "list", data := .seq #[] }).update s.heap.objs.size (Obj.mapSeq (fun _ => (#[] : Array Value)))).get? b = some o := fun b o e =>
    (Heap.get?_update_other _ _ (Ne.symm (Nat.ne_of_lt (Heap.lt_size e)))).trans (Heap.get?_push_of_some _ e)
  have sz : ((s.heap.push { cls := .type "list", data := .seq #[] }).update s.heap.objs.size (Obj.mapSeq (fun _ => (#[] : Array Value)))).objs.size = s.heap.objs.size + 1 := by rw [Heap.size_update, Heap.size_push]
  generalize (s.heap.push { cls := .type "list", data := .seq #[] }).update s.heap.objs.size (Obj.mapSeq (fun _ => (#[] : Array Value))) = g1 at at1 kp sz
  unfold Builtin.List.listExtendWith
  refine wpAny_bind (wpAny_typeOf (T := "str") (v := .str x t) rfl ?_)
  have b1 : Builtin.List.listSameRef (.ref s.heap.objs.size) (.str x t) = false := rfl
  have b2 : (Value.type "str" == Value.type "list") = false := by decide
  have b3 : (Value.type "str" == Value.type "tuple") = false := by decide
  simp only [b1, b2, b3, Bool.or_false, Bool.false_eq_true, if_false]
  refine wpAny_bind (wpAny_pyIter_str fun o St W st => ?_)
  refine wpAny_bind (wpAny_holding ?_)
  unfold Builtin.List.listLengthHint
  refine wpAny_bind (wpAny_specialOf (T := "str") (v := .str x t) rfl F.str_len ?_)

  wp_delta
  refine wpAny_bind (wpAny_isInstance (T := "str") (v := .str x t) (b := true) rfl (by rw [isSubtype_type]; kernel_rfl) ?_)
  show wpAny _ A.in1.in1 (typeOf (Value.str x t) >>= _) _ _ _
  refine wpAny_bind (wpAny_typeOf (T := "str") (v := .str x t) rfl ?_)
  refine wpAny_pure ?_
  rw [if_neg (by decide)]
  have off : s.heap.objs.size ∉ [g1.objs.size] := fun y => by
    have e := List.mem_singleton.mp y
    omega
  refine wpAny_pure ⟨plainId_quiet F.plain_extend_loop _, codeAny_extend_loopS (W A.in1.in1 hh).toS hn _ off _ x.cps.size 0 _ _ _ rfl (Nat.zero_le _) st (Heap.get?_push_of_some _ at1) (ItemsOf.nil _) fun s' acc c mv at2 items => ?_⟩
  obtain ⟨g, gg, dd, tk, os⟩ := s'
  have q1 : gg = s.gens := mv.gens
  have q2 : dd = s.drawn := mv.drawn
  have q3 : os = s.os := mv.os
  subst q1 q2 q3
  refine ⟨rfl, fin g tk acc c (fun b ob e => mv.heap b ob (fun y => ?_) (Heap.get?_push_of_some _ (kp b ob e))) at2 items⟩
  have lt := Heap.lt_size e
  rcases List.mem_cons.mp y with y | y
  · rw [y] at lt
    exact absurd lt (Nat.lt_irrefl _)
  · rw [List.mem_singleton.mp y, sz] at lt
    exact absurd lt (Nat.not_lt.mpr (Nat.le_succ _))
end
section
variable {X : Cx}
def rListS : List V → Hp → VK → Prop := fun xs H Q => ∃ z : Str, xs = [.str z] ∧ z.length ≤ sizeLine ∧ ∀ p, H p = none → Q (.ref p) (upd H p (.lst ((z.cps.toList.map fun c => (⟨#[c]⟩ : Str)).map V.str)))
theorem signs_vals {z : Str} {acc : Array Value} (h : ItemsOf (SignAt z) acc z.cps.size) : Vals ((z.cps.toList.map fun c => (⟨#[c]⟩ : Str)).map V.str) acc.toList := by
  refine vals_of_at (by rw [List.length_map, List.length_map, Array.length_toList, Array.length_toList]; exact h.1.symm) fun j x w h1 h2 => ?_
  obtain ⟨c, u, e1, rfl⟩ := h.2 j w (by rw [← Array.getElem?_toList]; exact h2)
  rw [← Array.getElem?_toList] at e1
  rw [List.getElem?_map, List.getElem?_map, e1] at h1
  cases h1
  exact ⟨u, rfl⟩
theorem cr_listS (hc : X.calm = true) : CallR X (.type "list") rListS := by
  intro pins s σ H xs us Q I r h
  obtain ⟨z, rfl, hz, q⟩ := h
  obtain ⟨u, rfl, ru⟩ := vals1 r
  obtain ⟨t, rfl⟩ := ru
  refine list_of_txt (I.ok.hd hc) z t hz fun g tk acc c kp e items => ?_
  have hv := signs_vals items
  refine ⟨.ref s.heap.objs.size, upd H s.heap.objs.size (.lst ((z.cps.toList.map fun c => (⟨#[c]⟩ : Str)).map V.str)), I.laid (t' := tk) kp (Nat.le_refl _) ⟨?_, acc.toList, c, hv, ?_⟩, rfl, q _ (I.hok.fresh (Nat.le_refl _))⟩
  · rw [List.length_map, List.length_map]
    exact hz
  · rw [Array.toArray_toList]
    exact e
def dfListX : List D → (List D → Prop) → Prop := fun xs k => dfListA xs k ∨ ∃ z : Str, xs = [.str z] ∧ z.length ≤ sizeLine ∧ k ((z.cps.toList.map fun c => (⟨#[c]⟩ : Str)).map .str)
theorem listX_F {K : PySem.W.Frag} : CallF (fun xs H Q => rListA K xs H Q ∨ rListS xs H Q) dfListX := fun S H xs vs k Q hS r hf q => by
  rcases hf with hf | ⟨z, rfl, hz, hk⟩
  · exact .inl (listA_F S H xs vs k Q hS r hf q)
  · cases r with
    | cons r1 r2 =>
      cases r2
      cases r1
      exact .inr ⟨z, rfl, hz, fun p np => q _ _ p hk np RepL.strs⟩
variable {L : Wd} {e : Expr} {es : List Expr} {da : DA L} {p pos : Pos}
theorem pf_listX (hc : X.calm = true) (hm : X.mg "list" = none) (ha : PA X (e :: es) (TDA da)) (hg : Gl X "list" := by rfl) (he : starEach (e :: es) X.env = (false, eval e X.env) :: starEach es X.env := by rfl) (hpl : (backTo pos (starEach es X.env)).any (·.1) = false := by rfl) : PE X (.Call (.Name "list" p) (e :: es) [] pos) (TF (dfCB dfListX da)) :=
  pf_Ty (fun pins s σ H xs us Q I r h => h.elim (cr_listA hc pins s σ H xs us Q I r) (cr_listS hc pins s σ H xs us Q I r)) listX_F hg hm boot_T.2.1 ha (by decide) (by decide) he hpl
end
end Dl
set_option maxRecDepth 100000
set_option maxHeartbeats 1000000
namespace Dl
open PySem PySem.Spec PyProof.Rows L2 Lk Ws
variable {L : Wd} {X : Cx} {a b : Expr} {db : DE L} {pos : Pos}
/-- an item of a list that a name holds alone -/
theorem pd_ixO {i : Nat} (ha : PE X a (tVar i)) (hb : PE X b (TD db)) (hs : PlainIx b) : PE X (.Subscript a b pos) (TD (deOpO dIx i db)) := peI (pe_ix ix_seq ha hb hs) (TD_opO ix_D)
end Dl
set_option maxRecDepth 100000
set_option maxHeartbeats 2000000
namespace Dl
open PySem PySem.Spec PyProof.Rows L2

theorem PSnox {X : Cx} {st : Stmt} {t : TS} (h : PS X.nox st t) : PS X st t := ⟨fun pins s σ H D I hw =>
  wpAny_mono (h.run pins s σ H D (I.wish _) hw) (fun _ _ q => q.unwish) fun _ _ z => False.elim z⟩

/-! ### a def called by its class -/
section
variable {X : Cx} {x m : Str} {C g : Addr} {mc : Value} {n : Nat} {fd : FuncData} {ps : List Str} {sp : Sp} {p1 p2 pos : Pos} {e : Expr} {es : List Expr} {ta : TA}
theorem pe_clsF {pl : Sem Bool} (hg : Gl X x) (hm : X.mg x = some (.ref C)) (r : ClX.CRead X.K C mc) (k : PySem.W.findCls X.K (.ref C) mc m = some (.val (.ref g))) (kg : PySem.W.keepIn X.K (.ref g) = true)
    (F : FnOk X.prog X.w X.K X.mg X.base CX0 n g fd ps sp) (hr : Room n X.A) (hb : Binds X.K fd ps []) (ha : PA X (e :: es) ta)
    (hc : eval (.Call (.Attribute (.Name x p1) m p2) (e :: es) [] pos) X.env = (do
      let ov ← eval (.Name x p1) X.env
      standAt p2.atName
      let (f, first) ← holding [ov] (getMethod ov m pl)
      callWith pos f first (backTo pos (starEach (e :: es) X.env)) (backToKw pos (keywordEach [] X.env))) := by rfl)
    (hdb : (x == ("__debug__" : Str)) = false := by decide)
    (he : starEach (e :: es) X.env = (false, eval e X.env) :: starEach es X.env := by rfl) (hpl : (backTo pos (starEach es X.env)).any (·.1) = false := by rfl) :
    PE X (.Call (.Attribute (.Name x p1) m p2) (e :: es) [] pos) (tCall sp [] E0 ta) := by
  refine ⟨fun pins s σ H Q I h => ?_⟩
  refine PySem.W.methodCall_KW (ld_glob I hg hm ?_ hdb) hc
  refine PySem.W.method_cls I.kIn r.ga (ClX.getcval_ok I r (v := .ref g) ⟨k, rfl⟩ fun s' I' => ?_)
  show wpAny _ _ (callWith pos (.ref g) [] (backTo pos (starEach (e :: es) X.env)) []) _ _ _
  refine PySem.W.callWith_K (h₀ := X.base) I'.ok.mod.kin kg (thn (ha.run pos pins s' σ H _ I' h) fun us s1 ⟨vs, H1, I1, r1, q⟩ => ⟨I1.kIn, ?_⟩) he hpl
  exact run_fn F hr hb .nil pass0 I1 r1 q
end

/-! ### the error classes' own __init__ -/
/-- the root's: the base's __init__ alone -/
def spE0 (K : PySem.W.Frag) : Sp := fun vs H Q _ => ∃ (a C : Addr) (y : V), vs = [.ref a, y] ∧ OexC K C ∧ H a = some (exo a C none) ∧ Q .non H
/-- .. and one field is set -/
def spE1 (K : PySem.W.Frag) (f : Str) : Sp := fun vs H Q _ => ∃ (a C : Addr) (y : V), vs = [.ref a, y] ∧ OexC K C ∧ PySem.W.findIn K (.ref C) f = some none ∧ H a = some (exo a C none) ∧
  ∀ dx, H dx = none → dx ≠ a → Q .non (upd (upd H dx (exd dx [(f, y)])) a (exo a C (some dx)))
end Dl
set_option maxRecDepth 100000
set_option maxHeartbeats 2000000
namespace Dl
open PySem PySem.Spec PyProof.Rows L2

/-! ### a def that may raise, and wants the guards to be none -/
structure FnX (P : Program) (w : World) (K : PySem.W.Frag) (mg : Str → Option Value) (base : Heap) (k : Nat) (f : Addr) (fd : FuncData) (ps : List Str) (sp : Sp) : Prop where
  len : ∀ vs H Q E, sp vs H Q E → vs.length = ps.length
  run : ∀ (A : Around) (outer : List Env) (s : Shared) (H : Hp) (args : Args) (us : List Value) (vs : List V) (Q : VK) (E : XK), Room k A → A.guards = some [] → Env0 P w K mg base A outer s H → BindsTo s fd args (ps.zip us) → Vals vs us → sp vs H Q E →
    codeAny (model P w) A (.call (.ref f) args) (CR (L2.CX P w) outer P w H s Q E) s
section
variable {P : Program} {w : World} {K : PySem.W.Frag} {mg : Str → Option Value} {base : Heap}
theorem okX {x qual : Str} {st : Stmt} {f : Addr} {fd : FuncData} {N ps : List Str} {k : Nat} {sp : Sp} (F : Fun K x qual st f fd) (S : FnScope N ps (defScope st)) (len : ∀ vs H Q E, sp vs H Q E → vs.length = ps.length)
    (hbody : ∀ (cdv : Value) (A : Around) (outer : List Env) (s : Shared) (H : Hp) (vs : List V) (Q : VK) (E : XK), Room k (A.deeper (envOfC qual (defScope st) s.heap.objs.size f cdv)) → (A.deeper (envOfC qual (defScope st) s.heap.objs.size f cdv)).guards = some [] → sp vs H Q E →
      ∃ t, PSs (cxOf (L2.CX P w) P w K mg base N qual (defScope st) f cdv A outer s H E) (defBody st) t ∧ t { nx := fun _ H' => Q .non H', rt := Q } (start N vs) H) : FnX P w K mg base (k + 1) f fd ps sp := by
  obtain ⟨oc, od, kV, doc, pm, an, cdv, ct, osl, rfl, lk, hcd⟩ := F.ex
  refine ⟨len, fun A outer s H args us vs Q E hr hgu e0 hb r hsp => ?_⟩
  have KX : K.In s.heap := e0.mod.kin.keeps fun b o e => (e0.bs b o e).1
  refine codeAny_call_function hr.depth (KX _ _ lk) rfl S.co S.gen rfl (PySem.W.codeRec_of KX hcd) (hb _ _ _ _ ?_)
  refine wpAny_newFunctionEnv_cells S.kind (fun y hy => (S.par y.1 (List.of_mem_zip hy).1).imp id fun q => ⟨q, PySem.W.cellsFrom_some _ _ _ (.inl q)⟩) fun env he s1 x => ?_
  subst he
  refine ⟨(e0.mod.nolimit.keeps fun b o e => (e0.bs b o e).1).keeps x.toInCall.keep, codeAny_func ?_⟩
  obtain ⟨t, ht, hq⟩ := hbody cdv A outer s H vs Q E (hr.deeper _) hgu hsp
  refine wpAny_mono (ht.run [] s1 (start N vs) H _ (inv_start S hr.hd e0 (len _ _ _ _ hsp) r x) hq) (fun fl s' hs => ?_) fun e s' hs => hs
  cases fl with
  | ret u =>
    obtain ⟨v, σ', H', J, rv, q⟩ := hs
    exact ⟨v, H', J.os, J.bare, J.base, J.hok, rv, q⟩
  | next =>
    obtain ⟨σ', H', J, q⟩ := hs
    exact ⟨V.non, H', J.os, J.bare, J.base, J.hok, (rfl : RelV V.non Value.none), q⟩
  | brk => exact hs.elim fun _ z => z.elim fun _ z => z.2.elim
  | cont => exact hs.elim fun _ z => z.elim fun _ z => z.2.elim
theorem FnX.imp {f : Addr} {fd : FuncData} {ps : List Str} {k : Nat} {sp sp' : Sp} (F : FnX P w K mg base k f fd ps sp) (h : ∀ vs H Q E, sp' vs H Q E → sp vs H Q E) : FnX P w K mg base k f fd ps sp' :=
  ⟨fun vs H Q E q => F.len vs H Q E (h _ _ _ _ q), fun A outer s H args us vs Q E hr hgu he hb hv hs => F.run A outer s H args us vs Q E hr hgu he hb hv (h _ _ _ _ hs)⟩
end
/-! ### its call, in a try -/
section
variable {X : Cx} {k : Nat} {f : Addr} {fd : FuncData} {ps : List Str} {sp : Sp} {E : L2.St → XK} {x : Str} {p pos : Pos} {e : Expr} {es : List Expr} {t : TA}
theorem pe_callX (F : FnX X.prog X.w X.K X.mg X.base k f fd ps sp) (hr : Room k X.A) (hgu : X.A.guards = some []) (hg : Gl X x) (hm : X.mg x = some (.ref f)) (hk : PySem.W.keepIn X.K (.ref f) = true) (hb : Binds X.K fd ps []) (hx : ∀ σ, PassesAt (L2.CX X.prog X.w) X σ (E σ))
    (ha : PA X (e :: es) t) (hdb : (x == ("__debug__" : Str)) = false := by decide) (he : starEach (e :: es) X.env = (false, eval e X.env) :: starEach es X.env := by rfl) (hpl : (backTo pos (starEach es X.env)).any (·.1) = false := by rfl) :
    PE X (.Call (.Name x p) (e :: es) [] pos) (tCallS sp E t) := by
  refine ⟨fun pins s σ H Q I h => ?_⟩
  refine wpAny_Call_Name_kw (ld_glob I hg hm ?_ hdb)
  refine PySem.W.callWith_K (h₀ := X.base) I.ok.mod.kin hk (thn (ha.run pos pins s σ H _ I h) fun us s1 ⟨vs, H1, I1, r, q⟩ => ⟨I1.kIn, ?_⟩) he hpl
  have q : sp vs H1 Q (E σ) := q
  have hl : us.length = ps.length := by rw [← r.length]; exact F.len _ _ _ _ q
  have hb' := hb s1 us I1.kIn (by rw [List.append_nil]; exact hl)
  rw [List.append_nil] at hb'
  refine wpAny_call (codeAny_mono (F.run X.A X.stack s1 H1 ⟨us, []⟩ us vs Q (E σ) hr hgu I1.env0 hb' r q) fun r s' hq => ?_)
  cases r with
  | error e => exact hx σ pins H1 s1 e s' I1 hq
  | ok fl =>
    cases fl with
    | ret u => exact I1.after hq
    | next => exact False.elim hq
    | brk => exact False.elim hq
    | cont => exact False.elim hq
end

/-! ### raise C(text), C's own __init__ setting one field -/
/-- what the class says -/
structure RzC (P : Program) (w : World) (K : PySem.W.Frag) (mg : Str → Option Value) (base : Heap) (k : Nat) (x f1 : Str) (C : Addr) : Prop where
  mx : mg x = some (.ref C)
  T : OexC K C
  hf : PySem.W.findIn K (.ref C) f1 = some none
  fn : ∃ g fd ps, PySem.W.findIn K (.ref C) "__init__" = some (some (.ref g)) ∧ PySem.W.typeIn K (.ref g) = some (.type "function") ∧ FnOk P w K mg base CX0 k g fd ps (spE1 K f1) ∧ Binds K fd ps []
/-- the reading: at dx the error's dict -/
def tRz (C : Addr) (f1 m : Str) (W : WX) : L2.St → Hp → Prop := fun σ H => ∀ dx, H dx = none → W (.ref C) (some dx) σ (upd H dx (.xd [(f1, .str m)]))
section
variable {X : Cx} {W : WX} {k j : Nat} {C : Addr} {x f1 m : Str} {p p2 p3 pos : Pos}
theorem ps_rz (R : RzC X.prog X.w X.K X.mg X.base k x f1 C) (hc : X.calm = true) (tk : Takes X W) (hr : Room (k + 1) X.A) (hg : Gl X x) (hdb : (x == ("__debug__" : Str)) = false := by decide) :
    PS X (.Raise (some (.Call (.Name x p) [.Constant (.str m) j p2] [] p3)) none pos) (fun _ σ H => tRz C f1 m W σ H) := by
  obtain ⟨g, fd, ps, ig, tg, F, B⟩ := R.fn
  refine psI (ps_raise hc tk (pmk_oex R.T ig tg F hr B (.nil : Vals [] []) pass0 hg R.mx (pa_cons pe_str pa_nil) hdb)) fun D σ H h => ?_
  show tMkO C (spE1 X.K f1) [] (tCons (tC (.str m)) tNil) σ H fun cls d H' => W cls d σ H'
  refine ⟨by simp, fun a ha => ⟨a, C, .str m, rfl, R.T, R.hf, upd_same, fun dx hd ne => ?_⟩⟩
  have hd' : H dx = none := by rw [upd_ne ne] at hd; exact hd
  refine ⟨rfl, dx, [(f1, .str m)], upd_same, ?_, hd', ?_⟩
  · rw [upd_ne ne, upd_same]
  · have e : upd (L2.del (upd (upd (upd H a (exo a C none)) dx (exd dx [(f1, .str m)])) a (exo a C (some dx))) a) dx (.xd [(f1, .str m)]) = upd H dx (.xd [(f1, .str m)]) := by
      funext b
      by_cases h1 : b = dx
      · rw [h1, upd_same, upd_same]
      · rw [upd_ne h1, upd_ne h1]
        by_cases h2 : b = a
        · rw [h2, del_same, ha]
        · rw [del_ne h2, upd_ne h2, upd_ne h1, upd_ne h2]
    rw [e]
    exact h dx hd'
end
end Dl
set_option maxRecDepth 100000
set_option maxHeartbeats 2000000
namespace Dl
open PySem PySem.Spec PyProof.Rows L2

/-! ### defs that end by a raise, as data -/
variable {L : Wd}
abbrev DFX (L : Wd) := List D → L.W → (D → L.W → Prop) → (L.W → Prop) → Prop
def spX (L : Wd) (C : Addr) (f : DFX L) : Sp := fun vs H Q E => ∃ (F : Addr → Prop) (ds : List D) (w : L.W) (R : D → L.W → Prop) (RX : L.W → Prop), RepL (fun b => L.mu w b ∨ F b) H vs ds ∧ L.rep w H ∧ (∀ b, F b → H b ≠ none ∧ ¬ L.mu w b) ∧ f ds w R RX ∧
  (∀ x w' v H', R x w' → L.rep w' H' → Step (L.mu w) H (L.mu w') H' → Rep (fun b => L.mu w' b ∨ F b) H' v x → Q v H') ∧
  ∀ w' dx fs H', RX w' → L.rep w' H' → Step (L.mu w) H (L.mu w') H' → H' dx = some (.xd fs) → E (.ref C) (some dx) H'
/-- n parameters, m names; the body's end is the raise -/
def dfX (n m : Nat) (b : DS L) : DFX L := fun ds w R RX => ds.length = n ∧ b { nx := fun _ w' => RX w', rt := R, bk := fun _ _ => False, ct := fun _ _ => False } (ds.map .val ++ List.replicate (m - n) .no) w
def TDX (C : Addr) (f1 m : Str) (W : WX) (d : DS L) : TS := fun D σ H => TDS d { D with nx := fun σ H => tRz C f1 m W σ H } σ H
section
variable {X : Cx} {st : Stmt} {sts : List Stmt} {d e : DS L} {C : Addr} {f1 m : Str} {W : WX}
theorem pdx_cons (h1 : PS X st (TDS d)) (h2 : PSs X sts (TDX C f1 m W e)) : PSs X (st :: sts) (TDX C f1 m W (dsSeq d e)) := by
  refine pssI (pss_cons h1 h2) fun D σ H ⟨Φ, δ, w, E, A, hd, h1, h2, h3, h4⟩ => ?_
  refine ⟨Φ, δ, w, { E with nx := e E }, A, hd, fun δ' w' σ' H' q A' s => ?_, h2, h3, h4⟩
  exact ⟨Φ, δ', w', E, A', q, fun _ _ _ _ q2 A2 s2 => h1 _ _ _ _ q2 A2 (s.trans s2), fun _ _ _ _ q2 A2 s2 => h2 _ _ _ _ q2 A2 (s.trans s2), fun _ _ _ _ q2 A2 s2 => h3 _ _ _ _ q2 A2 (s.trans s2), h4⟩
theorem pdx_raise (h : PS X st (fun _ σ H => tRz C f1 m W σ H)) : PSs X [st] (TDX C f1 m W (dsNext (L := L))) :=
  pssI (pss_one h) fun D σ H ⟨Φ, δ, w, E, A, hd, h1, _⟩ => h1 _ _ _ _ hd A (Step.refl _ _)
end
section
variable {P : Program} {W : World} {K : PySem.W.Frag} {mg : Str → Option Value} {base : Heap}
theorem fnX_mk {x : Str} {st : Stmt} {f : Addr} {fd : FuncData} {N ps : List Str} {k : Nat} {b : DS L} {C : Addr} {f1 m : Str} (F : Fun K x x st f fd) (S : FnScope N ps (defScope st))
    (hbody : ∀ (cdv : Value) (A : Around) (outer : List Env) (s : Shared) (H : Hp) (E : XK), Room k (A.deeper (envOfC x (defScope st) s.heap.objs.size f cdv)) → (A.deeper (envOfC x (defScope st) s.heap.objs.size f cdv)).guards = some [] →
      Takes (cxOf (L2.CX P W) P W K mg base N x (defScope st) f cdv A outer s H E) (fun cls d _ H => E cls d H) →
      PSs (cxOf (L2.CX P W) P W K mg base N x (defScope st) f cdv A outer s H E) (defBody st) (TDX C f1 m (fun cls d _ H => E cls d H) b)) :
    FnX P W K mg base (k + 1) f fd ps (spX L C (dfX ps.length N.length b)) := by
  refine okX F S (fun vs H Q E h => ?_) (fun cdv A outer s H vs Q E hr hgu h => ?_)
  · obtain ⟨F, ds, w, R, RX, r, _, _, ⟨hl, _⟩, _⟩ := h
    rw [r.length, hl]
  · obtain ⟨F, ds, w, R, RX, r, h1, hF, ⟨hl, hb⟩, q, qx⟩ := h
    have A0 := start_at (N := N) r h1 hF
    rw [hl] at A0
    refine ⟨_, hbody cdv A outer s H E hr hgu (takes_of rfl rfl rfl rfl), ⟨F, w, H⟩, _, w, _, A0, hb, fun δ' w' σ' H' hq A' _ => ?_, fun _ _ _ _ z => z.elim, fun _ _ _ _ z => z.elim, fun x w' v H' hq fin => ?_⟩
    · intro dx hdx
      have A2 := A'.same (same_new (o := .xd [(f1, .str m)]) hdx)
      exact qx w' dx _ _ hq A2.rep A2.go upd_same
    · exact q _ _ _ _ hq fin.rep fin.go fin.val
theorem okXC {x : Str} {st : Stmt} {f c : Addr} {fd : FuncData} {N ps : List Str} {k : Nat} {sp : Sp} (F : FunC K x st f c fd) (S : FnScope N ps (defScope st)) (len : ∀ vs H Q E, sp vs H Q E → vs.length = ps.length)
    (hbody : ∀ (A : Around) (outer : List Env) (s : Shared) (H : Hp) (vs : List V) (Q : VK) (E : XK), Room k (A.deeper (envOfC x (defScope st) s.heap.objs.size f (.ref c))) → (A.deeper (envOfC x (defScope st) s.heap.objs.size f (.ref c))).guards = some [] → sp vs H Q E →
      ∃ t, PSs (cxOf (L2.CX P W) P W K mg base N x (defScope st) f (.ref c) A outer s H E) (defBody st) t ∧ t { nx := fun _ H' => Q .non H', rt := Q } (start N vs) H) : FnX P W K mg base (k + 1) f fd ps sp := by
  obtain ⟨oc, od, kV, doc, pm, an, ct, osl, rfl, lk, hcd⟩ := F.ex
  refine ⟨len, fun A outer s H args us vs Q E hr hgu e0 hb r hsp => ?_⟩
  have KX : K.In s.heap := e0.mod.kin.keeps fun b o e => (e0.bs b o e).1
  refine codeAny_call_function hr.depth (KX _ _ lk) rfl S.co S.gen rfl (PySem.W.codeRec_of KX hcd) (hb _ _ _ _ ?_)
  refine wpAny_newFunctionEnv_cells S.kind (fun y hy => (S.par y.1 (List.of_mem_zip hy).1).imp id fun q => ⟨q, PySem.W.cellsFrom_some _ _ _ (.inl q)⟩) fun env he s1 x => ?_
  subst he
  refine ⟨(e0.mod.nolimit.keeps fun b o e => (e0.bs b o e).1).keeps x.toInCall.keep, codeAny_func ?_⟩
  obtain ⟨t, ht, hq⟩ := hbody A outer s H vs Q E (hr.deeper _) hgu hsp
  refine wpAny_mono (ht.run [] s1 (start N vs) H _ (inv_start S hr.hd e0 (len _ _ _ _ hsp) r x) hq) (fun fl s' hs => ?_) fun e s' hs => hs
  cases fl with
  | ret u =>
    obtain ⟨v, σ', H', J, rv, q⟩ := hs
    exact ⟨v, H', J.os, J.bare, J.base, J.hok, rv, q⟩
  | next =>
    obtain ⟨σ', H', J, q⟩ := hs
    exact ⟨V.non, H', J.os, J.bare, J.base, J.hok, (rfl : RelV V.non Value.none), q⟩
  | brk => exact hs.elim fun _ z => z.elim fun _ z => z.2.elim
  | cont => exact hs.elim fun _ z => z.elim fun _ z => z.2.elim
theorem fnX_mkC {x : Str} {st : Stmt} {f c : Addr} {fd : FuncData} {N ps : List Str} {k : Nat} {b : DS L} {C : Addr} {f1 m : Str} (F : FunC K x st f c fd) (S : FnScope N ps (defScope st))
    (hbody : ∀ (A : Around) (outer : List Env) (s : Shared) (H : Hp) (E : XK), Room k (A.deeper (envOfC x (defScope st) s.heap.objs.size f (.ref c))) → (A.deeper (envOfC x (defScope st) s.heap.objs.size f (.ref c))).guards = some [] →
      Takes (cxOf (L2.CX P W) P W K mg base N x (defScope st) f (.ref c) A outer s H E) (fun cls d _ H => E cls d H) →
      PSs (cxOf (L2.CX P W) P W K mg base N x (defScope st) f (.ref c) A outer s H E) (defBody st) (TDX C f1 m (fun cls d _ H => E cls d H) b)) :
    FnX P W K mg base (k + 1) f fd ps (spX L C (dfX ps.length N.length b)) := by
  refine okXC F S (fun vs H Q E h => ?_) (fun A outer s H vs Q E hr hgu h => ?_)
  · obtain ⟨F, ds, w, R, RX, r, _, _, ⟨hl, _⟩, _⟩ := h
    rw [r.length, hl]
  · obtain ⟨F, ds, w, R, RX, r, h1, hF, ⟨hl, hb⟩, q, qx⟩ := h
    have A0 := start_at (N := N) r h1 hF
    rw [hl] at A0
    refine ⟨_, hbody A outer s H E hr hgu (takes_of rfl rfl rfl rfl), ⟨F, w, H⟩, _, w, _, A0, hb, fun δ' w' σ' H' hq A' _ => ?_, fun _ _ _ _ z => z.elim, fun _ _ _ _ z => z.elim, fun x w' v H' hq fin => ?_⟩
    · intro dx hdx
      have A2 := A'.same (same_new (o := .xd [(f1, .str m)]) hdx)
      exact qx w' dx _ _ hq A2.rep A2.go upd_same
    · exact q _ _ _ _ hq fin.rep fin.go fin.val
theorem spX_imp {C : Addr} {d g : DFX L} (h : ∀ ds w R RX, g ds w R RX → d ds w R RX) : ∀ vs H Q E, spX L C g vs H Q E → spX L C d vs H Q E := fun vs H Q E ⟨F, ds, w, R, RX, r, h1, hF, hb, q⟩ => ⟨F, ds, w, R, RX, r, h1, hF, h _ _ _ _ hb, q⟩
end
/-- a def of the module that may raise C -/
structure GdX (P : Program) (W : World) (K : PySem.W.Frag) (mg : Str → Option Value) (base : Heap) (L : Wd) (C : Addr) (k : Nat) (x : Str) (ps : List Str) (f : DFX L) : Prop where
  ex : ∃ a fd, FnX P W K mg base k a fd ps (spX L C f) ∧ mg x = some (.ref a) ∧ PySem.W.keepIn K (.ref a) = true ∧ Binds K fd ps []
theorem GdX.imp {P : Program} {W : World} {K : PySem.W.Frag} {mg : Str → Option Value} {base : Heap} {C : Addr} {k : Nat} {x : Str} {ps : List Str} {d g : DFX L} (G : GdX P W K mg base L C k x ps d) (h : ∀ ds w R RX, g ds w R RX → d ds w R RX) : GdX P W K mg base L C k x ps g :=
  let ⟨a, fd, F, m⟩ := G.ex; ⟨a, fd, F.imp (spX_imp h), m⟩

theorem gdX_mkC {P : Program} {W : World} {K : PySem.W.Frag} {mg : Str → Option Value} {base : Heap} {x : Str} {st : Stmt} {N ps : List Str} {k : Nat} {b : DS L} {c T C : Addr} {f1 m : Str} (D : TabAt K mg base x st c T) (S : FnScope N ps (defScope st))
    (bd : ∀ {f fd}, Fun K x x st f fd → Binds K fd ps [])
    (hbody : ∀ (f : Addr) (A : Around) (outer : List Env) (s : Shared) (H : Hp) (E : XK), GxR.TabB base mg c T → Room k (A.deeper (envOfC x (defScope st) s.heap.objs.size f (.ref c))) → (A.deeper (envOfC x (defScope st) s.heap.objs.size f (.ref c))).guards = some [] →
      Takes (cxOf (L2.CX P W) P W K mg base N x (defScope st) f (.ref c) A outer s H E) (fun cls d _ H => E cls d H) →
      PSs (cxOf (L2.CX P W) P W K mg base N x (defScope st) f (.ref c) A outer s H E) (defBody st) (TDX C f1 m (fun cls d _ H => E cls d H) b)) :
    GdX P W K mg base L C (k + 1) x ps (dfX ps.length N.length b) := by
  obtain ⟨f, fd, F, m, TB⟩ := D
  exact ⟨f, fd, fnX_mkC F S fun A outer s H E hr hgu tk => hbody f A outer s H E TB hr hgu tk, m, F.kp, bd F.func⟩

/-! ### try: y = f(..); except D as e: a suite that gives two names values -/
theorem At.slot {Φ : Ph L} {δ : DEnv} {w : L.W} {σ : L2.St} {H : Hp} (A : At Φ δ w σ H) {i : Nat} (e : δ[i]? = some .no) (o : Option V) : At Φ δ w (σ.set i o) H ∧ ∀ b, Mof L δ (σ.set i o) w b → Mof L δ σ w b := by
  have ne : ∀ {j : Nat} {x : DV}, δ[j]? = some x → x ≠ .no → (σ.set i o)[j]? = σ[j]? := fun {j x} h n => by
    refine List.getElem?_set_ne fun z => ?_
    rw [← z, e] at h
    exact n (Option.some.inj h).symm
  have nv : ∀ d, DV.val d ≠ .no := fun d z => nomatch z
  have no : ∀ d, DV.own d ≠ .no := fun d z => nomatch z
  have sub : ∀ b, Mof L δ (σ.set i o) w b → Mof L δ σ w b := fun b h => by
    rcases h with h | ⟨j, d, h1, h2⟩
    · exact .inl h
    · rw [ne h1 (no d)] at h2
      exact .inr ⟨j, d, h1, h2⟩
  have subS : ∀ b, Sof Φ δ (σ.set i o) w b → Sof Φ δ σ w b := fun b h => h.M.elim (fun h => (sub b h).S) fun h => .inr (.inl h)
  refine ⟨⟨by rw [List.length_set]; exact A.len, A.rep, A.go, A.trk, A.fm, fun j d h => ?_, fun j d h => ?_, fun j k d d' a h1 h2 h3 h4 => ?_⟩, sub⟩
  · obtain ⟨v, e1, r⟩ := A.val j d h
    exact ⟨v, by rw [ne h (nv d)]; exact e1, r.go (sub_step subS H)⟩
  · obtain ⟨a, e1, r, q⟩ := A.own j d h
    exact ⟨a, by rw [ne h (no d)]; exact e1, r.go (fun _ z => z) (sub_step subS H), q⟩
  · rw [ne h1 (no d)] at h3
    rw [ne h2 (no d')] at h4
    exact A.dis j k d d' a h1 h2 h3 h4
def dsTryX (i ie io jf : Nat) (b0 : Bool) (z : Str) (f : DFX L) (da : DA L) : DS L := fun E δ w => da δ w fun ds δ1 w1 => δ1[ie]? = some .no ∧ i < δ1.length ∧ io < δ1.length ∧ jf < δ1.length ∧ io ≠ ie ∧ jf ≠ ie ∧
  f ds w1 (fun x w2 => E.nx (δ1.set i (.val x)) w2) fun w2 => E.nx ((δ1.set io (.val (.bl b0))).set jf (.val (.str z))) w2
/-- the suite: e at slot ie, a tuple of classes is laid, two names are given values -/
def tSu (ie io jf : Nat) (b0 : Bool) (z : Str) (cs : List V) (a d : Addr) : TS := fun D σ H => (∃ fs, H d = some (.xd fs)) ∧ σ[ie]? = some (some (.ref a)) ∧ io ≠ ie ∧ io < σ.length ∧ ∀ p, H p = none → D.nx ((σ.set io (some (.bl b0))).set jf (some (.str z))) (upd H p (.tup cs))
section
variable {X : Cx} {x x0 y n : Str} {C : Addr} {c0 : Value} {i ie io jf k : Nat} {b0 : Bool} {z : Str} {cs : List V} {ps : List Str} {f : DFX L} {da : DA L} {e : Expr} {es : List Expr} {b₀ : Stmt} {suite : List Stmt} {p py pc pa np pos pos' : Pos}
theorem pds_try (G : GdX X.prog X.w X.K X.mg X.base L C k x ps f) (hr : Room k X.A) (hgu : X.A.guards = some []) (hg : Gl X x) (hs : X.stack = X.env :: X.outer) (hf : X.env.frame = some X.env.locals) (hN : X.N.Nodup) (hi : X.N[ie]? = some n) (hln : X.env.kindOf n = some .local)
    (hc : Names X x0 c0) (hex : PySem.W.exmOne X.K (.ref C) c0 = some true)
    (hset : ∀ (pn : List (Addr × Obj)) (xe : Value → Shared → Prop) (te : TE), PE (X.tr pn xe) (.Call (.Name x p) (e :: es) [] pc) te → PS (X.tr pn xe) (.Assign [.Name y py] (.Call (.Name x p) (e :: es) [] pc) pa) (tAsg te (L2.gName i)))
    (ha : ∀ (pn : List (Addr × Obj)) (xe : Value → Shared → Prop), PA (X.tr pn xe) (e :: es) (TDA da))
    (hsu : ∀ (a d : Addr) (oe : Obj) (pn : List (Addr × Obj)), Zc (.ref C) (some d) oe → (∃ vs, oe.data = .fields vs) → PSs (X.suite a ((a, oe) :: pn)) (b₀ :: suite) (tSu ie io jf b0 z cs a d))
    (hdb : (x == ("__debug__" : Str)) = false := by decide) (he : starEach (e :: es) X.env = (false, eval e X.env) :: starEach es X.env := by rfl) (hpl : (backTo pc (starEach es X.env)).any (·.1) = false := by rfl) :
    PS X (.Try [.Assign [.Name y py] (.Call (.Name x p) (e :: es) [] pc) pa] [.ExceptHandler (some (.Name x0 np)) (some n) (b₀ :: suite) pos'] [] [] pos) (TDS (dsTryX i ie io jf b0 z f da)) := by
  obtain ⟨fa, fd, F, mx, kp, B⟩ := G.ex
  refine psI (ps_try_as (i := ie) (tb := fun W => tAsg (tCallS (spX L C f) (WE W) (TDA da)) (L2.gName i)) (ts := fun a cls d => fun D σ H => ∃ dx, cls = .ref C ∧ d = some dx ∧ tSu ie io jf b0 z cs a dx D σ H) (Wout := fun _ _ _ _ => False) hs hf hN hi hln hc takes0
    (fun W pn xe tk _ => pss_one (hset pn xe _ (pe_callX (X := X.tr pn xe) F hr hgu hg mx kp B (fun σ => passAt tk σ) (ha pn xe) hdb he hpl)))
    (fun a oe cls d pn hz hd => ⟨fun pins s σ H D I ⟨dx, e1, e2, h⟩ => by subst e1 e2; exact (hsu a dx oe pn hz hd).run pins s σ H D I h⟩)) fun N σ H ⟨Φ, δ, w, E, A, hd, h1, _⟩ => ?_
  refine ⟨Φ, δ, w, _, A, hd, fun ds δ1 w1 vs H1 ⟨e0, hi, hio, hjf, n1, n2, hx⟩ A1 s1 r1 => ?_⟩
  refine ⟨fun b => Φ.F b ∨ ∃ (i : Nat) (d : D), δ1[i]? = some (DV.own d) ∧ σ[i]? = some (some (V.ref b)), ds, w1, _, _, r1, A1.rep, fun b h => ⟨A1.tr (.inr h), fun z => ?_⟩, hx, fun x w' v H' hx hr st rx => ?_, fun w' dx fs H' hx hr st ed => ?_⟩
  · rcases h with h | ⟨i, d, h1, h2⟩
    · exact A1.fm b h z
    · obtain ⟨a, e, _, q1, _⟩ := A1.own i d h1
      rw [h2] at e
      cases e
      exact q1 z
  · obtain ⟨A2, s2⟩ := A1.called hr st
    obtain ⟨A3, sub⟩ := A2.set hi rx
    exact h1 _ _ _ _ hx A3 ((s1.trans s2).trans (sub_step sub H'))
  · obtain ⟨A2, s2⟩ := A1.called hr st
    have hie : ie < σ.length := by
      rw [← A1.len]
      exact (List.getElem?_eq_some_iff.mp e0).1
    refine ⟨true, hex, fun _ a na => ⟨dx, rfl, rfl, ⟨fs, ed⟩, List.getElem?_set_self hie, n1, by rw [List.length_set, ← A1.len]; exact hio, fun q hq => ?_⟩, fun z => nomatch z⟩
    obtain ⟨A3, b3⟩ := A2.slot e0 (some (.ref a))
    obtain ⟨A4, b4⟩ := A3.set (i := io) (v := .bl b0) hio (.bl b0)
    obtain ⟨A5, b5⟩ := A4.set (i := jf) (v := .str z) (by rw [List.length_set]; exact hjf) (.str z)
    have A6 := A5.same (same_new (o := .tup cs) hq)
    obtain ⟨A7, b7⟩ := A6.slot (i := ie) (by rw [List.getElem?_set_ne n2, List.getElem?_set_ne n1]; exact e0) none
    exact h1 _ _ _ _ hx A7 (((s1.trans s2).trans (Step.same (same_new hq))).trans (sub_step (fun b h => b3 b (b4 b (b5 b (b7 b h)))) _))
end
end Dl
set_option maxRecDepth 100000
set_option maxHeartbeats 2000000
namespace Dl
open PySem PySem.Spec PyProof.Rows L2

/-! ### isinstance of the error that a suite holds, an error that has a dict -/
structure XcC (K : PySem.W.Frag) (D : Addr) : Prop where
  hcl : (PySem.W.clsIn K D).isSome = true
  hga : PySem.W.findIn K (.ref D) "__getattribute__" = some (some (.builtin "BaseException.__getattribute__"))
  hgt : PySem.W.findIn K (.ref D) "__getattr__" = some none
  hsub : PySem.W.subIn K (.ref D) (.type "BaseException") = some true
  ha : PySem.W.findIn K (.ref D) "__class__" = some (some (.builtin "object.__class__"))
  hn : PySem.W.specialIn K (.builtin "object.__class__") "__get__" = some (some (.builtin "getset_descriptor.__get__"))
  htk : PySem.W.takesIn K (.builtin "object.__class__") = some true
  hm : PySem.W.mroIn K D (.type "object") = some true
def rIsX (K : PySem.W.Frag) (D a dx : Addr) : List V → Hp → VK → Prop := fun xs H Q => ∃ (c : V) (u : Value) (b : Bool), xs = [.ref a, c] ∧ (∃ fs, H dx = some (.xd fs)) ∧ ClsV c u ∧ PySem.W.kitOne K (.ref D) u = some b ∧ Q (.bl b) H
def rIsXT (K : PySem.W.Frag) (D a dx : Addr) : List V → Hp → VK → Prop := fun xs H Q => ∃ (tp : Addr) (cs : List V) (us : List Value) (b : Bool), xs = [.ref a, .ref tp] ∧ (∃ fs, H dx = some (.xd fs)) ∧ H tp = some (.tup cs) ∧ Paired ClsV cs us ∧ PySem.W.kitAny K (.ref D) us = some b ∧ Q (.bl b) H
section
variable {X : Cx} {a dx C : Addr} {oe : Obj} {pn : List (Addr × Obj)}
theorem inst_at {pins : List (Addr × Obj)} {σ : L2.St} {H : Hp} {s : Shared} (I : Inv (X.suite a ((a, oe) :: pn)) pins σ H s) (hz : Zc (.ref C) (some dx) oe) (hf : ∃ vs, oe.data = .fields vs) (hd : ∃ fs, H dx = some (.xd fs)) : ∃ od, PySem.W.InstAt s.heap a oe C (some od) := by
  obtain ⟨hget, _⟩ := I.pin (a, oe) (List.mem_append.mpr (.inl List.mem_cons_self))
  obtain ⟨fs, hd⟩ := hd
  obtain ⟨mA, ⟨od, es, ep, e1, e2⟩, r⟩ := (show ObjOk X.prog X.w H s.heap dx (.xd fs) from I.hok dx _ hd)
  obtain ⟨vs, hv⟩ := hf
  obtain ⟨oc, oo, oda, osl⟩ := oe
  obtain ⟨h1, h2⟩ := hz
  dsimp only at h1 h2 hv
  subst h1 h2 hv
  exact ⟨od, hget, rfl, rfl, e1⟩
theorem call_isX (C' : XcC X.K C) (hz : Zc (.ref C) (some dx) oe) (hf : ∃ vs, oe.data = .fields vs) : CallR (X.suite a ((a, oe) :: pn)) (.builtin "isinstance") (rIsX X.K C a dx) := by
  intro pins s σ H xs us Q I r h
  obtain ⟨c, u, b, rfl, hd, k, e, q⟩ := h
  obtain ⟨u1, u2, rfl, r1, r2⟩ := vals2 r
  have e2 := k.eq r2
  subst e2
  cases (show u1 = Value.ref a from r1)
  obtain ⟨od, J⟩ := inst_at I hz hf hd
  exact PySem.W.kia_one (PySem.W.kitx_exc C'.hcl C'.hga C'.hgt C'.hsub C'.ha C'.hn C'.htk C'.hm) I.kIn J e (fun z => nomatch z) fun tk => ⟨.bl b, H, I.tok tk, rfl, q⟩
theorem call_isXT (C' : XcC X.K C) (hz : Zc (.ref C) (some dx) oe) (hf : ∃ vs, oe.data = .fields vs) : CallR (X.suite a ((a, oe) :: pn)) (.builtin "isinstance") (rIsXT X.K C a dx) := by
  intro pins s σ H xs us Q I r h
  obtain ⟨tp, cs, ws, b, rfl, hd, hT, k, e, q⟩ := h
  obtain ⟨u1, u2, rfl, r1, r2⟩ := vals2 r
  cases (show u1 = Value.ref a from r1)
  cases (show u2 = Value.ref tp from r2)
  obtain ⟨od, J⟩ := inst_at I hz hf hd
  obtain ⟨_, its, rv, o, h1, h2, n, h3⟩ := (show ObjOk X.prog X.w H s.heap tp (.tup cs) from I.hok tp _ hT)
  have e3 := ClsV.all k rv
  subst e3
  obtain ⟨oc, oo, dt, sl⟩ := o
  simp only at h2 h3
  subst h2 h3
  exact PySem.W.kia_tup (PySem.W.kitx_exc C'.hcl C'.hga C'.hgt C'.hsub C'.ha C'.hn C'.htk C'.hm) I.kIn J h1 e (fun z => nomatch z) fun tk => ⟨.bl b, H, I.tok tk, rfl, q⟩
end
end Dl
set_option maxRecDepth 100000
set_option maxHeartbeats 1000000
namespace Ws
open PySem PySem.Spec PyProof.Rows L2 Lk Dl PySem.Froz
section
variable {P : Program} {w : World} {A : Around} {E : Value → Shared → Prop} {s : Shared}
theorem ints_at : ∀ {us : List Value} {ns : List Int}, IntsAre us ns → ∀ (i : Nat) v, us[i]? = some v → ∃ k u, ns[i]? = some k ∧ v = .int k u
  | _, _, .nil, i, v, e => by simp at e
  | _, _, .cons n t r, 0, v, e => by
    simp at e
    exact ⟨n, t, rfl, e.symm⟩
  | _, _, .cons n t r, i + 1, v, e => by
    simp at e
    simpa using ints_at r i v e
/-- set(a list or a tuple of ints) -/
theorem set_ints {l : Addr} {o : Obj} {ty : String} {items : Array Value} {n : Nat} {ns : List Int} {Q : Value → Shared → Prop} (hh : A.handled = none) (tyo : ty = "list" ∨ ty = "tuple") (hol : s.heap.get? l = some o) (hcl : o.cls = .type ty) (hdl : o.data = .seq items n)
    (hi : IntsAre items.toList ns) (few : ns.length + 1 < scanBound)
    (fin : ∀ (g : Heap) (tk c : Nat), SetR w g s.heap.objs.size (fun j => decide (j ∈ ns)) c → c ≤ ns.length → (∀ b o, s.heap.get? b = some o → g.get? b = some o) → Q (.ref s.heap.objs.size) { s with heap := g, toks := tk }) :
    wpAny (model P w) A (call (.type "set") [.ref l]) Q E s := by
  have sz : items.size = ns.length := by rw [← Array.length_toList]; exact IntsAre.length hi
  refine set_any hh tyo hol hcl hdl (fun i g => ∃ c, c ≤ i ∧ SetR w g s.heap.objs.size (fun j => decide (j ∈ ns.take i)) c) (fun g e => ⟨0, Nat.le_refl _, setR_new_at e⟩) (fun i g g' _ ⟨c, hc, b⟩ k _ => ⟨c, hc, b.at k⟩) (fun i v A' s' E' _ hv ⟨c, hc, b⟩ _ => ?_) fun g tk ⟨c, hc, b⟩ kp => fin g tk c ?_ (by omega) kp
  · obtain ⟨k, u, e1, rfl⟩ := ints_at hi i v (by rw [Array.getElem?_toList]; exact hv)
    have e2 : ns.take (i + 1) = ns.take i ++ [k] := by
      rw [List.take_succ, e1]
      rfl
    have lt := (List.getElem?_eq_some_iff.mp e1).1
    unfold setAdd
    refine wpAny_holding (wpAny_bind ((intKind P w).pyHash (intKind_is P w k u) ?_))
    refine setR_add_hashed (s := { s' with toks := s'.toks + 1 }) b (by omega) fun h' sb r => ⟨h', _, rfl, Nat.le_succ _, sb, _, ?_, r.congr fun j => ?_⟩
    · split <;> omega
    · rw [e2]
      simp
  · rw [sz, List.take_length] at b
    exact b
end
section
variable {X : Cx}
def rSetI (K : PySem.W.Frag) (w : World) : List V → Hp → VK → Prop := fun vs H Q => ∃ (l : Addr) (ns : List Int), vs = [V.ref l] ∧ (SqL K H l (ns.map V.int) ∨ SqT K H l (ns.map V.int)) ∧ ns.length + 1 < scanBound ∧ ∀ a c, H a = none → c ≤ ns.length → Q (.ref a) (upd H a (SetO w a (fun j => decide (j ∈ ns)) c))
theorem cr_setI (hc : X.calm = true) : CallR X (.type "set") (rSetI X.K X.w) := by
  intro pins s σ H vs us Q I r h
  obtain ⟨l, ns, rfl, hl, few, q⟩ := h
  rw [Vals.ref1 r]
  have hn : H s.heap.objs.size = none := I.hok.fresh (Nat.le_refl _)
  obtain ⟨its, ty, o, n, tyo, ho, hcl, hd, rv⟩ : ∃ (its : List Value) (ty : String) (o : Obj) (n : Nat), (ty = "list" ∨ ty = "tuple") ∧ s.heap.get? l = some o ∧ o.cls = .type ty ∧ o.data = .seq its.toArray n ∧ Vals (ns.map V.int) its := by
    rcases hl with hl | hl
    · obtain ⟨its, rv, p, _⟩ := I.list hl
      obtain ⟨o, ho, hcl, n, hd⟩ := p.isList
      exact ⟨its, "list", o, n, .inl rfl, ho, hcl, hd, rv⟩
    · obtain ⟨its, rv, p, _⟩ := I.tuple hl
      obtain ⟨o, ho, hcl, n, hd⟩ := _root_.id p
      exact ⟨its, "tuple", o, n, .inr rfl, ho, hcl, hd, rv⟩
  refine set_ints (P := X.prog) (w := X.w) (ns := ns) (I.ok.hd hc) tyo ho hcl hd (by simpa using intsAre_vals rv) few fun g tk c b hc kp => ?_
  exact ⟨.ref s.heap.objs.size, upd H s.heap.objs.size (SetO X.w s.heap.objs.size (fun j => decide (j ∈ ns)) c), I.laid (t' := tk) kp (Nat.le_refl _) (setO_new b), rfl, q _ _ hn hc⟩
end
end Ws
set_option maxRecDepth 100000
set_option maxHeartbeats 1000000
namespace Dl
open PySem PySem.Spec PyProof.Rows L2 Lk Ws

variable {L : Wd}
/-! ### sorted(set(xs)), xs whole numbers -/
def dfSortSetI (d : DE L) : DA L := fun δ w Q => d δ w fun x δ' w' =>
  ∃ zs : List Int, (x = .lst (zs.map .int) ∨ x = .tup (zs.map .int)) ∧ zs.length < 64 ∧ ∀ ns : List Int, ns.Pairwise (· < ·) → (∀ k, k ∈ ns ↔ k ∈ zs) → Q (ns.map .int) δ' w'
section
variable {X : Cx} {e : Expr} {d : DE L} {p p2 q pos : Pos} {k : Nat}
theorem pf_sortSetI (hc : X.calm = true) (hm : X.mg "sorted" = none) (hm2 : X.mg "set" = none) (he : PE X e (TD d)) (hg : Gl X "sorted" := by rfl) (hg2 : Gl X "set" := by rfl)
    (hs : starEach [e] X.env = (false, eval e X.env) :: starEach [] X.env := by rfl)
    (hs2 : starEach [.Call (.Name "set" p2) [e] [] q] X.env = (false, eval (.Call (.Name "set" p2) [e] [] q) X.env) :: starEach [] X.env := by rfl) :
    PE X (.Call (.Name "sorted" p) [.Call (.Name "set" p2) [e] [] q] [] pos) (TF (dfSortSetI d)) := by
  have inner := pe_callTy (pos := q) (p := p2) (cr_setI hc) hg2 hm2 PyProof.Rows.boot_set (pa_cons he pa_nil hs) (by decide) (by decide) hs (by rfl)
  refine peI (pe_callB (cr_sortedSet hc) hg hm boot_B.1 (pa_cons inner pa_nil hs2) (by decide) (by decide) hs2 (by rfl)) fun σ H Q ⟨Φ, δ, w, R, A, hd, q⟩ => ?_
  refine ⟨Φ, δ, w, _, A, hd, fun x δ1 w1 v H1 h1 A1 s1 r1 => ?_⟩
  obtain ⟨zs, y, few, h1⟩ := h1
  obtain ⟨l, us, rfl, hl, r⟩ : ∃ (l : Addr) (us : List V), v = .ref l ∧ (SqL X.K H1 l us ∨ SqT X.K H1 l us) ∧ RepL (Sof Φ δ1 σ w1) H1 us (zs.map .int) := by
    rcases y with rfl | rfl
    · cases r1 with
      | @lst a us _ e1 n r => exact ⟨a, us, rfl, .inl (SqL.of e1), r⟩
    · cases r1 with
      | @tup a us _ e1 r => exact ⟨a, us, rfl, .inr (SqT.of e1), r⟩
  have eu := r.ints'
  subst eu
  refine ⟨l, zs, rfl, hl, by unfold scanBound; omega, fun a c na hc => ?_⟩
  refine ⟨a, _, c, rfl, upd_same, by omega, fun ns p pw hm hl np => ?_⟩
  have sm : Same H1 (upd H1 a (SetO X.w a (fun j => decide (j ∈ zs)) c)) := same_new na
  obtain ⟨z1, z2, z3, z4, z5, z6⟩ := fresh_at (vs := ns.map V.int) (xs := ns.map D.int) (A1.same sm) (s1.trans (Step.same sm)) RepL.ints np
  exact q _ _ _ _ _ _ (h1 ns pw fun k => by rw [hm]; simp) z1 z2 z3 z4 z5 z6
end

/-! ### dict(list of pairs): texts and other data, no text twice -/
theorem putK_end {kvs : List (Key × V)} {k : Key} {v : V} (h : k ∉ kvs.map Prod.fst) : putK kvs k v = kvs ++ [(k, v)] := by
  unfold putK
  rw [if_neg]
  intro z
  obtain ⟨p, hp, e⟩ := List.any_eq_true.mp z
  exact h (List.mem_map.mpr ⟨p, hp, of_decide_eq_true e⟩)
theorem mergeK_end : ∀ (kvs acc : List (Key × V)), ((acc ++ kvs).map Prod.fst).Nodup → mergeK acc kvs = acc ++ kvs
  | [], acc, _ => by simp [mergeK]
  | (k, v) :: kvs, acc, h => by
    have e : acc ++ (k, v) :: kvs = (acc ++ [(k, v)]) ++ kvs := by simp
    have hk : k ∉ acc.map Prod.fst := by
      rw [List.map_append, List.nodup_append] at h
      exact fun z => h.2.2 k z k (by simp) rfl
    show mergeK (putK acc k v) kvs = _
    rw [putK_end hk, e]
    exact mergeK_end kvs (acc ++ [(k, v)]) (by rw [← e]; exact h)
def dDictP : DC := fun xs k => ∃ ps : List (Str × D), xs = [.lst (ps.map fun p => .tup [.str p.1, p.2])] ∧ (ps.map Prod.fst).Nodup ∧ k (.dct (ps.map fun p => (.str p.1, p.2)))
theorem dictP_D {K : PySem.W.Frag} : CallD (rDictA K) dDictP := fun S H xs vs k Q hS r hf q => by
  obtain ⟨ps, rfl, nd, hk⟩ := hf
  cases r with
  | cons r1 r2 =>
    cases r2
    cases r1 with
    | lst e n rl =>
      rename_i a us
      have key : ∀ {us : List V} {ps : List (Str × D)}, RepL S H us (ps.map fun p => .tup [.str p.1, p.2]) → ∃ (as : List Addr) (vs : List V), us = as.map V.ref ∧ vs.length = ps.length ∧ RepL S H vs (ps.map Prod.snd) ∧ Paired (fun p kv => SqT K H p [kV kv.1, kv.2]) as ((ps.map fun p => (Sum.inr p.1 : Key)).zip vs) := by
        intro us
        induction us with
        | nil =>
          intro ps r
          cases ps with
          | nil => exact ⟨[], [], rfl, rfl, .nil, .nil⟩
          | cons _ _ => cases r
        | cons u us ih =>
          intro ps r
          cases ps with
          | nil => cases r
          | cons z zs =>
            cases r with
            | cons a b =>
              obtain ⟨as, vs, e1, e2, e3, e4⟩ := ih b
              cases a with
              | tup e rt =>
                cases rt with
                | cons x1 x2 =>
                  cases x2 with
                  | cons x2 x3 =>
                    cases x3
                    cases x1
                    exact ⟨_ :: as, _ :: vs, by rw [e1]; rfl, by simp [e2], .cons x2 e3, .cons (SqT.of e) e4⟩
      obtain ⟨as, vs, rfl, hl, rv, pr⟩ := key rl
      refine .inl ⟨a, as, _, rfl, SqL.of e, pr, fun p np => ?_⟩
      have fst : ((ps.map fun p => (Sum.inr p.1 : Key)).zip vs).map Prod.fst = ps.map fun p => (Sum.inr p.1 : Key) := by
        rw [List.map_fst_zip]
        simp [hl]
      have em : mergeK [] ((ps.map fun p => (Sum.inr p.1 : Key)).zip vs) = (ps.map fun p => (Sum.inr p.1 : Key)).zip vs := mergeK_end _ [] (by
        rw [List.nil_append, fst]
        have z : ((ps.map Prod.fst).map (Sum.inr : Str → Key)).Nodup := List.pairwise_map.mpr (nd.imp fun h z => h (Sum.inr.inj z))
        rw [List.map_map] at z
        exact z)
      rw [em]
      have g : ∀ (H' : Hp) (ps : List (Str × D)) (vs : List V), RepL S H' vs (ps.map Prod.snd) → RepK S H' ((ps.map fun p => (Sum.inr p.1 : Key)).zip vs) (ps.map fun p => (D.str p.1, p.2)) := fun H' ps => by
        induction ps with
        | nil => intro vs r; cases r; exact .nil
        | cons y ys ih => intro vs r; cases r with | cons a b => exact .cons a (ih _ b)
      exact q _ _ _ hk (same_new np) (.dK upd_same (fun z => hS p z np) (g _ _ _ (rv.go (Step.same (same_new np)))))
section
variable {X : Cx} {e f o : Expr} {es : List Expr} {da : DA L} {p pos apos cpos : Pos} {k : Nat}
theorem pd_dictP (hc : X.calm = true) (hr : Room k X.A) (hm : X.mg "dict" = none) (ha : PA X (e :: es) (TDA da)) (hg : Gl X "dict" := by rfl) (he : starEach (e :: es) X.env = (false, eval e X.env) :: starEach es X.env := by rfl) (hpl : (backTo pos (starEach es X.env)).any (·.1) = false := by rfl) : PE X (.Call (.Name "dict" p) (e :: es) [] pos) (TD (deCB dDictP da)) :=
  pd_Ty (cr_dictA hc hr.units) dictP_D hg hm boot_T.2.2.2 ha (by decide) (by decide) he hpl

/-! ### d.get(k, x), d a name -/
def deGet (i : Nat) (dk dx : DE L) : DE L := fun δ w Q => (∃ p ps, δ[i]? = some (.val (.dct ((p :: ps : List (Str × D)).map fun p => (.str p.1, p.2))))) ∧ dk δ w fun y δ1 w1 => dx δ1 w1 fun z δ2 w2 =>
  ∃ (s : Str) (p : Str × D) (ps : List (Str × D)), y = .str s ∧ δ2[i]? = some (.val (.dct ((p :: ps).map fun p => (.str p.1, p.2)))) ∧ Q (((p :: ps).lookup s).getD z) δ2 w2
theorem RepK.uncons {S : Addr → Prop} {H : Hp} {k : Key} {v : V} {ks : List (Key × V)} {e : D × D} {ds : List (D × D)} (r : RepK S H ((k, v) :: ks) (e :: ds)) : ∃ d, e = (kD k, d) ∧ Rep S H v d ∧ RepK S H ks ds := by
  cases r with
  | cons a b => exact ⟨_, rfl, a, b⟩
theorem kD_str {k : Key} {z : Str} (h : D.str z = kD k) : k = .inr z := by
  cases k with
  | inl i => cases h
  | inr y => cases h; rfl
theorem repK_get {S : Addr → Prop} {H : Hp} {s : Str} : ∀ {ks : List (Key × V)} {ps : List (Str × D)}, RepK S H ks (ps.map fun p => (D.str p.1, p.2)) → (valV ks (.inr s) = none ∧ ps.lookup s = none) ∨ ∃ v d, valV ks (.inr s) = some v ∧ ps.lookup s = some d ∧ Rep S H v d
  | [], ps, r => by
    cases ps with
    | nil => exact .inl ⟨rfl, rfl⟩
    | cons _ _ => cases r
  | (k, v) :: ks, ps, r => by
    cases ps with
    | nil => cases r
    | cons p ps =>
      obtain ⟨d, e, a, b⟩ := RepK.uncons r
      obtain ⟨e1, e2⟩ := Prod.mk.inj e
      have ek := kD_str e1
      subst ek e2
      by_cases h : p.1 = s
      · refine .inr ⟨v, p.2, ?_, ?_, a⟩
        · unfold valV
          rw [List.find?_cons_of_pos (by simp [h])]
          rfl
        · obtain ⟨x, y⟩ := p
          simp only at h
          rw [h]
          simp [List.lookup]
      · have e3 : valV ((Sum.inr p.1, v) :: ks) (.inr s) = valV ks (.inr s) := by
          unfold valV
          rw [List.find?_cons_of_neg]
          simp [h]
        have e4 : (p :: ps).lookup s = ps.lookup s := by
          obtain ⟨x, y⟩ := p
          have : (s == x) = false := by simpa using fun z => h z.symm
          simp [List.lookup, this]
        rw [e3, e4]
        exact repK_get b
theorem dct_at {S : Addr → Prop} {H : Hp} {v : V} {p : Str × D} {ps : List (Str × D)} (r : Rep S H v (.dct ((p :: ps).map fun p => (.str p.1, p.2)))) : ∃ a ks, v = .ref a ∧ H a = some (.dK ks) ∧ RepK S H ks ((p :: ps).map fun p => (.str p.1, p.2)) := by
  generalize e : (p :: ps).map (fun p => ((D.str p.1, p.2) : D × D)) = l at r
  cases r with
  | @dK a ks _ h n rk => exact ⟨a, ks, rfl, h, rk⟩
  | @dT a ks _ h n rk =>
    exfalso
    cases rk with
    | nil => cases e
    | cons x y =>
      rw [List.map_cons] at e
      have z := (List.cons.inj e).1
      have z2 := congrArg Prod.fst z
      cases z2
theorem pd_get {i : Nat} {dk dx : DE L} (hr : Room k X.A) (ho : PE X o (tVar i)) (he : PE X e (TD dk)) (hf : PE X f (TD dx)) (m : M2 X o "get" apos e f cpos) : PE X (.Call (.Attribute o "get" apos) [e, f] [] cpos) (TD (deGet i dk dx)) := by
  refine peI (pe_dget2 (by have := hr.un; omega) ho he hf m) fun σ H Q ⟨Φ, δ, w, R, A, ⟨⟨p0, ps0, e0⟩, hd⟩, q⟩ => ?_
  obtain ⟨v, ev, rv⟩ := A.val i _ e0
  obtain ⟨a, ks, rfl, ha, _⟩ := dct_at rv
  refine ⟨_, ev, a, rfl, ?_, Φ, δ, w, _, A, hd, fun y δ1 w1 u H1 h1 A1 s1 r1 => ⟨Φ, δ1, w1, _, A1, h1, fun z δ2 w2 t H2 h2 A2 s2 r2 => ?_⟩⟩
  · exact .inl ⟨ks, .inl ha⟩
  · obtain ⟨s, p, ps, rfl, e2, hq⟩ := h2
    obtain ⟨v2, ev2, rv2⟩ := A2.val i _ e2
    rw [ev] at ev2
    cases ev2
    obtain ⟨a2, ks2, ea, ha2, rk⟩ := dct_at rv2
    cases ea
    cases r1
    refine ⟨valV ks2 (.inr s), (DGet.k (k := .inr s) ha2 : DGet H2 a (kV (.inr s)) (valV ks2 (.inr s))), ?_⟩
    rcases repK_get (s := s) rk with ⟨z1, z2⟩ | ⟨v, d, z1, z2, z3⟩
    · rw [z1]
      rw [z2] at hq
      exact q _ _ _ _ _ hq A2 (s1.trans s2) r2
    · rw [z1]
      rw [z2] at hq
      exact q _ _ _ _ _ hq A2 (s1.trans s2) z3
end
end Dl
set_option maxRecDepth 100000
set_option maxHeartbeats 1000000
namespace Dl
open PySem PySem.Spec PyProof.Rows L2 Lk

variable {L : Wd}
/-! ### x, y = (e, []) through a tuple: the second is held alone -/
theorem pds_asgVO {X : Cx} {i j k k2 : Nat} {x y : Str} {p q p1 p2 pos : Pos} {e1 e2 : Expr} {d : DE L} {da : DA L} (hc : X.calm = true) (h1 : PE X e1 (TD d)) (h2 : PE X e2 (TF da)) (g1 : PG X (.Name x p1) (L2.gName i)) (g2 : PG X (.Name y p2) (L2.gName j))
    (hs : starEach [e1, e2] X.env = (false, eval e1 X.env) :: starEach [e2] X.env := by rfl) (hs2 : starEach [e2] X.env = (false, eval e2 X.env) :: starEach [] X.env := by rfl)
    (hw1 : swapsWithSole [.Tuple [.Name x p1, .Name y p2] k p] (.Tuple [e1, e2] k2 q) pos.line X.env = pure false := by rfl) (hw2 : swappedStores [.Tuple [.Name x p1, .Name y p2] k p] (.Tuple [e1, e2] k2 q) X.env = pure none := by rfl)
    (ha : (assignEach [.Tuple [.Name x p1, .Name y p2] k p] X.env).map (·.2) = [assign (.Tuple [.Name x p1, .Name y p2] k p) X.env] := by rfl)
    (hb1 : (assignEach [.Name x p1, .Name y p2] X.env).map (·.2) = assign (.Name x p1) X.env :: (assignEach [.Name y p2] X.env).map (·.2) := by rfl) (hb2 : (assignEach [.Name y p2] X.env).map (·.2) = assign (.Name y p2) X.env :: (assignEach [] X.env).map (·.2) := by rfl)
    (hn : (assignEach [.Name x p1, .Name y p2] X.env).length = 2 := by rfl) (hst : (assignEach [.Name x p1, .Name y p2] X.env).findIdx? (·.1) = none := by rfl) :
    PS X (.Assign [.Tuple [.Name x p1, .Name y p2] k p] (.Tuple [e1, e2] k2 q) pos) (TDS (dsParVO i j d da)) := by
  refine psI (ps_asg (pe_tup (pa_cons h1 (pa_cons h2 pa_nil hs2) hs)) (pg_tup hc (pgs_cons g1 (pgs_cons g2 pgs_nil hb2) hb1) hn hst) hw1 hw2 ha) fun D σ H ⟨Φ, δ, w, E, A, hd, h1, _⟩ => ?_
  refine ⟨Φ, δ, w, _, A, hd, fun x δ1 w1 v H1 hx A1 s1 r1 => ⟨Φ, δ1, w1, _, A1, hx, fun l δ' w' a vs H2 ⟨ne, hi, hj, hq⟩ A2 n2 h0 e2 r2 s2 => ⟨(by show 2 ≤ sizeLine; rw [sizeLine_eq]; omega), fun pt np => ⟨pt, _, rfl, SqT.of upd_same, rfl, _, _, rfl, _, _, rfl, rfl, ?_⟩⟩⟩⟩
  have sm : Same H2 (upd H2 pt (.tup [v, .ref a])) := same_new np
  have rv : Rep (Sof (Φ.add a) δ' σ w') H2 v x := r1.go (s2.add h0)
  obtain ⟨A3, b3⟩ := A2.set hi rv
  have t3 := sub_step b3 H2
  have n3 : ¬ Sof Φ (δ'.set i (.val x)) (σ.set i (some v)) w' a := fun z => n2 (z.M.elim (fun z => (b3 a z).S) fun z => .inr (.inl z))
  obtain ⟨A4, s4⟩ := A3.give (i := j) (by rw [List.length_set]; exact hj) n3 (A1.new0 h0) e2 (r2.go t3.S) (s2.trans t3) h0
  exact h1 _ _ _ _ hq (A4.same sm) ((s1.trans s4).trans (Step.same sm))
end Dl
set_option maxRecDepth 100000
set_option maxHeartbeats 1000000
namespace Dl
open PySem PySem.Spec PyProof.Rows L2 Lk

/-! ### min of two whole numbers -/
section
variable {L : Wd} {X : Cx} {e : Expr} {es : List Expr} {da : DA L} {p pos : Pos}
theorem pd_min (hc : X.calm = true) (hm : X.mg "min" = none) (ha : PA X (e :: es) (TDA da)) (hg : Gl X "min" := by rfl) (he : starEach (e :: es) X.env = (false, eval e X.env) :: starEach es X.env := by rfl) (hpl : (backTo pos (starEach es X.env)).any (·.1) = false := by rfl) : PE X (.Call (.Name "min" p) (e :: es) [] pos) (TD (deCB dMin2 da)) :=
  pd_B (call_min2 hc) min2_D hg hm boot_B.2.2.2.1 ha (by decide) (by decide) he hpl
end
end Dl
set_option maxRecDepth 100000
set_option maxHeartbeats 1000000
namespace Dl
open PySem PySem.Spec PyProof.Rows L2 Lk StX

variable {L : Wd}
/-! ### [.., *xs, ..] -/
def daStar (d : DE L) (r : DA L) : DA L := fun δ w Q => d δ w fun x δ1 w1 => ∃ xs, (x = .tup xs ∨ x = .lst xs) ∧ r δ1 w1 fun ys δ2 w2 => Q (xs ++ ys) δ2 w2
theorem pd_star {X : Cx} {e : Expr} {es : List Expr} {d : DE L} {r : DA L} {p : Pos} (he : PE X e (TD d)) (hr : PA X es (TDA r)) (hs : starEach (.Starred e p :: es) X.env = (true, eval e X.env) :: starEach es X.env := by rfl) : PA X (.Starred e p :: es) (TDA (daStar d r)) := by
  have i : ∀ σ H Q, TDA (daStar d r) σ H Q → tStar X.K (TD d) (TDA r) σ H Q := fun σ H Q h => by
    obtain ⟨Φ, δ, w, R, A, hd, q⟩ := h
    refine ⟨Φ, δ, w, _, A, hd, fun x δ1 w1 v H1 ⟨xs, hx, h1⟩ A1 s1 r1 => ?_⟩
    obtain ⟨a, us, rfl, hq, ru⟩ : ∃ (a : Addr) (us : List V), v = .ref a ∧ (SqT X.K H1 a us ∨ SqL X.K H1 a us) ∧ RepL (Sof Φ δ1 σ w1) H1 us xs := by
      rcases hx with rfl | rfl
      · cases r1 with
        | @tup a us _ e1 r => exact ⟨a, us, rfl, .inl (SqT.of e1), r⟩
      · cases r1 with
        | @lst a us _ e1 n r => exact ⟨a, us, rfl, .inr (SqL.of e1), r⟩
    exact ⟨a, us, rfl, hq, Φ, δ1, w1, _, A1, h1, fun ys δ2 w2 vs H2 h2 A2 s2 r2 => q _ _ _ _ _ h2 A2 (s1.trans s2) ((ru.go s2.S).append r2)⟩
  exact ⟨fun p pins s σ H Q I h => (pa_star he hr hs).run p pins s σ H Q I (i _ _ _ h)⟩

/-! ### text.split(sep) -/
def dfSplit (d : DE L) (sep : Str) : DA L := fun δ w Q => d δ w fun x δ' w' => ∃ z, x = .str z ∧ z.length + 2 ≤ sizeLine ∧ Q ((Txt.split z sep).map .str) δ' w'
theorem pf_split {X : Cx} {o : Expr} {d : DE L} {sep : Str} {k : Nat} {apos p2 pos : Pos} (ho : PE X o (TD d)) (hl : (sep.length == 0) = false := by decide) (hs : starEach [.Constant (.str sep) k p2] X.env = [(false, eval (.Constant (.str sep) k p2) X.env)] := by rfl) (hbase : attributeBase o "split" X.env (eval o X.env) = eval o X.env := by rfl) (hline : (apos.endLine == pos.line) = true := by rfl) :
    PE X (.Call (.Attribute o "split" apos) [.Constant (.str sep) k p2] [] pos) (TF (dfSplit d sep)) := by
  refine peI (pe_split ho pe_str hs hbase hline) fun σ H Q ⟨Φ, δ, w, R, A, h, q⟩ => ⟨Φ, δ, w, _, A, h, fun x δ1 w1 v H1 ⟨z, hz, hl1, h1⟩ A1 s1 r1 => ?_⟩
  subst hz
  cases r1
  refine ⟨⟨z, rfl⟩, z, sep, rfl, rfl, hl, hl1, fun p np => ?_⟩
  obtain ⟨z1, z2, z3, z4, z5, z6⟩ := fresh_at (vs := (Txt.split z sep).map V.str) (xs := (Txt.split z sep).map D.str) A1 s1 RepL.strs np
  exact q _ _ _ _ _ _ h1 z1 z2 z3 z4 z5 z6

/-! ### f'text{number}', str(number) -/
def deFInt (z : Str) (d : DE L) : DE L := fun δ w Q => (Str.empty ++ z).length ≤ sizeLine ∧ d δ w fun x δ' w' => ∃ i : Int, x = .int i ∧ i.natAbs.log2 < 1920 ∧ ((Str.empty ++ z) ++ (toString i : Str)).length ≤ sizeLine ∧ Q (.str ((Str.empty ++ z) ++ (toString i : Str))) δ' w'
theorem pd_fint {X : Cx} {e : Expr} {d : DE L} {z : Str} {k : Nat} {p1 p2 pos : Pos} (he : PE X e (TD d)) : PE X (.JoinedStr [.Constant (.str z) k p1, .FormattedValue e (-1) none p2] pos) (TD (deFInt z d)) := by
  refine peI (pe_joined (.cons pe_str (.cons (pe_fmt he) .nil))) fun σ H Q ⟨Φ, δ, w, R, A, ⟨l1, h⟩, q⟩ => ?_
  refine ⟨z, rfl, l1, Φ, δ, w, _, A, h, fun x δ1 w1 v H1 ⟨i, hx, h1, h2, h3⟩ A1 s1 r1 => ?_⟩
  subst hx
  cases r1
  exact .inr ⟨i, rfl, h1, _, rfl, h2, q _ _ _ _ _ h3 A1 s1 (.str _)⟩
def dStrI : DC := fun xs k => ∃ i : Int, xs = [.int i] ∧ i.natAbs.log2 < 1920 ∧ k (.str (toString i : Str))
theorem strI_D : CallD (fun xs H Q => ∃ i, xs = [.int i] ∧ i.natAbs.log2 < 1920 ∧ Q (.str (toString i)) H) dStrI := fun S H xs vs k Q hS r hf q => by
  obtain ⟨i, rfl, h1, hk⟩ := hf
  cases r with
  | cons a b =>
    cases b
    cases a
    exact ⟨i, rfl, h1, q _ _ _ hk (fun _ _ e => e) (.str _)⟩
/-! ### int(text) -/
def dIntS : DC := fun xs k => ∃ (a : Str) (n : Int), xs = [.str a] ∧ PySem.intText? a = some n ∧ a.length ≤ 640 ∧ k (.int n)
theorem intS_D : CallD (fun xs H Q => ∃ a n, xs = [.str a] ∧ PySem.intText? a = some n ∧ a.length ≤ 640 ∧ Q (.int n) H) dIntS := fun S H xs vs k Q hS r hf q => by
  obtain ⟨a, n, rfl, h1, h2, hk⟩ := hf
  cases r with
  | cons x y =>
    cases y
    cases x
    exact ⟨a, n, rfl, h1, h2, q _ _ _ hk (fun _ _ e => e) (.int _)⟩
section
variable {X : Cx} {e : Expr} {es : List Expr} {da : DA L} {p pos : Pos}
theorem boot_str2 : bootBuiltins "str" = some (.type "str") := by decide +kernel
theorem pd_strI (hm : X.mg "str" = none) (ha : PA X (e :: es) (TDA da)) (hg : Gl X "str" := by rfl) (he : starEach (e :: es) X.env = (false, eval e X.env) :: starEach es X.env := by rfl) (hpl : (backTo pos (starEach es X.env)).any (·.1) = false := by rfl) : PE X (.Call (.Name "str" p) (e :: es) [] pos) (TD (deCB dStrI da)) :=
  pd_Ty call_str_int strI_D hg hm boot_str2 ha (by decide) (by decide) he hpl
theorem pd_intS (hm : X.mg "int" = none) (ha : PA X (e :: es) (TDA da)) (hg : Gl X "int" := by rfl) (he : starEach (e :: es) X.env = (false, eval e X.env) :: starEach es X.env := by rfl) (hpl : (backTo pos (starEach es X.env)).any (·.1) = false := by rfl) : PE X (.Call (.Name "int" p) (e :: es) [] pos) (TD (deCB dIntS da)) :=
  pd_Ty call_int_str intS_D hg hm boot_T.1 ha (by decide) (by decide) he hpl
end
/-! ### xs.extend(list) -/
def mExt : DM := fun l xs k => ∃ ys, xs = [.lst ys] ∧ l.length + ys.length ≤ sizeLine ∧ k (l ++ ys) .non
theorem ext_M : MutR rExtend mExt := fun S H a us vs l xs k Q ea ru rv ⟨ys, hx, hl, hk⟩ q => by
  subst hx
  cases rv with
  | cons r1 r2 =>
    cases r2
    cases r1 with
    | @lst b ws _ eb n rw => exact ⟨a, b, us, ws, rfl, rfl, ea, eb, by rw [ru.length, rw.length]; exact hl, q _ _ _ _ hk (ru.append rw) .non⟩
end Dl
set_option maxRecDepth 100000
set_option maxHeartbeats 1000000
namespace Dl
open PySem PySem.Spec PyProof.Rows L2 Lk

variable {L : Wd}
/-! ### < of tuples of texts -/
def rLtS (K : PySem.W.Frag) : R2 := fun x y H Q => ∃ a b ns ms, x = .ref a ∧ y = .ref b ∧ SqT K H a (ns.map V.str) ∧ SqT K H b (ms.map V.str) ∧ Q (.bl (lexS ns ms)) H
theorem op_ltS {X : Cx} (hu : X.A.units < cLine) : OpR X (compareOp .Lt) (rLtS X.K) := by
  intro pins s σ H x y v u Q I rx ry h
  obtain ⟨a, b, ns, ms, rfl, rfl, ha, hb, q⟩ := h
  cases rx
  cases ry
  obtain ⟨its, r1, p1, _⟩ := I.tuple ha
  obtain ⟨its2, r2, p2, _⟩ := I.tuple hb
  exact lt_tupStrs p1 p2 (by simpa using strsAre_vals r1) (by simpa using strsAre_vals r2) hu ⟨.bl (lexS ns ms), H, I, rfl, q⟩
def dLtX : DO := fun x y k => dLt x y k ∨ ∃ ns ms : List Str, x = dT ns ∧ y = dT ms ∧ k (.bl (lexS ns ms))
theorem ltX_D {K : PySem.W.Frag} : OpD (fun x y H Q => rLtA x y H Q ∨ rLtS K x y H Q) dLtX := fun S H x y u v k Q hS hu hv hf q => by
  rcases hf with hf | ⟨ns, ms, rfl, rfl, hk⟩
  · exact .inl (lt_D S H x y u v k Q hS hu hv hf q)
  · cases hu with
    | @tup a us _ e1 r1 =>
      cases hv with
      | @tup b ws _ e2 r2 =>
        have f1 := r1.strs'
        have f2 := r2.strs'
        subst f1 f2
        exact .inr ⟨a, b, ns, ms, rfl, rfl, SqT.of e1, SqT.of e2, q _ _ _ hk (Same.refl _) (.bl _)⟩
theorem pd_ltX {X : Cx} {a b : Expr} {da db : DE L} {k : Nat} {pos : Pos} (hr : Room k X.A) (ha : PE X a (TD da)) (hb : PE X b (TD db)) : PE X (.Compare a [.Lt] [b] pos) (TD (deOp dLtX da db)) := pd_cmp (OpR.or op_ltA (op_ltS (by have := hr.un; omega))) ltX_D ha hb (nomark _)
end Dl
namespace Dl
open PySem PySem.Spec PyProof.Rows L2 Lk
def topS (i : Nat) : Stmt := PySem.Challenge.pw_lotkept_k48_scheme_text.main.body.getD i (.Pass ⟨0, 0, 0, 0⟩)
end Dl
set_option maxRecDepth 100000
set_option maxHeartbeats 1000000
namespace Dl
open PySem PySem.Spec PyProof.Rows L2 Lk
section
variable {P : Program} {W : World} {K : PySem.W.Frag} {mg : Str → Option Value} {base : Heap}
/-! ### number_of -/
abbrev s_number_of : Stmt := topS 5
theorem sc_number_of : FnScope ["word", "letter"] ["word"] (defScope s_number_of) := ⟨rfl, rfl, rfl, by decide +kernel, rfl, by decide +kernel, by decide +kernel⟩
def m_number_of {L : Wd} : DS L := (dsSeq (dsIf (dtOr (dtNot (dtOf (deChain dLe dLe (deC (.int 1)) (deCB dLen (daCons (deVar 0) daNil)) (deC (.int 6))))) (dtNot (dtOf (deAll [1] (diSeq (deVar 0)) (dgName 1) dtYes (deChain dLe dLe (deC (.str "0")) (deVar 1) (deC (.str "9"))))))) (dsRet (deC .non)) dsNext) (dsSeq (dsIf (dtAnd (dtOf (deOp dEq (deOp dIx (deVar 0) (deC (.int 0))) (deC (.str "0")))) (dtOf (deOp dNe (deVar 0) (deC (.str "0"))))) (dsRet (deC .non)) dsNext) (dsRet (deCB dIntS (daCons (deVar 0) daNil)))))
theorem g_number_of {L : Wd} {k : Nat} {c T : Addr} (D : TabAt K mg base "number_of" s_number_of c T) (HT : Tabs L T) (m_int : mg "int" = none) (m_all : mg "all" = none) (m_len : mg "len" = none) (c_MOST_DIGITS : ∃ t, mg "MOST_DIGITS" = some (.int 6 t)) : Gd P W K mg base L (k + 2) "number_of" ["word"] (dfOf 1 2 (m_number_of)) :=
  gd_mkC (k := k + 1) D sc_number_of (fun F => F.binds (ps := ["word"]) fun _ _ _ _ _ _ us hl => match us, hl with | [_], _ => rfl) fun f A outer s H E TB hr hgu => by
    have nd := sc_number_of.nd
    exact (pds_cons (pds_if (pt_of_w (pdw_or (pdt_not (pdt_chain op_leA le_D op_leA le_D pd_int (pd_len m_len (pd_cons (pd_var (pv 0)) pd_nil)) (pd_globE (by decide) c_MOST_DIGITS))) (pw_or1 (pdt_not (pdt_val (pd_all (own := [("letter", 1)]) (k := k + 0) HT (hr.mono (by omega)) (by rfl) m_all TB rfl ⟨(blkOk_by (by first | rfl | decide +kernel)), nd, rfl, by decide +kernel, rfl⟩ (pdi_seq (pd_var (pv 0))) (fun _ _ _ _ _ _ _ hr1 hgu1 => (pdg_name (pg_name (i := 1) nd rfl (by first | exact Or.inl rfl | exact Or.inr rfl | exact Or.inr (Or.inl rfl) | exact Or.inr (Or.inr rfl))))) (fun _ _ _ _ _ _ _ hr1 hgu1 => pdts_nil) (fun _ _ _ _ _ _ _ hr1 hgu1 => (pd_chain op_leA le_D op_leA le_D pd_str (pd_var (pv 1)) pd_str)))))))) (pds_one (pds_ret pd_non)) pds_nil) (pds_cons (pds_if (pt_of_w (pdw_and (pdt_eq hr (pd_ixA (pd_var (pv 0)) pd_int (fun _ _ => rfl)) pd_str) (pw_and1 (pdt_ne hr (pd_var (pv 0)) pd_str)))) (pds_one (pds_ret pd_non)) pds_nil) (pds_one (pds_ret (pd_intS m_int (pd_cons (pd_var (pv 0)) pd_nil))))))
/-! ### is_integer -/
abbrev s_is_integer : Stmt := topS 7
theorem sc_is_integer : FnScope ["thing"] ["thing"] (defScope s_is_integer) := ⟨rfl, rfl, rfl, by decide +kernel, rfl, by decide +kernel, by decide +kernel⟩
def m_is_integer {L : Wd} : DS L := (dsRet (deAnd (deIs "int" (deVar 0)) (deNot (deIs "bool" (deVar 0)))))
theorem g_is_integer {L : Wd} {k : Nat} (D : DefAt K mg "is_integer" s_is_integer) (m_isinstance : mg "isinstance" = none) (m_int : mg "int" = none) (m_bool : mg "bool" = none) : Gd P W K mg base L (k + 1) "is_integer" ["thing"] (dfOf 1 1 (m_is_integer)) :=
  gd_mk (k := k + 0) D sc_is_integer (fun F => F.binds (ps := ["thing"]) fun _ _ _ _ _ _ us hl => match us, hl with | [_], _ => rfl) fun f cdv A outer s H E hr hgu => by
    have nd := sc_is_integer.nd
    exact (pds_one (pds_ret (pd_and (pd_is boot_int (by decide) (by decide) m_isinstance m_int (pd_var (pv 0))) (pd_one (pd_not (pd_is boot_bool (by decide) (by decide) m_isinstance m_bool (pd_var (pv 0))))))))
/-! ### is_prime -/
abbrev s_is_prime : Stmt := topS 8
theorem sc_is_prime : FnScope ["number", "divisor"] ["number"] (defScope s_is_prime) := ⟨rfl, rfl, rfl, by decide +kernel, rfl, by decide +kernel, by decide +kernel⟩
def m_is_prime {L : Wd} : DS L := (dsRet (deAnd (deOp dGe (deVar 0) (deC (.int 2))) (deAll [1] (diRange2 (deC (.int 2)) (deVar 0)) (dgName 1) dtYes (deOp dNe (deOp dMod (deVar 0) (deVar 1)) (deC (.int 0))))))
theorem g_is_prime {L : Wd} {k : Nat} {c T : Addr} (D : TabAt K mg base "is_prime" s_is_prime c T) (HT : Tabs L T) (m_all : mg "all" = none) (m_range : mg "range" = none) : Gd P W K mg base L (k + 2) "is_prime" ["number"] (dfOf 1 2 (m_is_prime)) :=
  gd_mkC (k := k + 1) D sc_is_prime (fun F => F.binds (ps := ["number"]) fun _ _ _ _ _ _ us hl => match us, hl with | [_], _ => rfl) fun f A outer s H E TB hr hgu => by
    have nd := sc_is_prime.nd
    exact (pds_one (pds_ret (pd_and (pd_ge (pd_var (pv 0)) pd_int) (pd_one (pd_all (own := [("divisor", 1)]) (k := k + 0) HT (hr.mono (by omega)) (by rfl) m_all TB rfl ⟨(blkOk_by (by first | rfl | decide +kernel)), nd, rfl, by decide +kernel, rfl⟩ (pdi_range2 (by rfl) m_range pd_int (pd_var (pv 0))) (fun _ _ _ _ _ _ _ hr1 hgu1 => (pdg_name (pg_name (i := 1) nd rfl (by first | exact Or.inl rfl | exact Or.inr rfl | exact Or.inr (Or.inl rfl) | exact Or.inr (Or.inr rfl))))) (fun _ _ _ _ _ _ _ hr1 hgu1 => pdts_nil) (fun _ _ _ _ _ _ _ hr1 hgu1 => (pd_ne hr1 (pd_mod (pd_var (pv 0)) (pd_var (pv 1))) pd_int)))))))
/-! ### is_name -/
abbrev s_is_name : Stmt := topS 11
theorem sc_is_name : FnScope ["thing", "letter"] ["thing"] (defScope s_is_name) := ⟨rfl, rfl, rfl, by decide +kernel, rfl, by decide +kernel, by decide +kernel⟩
def m_is_name {L : Wd} : DS L := (dsSeq (dsIf (dtNot (dtOf (deIs "str" (deVar 0)))) (dsRet (deC (.bl false))) dsNext) (dsRet (deAnd (deChain dLe dLe (deC (.int 1)) (deCB dLen (daCons (deVar 0) daNil)) (deC (.int 6))) (deAll [1] (diSeq (deVar 0)) (dgName 1) dtYes (deChain dLe dLe (deC (.str "a")) (deVar 1) (deC (.str "z")))))))
theorem g_is_name {L : Wd} {k : Nat} {c T : Addr} (D : TabAt K mg base "is_name" s_is_name c T) (HT : Tabs L T) (m_isinstance : mg "isinstance" = none) (m_all : mg "all" = none) (m_len : mg "len" = none) (m_str : mg "str" = none) (c_LONGEST_NAME : ∃ t, mg "LONGEST_NAME" = some (.int 6 t)) : Gd P W K mg base L (k + 2) "is_name" ["thing"] (dfOf 1 2 (m_is_name)) :=
  gd_mkC (k := k + 1) D sc_is_name (fun F => F.binds (ps := ["thing"]) fun _ _ _ _ _ _ us hl => match us, hl with | [_], _ => rfl) fun f A outer s H E TB hr hgu => by
    have nd := sc_is_name.nd
    exact (pds_cons (pds_if (pdt_not (pdt_val (pd_is boot_str (by decide) (by decide) m_isinstance m_str (pd_var (pv 0))))) (pds_one (pds_ret pd_bl)) pds_nil) (pds_one (pds_ret (pd_and (pd_chain op_leA le_D op_leA le_D pd_int (pd_len m_len (pd_cons (pd_var (pv 0)) pd_nil)) (pd_globE (by decide) c_LONGEST_NAME)) (pd_one (pd_all (own := [("letter", 1)]) (k := k + 0) HT (hr.mono (by omega)) (by rfl) m_all TB rfl ⟨(blkOk_by (by first | rfl | decide +kernel)), nd, rfl, by decide +kernel, rfl⟩ (pdi_seq (pd_var (pv 0))) (fun _ _ _ _ _ _ _ hr1 hgu1 => (pdg_name (pg_name (i := 1) nd rfl (by first | exact Or.inl rfl | exact Or.inr rfl | exact Or.inr (Or.inl rfl) | exact Or.inr (Or.inr rfl))))) (fun _ _ _ _ _ _ _ hr1 hgu1 => pdts_nil) (fun _ _ _ _ _ _ _ hr1 hgu1 => (pd_chain op_leA le_D op_leA le_D pd_str (pd_var (pv 1)) pd_str))))))))
/-! ### is_ascending -/
abbrev s_is_ascending : Stmt := topS 12
theorem sc_is_ascending : FnScope ["entries", "low", "high"] ["entries"] (defScope s_is_ascending) := ⟨rfl, rfl, rfl, by decide +kernel, rfl, by decide +kernel, by decide +kernel⟩
def m_is_ascending {L : Wd} : DS L := (dsRet (deAll [1, 2] (diZip (deVar 0) (deSl (deVar 0) (dpSome (deC (.int 1))) dpNone)) (dgTup 2 (dgsCons (dgName 1) (dgsCons (dgName 2) dgsNil))) dtYes (deOp dLtX (deVar 1) (deVar 2))))
theorem g_is_ascending {L : Wd} {k : Nat} {c T : Addr} (D : TabAt K mg base "is_ascending" s_is_ascending c T) (HT : Tabs L T) (m_all : mg "all" = none) (m_zip : mg "zip" = none) : Gd P W K mg base L (k + 2) "is_ascending" ["entries"] (dfOf 1 3 (m_is_ascending)) :=
  gd_mkC (k := k + 1) D sc_is_ascending (fun F => F.binds (ps := ["entries"]) fun _ _ _ _ _ _ us hl => match us, hl with | [_], _ => rfl) fun f A outer s H E TB hr hgu => by
    have nd := sc_is_ascending.nd
    exact (pds_one (pds_ret (pd_all (own := [("low", 1), ("high", 2)]) (k := k + 0) HT (hr.mono (by omega)) (by rfl) m_all TB rfl ⟨(blkOk_by (by first | rfl | decide +kernel)), nd, rfl, by decide +kernel, rfl⟩ (pdi_zip (by rfl) m_zip (pd_var (pv 0)) (pd_sl (pd_var (pv 0)) (pdo_some pd_int) pdo_none)) (fun _ _ _ _ _ _ _ hr1 hgu1 => (pdg_tup rfl (pdgs_cons (pdg_name (pg_name (i := 1) nd rfl (by first | exact Or.inl rfl | exact Or.inr rfl | exact Or.inr (Or.inl rfl) | exact Or.inr (Or.inr rfl)))) (pdgs_cons (pdg_name (pg_name (i := 2) nd rfl (by first | exact Or.inl rfl | exact Or.inr rfl | exact Or.inr (Or.inl rfl) | exact Or.inr (Or.inr rfl)))) pdgs_nil)))) (fun _ _ _ _ _ _ _ hr1 hgu1 => pdts_nil) (fun _ _ _ _ _ _ _ hr1 hgu1 => (pd_ltX hr1 (pd_var (pv 1)) (pd_var (pv 2)))))))
/-! ### is_party_set -/
abbrev s_is_party_set : Stmt := topS 13
theorem sc_is_party_set : FnScope ["thing", "entry"] ["thing"] (defScope s_is_party_set) := ⟨rfl, rfl, rfl, by decide +kernel, rfl, by decide +kernel, by decide +kernel⟩
def m_is_party_set {L : Wd} (f_is_ascending f_is_name : DF L) : DS L := (dsSeq (dsIf (dtNot (dtOf (deIs "tuple" (deVar 0)))) (dsRet (deC (.bl false))) dsNext) (dsRet (deAnd (deAll [1] (diSeq (deVar 0)) (dgName 1) dtYes (deCall f_is_name (daCons (deVar 1) daNil))) (deCall f_is_ascending (daCons (deVar 0) daNil)))))
theorem g_is_party_set {L : Wd} {f_is_ascending f_is_name : DF L} {k : Nat} {c T : Addr} (D : TabAt K mg base "is_party_set" s_is_party_set c T) (HT : Tabs L T) (G_is_ascending : Gd P W K mg base L (k + 2) "is_ascending" ["entries"] f_is_ascending) (G_is_name : Gd P W K mg base L (k + 2) "is_name" ["thing"] f_is_name) (m_isinstance : mg "isinstance" = none) (m_all : mg "all" = none) (m_tuple : mg "tuple" = none) : Gd P W K mg base L (k + 4) "is_party_set" ["thing"] (dfOf 1 2 (m_is_party_set f_is_ascending f_is_name)) :=
  gd_mkC (k := k + 3) D sc_is_party_set (fun F => F.binds (ps := ["thing"]) fun _ _ _ _ _ _ us hl => match us, hl with | [_], _ => rfl) fun f A outer s H E TB hr hgu => by
    have nd := sc_is_party_set.nd
    exact (pds_cons (pds_if (pdt_not (pdt_val (pd_is boot_tuple (by decide) (by decide) m_isinstance m_tuple (pd_var (pv 0))))) (pds_one (pds_ret pd_bl)) pds_nil) (pds_one (pds_ret (pd_and (pd_all (own := [("entry", 1)]) (k := k + 2) HT (hr.mono (by omega)) (by rfl) m_all TB rfl ⟨(blkOk_by (by first | rfl | decide +kernel)), nd, rfl, by decide +kernel, rfl⟩ (pdi_seq (pd_var (pv 0))) (fun _ _ _ _ _ _ _ hr1 hgu1 => (pdg_name (pg_name (i := 1) nd rfl (by first | exact Or.inl rfl | exact Or.inr rfl | exact Or.inr (Or.inl rfl) | exact Or.inr (Or.inr rfl))))) (fun _ _ _ _ _ _ _ hr1 hgu1 => pdts_nil) (fun _ _ _ _ _ _ _ hr1 hgu1 => (pd_call G_is_name (hr1.mono (by omega)) (hgu1.trans hgu) (by rfl) (pd_cons (pd_var (pv 1)) pd_nil)))) (pd_one (pd_call G_is_ascending (hr.mono (by omega)) hgu (by rfl) (pd_cons (pd_var (pv 0)) pd_nil)))))))
/-! ### is_subset -/
abbrev s_is_subset : Stmt := topS 14
theorem sc_is_subset : FnScope ["first", "second", "name"] ["first", "second"] (defScope s_is_subset) := ⟨rfl, rfl, rfl, by decide +kernel, rfl, by decide +kernel, by decide +kernel⟩
def m_is_subset {L : Wd} : DS L := (dsRet (deAll [2] (diSeq (deVar 0)) (dgName 2) dtYes (deOp (dIn false) (deVar 2) (deVar 1))))
theorem g_is_subset {L : Wd} {k : Nat} {c T : Addr} (D : TabAt K mg base "is_subset" s_is_subset c T) (HT : Tabs L T) (m_all : mg "all" = none) : Gd P W K mg base L (k + 2) "is_subset" ["first", "second"] (dfOf 2 3 (m_is_subset)) :=
  gd_mkC (k := k + 1) D sc_is_subset (fun F => F.binds (ps := ["first", "second"]) fun _ _ _ _ _ _ us hl => match us, hl with | [_, _], _ => rfl) fun f A outer s H E TB hr hgu => by
    have nd := sc_is_subset.nd
    exact (pds_one (pds_ret (pd_all (own := [("name", 2)]) (k := k + 0) HT (hr.mono (by omega)) (by rfl) m_all TB rfl ⟨(blkOk_by (by first | rfl | decide +kernel)), nd, rfl, by decide +kernel, rfl⟩ (pdi_seq (pd_var (pv 0))) (fun _ _ _ _ _ _ _ hr1 hgu1 => (pdg_name (pg_name (i := 2) nd rfl (by first | exact Or.inl rfl | exact Or.inr rfl | exact Or.inr (Or.inl rfl) | exact Or.inr (Or.inr rfl))))) (fun _ _ _ _ _ _ _ hr1 hgu1 => pdts_nil) (fun _ _ _ _ _ _ _ hr1 hgu1 => (pd_in hr1 (pd_var (pv 2)) (pd_var (pv 1)))))))
/-! ### is_scheme -/
abbrev s_is_scheme : Stmt := topS 17
theorem sc_is_scheme : FnScope ["thing", "prime", "servers", "clients", "observers", "faults", "fault"] ["thing"] (defScope s_is_scheme) := ⟨rfl, rfl, rfl, by decide +kernel, rfl, by decide +kernel, by decide +kernel⟩
def m_is_scheme {L : Wd} (f_is_modulus f_are_parties f_is_family f_is_within : DF L) : DS L := (dsSeq (dsIf (dtOr (dtNot (dtOf (deIs "tuple" (deVar 0)))) (dtOf (deOp dNe (deCB dLen (daCons (deVar 0) daNil)) (deC (.int 5))))) (dsRet (deC (.bl false))) dsNext) (dsSeq (dsAsg (deVar 0) (dgTup 5 (dgsCons (dgName 1) (dgsCons (dgName 2) (dgsCons (dgName 3) (dgsCons (dgName 4) (dgsCons (dgName 5) dgsNil))))))) (dsSeq (dsIf (dtOr (dtNot (dtOf (deCall f_is_modulus (daCons (deVar 1) daNil)))) (dtNot (dtOf (deCall f_are_parties (daCons (deVar 2) (daCons (deVar 3) daNil)))))) (dsRet (deC (.bl false))) dsNext) (dsSeq (dsIf (dtOr (dtNot (dtOf (deCall f_is_family (daCons (deVar 4) (daCons (deVar 2) daNil))))) (dtNot (dtOf (deCall f_is_family (daCons (deVar 5) (daCons (deVar 2) daNil)))))) (dsRet (deC (.bl false))) dsNext) (dsRet (deAll [6] (diSeq (deVar 5)) (dgName 6) dtYes (deCall f_is_within (daCons (deVar 6) (daCons (deVar 4) daNil)))))))))
theorem g_is_scheme {L : Wd} {f_is_modulus f_are_parties f_is_family f_is_within : DF L} {k : Nat} {c T : Addr} (D : TabAt K mg base "is_scheme" s_is_scheme c T) (HT : Tabs L T) (G_is_modulus : Gd P W K mg base L (k + 3) "_is_modulus" ["thing"] f_is_modulus) (G_are_parties : Gd P W K mg base L (k + 5) "_are_parties" ["servers", "clients"] f_are_parties) (G_is_family : Gd P W K mg base L (k + 6) "_is_family" ["thing", "servers"] f_is_family) (G_is_within : Gd P W K mg base L (k + 4) "_is_within" ["names", "sets"] f_is_within) (m_all : mg "all" = none) (m_isinstance : mg "isinstance" = none) (m_len : mg "len" = none) (m_tuple : mg "tuple" = none) : Gd P W K mg base L (k + 7) "is_scheme" ["thing"] (dfOf 1 7 (m_is_scheme f_is_modulus f_are_parties f_is_family f_is_within)) :=
  gd_mkC (k := k + 6) D sc_is_scheme (fun F => F.binds (ps := ["thing"]) fun _ _ _ _ _ _ us hl => match us, hl with | [_], _ => rfl) fun f A outer s H E TB hr hgu => by
    have nd := sc_is_scheme.nd
    exact (pds_cons (pds_if (pt_of_w (pdw_or (pdt_not (pdt_val (pd_is boot_tuple (by decide) (by decide) m_isinstance m_tuple (pd_var (pv 0))))) (pw_or1 (pdt_ne hr (pd_len m_len (pd_cons (pd_var (pv 0)) pd_nil)) pd_int)))) (pds_one (pds_ret pd_bl)) pds_nil) (pds_cons (pds_asg (pd_var (pv 0)) (pdg_tup rfl (pdgs_cons (pdg_name (pg_name (i := 1) nd rfl (by first | exact Or.inl rfl | exact Or.inr rfl | exact Or.inr (Or.inl rfl) | exact Or.inr (Or.inr rfl)))) (pdgs_cons (pdg_name (pg_name (i := 2) nd rfl (by first | exact Or.inl rfl | exact Or.inr rfl | exact Or.inr (Or.inl rfl) | exact Or.inr (Or.inr rfl)))) (pdgs_cons (pdg_name (pg_name (i := 3) nd rfl (by first | exact Or.inl rfl | exact Or.inr rfl | exact Or.inr (Or.inl rfl) | exact Or.inr (Or.inr rfl)))) (pdgs_cons (pdg_name (pg_name (i := 4) nd rfl (by first | exact Or.inl rfl | exact Or.inr rfl | exact Or.inr (Or.inl rfl) | exact Or.inr (Or.inr rfl)))) (pdgs_cons (pdg_name (pg_name (i := 5) nd rfl (by first | exact Or.inl rfl | exact Or.inr rfl | exact Or.inr (Or.inl rfl) | exact Or.inr (Or.inr rfl)))) pdgs_nil))))))) (pds_cons (pds_if (pt_of_w (pdw_or (pdt_not (pdt_val (pd_call G_is_modulus (hr.mono (by omega)) hgu (by rfl) (pd_cons (pd_var (pv 1)) pd_nil)))) (pw_or1 (pdt_not (pdt_val (pd_call G_are_parties (hr.mono (by omega)) hgu (by rfl) (pd_cons (pd_var (pv 2)) (pd_cons (pd_var (pv 3)) pd_nil)))))))) (pds_one (pds_ret pd_bl)) pds_nil) (pds_cons (pds_if (pt_of_w (pdw_or (pdt_not (pdt_val (pd_call G_is_family (hr.mono (by omega)) hgu (by rfl) (pd_cons (pd_var (pv 4)) (pd_cons (pd_var (pv 2)) pd_nil))))) (pw_or1 (pdt_not (pdt_val (pd_call G_is_family (hr.mono (by omega)) hgu (by rfl) (pd_cons (pd_var (pv 5)) (pd_cons (pd_var (pv 2)) pd_nil)))))))) (pds_one (pds_ret pd_bl)) pds_nil) (pds_one (pds_ret (pd_all (own := [("fault", 6)]) (k := k + 5) HT (hr.mono (by omega)) (by rfl) m_all TB rfl ⟨(blkOk_by (by first | rfl | decide +kernel)), nd, rfl, by decide +kernel, rfl⟩ (pdi_seq (pd_var (pv 5))) (fun _ _ _ _ _ _ _ hr1 hgu1 => (pdg_name (pg_name (i := 6) nd rfl (by first | exact Or.inl rfl | exact Or.inr rfl | exact Or.inr (Or.inl rfl) | exact Or.inr (Or.inr rfl))))) (fun _ _ _ _ _ _ _ hr1 hgu1 => pdts_nil) (fun _ _ _ _ _ _ _ hr1 hgu1 => (pd_call G_is_within (hr1.mono (by omega)) (hgu1.trans hgu) (by rfl) (pd_cons (pd_var (pv 6)) (pd_cons (pd_var (pv 4)) pd_nil)))))))))))
/-! ### _is_modulus -/
abbrev s_is_modulus : Stmt := topS 18
theorem sc_is_modulus : FnScope ["thing"] ["thing"] (defScope s_is_modulus) := ⟨rfl, rfl, rfl, by decide +kernel, rfl, by decide +kernel, by decide +kernel⟩
def m_is_modulus {L : Wd} (f_is_integer f_is_prime : DF L) : DS L := (dsRet (deAnd (deCall f_is_integer (daCons (deVar 0) daNil)) (deAnd (deOp dLe (deVar 0) (deC (.int 997))) (deCall f_is_prime (daCons (deVar 0) daNil)))))
theorem g_is_modulus {L : Wd} {f_is_integer f_is_prime : DF L} {k : Nat} (D : DefAt K mg "_is_modulus" s_is_modulus) (G_is_integer : Gd P W K mg base L (k + 1) "is_integer" ["thing"] f_is_integer) (G_is_prime : Gd P W K mg base L (k + 2) "is_prime" ["number"] f_is_prime) (c_LARGEST_PRIME : ∃ t, mg "LARGEST_PRIME" = some (.int 997 t)) : Gd P W K mg base L (k + 3) "_is_modulus" ["thing"] (dfOf 1 1 (m_is_modulus f_is_integer f_is_prime)) :=
  gd_mk (k := k + 2) D sc_is_modulus (fun F => F.binds (ps := ["thing"]) fun _ _ _ _ _ _ us hl => match us, hl with | [_], _ => rfl) fun f cdv A outer s H E hr hgu => by
    have nd := sc_is_modulus.nd
    exact (pds_one (pds_ret (pd_and (pd_call G_is_integer (hr.mono (by omega)) hgu (by rfl) (pd_cons (pd_var (pv 0)) pd_nil)) (pd_and (pd_le (pd_var (pv 0)) (pd_globE (by decide) c_LARGEST_PRIME)) (pd_one (pd_call G_is_prime (hr.mono (by omega)) hgu (by rfl) (pd_cons (pd_var (pv 0)) pd_nil)))))))
/-! ### _are_parties -/
abbrev s_are_parties : Stmt := topS 19
theorem sc_are_parties : FnScope ["servers", "clients", "client"] ["servers", "clients"] (defScope s_are_parties) := ⟨rfl, rfl, rfl, by decide +kernel, rfl, by decide +kernel, by decide +kernel⟩
def m_are_parties {L : Wd} (f_is_party_set : DF L) : DS L := (dsSeq (dsIf (dtOr (dtNot (dtOf (deCall f_is_party_set (daCons (deVar 0) daNil)))) (dtNot (dtOf (deCall f_is_party_set (daCons (deVar 1) daNil))))) (dsRet (deC (.bl false))) dsNext) (dsRet (deAnd (deOp dGe (deCB dLen (daCons (deVar 0) daNil)) (deC (.int 2))) (deAnd (deOp dGe (deCB dLen (daCons (deVar 1) daNil)) (deC (.int 1))) (deNot (deAny [2] (diSeq (deVar 1)) (dgName 2) dtYes (deOp (dIn false) (deVar 2) (deVar 0))))))))
theorem g_are_parties {L : Wd} {f_is_party_set : DF L} {k : Nat} {c T : Addr} (D : TabAt K mg base "_are_parties" s_are_parties c T) (HT : Tabs L T) (G_is_party_set : Gd P W K mg base L (k + 4) "is_party_set" ["thing"] f_is_party_set) (m_len : mg "len" = none) (m_any : mg "any" = none) : Gd P W K mg base L (k + 5) "_are_parties" ["servers", "clients"] (dfOf 2 3 (m_are_parties f_is_party_set)) :=
  gd_mkC (k := k + 4) D sc_are_parties (fun F => F.binds (ps := ["servers", "clients"]) fun _ _ _ _ _ _ us hl => match us, hl with | [_, _], _ => rfl) fun f A outer s H E TB hr hgu => by
    have nd := sc_are_parties.nd
    exact (pds_cons (pds_if (pt_of_w (pdw_or (pdt_not (pdt_val (pd_call G_is_party_set (hr.mono (by omega)) hgu (by rfl) (pd_cons (pd_var (pv 0)) pd_nil)))) (pw_or1 (pdt_not (pdt_val (pd_call G_is_party_set (hr.mono (by omega)) hgu (by rfl) (pd_cons (pd_var (pv 1)) pd_nil))))))) (pds_one (pds_ret pd_bl)) pds_nil) (pds_one (pds_ret (pd_and (pd_ge (pd_len m_len (pd_cons (pd_var (pv 0)) pd_nil)) pd_int) (pd_and (pd_ge (pd_len m_len (pd_cons (pd_var (pv 1)) pd_nil)) pd_int) (pd_one (pd_not (pd_any (own := [("client", 2)]) (k := k + 3) HT (hr.mono (by omega)) (by rfl) m_any TB rfl ⟨(blkOk_by (by first | rfl | decide +kernel)), nd, rfl, by decide +kernel, rfl⟩ (pdi_seq (pd_var (pv 1))) (fun _ _ _ _ _ _ _ hr1 hgu1 => (pdg_name (pg_name (i := 2) nd rfl (by first | exact Or.inl rfl | exact Or.inr rfl | exact Or.inr (Or.inl rfl) | exact Or.inr (Or.inr rfl))))) (fun _ _ _ _ _ _ _ hr1 hgu1 => pdts_nil) (fun _ _ _ _ _ _ _ hr1 hgu1 => (pd_in hr1 (pd_var (pv 2)) (pd_var (pv 0))))))))))))
/-! ### _is_family -/
abbrev s_is_family : Stmt := topS 20
theorem sc_is_family : FnScope ["thing", "servers", "entry"] ["thing", "servers"] (defScope s_is_family) := ⟨rfl, rfl, rfl, by decide +kernel, rfl, by decide +kernel, by decide +kernel⟩
def m_is_family {L : Wd} (f_is_ascending f_is_party_set f_is_subset f_is_within_larger : DF L) : DS L := (dsSeq (dsIf (dtOr (dtNot (dtOf (deIs "tuple" (deVar 0)))) (dtOf (deOp dEq (deCB dLen (daCons (deVar 0) daNil)) (deC (.int 0))))) (dsRet (deC (.bl false))) dsNext) (dsSeq (dsIf (dtNot (dtOf (deAll [2] (diSeq (deVar 0)) (dgName 2) dtYes (deAnd (deCall f_is_party_set (daCons (deVar 2) daNil)) (deCall f_is_subset (daCons (deVar 2) (daCons (deVar 1) daNil))))))) (dsRet (deC (.bl false))) dsNext) (dsRet (deAnd (deCall f_is_ascending (daCons (deVar 0) daNil)) (deNot (deAny [2] (diSeq (deVar 0)) (dgName 2) dtYes (deCall f_is_within_larger (daCons (deVar 2) (daCons (deVar 0) daNil)))))))))
theorem g_is_family {L : Wd} {f_is_ascending f_is_party_set f_is_subset f_is_within_larger : DF L} {k : Nat} {c T : Addr} (D : TabAt K mg base "_is_family" s_is_family c T) (HT : Tabs L T) (G_is_ascending : Gd P W K mg base L (k + 2) "is_ascending" ["entries"] f_is_ascending) (G_is_party_set : Gd P W K mg base L (k + 4) "is_party_set" ["thing"] f_is_party_set) (G_is_subset : Gd P W K mg base L (k + 2) "is_subset" ["first", "second"] f_is_subset) (G_is_within_larger : Gd P W K mg base L (k + 4) "_is_within_larger" ["names", "sets"] f_is_within_larger) (m_all : mg "all" = none) (m_isinstance : mg "isinstance" = none) (m_len : mg "len" = none) (m_any : mg "any" = none) (m_tuple : mg "tuple" = none) : Gd P W K mg base L (k + 6) "_is_family" ["thing", "servers"] (dfOf 2 3 (m_is_family f_is_ascending f_is_party_set f_is_subset f_is_within_larger)) :=
  gd_mkC (k := k + 5) D sc_is_family (fun F => F.binds (ps := ["thing", "servers"]) fun _ _ _ _ _ _ us hl => match us, hl with | [_, _], _ => rfl) fun f A outer s H E TB hr hgu => by
    have nd := sc_is_family.nd
    exact (pds_cons (pds_if (pt_of_w (pdw_or (pdt_not (pdt_val (pd_is boot_tuple (by decide) (by decide) m_isinstance m_tuple (pd_var (pv 0))))) (pw_or1 (pdt_eq hr (pd_len m_len (pd_cons (pd_var (pv 0)) pd_nil)) pd_int)))) (pds_one (pds_ret pd_bl)) pds_nil) (pds_cons (pds_if (pdt_not (pdt_val (pd_all (own := [("entry", 2)]) (k := k + 4) HT (hr.mono (by omega)) (by rfl) m_all TB rfl ⟨(blkOk_by (by first | rfl | decide +kernel)), nd, rfl, by decide +kernel, rfl⟩ (pdi_seq (pd_var (pv 0))) (fun _ _ _ _ _ _ _ hr1 hgu1 => (pdg_name (pg_name (i := 2) nd rfl (by first | exact Or.inl rfl | exact Or.inr rfl | exact Or.inr (Or.inl rfl) | exact Or.inr (Or.inr rfl))))) (fun _ _ _ _ _ _ _ hr1 hgu1 => pdts_nil) (fun _ _ _ _ _ _ _ hr1 hgu1 => (pd_and (pd_call G_is_party_set (hr1.mono (by omega)) (hgu1.trans hgu) (by rfl) (pd_cons (pd_var (pv 2)) pd_nil)) (pd_one (pd_call G_is_subset (hr1.mono (by omega)) (hgu1.trans hgu) (by rfl) (pd_cons (pd_var (pv 2)) (pd_cons (pd_var (pv 1)) pd_nil))))))))) (pds_one (pds_ret pd_bl)) pds_nil) (pds_one (pds_ret (pd_and (pd_call G_is_ascending (hr.mono (by omega)) hgu (by rfl) (pd_cons (pd_var (pv 0)) pd_nil)) (pd_one (pd_not (pd_any (own := [("entry", 2)]) (k := k + 4) HT (hr.mono (by omega)) (by rfl) m_any TB rfl ⟨(blkOk_by (by first | rfl | decide +kernel)), nd, rfl, by decide +kernel, rfl⟩ (pdi_seq (pd_var (pv 0))) (fun _ _ _ _ _ _ _ hr2 hgu2 => (pdg_name (pg_name (i := 2) nd rfl (by first | exact Or.inl rfl | exact Or.inr rfl | exact Or.inr (Or.inl rfl) | exact Or.inr (Or.inr rfl))))) (fun _ _ _ _ _ _ _ hr2 hgu2 => pdts_nil) (fun _ _ _ _ _ _ _ hr2 hgu2 => (pd_call G_is_within_larger (hr2.mono (by omega)) (hgu2.trans hgu) (by rfl) (pd_cons (pd_var (pv 2)) (pd_cons (pd_var (pv 0)) pd_nil))))))))))))
/-! ### _is_within_larger -/
abbrev s_is_within_larger : Stmt := topS 21
theorem sc_is_within_larger : FnScope ["names", "sets", "entry"] ["names", "sets"] (defScope s_is_within_larger) := ⟨rfl, rfl, rfl, by decide +kernel, rfl, by decide +kernel, by decide +kernel⟩
def m_is_within_larger {L : Wd} (f_is_subset : DF L) : DS L := (dsRet (deAny [2] (diSeq (deVar 1)) (dgName 2) dtYes (deAnd (deOp dLt (deCB dLen (daCons (deVar 0) daNil)) (deCB dLen (daCons (deVar 2) daNil))) (deCall f_is_subset (daCons (deVar 0) (daCons (deVar 2) daNil))))))
theorem g_is_within_larger {L : Wd} {f_is_subset : DF L} {k : Nat} {c T : Addr} (D : TabAt K mg base "_is_within_larger" s_is_within_larger c T) (HT : Tabs L T) (G_is_subset : Gd P W K mg base L (k + 2) "is_subset" ["first", "second"] f_is_subset) (m_any : mg "any" = none) (m_len : mg "len" = none) : Gd P W K mg base L (k + 4) "_is_within_larger" ["names", "sets"] (dfOf 2 3 (m_is_within_larger f_is_subset)) :=
  gd_mkC (k := k + 3) D sc_is_within_larger (fun F => F.binds (ps := ["names", "sets"]) fun _ _ _ _ _ _ us hl => match us, hl with | [_, _], _ => rfl) fun f A outer s H E TB hr hgu => by
    have nd := sc_is_within_larger.nd
    exact (pds_one (pds_ret (pd_any (own := [("entry", 2)]) (k := k + 2) HT (hr.mono (by omega)) (by rfl) m_any TB rfl ⟨(blkOk_by (by first | rfl | decide +kernel)), nd, rfl, by decide +kernel, rfl⟩ (pdi_seq (pd_var (pv 1))) (fun _ _ _ _ _ _ _ hr1 hgu1 => (pdg_name (pg_name (i := 2) nd rfl (by first | exact Or.inl rfl | exact Or.inr rfl | exact Or.inr (Or.inl rfl) | exact Or.inr (Or.inr rfl))))) (fun _ _ _ _ _ _ _ hr1 hgu1 => pdts_nil) (fun _ _ _ _ _ _ _ hr1 hgu1 => (pd_and (pd_lt (pd_len m_len (pd_cons (pd_var (pv 0)) pd_nil)) (pd_len m_len (pd_cons (pd_var (pv 2)) pd_nil))) (pd_one (pd_call G_is_subset (hr1.mono (by omega)) (hgu1.trans hgu) (by rfl) (pd_cons (pd_var (pv 0)) (pd_cons (pd_var (pv 2)) pd_nil)))))))))
/-! ### _is_within -/
abbrev s_is_within : Stmt := topS 22
theorem sc_is_within : FnScope ["names", "sets", "entry"] ["names", "sets"] (defScope s_is_within) := ⟨rfl, rfl, rfl, by decide +kernel, rfl, by decide +kernel, by decide +kernel⟩
def m_is_within {L : Wd} (f_is_subset : DF L) : DS L := (dsRet (deAny [2] (diSeq (deVar 1)) (dgName 2) dtYes (deCall f_is_subset (daCons (deVar 0) (daCons (deVar 2) daNil)))))
theorem g_is_within {L : Wd} {f_is_subset : DF L} {k : Nat} {c T : Addr} (D : TabAt K mg base "_is_within" s_is_within c T) (HT : Tabs L T) (G_is_subset : Gd P W K mg base L (k + 2) "is_subset" ["first", "second"] f_is_subset) (m_any : mg "any" = none) : Gd P W K mg base L (k + 4) "_is_within" ["names", "sets"] (dfOf 2 3 (m_is_within f_is_subset)) :=
  gd_mkC (k := k + 3) D sc_is_within (fun F => F.binds (ps := ["names", "sets"]) fun _ _ _ _ _ _ us hl => match us, hl with | [_, _], _ => rfl) fun f A outer s H E TB hr hgu => by
    have nd := sc_is_within.nd
    exact (pds_one (pds_ret (pd_any (own := [("entry", 2)]) (k := k + 2) HT (hr.mono (by omega)) (by rfl) m_any TB rfl ⟨(blkOk_by (by first | rfl | decide +kernel)), nd, rfl, by decide +kernel, rfl⟩ (pdi_seq (pd_var (pv 1))) (fun _ _ _ _ _ _ _ hr1 hgu1 => (pdg_name (pg_name (i := 2) nd rfl (by first | exact Or.inl rfl | exact Or.inr rfl | exact Or.inr (Or.inl rfl) | exact Or.inr (Or.inr rfl))))) (fun _ _ _ _ _ _ _ hr1 hgu1 => pdts_nil) (fun _ _ _ _ _ _ _ hr1 hgu1 => (pd_call G_is_subset (hr1.mono (by omega)) (hgu1.trans hgu) (by rfl) (pd_cons (pd_var (pv 0)) (pd_cons (pd_var (pv 2)) pd_nil)))))))
/-! ### format_scheme -/
abbrev s_format_scheme : Stmt := topS 24
theorem sc_format_scheme : FnScope ["scheme", "prime", "servers", "clients", "observers", "faults", "lines", "names"] ["scheme"] (defScope s_format_scheme) := ⟨rfl, rfl, rfl, by decide +kernel, rfl, by decide +kernel, by decide +kernel⟩
def m_format_scheme {L : Wd} (f_line : DF L) : DS L := (dsSeq (dsAsg (deVar 0) (dgTup 5 (dgsCons (dgName 1) (dgsCons (dgName 2) (dgsCons (dgName 3) (dgsCons (dgName 4) (dgsCons (dgName 5) dgsNil))))))) (dsSeq (dsOwn 6 (dfLst (daCons (deFInt "prime " (deVar 1)) (daCons (deCall f_line (daCons (deC (.str "servers")) (daCons (deVar 2) daNil))) (daCons (deCall f_line (daCons (deC (.str "clients")) (daCons (deVar 3) daNil))) daNil))))) (dsSeq (dsExpr (deMut 6 mExt (daCons (deF (dfLc [7] (diSeq (deVar 4)) (dgName 7) dtYes (deCall f_line (daCons (deC (.str "observe")) (daCons (deVar 7) daNil))))) daNil))) (dsSeq (dsExpr (deMut 6 mExt (daCons (deF (dfLc [7] (diSeq (deVar 5)) (dgName 7) dtYes (deCall f_line (daCons (deC (.str "fault")) (daCons (deVar 7) daNil))))) daNil))) (dsFrz 6 (dsRet (deJoin (deC (.str "\n")) (deVar 6))))))))
theorem g_format_scheme {L : Wd} {f_line : DF L} {k : Nat} (D : DefAt K mg "format_scheme" s_format_scheme) (G_line : Gd P W K mg base L (k + 1) "_line" ["word", "names"] f_line) : Gd P W K mg base L (k + 2) "format_scheme" ["scheme"] (dfOf 1 8 (m_format_scheme f_line)) :=
  gd_mk (k := k + 1) D sc_format_scheme (fun F => F.binds (ps := ["scheme"]) fun _ _ _ _ _ _ us hl => match us, hl with | [_], _ => rfl) fun f cdv A outer s H E hr hgu => by
    have nd := sc_format_scheme.nd
    exact (pds_cons (pds_asg (pd_var (pv 0)) (pdg_tup rfl (pdgs_cons (pdg_name (pg_name (i := 1) nd rfl (by first | exact Or.inl rfl | exact Or.inr rfl | exact Or.inr (Or.inl rfl) | exact Or.inr (Or.inr rfl)))) (pdgs_cons (pdg_name (pg_name (i := 2) nd rfl (by first | exact Or.inl rfl | exact Or.inr rfl | exact Or.inr (Or.inl rfl) | exact Or.inr (Or.inr rfl)))) (pdgs_cons (pdg_name (pg_name (i := 3) nd rfl (by first | exact Or.inl rfl | exact Or.inr rfl | exact Or.inr (Or.inl rfl) | exact Or.inr (Or.inr rfl)))) (pdgs_cons (pdg_name (pg_name (i := 4) nd rfl (by first | exact Or.inl rfl | exact Or.inr rfl | exact Or.inr (Or.inl rfl) | exact Or.inr (Or.inr rfl)))) (pdgs_cons (pdg_name (pg_name (i := 5) nd rfl (by first | exact Or.inl rfl | exact Or.inr rfl | exact Or.inr (Or.inl rfl) | exact Or.inr (Or.inr rfl)))) pdgs_nil))))))) (pds_cons (pds_own (fun _ h => ps_set (i := 6) nd rfl (by first | exact Or.inl rfl | exact Or.inr rfl | exact Or.inr (Or.inl rfl) | exact Or.inr (Or.inr rfl)) h) (pf_lst (pd_cons (pd_fint (pd_var (pv 1))) (pd_cons (pd_call G_line (hr.mono (by omega)) hgu (by rfl) (pd_cons pd_str (pd_cons (pd_var (pv 2)) pd_nil))) (pd_cons (pd_call G_line (hr.mono (by omega)) hgu (by rfl) (pd_cons pd_str (pd_cons (pd_var (pv 3)) pd_nil))) pd_nil))))) (pds_cons (pds_expr (pd_mut PySem.F.slot_list_extend PySem.F.type_list_extend mt_extend ext_M (pv 6) (pd_cons (pd_F (pf_lc (own := [("names", 7)]) rfl nd (pdi_seq (pd_var (pv 4))) (blkOk_by (by first | rfl | decide +kernel)) (fun _ _ _ _ _ => (pdg_name (pg_name (i := 7) nd rfl (by first | exact Or.inl rfl | exact Or.inr rfl | exact Or.inr (Or.inl rfl) | exact Or.inr (Or.inr rfl))))) (fun _ _ _ _ _ => pdts_nil) (fun _ _ _ _ _ => (pd_call G_line (hr.mono (by omega)) hgu (by rfl) (pd_cons pd_str (pd_cons (pd_var (pv 7)) pd_nil)))))) pd_nil))) (pds_cons (pds_expr (pd_mut PySem.F.slot_list_extend PySem.F.type_list_extend mt_extend ext_M (pv 6) (pd_cons (pd_F (pf_lc (own := [("names", 7)]) rfl nd (pdi_seq (pd_var (pv 5))) (blkOk_by (by first | rfl | decide +kernel)) (fun _ _ _ _ _ => (pdg_name (pg_name (i := 7) nd rfl (by first | exact Or.inl rfl | exact Or.inr rfl | exact Or.inr (Or.inl rfl) | exact Or.inr (Or.inr rfl))))) (fun _ _ _ _ _ => pdts_nil) (fun _ _ _ _ _ => (pd_call G_line (hr.mono (by omega)) hgu (by rfl) (pd_cons pd_str (pd_cons (pd_var (pv 7)) pd_nil)))))) pd_nil))) (pds_frz (pds_one (pds_ret (pd_join pd_str (pd_var (pv 6)) str_txt))))))))
/-! ### parse_scheme -/
abbrev s_parse_scheme : Stmt := topS 25
theorem sc_parse_scheme : FnScope ["text", "scheme"] ["text"] (defScope s_parse_scheme) := ⟨rfl, rfl, rfl, by decide +kernel, rfl, by decide +kernel, by decide +kernel⟩
def m_parse_scheme {L : Wd} (f_read_scheme f_is_scheme f_format_scheme : DF L) : DS L := (dsSeq (dsIf (dtNot (dtOf (deIs "str" (deVar 0)))) dsNever dsNext) (dsSeq (dsSet 1 (deCall f_read_scheme (daCons (deVar 0) daNil))) (dsSeq (dsIf (dtOr (dtNot (dtOf (deCall f_is_scheme (daCons (deVar 1) daNil)))) (dtOf (deOp dNe (deCall f_format_scheme (daCons (deVar 1) daNil)) (deVar 0)))) dsNever dsNext) (dsRet (deVar 1)))))
theorem g_parse_scheme {L : Wd} {f_read_scheme f_is_scheme f_format_scheme : DF L} {k : Nat} (D : DefAt K mg "parse_scheme" s_parse_scheme) (G_read_scheme : Gd P W K mg base L (k + 3) "_read_scheme" ["text"] f_read_scheme) (G_is_scheme : Gd P W K mg base L (k + 7) "is_scheme" ["thing"] f_is_scheme) (G_format_scheme : Gd P W K mg base L (k + 2) "format_scheme" ["scheme"] f_format_scheme) (m_isinstance : mg "isinstance" = none) (m_str : mg "str" = none) : Gd P W K mg base L (k + 8) "parse_scheme" ["text"] (dfOf 1 2 (m_parse_scheme f_read_scheme f_is_scheme f_format_scheme)) :=
  gd_mk (k := k + 7) D sc_parse_scheme (fun F => F.binds (ps := ["text"]) fun _ _ _ _ _ _ us hl => match us, hl with | [_], _ => rfl) fun f cdv A outer s H E hr hgu => by
    have nd := sc_parse_scheme.nd
    exact (pds_cons (pds_if (pdt_not (pdt_val (pd_is boot_str (by decide) (by decide) m_isinstance m_str (pd_var (pv 0))))) (pds_one pds_never) pds_nil) (pds_cons (pds_set (fun _ h => ps_set (i := 1) nd rfl (by first | exact Or.inl rfl | exact Or.inr rfl | exact Or.inr (Or.inl rfl) | exact Or.inr (Or.inr rfl)) h) (pd_call G_read_scheme (hr.mono (by omega)) hgu (by rfl) (pd_cons (pd_var (pv 0)) pd_nil))) (pds_cons (pds_if (pt_of_w (pdw_or (pdt_not (pdt_val (pd_call G_is_scheme (hr.mono (by omega)) hgu (by rfl) (pd_cons (pd_var (pv 1)) pd_nil)))) (pw_or1 (pdt_ne hr (pd_call G_format_scheme (hr.mono (by omega)) hgu (by rfl) (pd_cons (pd_var (pv 1)) pd_nil)) (pd_var (pv 0)))))) (pds_one pds_never) pds_nil) (pds_one (pds_ret (pd_var (pv 1)))))))
/-! ### _line -/
abbrev s_line : Stmt := topS 26
theorem sc_line : FnScope ["word", "names"] ["word", "names"] (defScope s_line) := ⟨rfl, rfl, rfl, by decide +kernel, rfl, by decide +kernel, by decide +kernel⟩
def m_line {L : Wd} : DS L := (dsRet (deJoin (deC (.str " ")) (deF (dfLst (daCons (deVar 0) (daStar (deVar 1) daNil))))))
theorem g_line {L : Wd} {k : Nat} (D : DefAt K mg "_line" s_line)  : Gd P W K mg base L (k + 1) "_line" ["word", "names"] (dfOf 2 2 (m_line)) :=
  gd_mk (k := k + 0) D sc_line (fun F => F.binds (ps := ["word", "names"]) fun _ _ _ _ _ _ us hl => match us, hl with | [_, _], _ => rfl) fun f cdv A outer s H E hr hgu => by
    have nd := sc_line.nd
    exact (pds_one (pds_ret (pd_join pd_str (pd_F (pf_lst (pd_cons (pd_var (pv 0)) (pd_star (pd_var (pv 1)) pd_nil)))) str_txt)))
/-! ### _read_scheme -/
abbrev s_read_scheme : Stmt := topS 27
theorem sc_read_scheme : FnScope ["text", "rows", "line"] ["text"] (defScope s_read_scheme) := ⟨rfl, rfl, rfl, by decide +kernel, rfl, by decide +kernel, by decide +kernel⟩
def m_read_scheme {L : Wd} (f_number_of f_named_sets : DF L) : DS L := (dsSeq (dsSet 1 (deF (dfLc [2] (diSeq (deF (dfSplit (deVar 0) "\n"))) (dgName 2) dtYes (deF (dfSplit (deVar 2) " "))))) (dsSeq (dsIf (dtOf (deOp dLt (deCB dLen (daCons (deVar 1) daNil)) (deC (.int 3)))) (dsRet (deC .non)) dsNext) (dsRet (deTup (daCons (deCall f_number_of (daCons (deOp dIx (deOp dIx (deVar 1) (deC (.int 0))) (deNeg (deC (.int 1)))) daNil)) (daCons (deCB dTuple (daCons (deSl (deOp dIx (deVar 1) (deC (.int 1))) (dpSome (deC (.int 1))) dpNone) daNil)) (daCons (deCB dTuple (daCons (deSl (deOp dIx (deVar 1) (deC (.int 2))) (dpSome (deC (.int 1))) dpNone) daNil)) (daCons (deCall f_named_sets (daCons (deC (.str "observe")) (daCons (deSl (deVar 1) (dpSome (deC (.int 3))) dpNone) daNil))) (daCons (deCall f_named_sets (daCons (deC (.str "fault")) (daCons (deSl (deVar 1) (dpSome (deC (.int 3))) dpNone) daNil))) daNil)))))))))
theorem g_read_scheme {L : Wd} {f_number_of f_named_sets : DF L} {k : Nat} (D : DefAt K mg "_read_scheme" s_read_scheme) (G_number_of : Gd P W K mg base L (k + 2) "number_of" ["word"] f_number_of) (G_named_sets : Gd P W K mg base L (k + 2) "_named_sets" ["word", "rows"] f_named_sets) (m_len : mg "len" = none) (m_tuple : mg "tuple" = none) : Gd P W K mg base L (k + 3) "_read_scheme" ["text"] (dfOf 1 3 (m_read_scheme f_number_of f_named_sets)) :=
  gd_mk (k := k + 2) D sc_read_scheme (fun F => F.binds (ps := ["text"]) fun _ _ _ _ _ _ us hl => match us, hl with | [_], _ => rfl) fun f cdv A outer s H E hr hgu => by
    have nd := sc_read_scheme.nd
    exact (pds_cons (pds_setLc (own := [("line", 2)]) (i := 1) rfl nd rfl rfl rfl (pdi_seq (pd_F (pf_split (pd_var (pv 0))))) (blkOk_by (by first | rfl | decide +kernel)) (fun _ _ _ _ _ => (pdg_name (pg_name (i := 2) nd rfl (by first | exact Or.inl rfl | exact Or.inr rfl | exact Or.inr (Or.inl rfl) | exact Or.inr (Or.inr rfl))))) (fun _ _ _ _ _ => pdts_nil) (fun _ _ _ _ _ => (pd_F (pf_split (pd_var (pv 2)))))) (pds_cons (pds_if (pdt_lt (pd_len m_len (pd_cons (pd_var (pv 1)) pd_nil)) pd_int) (pds_one (pds_ret pd_non)) pds_nil) (pds_one (pds_ret (pd_tup (pd_cons (pd_call G_number_of (hr.mono (by omega)) hgu (by rfl) (pd_cons (pd_ixA (pd_ixA (pd_var (pv 1)) pd_int (fun _ _ => rfl)) (pd_neg pd_int) (fun _ _ => rfl)) pd_nil)) (pd_cons (pd_tuple m_tuple (pd_cons (pd_sl (pd_ixA (pd_var (pv 1)) pd_int (fun _ _ => rfl)) (pdo_some pd_int) pdo_none) pd_nil)) (pd_cons (pd_tuple m_tuple (pd_cons (pd_sl (pd_ixA (pd_var (pv 1)) pd_int (fun _ _ => rfl)) (pdo_some pd_int) pdo_none) pd_nil)) (pd_cons (pd_call G_named_sets (hr.mono (by omega)) hgu (by rfl) (pd_cons pd_str (pd_cons (pd_sl (pd_var (pv 1)) (pdo_some pd_int) pdo_none) pd_nil))) (pd_cons (pd_call G_named_sets (hr.mono (by omega)) hgu (by rfl) (pd_cons pd_str (pd_cons (pd_sl (pd_var (pv 1)) (pdo_some pd_int) pdo_none) pd_nil))) pd_nil))))))))))
/-! ### _named_sets -/
abbrev s_named_sets : Stmt := topS 28
theorem sc_named_sets : FnScope ["word", "rows", "row"] ["word", "rows"] (defScope s_named_sets) := ⟨rfl, rfl, rfl, by decide +kernel, rfl, by decide +kernel, by decide +kernel⟩
def m_named_sets {L : Wd} : DS L := (dsRet (deTupG [2] (diSeq (deVar 1)) (dgName 2) (dtOf (deOp dEq (deOp dIx (deVar 2) (deC (.int 0))) (deVar 0))) (deCB dTuple (daCons (deSl (deVar 2) (dpSome (deC (.int 1))) dpNone) daNil))))
theorem g_named_sets {L : Wd} {k : Nat} {c T : Addr} (D : TabAt K mg base "_named_sets" s_named_sets c T) (HT : Tabs L T) (m_tuple : mg "tuple" = none) : Gd P W K mg base L (k + 2) "_named_sets" ["word", "rows"] (dfOf 2 3 (m_named_sets)) :=
  gd_mkC (k := k + 1) D sc_named_sets (fun F => F.binds (ps := ["word", "rows"]) fun _ _ _ _ _ _ us hl => match us, hl with | [_, _], _ => rfl) fun f A outer s H E TB hr hgu => by
    have nd := sc_named_sets.nd
    exact (pds_one (pds_ret (pd_tupG (own := [("row", 2)]) (k := k + 0) HT (hr.mono (by omega)) (by rfl) m_tuple TB rfl ⟨(blkOk_by (by first | rfl | decide +kernel)), nd, rfl, by decide +kernel, rfl⟩ (pdi_seq (pd_var (pv 1))) (fun _ _ _ _ _ _ _ hr1 hgu1 => (pdg_name (pg_name (i := 2) nd rfl (by first | exact Or.inl rfl | exact Or.inr rfl | exact Or.inr (Or.inl rfl) | exact Or.inr (Or.inr rfl))))) (fun _ _ _ _ _ _ _ hr1 hgu1 => (pdts_one (pdt_eq hr1 (pd_ixA (pd_var (pv 2)) pd_int (fun _ _ => rfl)) (pd_var (pv 0))))) (fun _ _ _ _ _ _ _ hr1 hgu1 => (pd_tuple m_tuple (pd_cons (pd_sl (pd_var (pv 2)) (pdo_some pd_int) pdo_none) pd_nil))))))
/-! ### _law_pick -/
abbrev s_l_pick : Stmt := topS 32
theorem sc_l_pick : FnScope ["_law_deck_here", "_law_some"] ["_law_deck_here", "_law_some"] (defScope s_l_pick) := ⟨rfl, rfl, rfl, by decide +kernel, rfl, by decide +kernel, by decide +kernel⟩
def m_l_pick {L : Wd} (f_l_draw : DF L) : DS L := (dsRet (deOp dIx (deVar 1) (deCall f_l_draw (daCons (deVar 0) (daCons (deCB dLen (daCons (deVar 1) daNil)) daNil)))))
theorem g_l_pick {L : Wd} {f_l_draw : DF L} {k : Nat} (D : DefAt K mg "_law_pick" s_l_pick) (G_l_draw : Gd P W K mg base L (k + 1) "_law_draw" ["_law_deck_here", "_law_many"] f_l_draw) (m_len : mg "len" = none) : Gd P W K mg base L (k + 2) "_law_pick" ["_law_deck_here", "_law_some"] (dfOf 2 2 (m_l_pick f_l_draw)) :=
  gd_mk (k := k + 1) D sc_l_pick (fun F => F.binds (ps := ["_law_deck_here", "_law_some"]) fun _ _ _ _ _ _ us hl => match us, hl with | [_, _], _ => rfl) fun f cdv A outer s H E hr hgu => by
    have nd := sc_l_pick.nd
    exact (pds_one (pds_ret (pd_ixA (pd_var (pv 1)) (pd_call G_l_draw (hr.mono (by omega)) hgu (by rfl) (pd_cons (pd_var (pv 0)) (pd_cons (pd_len m_len (pd_cons (pd_var (pv 1)) pd_nil)) pd_nil))) (fun _ _ => rfl))))
/-! ### _law_names -/
abbrev s_l_names : Stmt := topS 33
theorem sc_l_names : FnScope ["_law_deck_here", "_law_many", "_law_letters", "_law_way", "_law_first", "_law_rotated", "_law_k"] ["_law_deck_here", "_law_many"] (defScope s_l_names) := ⟨rfl, rfl, rfl, by decide +kernel, rfl, by decide +kernel, by decide +kernel⟩
def m_l_names {L : Wd} (f_l_draw : DF L) : DS L := (dsSeq (dsPar2 2 3 (daCons (deC (.str "abcdefghijklmnopqrstuvwxyz")) (daCons (deCall f_l_draw (daCons (deVar 0) (daCons (deC (.int 3)) daNil))) daNil))) (dsSeq (dsSet 4 (deCall f_l_draw (daCons (deVar 0) (daCons (deC (.int 26)) daNil)))) (dsSeq (dsSet 5 (deOp dAdd (deSl (deVar 2) (dpSome (deVar 4)) dpNone) (deSl (deVar 2) dpNone (dpSome (deVar 4))))) (dsSeq (dsIf (dtOf (deOp dEq (deVar 3) (deC (.int 0)))) (dsRet (deSl (deF (dfCB dfListX (daCons (deVar 5) daNil))) dpNone (dpSome (deVar 1)))) dsNext) (dsSeq (dsIf (dtOf (deOp dEq (deVar 3) (deC (.int 1)))) (dsRet (deF (dfLc [6] (diRange1 (deVar 1)) (dgName 6) dtYes (deOp dMul (deOp dIx (deVar 5) (deOp dDiv (deVar 6) (deC (.int 6)))) (deOp dAdd (deC (.int 1)) (deOp dMod (deVar 6) (deC (.int 6)))))))) dsNext) (dsRet (deF (dfLc [6] (diRange1 (deVar 1)) (dgName 6) dtYes (deOp dAdd (deSl (deVar 5) (dpSome (deC (.int 3))) (dpSome (deC (.int 8)))) (deOp dIx (deVar 5) (deVar 6)))))))))))
theorem g_l_names {L : Wd} {f_l_draw : DF L} {k : Nat} (D : DefAt K mg "_law_names" s_l_names) (G_l_draw : Gd P W K mg base L (k + 1) "_law_draw" ["_law_deck_here", "_law_many"] f_l_draw) (m_list : mg "list" = none) (m_range : mg "range" = none) : Gd P W K mg base L (k + 2) "_law_names" ["_law_deck_here", "_law_many"] (dfOf 2 7 (m_l_names f_l_draw)) :=
  gd_mk (k := k + 1) D sc_l_names (fun F => F.binds (ps := ["_law_deck_here", "_law_many"]) fun _ _ _ _ _ _ us hl => match us, hl with | [_, _], _ => rfl) fun f cdv A outer s H E hr hgu => by
    have nd := sc_l_names.nd
    exact (pds_cons (pds_par2 (fun _ h => ps_par (i := 2) (j := 3) rfl nd rfl rfl (by decide) rfl rfl h rfl) (pd_cons pd_str (pd_cons (pd_call G_l_draw (hr.mono (by omega)) hgu (by rfl) (pd_cons (pd_var (pv 0)) (pd_cons pd_int pd_nil))) pd_nil))) (pds_cons (pds_set (fun _ h => ps_set (i := 4) nd rfl (by first | exact Or.inl rfl | exact Or.inr rfl | exact Or.inr (Or.inl rfl) | exact Or.inr (Or.inr rfl)) h) (pd_call G_l_draw (hr.mono (by omega)) hgu (by rfl) (pd_cons (pd_var (pv 0)) (pd_cons pd_int pd_nil)))) (pds_cons (pds_set (fun _ h => ps_set (i := 5) nd rfl (by first | exact Or.inl rfl | exact Or.inr rfl | exact Or.inr (Or.inl rfl) | exact Or.inr (Or.inr rfl)) h) (pd_add (pd_sl (pd_var (pv 2)) (pdo_some (pd_var (pv 4))) pdo_none) (pd_sl (pd_var (pv 2)) pdo_none (pdo_some (pd_var (pv 4)))))) (pds_cons (pds_if (pdt_eq hr (pd_var (pv 3)) pd_int) (pds_one (pds_ret (pd_sl (pd_F (pf_listX rfl m_list (pd_cons (pd_var (pv 5)) pd_nil))) pdo_none (pdo_some (pd_var (pv 1)))))) pds_nil) (pds_cons (pds_if (pdt_eq hr (pd_var (pv 3)) pd_int) (pds_one (pds_ret (pd_F (pf_lc (own := [("_law_k", 6)]) rfl nd (pdi_range1 (by rfl) m_range (pd_var (pv 1))) (blkOk_by (by first | rfl | decide +kernel)) (fun _ _ _ _ _ => (pdg_name (pg_name (i := 6) nd rfl (by first | exact Or.inl rfl | exact Or.inr rfl | exact Or.inr (Or.inl rfl) | exact Or.inr (Or.inr rfl))))) (fun _ _ _ _ _ => pdts_nil) (fun _ _ _ _ _ => (pd_mul (pd_ixA (pd_var (pv 5)) (pd_div (pd_var (pv 6)) pd_int) (fun _ _ => rfl)) (pd_add pd_int (pd_mod (pd_var (pv 6)) pd_int)))))))) pds_nil) (pds_one (pds_ret (pd_F (pf_lc (own := [("_law_k", 6)]) rfl nd (pdi_range1 (by rfl) m_range (pd_var (pv 1))) (blkOk_by (by first | rfl | decide +kernel)) (fun _ _ _ _ _ => (pdg_name (pg_name (i := 6) nd rfl (by first | exact Or.inl rfl | exact Or.inr rfl | exact Or.inr (Or.inl rfl) | exact Or.inr (Or.inr rfl))))) (fun _ _ _ _ _ => pdts_nil) (fun _ _ _ _ _ => (pd_add (pd_sl (pd_var (pv 5)) (pdo_some pd_int) (pdo_some pd_int)) (pd_ixA (pd_var (pv 5)) (pd_var (pv 6)) (fun _ _ => rfl)))))))))))))
/-! ### _law_contains -/
abbrev s_l_contains : Stmt := topS 34
theorem sc_l_contains : FnScope ["_law_small", "_law_large", "_law_name"] ["_law_small", "_law_large"] (defScope s_l_contains) := ⟨rfl, rfl, rfl, by decide +kernel, rfl, by decide +kernel, by decide +kernel⟩
def m_l_contains {L : Wd} : DS L := (dsRet (deOp dEq (deF (dfLc [2] (diSeq (deVar 0)) (dgName 2) (dtOf (deOp (dIn true) (deVar 2) (deVar 1))) (deVar 2))) (deF (dfLst daNil))))
theorem g_l_contains {L : Wd} {k : Nat} (D : DefAt K mg "_law_contains" s_l_contains)  : Gd P W K mg base L (k + 1) "_law_contains" ["_law_small", "_law_large"] (dfOf 2 3 (m_l_contains)) :=
  gd_mk (k := k + 0) D sc_l_contains (fun F => F.binds (ps := ["_law_small", "_law_large"]) fun _ _ _ _ _ _ us hl => match us, hl with | [_, _], _ => rfl) fun f cdv A outer s H E hr hgu => by
    have nd := sc_l_contains.nd
    exact (pds_one (pds_ret (pd_eq hr (pd_F (pf_lc (own := [("_law_name", 2)]) rfl nd (pdi_seq (pd_var (pv 0))) (blkOk_by (by first | rfl | decide +kernel)) (fun _ _ _ _ _ => (pdg_name (pg_name (i := 2) nd rfl (by first | exact Or.inl rfl | exact Or.inr rfl | exact Or.inr (Or.inl rfl) | exact Or.inr (Or.inr rfl))))) (fun _ _ _ _ _ => (pdts_one (pdt_nin hr (pd_var (pv 2)) (pd_var (pv 1))))) (fun _ _ _ _ _ => (pd_var (pv 2))))) (pd_F (pf_lst pd_nil)))))
/-! ### _law_maximal -/
abbrev s_l_maximal : Stmt := topS 35
theorem sc_l_maximal : FnScope ["_law_groups", "_law_some", "_law_found", "_law_group", "_law_other"] ["_law_groups"] (defScope s_l_maximal) := ⟨rfl, rfl, rfl, by decide +kernel, rfl, by decide +kernel, by decide +kernel⟩
def m_l_maximal {L : Wd} (f_l_contains : DF L) : DS L := (dsSeq (dsParVO 1 2 (deF (dfSortSet (deVar 0))) (dfLst daNil)) (dsSeq (dsFor (diSeq (deVar 1)) (dgName 3) (dsIf (dtOf (deOp dEq (deF (dfLc [4] (diSeq (deVar 1)) (dgName 4) (dtAnd (dtOf (deOp dNe (deVar 4) (deVar 3))) (dtOf (deCall f_l_contains (daCons (deVar 3) (daCons (deVar 4) daNil))))) (deVar 4))) (deF (dfLst daNil)))) (dsExpr (deMut 2 mApp (daCons (deVar 3) daNil))) dsNext)) (dsFrz 2 (dsRet (deCB dTuple (daCons (deVar 2) daNil))))))
theorem g_l_maximal {L : Wd} {f_l_contains : DF L} {k : Nat} (D : DefAt K mg "_law_maximal" s_l_maximal) (G_l_contains : Gd P W K mg base L (k + 1) "_law_contains" ["_law_small", "_law_large"] f_l_contains) (m_tuple : mg "tuple" = none) (m_sorted : mg "sorted" = none) (m_set : mg "set" = none) : Gd P W K mg base L (k + 2) "_law_maximal" ["_law_groups"] (dfOf 1 5 (m_l_maximal f_l_contains)) :=
  gd_mk (k := k + 1) D sc_l_maximal (fun F => F.binds (ps := ["_law_groups"]) fun _ _ _ _ _ _ us hl => match us, hl with | [_], _ => rfl) fun f cdv A outer s H E hr hgu => by
    have nd := sc_l_maximal.nd
    exact (pds_cons (pds_parVO (fun _ h => ps_par (i := 1) (j := 2) rfl nd rfl rfl (by decide) rfl rfl h rfl) (pd_F (pf_sortSet rfl hr m_sorted m_set (pd_var (pv 0)))) (pf_lst pd_nil)) (pds_cons (pds_for PassesOwn.never rfl (pdi_seq (pd_var (pv 1))) (pdg_name (pg_name (i := 3) nd rfl (by first | exact Or.inl rfl | exact Or.inr rfl | exact Or.inr (Or.inl rfl) | exact Or.inr (Or.inr rfl)))) (pds_one (pds_if (pdt_eq hr (pd_F (pf_lc (own := [("_law_other", 4)]) rfl nd (pdi_seq (pd_var (pv 1))) (blkOk_by (by first | rfl | decide +kernel)) (fun _ _ _ _ _ => (pdg_name (pg_name (i := 4) nd rfl (by first | exact Or.inl rfl | exact Or.inr rfl | exact Or.inr (Or.inl rfl) | exact Or.inr (Or.inr rfl))))) (fun _ _ _ _ _ => (pdts_one (pt_of_w (pdw_and (pdt_ne hr (pd_var (pv 4)) (pd_var (pv 3))) (pw_and1 (pdt_val (pd_call G_l_contains (hr.mono (by omega)) hgu (by rfl) (pd_cons (pd_var (pv 3)) (pd_cons (pd_var (pv 4)) pd_nil))))))))) (fun _ _ _ _ _ => (pd_var (pv 4))))) (pd_F (pf_lst pd_nil))) (pds_one (pds_expr (pd_mut PySem.F.slot_list_append PySem.F.type_list_append mt_append app_M (pv 2) (pd_cons (pd_var (pv 3)) pd_nil)))) pds_nil))) (pds_frz (pds_one (pds_ret (pd_tuple m_tuple (pd_cons (pd_var (pv 2)) pd_nil)))))))
/-! ### _law_sample -/
abbrev s_l_sample : Stmt := topS 36
theorem sc_l_sample : FnScope ["_law_deck_here", "_law_some", "_law_many", "_law_one"] ["_law_deck_here", "_law_some", "_law_many"] (defScope s_l_sample) := ⟨rfl, rfl, rfl, by decide +kernel, rfl, by decide +kernel, by decide +kernel⟩
def m_l_sample {L : Wd} (f_l_draw : DF L) : DS L := (dsRet (deCB dTuple (daCons (deF (dfLc [3] (diSeq (deVar 1)) (dgName 3) (dtOf (deOp dEq (deCall f_l_draw (daCons (deVar 0) (daCons (deVar 2) daNil))) (deC (.int 0)))) (deVar 3))) daNil)))
theorem g_l_sample {L : Wd} {f_l_draw : DF L} {k : Nat} (D : DefAt K mg "_law_sample" s_l_sample) (G_l_draw : Gd P W K mg base L (k + 1) "_law_draw" ["_law_deck_here", "_law_many"] f_l_draw) (m_tuple : mg "tuple" = none) : Gd P W K mg base L (k + 2) "_law_sample" ["_law_deck_here", "_law_some", "_law_many"] (dfOf 3 4 (m_l_sample f_l_draw)) :=
  gd_mk (k := k + 1) D sc_l_sample (fun F => F.binds (ps := ["_law_deck_here", "_law_some", "_law_many"]) fun _ _ _ _ _ _ us hl => match us, hl with | [_, _, _], _ => rfl) fun f cdv A outer s H E hr hgu => by
    have nd := sc_l_sample.nd
    exact (pds_one (pds_ret (pd_tuple m_tuple (pd_cons (pd_F (pf_lc (own := [("_law_one", 3)]) rfl nd (pdi_seq (pd_var (pv 1))) (blkOk_by (by first | rfl | decide +kernel)) (fun _ _ _ _ _ => (pdg_name (pg_name (i := 3) nd rfl (by first | exact Or.inl rfl | exact Or.inr rfl | exact Or.inr (Or.inl rfl) | exact Or.inr (Or.inr rfl))))) (fun _ _ _ _ _ => (pdts_one (pdt_eq hr (pd_call G_l_draw (hr.mono (by omega)) hgu (by rfl) (pd_cons (pd_var (pv 0)) (pd_cons (pd_var (pv 2)) pd_nil))) pd_int))) (fun _ _ _ _ _ => (pd_var (pv 3))))) pd_nil))))
/-! ### _law_supports_storage -/
abbrev s_l_supports_storage : Stmt := topS 37
theorem sc_l_supports_storage : FnScope ["_law_servers", "_law_observer_sets", "_law_fault_sets", "_law_group", "_law_one", "_law_other"] ["_law_servers", "_law_observer_sets", "_law_fault_sets"] (defScope s_l_supports_storage) := ⟨rfl, rfl, rfl, by decide +kernel, rfl, by decide +kernel, by decide +kernel⟩
def m_l_supports_storage {L : Wd} (f_l_contains : DF L) : DS L := (dsSeq (dsFor (diSeq (deVar 1)) (dgName 3) (dsFor (diSeq (deVar 2)) (dgName 4) (dsFor (diSeq (deVar 2)) (dgName 5) (dsIf (dtOf (deCall f_l_contains (daCons (deVar 0) (daCons (deOp dAdd (deOp dAdd (deVar 3) (deVar 4)) (deVar 5)) daNil)))) (dsRet (deC (.bl false))) dsNext)))) (dsRet (deC (.bl true))))
theorem g_l_supports_storage {L : Wd} {f_l_contains : DF L} {k : Nat} (D : DefAt K mg "_law_supports_storage" s_l_supports_storage) (G_l_contains : Gd P W K mg base L (k + 1) "_law_contains" ["_law_small", "_law_large"] f_l_contains) : Gd P W K mg base L (k + 2) "_law_supports_storage" ["_law_servers", "_law_observer_sets", "_law_fault_sets"] (dfOf 3 6 (m_l_supports_storage f_l_contains)) :=
  gd_mk (k := k + 1) D sc_l_supports_storage (fun F => F.binds (ps := ["_law_servers", "_law_observer_sets", "_law_fault_sets"]) fun _ _ _ _ _ _ us hl => match us, hl with | [_, _, _], _ => rfl) fun f cdv A outer s H E hr hgu => by
    have nd := sc_l_supports_storage.nd
    exact (pds_cons (pds_for PassesOwn.never rfl (pdi_seq (pd_var (pv 1))) (pdg_name (pg_name (i := 3) nd rfl (by first | exact Or.inl rfl | exact Or.inr rfl | exact Or.inr (Or.inl rfl) | exact Or.inr (Or.inr rfl)))) (pds_one (pds_for PassesOwn.never rfl (pdi_seq (pd_var (pv 2))) (pdg_name (pg_name (i := 4) nd rfl (by first | exact Or.inl rfl | exact Or.inr rfl | exact Or.inr (Or.inl rfl) | exact Or.inr (Or.inr rfl)))) (pds_one (pds_for PassesOwn.never rfl (pdi_seq (pd_var (pv 2))) (pdg_name (pg_name (i := 5) nd rfl (by first | exact Or.inl rfl | exact Or.inr rfl | exact Or.inr (Or.inl rfl) | exact Or.inr (Or.inr rfl)))) (pds_one (pds_if (pdt_val (pd_call G_l_contains (hr.mono (by omega)) hgu (by rfl) (pd_cons (pd_var (pv 0)) (pd_cons (pd_add (pd_add (pd_var (pv 3)) (pd_var (pv 4))) (pd_var (pv 5))) pd_nil)))) (pds_one (pds_ret pd_bl)) pds_nil))))))) (pds_one (pds_ret pd_bl)))
/-! ### _law_scheme -/
abbrev s_l_scheme : Stmt := topS 38
theorem sc_l_scheme : FnScope ["_law_deck_here", "_law_names_here", "_law_servers", "_law_clients", "_law_fault_sets", "_law_drawn", "_law_observer_sets", "_law_prime", "_law_k", "_law_group", "_law_name"] ["_law_deck_here"] (defScope s_l_scheme) := ⟨rfl, rfl, rfl, by decide +kernel, rfl, by decide +kernel, by decide +kernel⟩
def m_l_scheme {L : Wd} (f_l_names f_l_maximal f_l_pick f_l_supports_storage f_l_sample f_l_draw : DF L) : DS L := (dsSeq (dsSet 1 (deCall f_l_names (daCons (deVar 0) (daCons (deC (.int 9)) daNil)))) (dsSeq (dsSet 2 (deCB dTuple (daCons (deF (dfCB dfSorted (daCons (deSl (deVar 1) dpNone (dpSome (deOp dAdd (deC (.int 2)) (deCall f_l_draw (daCons (deVar 0) (daCons (deC (.int 4)) daNil)))))) daNil))) daNil))) (dsSeq (dsSet 3 (deCB dTuple (daCons (deF (dfCB dfSorted (daCons (deSl (deVar 1) (dpSome (deC (.int 5))) (dpSome (deOp dAdd (deC (.int 6)) (deCall f_l_draw (daCons (deVar 0) (daCons (deC (.int 4)) daNil)))))) daNil))) daNil))) (dsSeq (dsSet 4 (deCall f_l_maximal (daCons (deF (dfLc [8] (diRange1 (deOp dAdd (deC (.int 1)) (deCall f_l_draw (daCons (deVar 0) (daCons (deC (.int 4)) daNil))))) (dgName 8) dtYes (deCall f_l_sample (daCons (deVar 0) (daCons (deVar 2) (daCons (deC (.int 3)) daNil)))))) daNil))) (dsSeq (dsSet 5 (deF (dfLc [9] (diSeq (deVar 4)) (dgName 9) dtYes (deCB dTuple (daCons (deF (dfSortSet (deOp dAdd (deVar 9) (deCall f_l_sample (daCons (deVar 0) (daCons (deVar 2) (daCons (deC (.int 3)) daNil))))))) daNil))))) (dsSeq (dsSet 6 (deCall f_l_maximal (daCons (deOp dAdd (deVar 5) (deF (dfLc [8] (diRange1 (deCall f_l_draw (daCons (deVar 0) (daCons (deC (.int 3)) daNil)))) (dgName 8) dtYes (deCall f_l_sample (daCons (deVar 0) (daCons (deVar 2) (daCons (deC (.int 2)) daNil))))))) daNil))) (dsSeq (dsIf (dtNot (dtOf (deCall f_l_supports_storage (daCons (deVar 2) (daCons (deVar 6) (daCons (deVar 4) daNil)))))) (dsSeq (dsSet 6 (deCB dTuple (daCons (deF (dfLc [10] (diSeq (deVar 2)) (dgName 10) dtYes (deTup (daCons (deVar 10) daNil)))) daNil))) (dsSet 4 (deIf (dtOf (deOp dGt (deCB dLen (daCons (deVar 2) daNil)) (deC (.int 3)))) (deVar 6) (deTup (daCons (deTup daNil) daNil))))) dsNext) (dsSeq (dsSet 7 (deCall f_l_pick (daCons (deVar 0) (daCons (deF (dfLst (daCons (deC (.int 2)) (daCons (deC (.int 3)) (daCons (deC (.int 5)) (daCons (deC (.int 7)) (daCons (deC (.int 11)) (daCons (deC (.int 97)) (daCons (deC (.int 499)) (daCons (deC (.int 997)) daNil)))))))))) daNil)))) (dsRet (deTup (daCons (deVar 7) (daCons (deVar 2) (daCons (deVar 3) (daCons (deVar 6) (daCons (deVar 4) daNil)))))))))))))))
theorem g_l_scheme {L : Wd} {f_l_names f_l_maximal f_l_pick f_l_supports_storage f_l_sample f_l_draw : DF L} {k : Nat} (D : DefAt K mg "_law_scheme" s_l_scheme) (G_l_names : Gd P W K mg base L (k + 2) "_law_names" ["_law_deck_here", "_law_many"] f_l_names) (G_l_maximal : Gd P W K mg base L (k + 2) "_law_maximal" ["_law_groups"] f_l_maximal) (G_l_pick : Gd P W K mg base L (k + 2) "_law_pick" ["_law_deck_here", "_law_some"] f_l_pick) (G_l_supports_storage : Gd P W K mg base L (k + 2) "_law_supports_storage" ["_law_servers", "_law_observer_sets", "_law_fault_sets"] f_l_supports_storage) (G_l_sample : Gd P W K mg base L (k + 2) "_law_sample" ["_law_deck_here", "_law_some", "_law_many"] f_l_sample) (G_l_draw : Gd P W K mg base L (k + 1) "_law_draw" ["_law_deck_here", "_law_many"] f_l_draw) (m_tuple : mg "tuple" = none) (m_sorted : mg "sorted" = none) (m_range : mg "range" = none) (m_set : mg "set" = none) (m_len : mg "len" = none) : Gd P W K mg base L (k + 3) "_law_scheme" ["_law_deck_here"] (dfOf 1 11 (m_l_scheme f_l_names f_l_maximal f_l_pick f_l_supports_storage f_l_sample f_l_draw)) :=
  gd_mk (k := k + 2) D sc_l_scheme (fun F => F.binds (ps := ["_law_deck_here"]) fun _ _ _ _ _ _ us hl => match us, hl with | [_], _ => rfl) fun f cdv A outer s H E hr hgu => by
    have nd := sc_l_scheme.nd
    exact (pds_cons (pds_set (fun _ h => ps_set (i := 1) nd rfl (by first | exact Or.inl rfl | exact Or.inr rfl | exact Or.inr (Or.inl rfl) | exact Or.inr (Or.inr rfl)) h) (pd_call G_l_names (hr.mono (by omega)) hgu (by rfl) (pd_cons (pd_var (pv 0)) (pd_cons pd_int pd_nil)))) (pds_cons (pds_set (fun _ h => ps_set (i := 2) nd rfl (by first | exact Or.inl rfl | exact Or.inr rfl | exact Or.inr (Or.inl rfl) | exact Or.inr (Or.inr rfl)) h) (pd_tuple m_tuple (pd_cons (pd_F (pf_sorted rfl hr m_sorted (pd_cons (pd_sl (pd_var (pv 1)) pdo_none (pdo_some (pd_add pd_int (pd_call G_l_draw (hr.mono (by omega)) hgu (by rfl) (pd_cons (pd_var (pv 0)) (pd_cons pd_int pd_nil)))))) pd_nil))) pd_nil))) (pds_cons (pds_set (fun _ h => ps_set (i := 3) nd rfl (by first | exact Or.inl rfl | exact Or.inr rfl | exact Or.inr (Or.inl rfl) | exact Or.inr (Or.inr rfl)) h) (pd_tuple m_tuple (pd_cons (pd_F (pf_sorted rfl hr m_sorted (pd_cons (pd_sl (pd_var (pv 1)) (pdo_some pd_int) (pdo_some (pd_add pd_int (pd_call G_l_draw (hr.mono (by omega)) hgu (by rfl) (pd_cons (pd_var (pv 0)) (pd_cons pd_int pd_nil)))))) pd_nil))) pd_nil))) (pds_cons (pds_set (fun _ h => ps_set (i := 4) nd rfl (by first | exact Or.inl rfl | exact Or.inr rfl | exact Or.inr (Or.inl rfl) | exact Or.inr (Or.inr rfl)) h) (pd_call G_l_maximal (hr.mono (by omega)) hgu (by rfl) (pd_cons (pd_F (pf_lc (own := [("_law_k", 8)]) rfl nd (pdi_range1 (by rfl) m_range (pd_add pd_int (pd_call G_l_draw (hr.mono (by omega)) hgu (by rfl) (pd_cons (pd_var (pv 0)) (pd_cons pd_int pd_nil))))) (blkOk_by (by first | rfl | decide +kernel)) (fun _ _ _ _ _ => (pdg_name (pg_name (i := 8) nd rfl (by first | exact Or.inl rfl | exact Or.inr rfl | exact Or.inr (Or.inl rfl) | exact Or.inr (Or.inr rfl))))) (fun _ _ _ _ _ => pdts_nil) (fun _ _ _ _ _ => (pd_call G_l_sample (hr.mono (by omega)) hgu (by rfl) (pd_cons (pd_var (pv 0)) (pd_cons (pd_var (pv 2)) (pd_cons pd_int pd_nil))))))) pd_nil))) (pds_cons (pds_setLc (own := [("_law_group", 9)]) (i := 5) rfl nd rfl rfl rfl (pdi_seq (pd_var (pv 4))) (blkOk_by (by first | rfl | decide +kernel)) (fun _ _ _ _ _ => (pdg_name (pg_name (i := 9) nd rfl (by first | exact Or.inl rfl | exact Or.inr rfl | exact Or.inr (Or.inl rfl) | exact Or.inr (Or.inr rfl))))) (fun _ _ _ _ _ => pdts_nil) (fun _ _ _ _ _ => (pd_tuple m_tuple (pd_cons (pd_F (pf_sortSet rfl hr m_sorted m_set (pd_add (pd_var (pv 9)) (pd_call G_l_sample (hr.mono (by omega)) hgu (by rfl) (pd_cons (pd_var (pv 0)) (pd_cons (pd_var (pv 2)) (pd_cons pd_int pd_nil))))))) pd_nil)))) (pds_cons (pds_set (fun _ h => ps_set (i := 6) nd rfl (by first | exact Or.inl rfl | exact Or.inr rfl | exact Or.inr (Or.inl rfl) | exact Or.inr (Or.inr rfl)) h) (pd_call G_l_maximal (hr.mono (by omega)) hgu (by rfl) (pd_cons (pd_add (pd_var (pv 5)) (pd_F (pf_lc (own := [("_law_k", 8)]) rfl nd (pdi_range1 (by rfl) m_range (pd_call G_l_draw (hr.mono (by omega)) hgu (by rfl) (pd_cons (pd_var (pv 0)) (pd_cons pd_int pd_nil)))) (blkOk_by (by first | rfl | decide +kernel)) (fun _ _ _ _ _ => (pdg_name (pg_name (i := 8) nd rfl (by first | exact Or.inl rfl | exact Or.inr rfl | exact Or.inr (Or.inl rfl) | exact Or.inr (Or.inr rfl))))) (fun _ _ _ _ _ => pdts_nil) (fun _ _ _ _ _ => (pd_call G_l_sample (hr.mono (by omega)) hgu (by rfl) (pd_cons (pd_var (pv 0)) (pd_cons (pd_var (pv 2)) (pd_cons pd_int pd_nil)))))))) pd_nil))) (pds_cons (pds_if (pdt_not (pdt_val (pd_call G_l_supports_storage (hr.mono (by omega)) hgu (by rfl) (pd_cons (pd_var (pv 2)) (pd_cons (pd_var (pv 6)) (pd_cons (pd_var (pv 4)) pd_nil)))))) (pds_cons (pds_set (fun _ h => ps_set (i := 6) nd rfl (by first | exact Or.inl rfl | exact Or.inr rfl | exact Or.inr (Or.inl rfl) | exact Or.inr (Or.inr rfl)) h) (pd_tuple m_tuple (pd_cons (pd_F (pf_lc (own := [("_law_name", 10)]) rfl nd (pdi_seq (pd_var (pv 2))) (blkOk_by (by first | rfl | decide +kernel)) (fun _ _ _ _ _ => (pdg_name (pg_name (i := 10) nd rfl (by first | exact Or.inl rfl | exact Or.inr rfl | exact Or.inr (Or.inl rfl) | exact Or.inr (Or.inr rfl))))) (fun _ _ _ _ _ => pdts_nil) (fun _ _ _ _ _ => (pd_tup (pd_cons (pd_var (pv 10)) pd_nil))))) pd_nil))) (pds_one (pds_set (fun _ h => ps_set (i := 4) nd rfl (by first | exact Or.inl rfl | exact Or.inr rfl | exact Or.inr (Or.inl rfl) | exact Or.inr (Or.inr rfl)) h) (pd_if (pdt_gt (pd_len m_len (pd_cons (pd_var (pv 2)) pd_nil)) pd_int) (pd_var (pv 6)) (pd_tup (pd_cons (pd_tup pd_nil) pd_nil)))))) pds_nil) (pds_cons (pds_set (fun _ h => ps_set (i := 7) nd rfl (by first | exact Or.inl rfl | exact Or.inr rfl | exact Or.inr (Or.inl rfl) | exact Or.inr (Or.inr rfl)) h) (pd_call G_l_pick (hr.mono (by omega)) hgu (by rfl) (pd_cons (pd_var (pv 0)) (pd_cons (pd_F (pf_lst (pd_cons pd_int (pd_cons pd_int (pd_cons pd_int (pd_cons pd_int (pd_cons pd_int (pd_cons pd_int (pd_cons pd_int (pd_cons pd_int pd_nil)))))))))) pd_nil)))) (pds_one (pds_ret (pd_tup (pd_cons (pd_var (pv 7)) (pd_cons (pd_var (pv 2)) (pd_cons (pd_var (pv 3)) (pd_cons (pd_var (pv 6)) (pd_cons (pd_var (pv 4)) pd_nil))))))))))))))))
/-! ### _law_wide_scheme -/
abbrev s_l_wide_scheme : Stmt := topS 39
theorem sc_l_wide_scheme : FnScope ["_law_deck_here", "_law_names_here", "_law_turn", "_law_many", "_law_servers", "_law_clients", "_law_fault_sets", "_law_more", "_law_observer_sets", "_law_name", "_law_k"] ["_law_deck_here"] (defScope s_l_wide_scheme) := ⟨rfl, rfl, rfl, by decide +kernel, rfl, by decide +kernel, by decide +kernel⟩
def m_l_wide_scheme {L : Wd} (f_l_maximal f_l_draw f_l_sample f_l_pick : DF L) : DS L := (dsSeq (dsSet 1 (deF (dfLst (daCons (deC (.str "observe")) (daCons (deC (.str "fault")) (daCons (deC (.str "prime")) (daCons (deC (.str "client")) (daCons (deC (.str "a")) (daCons (deC (.str "ab")) (daCons (deC (.str "abc")) (daCons (deC (.str "zzzzzz")) (daCons (deC (.str "none")) (daCons (deC (.str "store")) (daCons (deC (.str "row")) (daCons (deC (.str "to")) daNil))))))))))))))) (dsSeq (dsPar2 2 3 (daCons (deCall f_l_draw (daCons (deVar 0) (daCons (deC (.int 12)) daNil))) (daCons (deOp dAdd (deC (.int 2)) (deCall f_l_draw (daCons (deVar 0) (daCons (deC (.int 4)) daNil)))) daNil))) (dsSeq (dsSet 1 (deF (dfLc [9] (diSeq (deOp dAdd (deSl (deVar 1) (dpSome (deVar 2)) dpNone) (deSl (deVar 1) dpNone (dpSome (deVar 2))))) (dgName 9) dtYes (deSl (deVar 9) dpNone (dpSome (deC (.int 6))))))) (dsSeq (dsSet 4 (deCB dTuple (daCons (deF (dfCB dfSorted (daCons (deSl (deVar 1) dpNone (dpSome (deVar 3))) daNil))) daNil))) (dsSeq (dsSet 5 (deCB dTuple (daCons (deF (dfCB dfSorted (daCons (deSl (deVar 1) (dpSome (deVar 3)) (dpSome (deOp dAdd (deOp dAdd (deVar 3) (deC (.int 1))) (deCall f_l_draw (daCons (deVar 0) (daCons (deC (.int 4)) daNil)))))) daNil))) daNil))) (dsSeq (dsSet 6 (deCall f_l_maximal (daCons (deF (dfLc [10] (diRange1 (deOp dAdd (deC (.int 1)) (deCall f_l_draw (daCons (deVar 0) (daCons (deC (.int 6)) daNil))))) (dgName 10) dtYes (deCall f_l_sample (daCons (deVar 0) (daCons (deVar 4) (daCons (deOp dAdd (deC (.int 2)) (deVar 10)) daNil)))))) daNil))) (dsSeq (dsSet 7 (deF (dfLc [10] (diRange1 (deCall f_l_draw (daCons (deVar 0) (daCons (deC (.int 4)) daNil)))) (dgName 10) dtYes (deCall f_l_sample (daCons (deVar 0) (daCons (deVar 4) (daCons (deC (.int 2)) daNil))))))) (dsSeq (dsSet 8 (deCall f_l_maximal (daCons (deOp dAdd (deF (dfCB dfListX (daCons (deVar 6) daNil))) (deVar 7)) daNil))) (dsSeq (dsSet 8 (deIf (dtOf (deOp dLt (deCB dLen (daCons (deVar 8) daNil)) (deC (.int 7)))) (deVar 8) (deVar 6))) (dsRet (deTup (daCons (deCall f_l_pick (daCons (deVar 0) (daCons (deF (dfLst (daCons (deC (.int 2)) (daCons (deC (.int 3)) (daCons (deC (.int 5)) (daCons (deC (.int 101)) (daCons (deC (.int 991)) (daCons (deC (.int 997)) daNil)))))))) daNil))) (daCons (deVar 4) (daCons (deVar 5) (daCons (deVar 8) (daCons (deVar 6) daNil))))))))))))))))
theorem g_l_wide_scheme {L : Wd} {f_l_maximal f_l_draw f_l_sample f_l_pick : DF L} {k : Nat} (D : DefAt K mg "_law_wide_scheme" s_l_wide_scheme) (G_l_maximal : Gd P W K mg base L (k + 2) "_law_maximal" ["_law_groups"] f_l_maximal) (G_l_draw : Gd P W K mg base L (k + 1) "_law_draw" ["_law_deck_here", "_law_many"] f_l_draw) (G_l_sample : Gd P W K mg base L (k + 2) "_law_sample" ["_law_deck_here", "_law_some", "_law_many"] f_l_sample) (G_l_pick : Gd P W K mg base L (k + 2) "_law_pick" ["_law_deck_here", "_law_some"] f_l_pick) (m_tuple : mg "tuple" = none) (m_sorted : mg "sorted" = none) (m_range : mg "range" = none) (m_list : mg "list" = none) (m_len : mg "len" = none) : Gd P W K mg base L (k + 3) "_law_wide_scheme" ["_law_deck_here"] (dfOf 1 11 (m_l_wide_scheme f_l_maximal f_l_draw f_l_sample f_l_pick)) :=
  gd_mk (k := k + 2) D sc_l_wide_scheme (fun F => F.binds (ps := ["_law_deck_here"]) fun _ _ _ _ _ _ us hl => match us, hl with | [_], _ => rfl) fun f cdv A outer s H E hr hgu => by
    have nd := sc_l_wide_scheme.nd
    exact (pds_cons (pds_set (fun _ h => ps_set (i := 1) nd rfl (by first | exact Or.inl rfl | exact Or.inr rfl | exact Or.inr (Or.inl rfl) | exact Or.inr (Or.inr rfl)) h) (pd_F (pf_lst (pd_cons pd_str (pd_cons pd_str (pd_cons pd_str (pd_cons pd_str (pd_cons pd_str (pd_cons pd_str (pd_cons pd_str (pd_cons pd_str (pd_cons pd_str (pd_cons pd_str (pd_cons pd_str (pd_cons pd_str pd_nil))))))))))))))) (pds_cons (pds_par2 (fun _ h => ps_par (i := 2) (j := 3) rfl nd rfl rfl (by decide) rfl rfl h rfl) (pd_cons (pd_call G_l_draw (hr.mono (by omega)) hgu (by rfl) (pd_cons (pd_var (pv 0)) (pd_cons pd_int pd_nil))) (pd_cons (pd_add pd_int (pd_call G_l_draw (hr.mono (by omega)) hgu (by rfl) (pd_cons (pd_var (pv 0)) (pd_cons pd_int pd_nil)))) pd_nil))) (pds_cons (pds_setLc (own := [("_law_name", 9)]) (i := 1) rfl nd rfl rfl rfl (pdi_seq (pd_add (pd_sl (pd_var (pv 1)) (pdo_some (pd_var (pv 2))) pdo_none) (pd_sl (pd_var (pv 1)) pdo_none (pdo_some (pd_var (pv 2)))))) (blkOk_by (by first | rfl | decide +kernel)) (fun _ _ _ _ _ => (pdg_name (pg_name (i := 9) nd rfl (by first | exact Or.inl rfl | exact Or.inr rfl | exact Or.inr (Or.inl rfl) | exact Or.inr (Or.inr rfl))))) (fun _ _ _ _ _ => pdts_nil) (fun _ _ _ _ _ => (pd_sl (pd_var (pv 9)) pdo_none (pdo_some pd_int)))) (pds_cons (pds_set (fun _ h => ps_set (i := 4) nd rfl (by first | exact Or.inl rfl | exact Or.inr rfl | exact Or.inr (Or.inl rfl) | exact Or.inr (Or.inr rfl)) h) (pd_tuple m_tuple (pd_cons (pd_F (pf_sorted rfl hr m_sorted (pd_cons (pd_sl (pd_var (pv 1)) pdo_none (pdo_some (pd_var (pv 3)))) pd_nil))) pd_nil))) (pds_cons (pds_set (fun _ h => ps_set (i := 5) nd rfl (by first | exact Or.inl rfl | exact Or.inr rfl | exact Or.inr (Or.inl rfl) | exact Or.inr (Or.inr rfl)) h) (pd_tuple m_tuple (pd_cons (pd_F (pf_sorted rfl hr m_sorted (pd_cons (pd_sl (pd_var (pv 1)) (pdo_some (pd_var (pv 3))) (pdo_some (pd_add (pd_add (pd_var (pv 3)) pd_int) (pd_call G_l_draw (hr.mono (by omega)) hgu (by rfl) (pd_cons (pd_var (pv 0)) (pd_cons pd_int pd_nil)))))) pd_nil))) pd_nil))) (pds_cons (pds_set (fun _ h => ps_set (i := 6) nd rfl (by first | exact Or.inl rfl | exact Or.inr rfl | exact Or.inr (Or.inl rfl) | exact Or.inr (Or.inr rfl)) h) (pd_call G_l_maximal (hr.mono (by omega)) hgu (by rfl) (pd_cons (pd_F (pf_lc (own := [("_law_k", 10)]) rfl nd (pdi_range1 (by rfl) m_range (pd_add pd_int (pd_call G_l_draw (hr.mono (by omega)) hgu (by rfl) (pd_cons (pd_var (pv 0)) (pd_cons pd_int pd_nil))))) (blkOk_by (by first | rfl | decide +kernel)) (fun _ _ _ _ _ => (pdg_name (pg_name (i := 10) nd rfl (by first | exact Or.inl rfl | exact Or.inr rfl | exact Or.inr (Or.inl rfl) | exact Or.inr (Or.inr rfl))))) (fun _ _ _ _ _ => pdts_nil) (fun _ _ _ _ _ => (pd_call G_l_sample (hr.mono (by omega)) hgu (by rfl) (pd_cons (pd_var (pv 0)) (pd_cons (pd_var (pv 4)) (pd_cons (pd_add pd_int (pd_var (pv 10))) pd_nil))))))) pd_nil))) (pds_cons (pds_setLc (own := [("_law_k", 10)]) (i := 7) rfl nd rfl rfl rfl (pdi_range1 (by rfl) m_range (pd_call G_l_draw (hr.mono (by omega)) hgu (by rfl) (pd_cons (pd_var (pv 0)) (pd_cons pd_int pd_nil)))) (blkOk_by (by first | rfl | decide +kernel)) (fun _ _ _ _ _ => (pdg_name (pg_name (i := 10) nd rfl (by first | exact Or.inl rfl | exact Or.inr rfl | exact Or.inr (Or.inl rfl) | exact Or.inr (Or.inr rfl))))) (fun _ _ _ _ _ => pdts_nil) (fun _ _ _ _ _ => (pd_call G_l_sample (hr.mono (by omega)) hgu (by rfl) (pd_cons (pd_var (pv 0)) (pd_cons (pd_var (pv 4)) (pd_cons pd_int pd_nil)))))) (pds_cons (pds_set (fun _ h => ps_set (i := 8) nd rfl (by first | exact Or.inl rfl | exact Or.inr rfl | exact Or.inr (Or.inl rfl) | exact Or.inr (Or.inr rfl)) h) (pd_call G_l_maximal (hr.mono (by omega)) hgu (by rfl) (pd_cons (pd_add (pd_F (pf_listX rfl m_list (pd_cons (pd_var (pv 6)) pd_nil))) (pd_var (pv 7))) pd_nil))) (pds_cons (pds_set (fun _ h => ps_set (i := 8) nd rfl (by first | exact Or.inl rfl | exact Or.inr rfl | exact Or.inr (Or.inl rfl) | exact Or.inr (Or.inr rfl)) h) (pd_if (pdt_lt (pd_len m_len (pd_cons (pd_var (pv 8)) pd_nil)) pd_int) (pd_var (pv 8)) (pd_var (pv 6)))) (pds_one (pds_ret (pd_tup (pd_cons (pd_call G_l_pick (hr.mono (by omega)) hgu (by rfl) (pd_cons (pd_var (pv 0)) (pd_cons (pd_F (pf_lst (pd_cons pd_int (pd_cons pd_int (pd_cons pd_int (pd_cons pd_int (pd_cons pd_int (pd_cons pd_int pd_nil)))))))) pd_nil))) (pd_cons (pd_var (pv 4)) (pd_cons (pd_var (pv 5)) (pd_cons (pd_var (pv 8)) (pd_cons (pd_var (pv 6)) pd_nil)))))))))))))))))
/-! ### _law_text -/
abbrev s_l_text : Stmt := topS 40
theorem sc_l_text : FnScope ["_law_scheme_here", "_law_lines", "_law_word", "_law_group", "_law_groups", "_law_name"] ["_law_scheme_here"] (defScope s_l_text) := ⟨rfl, rfl, rfl, by decide +kernel, rfl, by decide +kernel, by decide +kernel⟩
def m_l_text {L : Wd} : DS L := (dsSeq (dsOwn 1 (dfLst (daCons (deOp dAdd (deC (.str "prime ")) (deCB dStrI (daCons (deOp dIx (deVar 0) (deC (.int 0))) daNil))) daNil))) (dsSeq (dsFor (diSeq (deF (dfLst (daCons (deTup (daCons (deC (.str "servers")) (daCons (deOp dIx (deVar 0) (deC (.int 1))) daNil))) (daCons (deTup (daCons (deC (.str "clients")) (daCons (deOp dIx (deVar 0) (deC (.int 2))) daNil))) daNil))))) (dgTup 2 (dgsCons (dgName 2) (dgsCons (dgName 3) dgsNil))) (dsExpr (deMut 1 mApp (daCons (deOp dAdd (deVar 2) (deJoin (deC (.str "")) (deF (dfLc [5] (diSeq (deVar 3)) (dgName 5) dtYes (deOp dAdd (deC (.str " ")) (deVar 5)))))) daNil)))) (dsSeq (dsFor (diSeq (deF (dfLst (daCons (deTup (daCons (deC (.str "observe")) (daCons (deOp dIx (deVar 0) (deC (.int 3))) daNil))) (daCons (deTup (daCons (deC (.str "fault")) (daCons (deOp dIx (deVar 0) (deC (.int 4))) daNil))) daNil))))) (dgTup 2 (dgsCons (dgName 2) (dgsCons (dgName 4) dgsNil))) (dsFor (diSeq (deVar 4)) (dgName 3) (dsExpr (deMut 1 mApp (daCons (deJoin (deC (.str " ")) (deOp dAdd (deF (dfLst (daCons (deVar 2) daNil))) (deF (dfCB dfListX (daCons (deVar 3) daNil))))) daNil))))) (dsFrz 1 (dsRet (deJoin (deC (.str "\n")) (deVar 1)))))))
theorem g_l_text {L : Wd} {k : Nat} (D : DefAt K mg "_law_text" s_l_text) (m_str : mg "str" = none) (m_list : mg "list" = none) : Gd P W K mg base L (k + 1) "_law_text" ["_law_scheme_here"] (dfOf 1 6 (m_l_text)) :=
  gd_mk (k := k + 0) D sc_l_text (fun F => F.binds (ps := ["_law_scheme_here"]) fun _ _ _ _ _ _ us hl => match us, hl with | [_], _ => rfl) fun f cdv A outer s H E hr hgu => by
    have nd := sc_l_text.nd
    exact (pds_cons (pds_own (fun _ h => ps_set (i := 1) nd rfl (by first | exact Or.inl rfl | exact Or.inr rfl | exact Or.inr (Or.inl rfl) | exact Or.inr (Or.inr rfl)) h) (pf_lst (pd_cons (pd_add pd_str (pd_strI m_str (pd_cons (pd_ixA (pd_var (pv 0)) pd_int (fun _ _ => rfl)) pd_nil))) pd_nil))) (pds_cons (pds_for PassesOwn.never rfl (pdi_seq (pd_F (pf_lst (pd_cons (pd_tup (pd_cons pd_str (pd_cons (pd_ixA (pd_var (pv 0)) pd_int (fun _ _ => rfl)) pd_nil))) (pd_cons (pd_tup (pd_cons pd_str (pd_cons (pd_ixA (pd_var (pv 0)) pd_int (fun _ _ => rfl)) pd_nil))) pd_nil))))) (pdg_tup rfl (pdgs_cons (pdg_name (pg_name (i := 2) nd rfl (by first | exact Or.inl rfl | exact Or.inr rfl | exact Or.inr (Or.inl rfl) | exact Or.inr (Or.inr rfl)))) (pdgs_cons (pdg_name (pg_name (i := 3) nd rfl (by first | exact Or.inl rfl | exact Or.inr rfl | exact Or.inr (Or.inl rfl) | exact Or.inr (Or.inr rfl)))) pdgs_nil))) (pds_one (pds_expr (pd_mut PySem.F.slot_list_append PySem.F.type_list_append mt_append app_M (pv 1) (pd_cons (pd_add (pd_var (pv 2)) (pd_join pd_str (pd_F (pf_lc (own := [("_law_name", 5)]) rfl nd (pdi_seq (pd_var (pv 3))) (blkOk_by (by first | rfl | decide +kernel)) (fun _ _ _ _ _ => (pdg_name (pg_name (i := 5) nd rfl (by first | exact Or.inl rfl | exact Or.inr rfl | exact Or.inr (Or.inl rfl) | exact Or.inr (Or.inr rfl))))) (fun _ _ _ _ _ => pdts_nil) (fun _ _ _ _ _ => (pd_add pd_str (pd_var (pv 5)))))) str_txt)) pd_nil))))) (pds_cons (pds_for PassesOwn.never rfl (pdi_seq (pd_F (pf_lst (pd_cons (pd_tup (pd_cons pd_str (pd_cons (pd_ixA (pd_var (pv 0)) pd_int (fun _ _ => rfl)) pd_nil))) (pd_cons (pd_tup (pd_cons pd_str (pd_cons (pd_ixA (pd_var (pv 0)) pd_int (fun _ _ => rfl)) pd_nil))) pd_nil))))) (pdg_tup rfl (pdgs_cons (pdg_name (pg_name (i := 2) nd rfl (by first | exact Or.inl rfl | exact Or.inr rfl | exact Or.inr (Or.inl rfl) | exact Or.inr (Or.inr rfl)))) (pdgs_cons (pdg_name (pg_name (i := 4) nd rfl (by first | exact Or.inl rfl | exact Or.inr rfl | exact Or.inr (Or.inl rfl) | exact Or.inr (Or.inr rfl)))) pdgs_nil))) (pds_one (pds_for PassesOwn.never rfl (pdi_seq (pd_var (pv 4))) (pdg_name (pg_name (i := 3) nd rfl (by first | exact Or.inl rfl | exact Or.inr rfl | exact Or.inr (Or.inl rfl) | exact Or.inr (Or.inr rfl)))) (pds_one (pds_expr (pd_mut PySem.F.slot_list_append PySem.F.type_list_append mt_append app_M (pv 1) (pd_cons (pd_join pd_str (pd_add (pd_F (pf_lst (pd_cons (pd_var (pv 2)) pd_nil))) (pd_F (pf_listX rfl m_list (pd_cons (pd_var (pv 3)) pd_nil)))) str_txt) pd_nil))))))) (pds_frz (pds_one (pds_ret (pd_join pd_str (pd_var (pv 1)) str_txt)))))))
/-! ### law -/
abbrev s_law : Stmt := topS 41
theorem sc_law : FnScope ["_law_script", "_law_deck_here", "_law_all_schemes", "_law_turn", "_law_before", "_law_texts", "_law_one", "_law_expected", "_law_other"] ["_law_script"] (defScope s_law) := ⟨rfl, rfl, rfl, by decide +kernel, rfl, by decide +kernel, by decide +kernel⟩
def m_law {L : Wd} (f_l_deck f_l_text f_l_scheme f_l_wide_scheme f_is_scheme f_format_scheme f_parse_scheme : DF L) : DS L := (dsSeq (dsSet 1 (deCall f_l_deck (daCons (deVar 0) daNil))) (dsSeq (dsSet 2 (deF (dfLst daNil))) (dsSeq (dsFor (diRange1 (deC (.int 5))) (dgName 3) (dsSet 2 (deOp dAdd (deVar 2) (deF (dfLst (daCons (deCall f_l_scheme (daCons (deVar 1) daNil)) (daCons (deCall f_l_wide_scheme (daCons (deVar 1) daNil)) daNil))))))) (dsSeq (dsPar2 4 5 (daCons (deCB dRepr (daCons (deVar 2) daNil)) (daCons (deF (dfLc [6] (diSeq (deVar 2)) (dgName 6) dtYes (deCall f_l_text (daCons (deVar 6) daNil)))) daNil))) (dsSeq (dsFor (diZip (deVar 2) (deVar 5)) (dgTup 2 (dgsCons (dgName 6) (dgsCons (dgName 7) dgsNil))) (dsSeq (dsIf (dtOr (dtNot (dtOf (deCall f_is_scheme (daCons (deVar 6) daNil)))) (dtOf (deOp dNe (deF (dfLst (daCons (deCall f_format_scheme (daCons (deVar 6) daNil)) (daCons (deCall f_format_scheme (daCons (deVar 6) daNil)) daNil)))) (deF (dfLst (daCons (deVar 7) (daCons (deVar 7) daNil))))))) (dsRet (deC (.bl false))) dsNext) (dsIf (dtOf (deOp dNe (deCB dRepr (daCons (deF (dfLst (daCons (deCall f_parse_scheme (daCons (deVar 7) daNil)) (daCons (deCall f_parse_scheme (daCons (deVar 7) daNil)) daNil)))) daNil)) (deCB dRepr (daCons (deF (dfLst (daCons (deVar 6) (daCons (deVar 6) daNil)))) daNil)))) (dsRet (deC (.bl false))) dsNext))) (dsSeq (dsFor (diZip (deVar 2) (deVar 5)) (dgTup 2 (dgsCons (dgName 6) (dgsCons (dgName 7) dgsNil))) (dsFor (diSeq (deVar 2)) (dgName 8) (dsIf (dtOf (deOp dNe (deOp dEq (deVar 6) (deVar 8)) (deOp dEq (deCall f_format_scheme (daCons (deVar 8) daNil)) (deVar 7)))) (dsRet (deC (.bl false))) dsNext))) (dsRet (deOp dEq (deCB dRepr (daCons (deVar 2) daNil)) (deVar 4)))))))))
theorem gf_law {L : Wd} {f_l_deck f_l_text f_l_scheme f_l_wide_scheme f_is_scheme f_format_scheme f_parse_scheme : DF L} {k : Nat} {f : Addr} {fd : FuncData} (F : Fun K "law" "law" s_law f fd) (G_l_deck : Gd P W K mg base L (k + 1) "_law_deck" ["_law_script"] f_l_deck) (G_l_text : Gd P W K mg base L (k + 1) "_law_text" ["_law_scheme_here"] f_l_text) (G_l_scheme : Gd P W K mg base L (k + 3) "_law_scheme" ["_law_deck_here"] f_l_scheme) (G_l_wide_scheme : Gd P W K mg base L (k + 3) "_law_wide_scheme" ["_law_deck_here"] f_l_wide_scheme) (G_is_scheme : Gd P W K mg base L (k + 7) "is_scheme" ["thing"] f_is_scheme) (G_format_scheme : Gd P W K mg base L (k + 2) "format_scheme" ["scheme"] f_format_scheme) (G_parse_scheme : Gd P W K mg base L (k + 8) "parse_scheme" ["text"] f_parse_scheme) (m_range : mg "range" = none) (m_zip : mg "zip" = none) (m_repr : mg "repr" = none) : FnG P W K mg base (k + 9) f fd ["_law_script"] (spD L (dfOf 1 9 (m_law f_l_deck f_l_text f_l_scheme f_l_wide_scheme f_is_scheme f_format_scheme f_parse_scheme))) :=
  fnD (k := k + 8) F sc_law fun cdv A outer s H E hr hgu => by
    have nd := sc_law.nd
    exact (pds_cons (pds_set (fun _ h => ps_set (i := 1) nd rfl (by first | exact Or.inl rfl | exact Or.inr rfl | exact Or.inr (Or.inl rfl) | exact Or.inr (Or.inr rfl)) h) (pd_call G_l_deck (hr.mono (by omega)) hgu (by rfl) (pd_cons (pd_var (pv 0)) pd_nil))) (pds_cons (pds_set (fun _ h => ps_set (i := 2) nd rfl (by first | exact Or.inl rfl | exact Or.inr rfl | exact Or.inr (Or.inl rfl) | exact Or.inr (Or.inr rfl)) h) (pd_F (pf_lst pd_nil))) (pds_cons (pds_for PassesOwn.never rfl (pdi_range1 (by rfl) m_range pd_int) (pdg_name (pg_name (i := 3) nd rfl (by first | exact Or.inl rfl | exact Or.inr rfl | exact Or.inr (Or.inl rfl) | exact Or.inr (Or.inr rfl)))) (pds_one (pds_set (fun _ h => ps_set (i := 2) nd rfl (by first | exact Or.inl rfl | exact Or.inr rfl | exact Or.inr (Or.inl rfl) | exact Or.inr (Or.inr rfl)) h) (pd_add (pd_var (pv 2)) (pd_F (pf_lst (pd_cons (pd_call G_l_scheme (hr.mono (by omega)) hgu (by rfl) (pd_cons (pd_var (pv 1)) pd_nil)) (pd_cons (pd_call G_l_wide_scheme (hr.mono (by omega)) hgu (by rfl) (pd_cons (pd_var (pv 1)) pd_nil)) pd_nil)))))))) (pds_cons (pds_par2 (fun _ h => ps_par (i := 4) (j := 5) rfl nd rfl rfl (by decide) rfl rfl h rfl) (pd_cons (pd_repr hr hgu m_repr (pd_cons (pd_var (pv 2)) pd_nil)) (pd_cons (pd_F (pf_lc (own := [("_law_one", 6)]) rfl nd (pdi_seq (pd_var (pv 2))) (blkOk_by (by first | rfl | decide +kernel)) (fun _ _ _ _ _ => (pdg_name (pg_name (i := 6) nd rfl (by first | exact Or.inl rfl | exact Or.inr rfl | exact Or.inr (Or.inl rfl) | exact Or.inr (Or.inr rfl))))) (fun _ _ _ _ _ => pdts_nil) (fun _ _ _ _ _ => (pd_call G_l_text (hr.mono (by omega)) hgu (by rfl) (pd_cons (pd_var (pv 6)) pd_nil))))) pd_nil))) (pds_cons (pds_for PassesOwn.never rfl (pdi_zip (by rfl) m_zip (pd_var (pv 2)) (pd_var (pv 5))) (pdg_tup rfl (pdgs_cons (pdg_name (pg_name (i := 6) nd rfl (by first | exact Or.inl rfl | exact Or.inr rfl | exact Or.inr (Or.inl rfl) | exact Or.inr (Or.inr rfl)))) (pdgs_cons (pdg_name (pg_name (i := 7) nd rfl (by first | exact Or.inl rfl | exact Or.inr rfl | exact Or.inr (Or.inl rfl) | exact Or.inr (Or.inr rfl)))) pdgs_nil))) (pds_cons (pds_if (pt_of_w (pdw_or (pdt_not (pdt_val (pd_call G_is_scheme (hr.mono (by omega)) hgu (by rfl) (pd_cons (pd_var (pv 6)) pd_nil)))) (pw_or1 (pdt_ne hr (pd_F (pf_lst (pd_cons (pd_call G_format_scheme (hr.mono (by omega)) hgu (by rfl) (pd_cons (pd_var (pv 6)) pd_nil)) (pd_cons (pd_call G_format_scheme (hr.mono (by omega)) hgu (by rfl) (pd_cons (pd_var (pv 6)) pd_nil)) pd_nil)))) (pd_F (pf_lst (pd_cons (pd_var (pv 7)) (pd_cons (pd_var (pv 7)) pd_nil)))))))) (pds_one (pds_ret pd_bl)) pds_nil) (pds_one (pds_if (pdt_ne hr (pd_repr hr hgu m_repr (pd_cons (pd_F (pf_lst (pd_cons (pd_call G_parse_scheme (hr.mono (by omega)) hgu (by rfl) (pd_cons (pd_var (pv 7)) pd_nil)) (pd_cons (pd_call G_parse_scheme (hr.mono (by omega)) hgu (by rfl) (pd_cons (pd_var (pv 7)) pd_nil)) pd_nil)))) pd_nil)) (pd_repr hr hgu m_repr (pd_cons (pd_F (pf_lst (pd_cons (pd_var (pv 6)) (pd_cons (pd_var (pv 6)) pd_nil)))) pd_nil))) (pds_one (pds_ret pd_bl)) pds_nil)))) (pds_cons (pds_for PassesOwn.never rfl (pdi_zip (by rfl) m_zip (pd_var (pv 2)) (pd_var (pv 5))) (pdg_tup rfl (pdgs_cons (pdg_name (pg_name (i := 6) nd rfl (by first | exact Or.inl rfl | exact Or.inr rfl | exact Or.inr (Or.inl rfl) | exact Or.inr (Or.inr rfl)))) (pdgs_cons (pdg_name (pg_name (i := 7) nd rfl (by first | exact Or.inl rfl | exact Or.inr rfl | exact Or.inr (Or.inl rfl) | exact Or.inr (Or.inr rfl)))) pdgs_nil))) (pds_one (pds_for PassesOwn.never rfl (pdi_seq (pd_var (pv 2))) (pdg_name (pg_name (i := 8) nd rfl (by first | exact Or.inl rfl | exact Or.inr rfl | exact Or.inr (Or.inl rfl) | exact Or.inr (Or.inr rfl)))) (pds_one (pds_if (pdt_ne hr (pd_eq hr (pd_var (pv 6)) (pd_var (pv 8))) (pd_eq hr (pd_call G_format_scheme (hr.mono (by omega)) hgu (by rfl) (pd_cons (pd_var (pv 8)) pd_nil)) (pd_var (pv 7)))) (pds_one (pds_ret pd_bl)) pds_nil))))) (pds_one (pds_ret (pd_eq hr (pd_repr hr hgu m_repr (pd_cons (pd_var (pv 2)) pd_nil)) (pd_var (pv 4)))))))))))
end
end Dl
set_option maxRecDepth 100000
set_option maxHeartbeats 2000000
namespace Dl
open PySem PySem.Spec PyProof.Rows L2 Lk
abbrev s_l_deck : Stmt := topS 30
abbrev s_l_draw : Stmt := topS 31
theorem sc_l_deck : FnScope ["_law_script", "_law_cells", "_law_total", "_law_cell"] ["_law_script"] (defScope s_l_deck) := ⟨rfl, rfl, rfl, by decide +kernel, rfl, by decide +kernel, by decide +kernel⟩
theorem sc_l_draw : FnScope ["_law_deck_here", "_law_many", "_law_turn", "_law_cell", "_law_seed"] ["_law_deck_here", "_law_many"] (defScope s_l_draw) := ⟨rfl, rfl, rfl, by decide +kernel, rfl, by decide +kernel, by decide +kernel⟩
def kC : Key := Sum.inr "cells"
def kDg : Key := Sum.inr "all"
def kN : Key := Sum.inr "at"
theorem nCD : ¬ kC = kDg := by decide +kernel
theorem nCN : ¬ kC = kN := by decide +kernel
theorem nDN : ¬ kDg = kN := by decide +kernel
def srcK (c : Addr) (g k : Int) : List (Key × V) := [(kC, .ref c), (kDg, .int g), (kN, .int k)]
theorem srcC {c g k} : valV (srcK c g k) kC = some (.ref c) := valV_pos rfl
theorem srcD {c g k} : valV (srcK c g k) kDg = some (.int g) := (valV_neg nCD).trans (valV_pos rfl)
theorem srcN {c g k} : valV (srcK c g k) kN = some (.int k) := (valV_neg nCN).trans ((valV_neg nDN).trans (valV_pos rfl))
theorem putN {c g k j} : putK (srcK c g k) kN (.int j) = srcK c g j := by
  unfold putK
  rw [valV_any, srcN]
  show (if true = true then _ else _) = _
  rw [if_pos rfl]
  show [if kC = kN then (kC, _) else _, if kDg = kN then (kDg, _) else _, if kN = kN then (kN, _) else _] = _
  rw [if_neg nCN, if_neg nDN, if_pos rfl]
  rfl
/-- a deck that is a dict: its cells, a digest, a count -/
def SrcD (H : Hp) (p c : Addr) (n : Nat) : Prop :=
  ∃ (g k : Int) (ns : List Int), H p = some (.dK (srcK c g k)) ∧ H c = some (.lst (ns.map V.int)) ∧ 0 ≤ g ∧ g < 2147483587 ∧ 0 ≤ k ∧ k ≤ n ∧ ns.length ≤ 63
def deckD : Deck where
  Src := SrcD
  atP := fun ⟨g, k, ns, e, _⟩ => ⟨_, e, (fun vs z => by cases z), fun q z => by cases z⟩
  atC := fun ⟨g, k, ns, _, e, _⟩ => ⟨_, e, (fun vs z => by cases z), fun q z => by cases z⟩
  stay := fun ⟨g, k, ns, e1, e2, r⟩ h1 h2 => ⟨g, k, ns, by rw [h1]; exact e1, by rw [h2]; exact e2, r⟩
section
variable {P : Program} {w : World} {K : PySem.W.Frag} {mg : Str → Option Value} {base : Heap}
theorem ints_dp {H : Hp} {c : Addr} {ns : List Int} (h : H c = some (.lst (ns.map V.int))) : Dp K H (.ref c) (.list (ns.map PyData.int)) := by
  refine .lst (.inl (.inl h)) ?_
  clear h
  induction ns with
  | nil => exact .nil
  | cons n r ih => exact .cons (.int n) ih
theorem ints_sh (ns : List Int) : SeqAt.shaped (.list (ns.map PyData.int)) = true := by
  have h1 : ∀ l : List Int, PyData.canLayAll0 (l.map PyData.int) = true := fun l => by
    induction l with
    | nil => rfl
    | cons n r ih => simpa [PyData.canLayAll0, PyData.canLay0] using ih
  have h2 : ∀ l : List Int, PyData.depthAll (l.map PyData.int) ≤ 1 := fun l => by
    induction l with
    | nil => simp [PyData.depthAll]
    | cons n r ih => simp only [List.map_cons, PyData.depthAll, PyData.depth]; omega
  have h3 := h2 ns
  simp [SeqAt.shaped, PyData.canLay0, PyData.depth, h1]
  omega
theorem eqv_nil_cons (n : PyData) (r : List PyData) : PyData.eqv (.list (n :: r)) (.list []) = false := by
  simp [PyData.eqv, PyData.eqvAll]
theorem ok_draw {f : Addr} {fd : FuncData} {k : Nat} (F : Fun K "_law_draw" "_law_draw" s_l_draw f fd) : FnOk P w K mg base CX0 (k + 1) f fd ["_law_deck_here", "_law_many"] (spDrawK deckD) := by
  refine F.ok sc_l_draw (fun vs H Q E h => ?_) (fun cdv A outer s H vs Q E hr h => ?_)
  · obtain ⟨p, c, n, lim, rfl, _⟩ := h
    rfl
  · obtain ⟨p, c, n, lim, rfl, hS, hn, hl0, hlb, q⟩ := h
    have hu := hu_of hr
    have nd := sc_l_draw.nd
    refine ⟨_, pss_cons (ps_set (i := 2) nd rfl (.inl rfl) (pe_op op_add (pe_dget hu (pv 0) pe_str (fun _ _ => rfl)) pe_int))
      (pss_cons (ps_dput hu (pv 0) pe_str (pv 2) rfl)
      (pss_cons (ps_set (i := 3) nd rfl (.inl rfl) (pe_dget hu (pv 0) pe_str (fun _ _ => rfl)))
      (C8.pss_cut (ps_if (pt_cmpR (op_neD hr.units) (pe_dget hu (pv 0) pe_str (fun _ _ => rfl)) (pe_lst pa_nil) (nomark _))
        (pss_cons (ps_set (i := 3) nd rfl (.inl rfl) (pe_bm0 PySem.F.plainAttrs_list PySem.F.slot_list_pop PySem.F.type_list_pop mt_pop (pe_dget hu (pv 0) pe_str (fun _ _ => rfl))))
        (pss_cons (ps_if (pt_cmpR op_ge (pv 3) (pe_op op_pow pe_int pe_int) (nomark _))
          (pss_cons (ps_expr (pe_bm PySem.F.plainAttrs_list PySem.F.slot_list_append PySem.F.type_list_append mt_append (pe_dget hu (pv 0) pe_str (fun _ _ => rfl)) (pa_cons (pe_op op_fdivW (pv 3) (pv 1)) pa_nil)))
          (pss_one (ps_ret (pe_op op_mod (pv 3) (pv 1))))) pss_nil)
        (pss_one (ps_set (i := 3) nd rfl (.inl rfl) (pe_op op_add (pv 3) (pe_dget hu (pv 0) pe_str (fun _ _ => rfl))))))) pss_nil)
      (pss_cons (ps_set (i := 4) nd rfl (.inl rfl) (pe_op op_mod (pe_op op_mul (pe_op op_add (pe_op op_add (pe_op op_mod (pv 3) pe_int) (pe_op op_mul (pe_op op_mul pe_int (pv 2)) (pv 2))) pe_int) pe_int) pe_int))
      (pss_cons (ps_set (i := 4) nd rfl (.inl rfl) (pe_op op_mod (pe_op op_add (pe_op op_add (pe_op op_mul (pv 4) (pv 4)) (pe_op op_mul pe_int (pv 2))) pe_int) pe_int))
      (pss_one (ps_ret (pe_op op_mod (pe_op op_fdiv (pe_op op_mod (pe_op op_mul (pv 4) pe_int) pe_int) pe_int) (pv 1)))))))))
      , ?_⟩
    obtain ⟨g, k0, ns, eP, eC, hg0, hg1, hk0, hk1, hns⟩ := hS
    have npc : p ≠ c := ne_of eP eC (by intro z; cases z)
    have gN : ∀ {H : Hp} {k : Int}, H p = some (.dK (srcK c g k)) → DGet H p (.str "at") (some (.int k)) := fun e => srcN ▸ DGet.k (k := kN) e
    have gD : ∀ {H : Hp} {k : Int}, H p = some (.dK (srcK c g k)) → DGet H p (.str "all") (some (.int g)) := fun e => srcD ▸ DGet.k (k := kDg) e
    have gC : ∀ {H : Hp} {k : Int}, H p = some (.dK (srcK c g k)) → DGet H p (.str "cells") (some (.ref c)) := fun e => srcC ▸ DGet.k (k := kC) e
    -- the turn
    refine ⟨.ref p, rfl, p, .int k0, rfl, gN eP, k0, 1, rfl, rfl, ?_⟩
    refine ⟨.int (k0 + 1), rfl, .ref p, rfl, p, _, rfl, DPut.k (k := kN) eP (by show 3 < sizeLine; rw [sizeLine_eq]; decide), ?_⟩
    rw [putN]
    have e1 : (upd H p (.dK (srcK c g (k0 + 1)))) p = some (.dK (srcK c g (k0 + 1))) := upd_same
    have e2 : (upd H p (.dK (srcK c g (k0 + 1)))) c = some (.lst (ns.map V.int)) := by rw [upd_ne npc.symm]; exact eC
    have e3 : Kp p c H (upd H p (.dK (srcK c g (k0 + 1)))) := fun b o h1 h2 e => by rw [upd_ne h1]; exact e
    generalize upd H p (.dK (srcK c g (k0 + 1))) = H1 at e1 e2 e3
    -- the total
    refine ⟨.ref p, rfl, p, .int g, rfl, gD e1, fun σ H2 => ∃ (cell : Int) (ns2 : List Int), σ = [some (.ref p), some (.int lim), some (.int (k0 + 1)), some (.int cell), none] ∧ H2 p = some (.dK (srcK c g (k0 + 1))) ∧ H2 c = some (.lst (ns2.map V.int)) ∧ ns2.length ≤ 63 ∧ Kp p c H H2, ?_, ?_⟩
    · -- the cells
      refine ⟨.ref p, rfl, p, .ref c, rfl, gC e1, Nat.zero_le _, fun o no => ?_⟩
      have nop : o ≠ p := fun e => by rw [e, e1] at no; cases no
      have noc : o ≠ c := fun e => by rw [e, e2] at no; cases no
      have f1 : (upd H1 o (.lst [])) p = some (.dK (srcK c g (k0 + 1))) := by rw [upd_ne nop.symm]; exact e1
      have f2 : (upd H1 o (.lst [])) c = some (.lst (ns.map V.int)) := by rw [upd_ne noc.symm]; exact e2
      refine ⟨.list (ns.map .int), .list [], ints_dp f2, .lst (.inl (.inl upd_same)) .nil, ints_sh ns, rfl, _, rfl, ?_⟩
      have f3 : Kp p c H (upd H1 o (.lst [])) := e3.trans (.new no)
      generalize upd H1 o (.lst []) = H2 at f1 f2 f3
      cases ns with
      | nil => exact iteF ⟨g, [], rfl, f1, f2, Nat.zero_le _, f3⟩
      | cons x r =>
        rw [show PyData.eqv (.list ((x :: r).map .int)) (.list []) = false from eqv_nil_cons _ _]
        refine iteT ?_
        obtain ⟨xs, y, ey⟩ : ∃ (xs : List Int) (y : Int), x :: r = xs ++ [y] := ⟨(x :: r).dropLast, (x :: r).getLast (List.cons_ne_nil _ _), (List.dropLast_concat_getLast _).symm⟩
        rw [ey] at f2
        have hxs : xs.length ≤ 62 := by
          have z := congrArg List.length ey
          rw [List.length_append, List.length_singleton] at z
          omega
        have em : (xs ++ [y]).map V.int = xs.map V.int ++ [.int y] := by rw [List.map_append]; rfl
        rw [em] at f2
        refine ⟨.ref p, rfl, p, .ref c, rfl, gC f1, .inl ⟨rfl, _, .inl (.inl f2)⟩, c, _, .int y, rfl, rfl, f2, by simp, ?_⟩
        rw [List.dropLast_concat]
        have g1 : (upd H2 c (.lst (xs.map V.int))) p = some (.dK (srcK c g (k0 + 1))) := by rw [upd_ne npc]; exact f1
        have g2 : (upd H2 c (.lst (xs.map V.int))) c = some (.lst (xs.map V.int)) := upd_same
        have g3 : Kp p c H (upd H2 c (.lst (xs.map V.int))) := f3.trans fun b o h1 h2 e => by rw [upd_ne h2]; exact e
        generalize upd H2 c (.lst (xs.map V.int)) = H3 at g1 g2 g3
        refine ⟨.int y, rfl, 10, 18, rfl, rfl, ⟨by decide, by decide, by decide⟩, y, _, rfl, rfl, _, rfl, ite2 (fun _ => ?_) (fun _ => ?_)⟩
        · refine ⟨.ref p, rfl, p, .ref c, rfl, gC g1, .inl ⟨rfl, _, .inl (.inl g2)⟩, .int y, rfl, .int lim, rfl, y, lim, rfl, rfl, wide_div hl0 (Nat.lt_of_lt_of_le hlb (Nat.pow_le_pow_right (by decide) (by decide : 200 ≤ 9000))) (by decide) (by decide), c, _, _, rfl, rfl, g2, ?_, ?_⟩
          · rw [List.length_map, sizeLine_eq]; omega
          · refine ⟨.int y, rfl, .int lim, rfl, y, lim, rfl, rfl, hl0, ?_⟩
            refine q _ _ (Int.emod_nonneg _ (by omega)) (Int.emod_lt_of_pos _ hl0) ⟨g, k0 + 1, xs ++ [y / lim], ?_, ?_, hg0, hg1, by omega, by omega, ?_⟩ ?_
            · rw [upd_ne npc]; exact g1
            · rw [upd_same, List.map_append]; rfl
            · rw [List.length_append, List.length_singleton]; omega
            · exact g3.trans fun b o h1 h2 e => by rw [upd_ne h2]; exact e
        · refine ⟨.int y, rfl, .ref p, rfl, p, .int g, rfl, gD g1, y, g, rfl, rfl, ?_⟩
          exact ⟨y + g, xs, rfl, g1, g2, by omega, g3⟩
    · -- what is mixed
      intro σ H2 hW
      obtain ⟨cell, ns2, rfl, f1, f2, f4, f3⟩ := hW
      have hk : -(2 ^ 64) < k0 + 1 ∧ k0 + 1 < 2 ^ 64 := ⟨by omega, by omega⟩
      refine ⟨.int cell, rfl, cell, _, rfl, rfl, (by show (0 : Int) < 2147483629; decide), .int (k0 + 1), rfl, _, k0 + 1, rfl, rfl, .inl ⟨by decide, by decide⟩, .int (k0 + 1), rfl, _, k0 + 1, rfl, rfl, .inr hk, _, _, rfl, rfl, _, _, rfl, rfl, _, _, rfl, rfl, .inr ⟨by decide, by decide⟩, _, _, rfl, rfl, (by show (0 : Int) < 2147483647; decide), ?_⟩
      generalize hv : (fun i j : Int => V.int (i % j)) ((cell % 2147483629 + 65543 * (k0 + 1) * (k0 + 1) + 29) * 40692) 2147483647 = v
      obtain ⟨m, rfl, hm0, hm1⟩ : ∃ m : Int, v = .int m ∧ 0 ≤ m ∧ m < 2147483647 := ⟨_, hv.symm, Int.emod_nonneg _ (by decide), Int.emod_lt_of_pos _ (by decide)⟩
      refine ⟨.int m, rfl, .int m, rfl, m, m, rfl, rfl, .inl ⟨by omega, by omega⟩, .int (k0 + 1), rfl, _, k0 + 1, rfl, rfl, .inl ⟨by decide, by decide⟩, _, _, rfl, rfl, _, _, rfl, rfl, _, _, rfl, rfl, (by show (0 : Int) < 2147483587; decide), ?_⟩
      generalize hv2 : (fun i j : Int => V.int (i % j)) (m * m + 48271 * (k0 + 1) + 7) 2147483587 = v2
      obtain ⟨u, rfl, hu0, hu1⟩ : ∃ u : Int, v2 = .int u ∧ 0 ≤ u ∧ u < 2147483587 := ⟨_, hv2.symm, Int.emod_nonneg _ (by decide), Int.emod_lt_of_pos _ (by decide)⟩
      refine ⟨.int u, rfl, u, _, rfl, rfl, .inr ⟨by decide, by decide⟩, _, _, rfl, rfl, (by show (0 : Int) < 2147483563; decide), _, _, rfl, rfl, ⟨by decide, by decide⟩, .int lim, rfl, _, lim, rfl, rfl, hl0, ?_⟩
      exact q _ _ (Int.emod_nonneg _ (by omega)) (Int.emod_lt_of_pos _ hl0) ⟨g, k0 + 1, ns2, f1, f2, hg0, hg1, by omega, by omega, f4⟩ f3
theorem merge3 {c : Addr} {g : Int} : mergeK [] [(kC, V.ref c), (kDg, V.int g), (kN, V.int 0)] = srcK c g 0 := by
  show putK (putK (putK [] kC _) kDg _) kN _ = _
  rw [putK_new _ (valV_nil (k := kC))]
  rw [putK_new _ (show valV ([] ++ [(kC, V.ref c)]) kDg = none from valV_neg nCD)]
  rw [putK_new _ (show valV ([] ++ [(kC, V.ref c)] ++ [(kDg, V.int g)]) kN = none from (valV_neg nCN).trans (valV_neg nDN))]
  rfl
theorem cut63 (xs : List V) (h : xs.length ≤ 63) : cutV xs none (some 63) = xs := by
  unfold cutV
  rw [show HT.sIx xs.length xs.length (some 63) = min 63 xs.length from HT.sIx_nat xs.length _ 63, HT.sIx_none, Nat.min_eq_right h]
  show (xs.drop 0).take (xs.length - 0) = xs
  rw [List.drop_zero, Nat.sub_zero]
  exact List.take_length
theorem ok_deck {f : Addr} {fd : FuncData} {k : Nat} (F : Fun K "_law_deck" "_law_deck" s_l_deck f fd) (ml : mg "list" = none) : FnOk P w K mg base CX0 (k + 1) f fd ["_law_script"] (spDeckK K deckD) := by
  refine F.ok sc_l_deck (fun vs H Q E h => ?_) (fun cdv A outer s H vs Q E hr h => ?_)
  · obtain ⟨a, ns, rfl, _⟩ := h
    rfl
  · obtain ⟨a, ns, rfl, hS, hlen, q⟩ := h
    have nd := sc_l_deck.nd
    refine ⟨_, pss_cons (ps_par (i := 1) (j := 2) (by rfl) nd rfl rfl (by decide) rfl rfl (pa_cons (pe_callTy call_list_of (by rfl) ml (by decide +kernel) (pa_cons (pe_slice sl_list (pv 0) po_none (po_some pe_int)) pa_nil)) (pa_cons pe_int pa_nil)) (by rfl))
      (pss_cons (ps_for PassesOwn.never rfl (pi_list (pv 1)) (pg_name (i := 3) nd rfl (.inl rfl))
        (pss_one (ps_set (i := 2) nd rfl (.inl rfl) (pe_op op_mod (pe_op op_add (pe_op op_add (pe_op op_mul (pv 2) pe_int) (pe_op op_mod (pv 3) pe_int)) pe_int) pe_int))))
      (pss_one (ps_ret (pe_disp (pps_cons pe_str (pe_revL (pv 1)) (pps_cons pe_str (pv 2) (pps_cons pe_str pe_int pps_nil))) (by rfl) (by rfl) (fun z => by cases z) (by decide))))), ?_⟩
    refine ⟨.ref a, rfl, 63, rfl, a, _, rfl, hS, fun l nl => ?_⟩
    rw [cut63 _ (by rw [List.length_map]; exact hlen)]
    refine ⟨l, _, rfl, .inl (.inl (.inl upd_same)), fun m nm => ?_⟩
    have s1 : Same H (upd (upd H l (.lst (ns.map V.int))) m (.lst (ns.map V.int))) := (same_new nl).trans (same_new nm)
    have em : (upd (upd H l (.lst (ns.map V.int))) m (.lst (ns.map V.int))) m = some (.lst (ns.map V.int)) := upd_same
    generalize upd (upd H l (.lst (ns.map V.int))) m (.lst (ns.map V.int)) = H1 at s1 em
    have hM : SqL K H1 m (ns.map V.int) := .inl (.inl em)
    refine ⟨_, _, rfl, .ref m, rfl, m, rfl, ⟨_, hM⟩, for_list (xs := ns.map V.int) (fun i σ H2 => H2 = H1 ∧ ∃ (g : Int) (y : Option V), σ = [some (.ref a), some (.ref m), some (.int g), y] ∧ 0 ≤ g ∧ g < 2147483587) ⟨rfl, 70237, none, rfl, by decide, by decide⟩ (fun i σ H2 _ h => h.1 ▸ hM) (fun i x σ H2 hx h => ?_) (fun σ H2 h => ?_)⟩
    · obtain ⟨rfl, g, y, rfl, hg0, hg1⟩ := h
      obtain ⟨v, rfl⟩ : ∃ v : Int, x = .int v := by
        have z := List.mem_of_getElem? hx
        obtain ⟨v, _, e⟩ := List.mem_map.mp z
        exact ⟨v, e.symm⟩
      refine ⟨.int g, rfl, g, _, rfl, rfl, .inr ⟨by decide, by decide⟩, .int v, rfl, v, _, rfl, rfl, (by show (0 : Int) < 2147483629; decide), _, _, rfl, rfl, _, _, rfl, rfl, _, _, rfl, rfl, (by show (0 : Int) < 2147483587; decide), ?_⟩
      exact ⟨rfl, _, _, rfl, Int.emod_nonneg _ (by decide), Int.emod_lt_of_pos _ (by decide)⟩
    · obtain ⟨rfl, g, y, rfl, hg0, hg1⟩ := h
      refine fun p np => ?_
      refine ⟨.ref m, rfl, m, _, rfl, (same_new np).seq hM, fun c nc => ?_⟩
      have npc : p ≠ c := ne_of_none upd_same nc
      have npH : H p = none := s1.free np
      have ncH : H c = none := by
        rw [upd_ne npc.symm] at nc
        exact s1.free nc
      refine ⟨.int g, rfl, ?_⟩
      refine ⟨?_, [(kC, .ref c), (kDg, .int g), (kN, .int 0)], rfl, (by show 3 ≤ 15; decide), ?_⟩
      · rw [upd_ne npc]; exact upd_same
      rw [merge3]
      refine q _ p c npH ncH ⟨g, 0, ns.reverse, upd_same, ?_, hg0, hg1, by decide, by decide, by rw [List.length_reverse]; exact hlen⟩ ?_
      · rw [upd_ne npc.symm, upd_same, List.map_reverse]
      · refine fun b o e => ?_
        have nb : b ≠ p := ne_of_none (s1 b o e) np
        have nb2 : b ≠ c := by
          rw [upd_ne npc.symm] at nc
          exact ne_of_none (s1 b o e) nc
        rw [upd_ne nb, upd_ne nb2, upd_ne nb]
        exact s1 b o e

/-- the two, as the data layer wants them -/
theorem g_l_draw {Ts : List Addr} {k : Nat} (D : DefAt K mg "_law_draw" s_l_draw) : Gd P w K mg base (wd K deckD Ts) (k + 1) "_law_draw" ["_law_deck_here", "_law_many"] fDraw := by
  obtain ⟨f, fd, F, m⟩ := D
  exact ⟨f, fd, (FnG.of (ok_draw F)).imp draw_sp, m, F.kp, F.binds (ps := ["_law_deck_here", "_law_many"]) fun _ _ _ _ _ _ us hl => match us, hl with | [_, _], _ => rfl⟩
theorem g_l_deck {Ts : List Addr} {k : Nat} (D : DefAt K mg "_law_deck" s_l_deck) (ml : mg "list" = none) : Gd P w K mg base (wd K deckD Ts) (k + 1) "_law_deck" ["_law_script"] fDeck := by
  obtain ⟨f, fd, F, m⟩ := D
  exact ⟨f, fd, (FnG.of (ok_deck F ml)).imp deck_sp, m, F.kp, F.binds (ps := ["_law_script"]) fun _ _ _ _ _ _ us hl => match us, hl with | [_], _ => rfl⟩
end
end Dl
set_option maxRecDepth 100000
set_option maxHeartbeats 1000000
namespace Dl
open PySem PySem.Spec PyProof.Rows L2 Lk
/-! what the laws of every family use -/
theorem sz {k : Nat} (h : k ≤ 1000000 := by decide) : k ≤ sizeLine := by rw [sizeLine_eq]; omega
theorem dedup_len {α : Type} [DecidableEq α] (l : List α) : (dedup l).length ≤ l.length := by
  have key : ∀ (l acc : List α), (l.foldl (fun acc z => if z ∈ acc then acc else acc ++ [z]) acc).length ≤ acc.length + l.length := fun l => by
    induction l with
    | nil => intro acc; simp
    | cons a l ih =>
      intro acc
      rw [List.foldl_cons]
      refine Nat.le_trans (ih _) ?_
      split <;> simp <;> omega
  simpa [dedup] using key l []
theorem wipe_set2 (δ : DEnv) (i j : Nat) (x y : DV) : ((wipeD [i, j] 0 δ).set i x).set j y = (δ.set i x).set j y := by
  refine List.ext_getElem? fun k => ?_
  by_cases e : j = k
  · subst e
    by_cases h : j < δ.length
    · rw [List.getElem?_set_self (by rw [List.length_set, wipeD_length]; exact h), List.getElem?_set_self (by rw [List.length_set]; exact h)]
    · rw [List.getElem?_eq_none (by rw [List.length_set, List.length_set, wipeD_length]; omega), List.getElem?_eq_none (by rw [List.length_set, List.length_set]; omega)]
  · rw [List.getElem?_set_ne e, List.getElem?_set_ne e]
    by_cases e2 : i = k
    · subst e2
      by_cases h : i < δ.length
      · rw [List.getElem?_set_self (by rw [wipeD_length]; exact h), List.getElem?_set_self h]
      · rw [List.getElem?_eq_none (by rw [List.length_set, wipeD_length]; omega), List.getElem?_eq_none (by rw [List.length_set]; omega)]
    · rw [List.getElem?_set_ne e2, List.getElem?_set_ne e2, wipeD_get, Nat.zero_add, if_neg (by simp; exact ⟨Ne.symm e2, Ne.symm e⟩)]
theorem mix_set2 (δ : DEnv) (i j : Nat) (x y : DV) : mixD [i, j] 0 δ ((δ.set i x).set j y) = δ := by
  refine List.ext_getElem? fun k => ?_
  rw [mixD_get (by rw [List.length_set, List.length_set]), Nat.zero_add]
  by_cases e : k = i ∨ k = j
  · rw [if_pos (by simpa using e)]
  · rw [if_neg (by simpa using e), List.getElem?_set_ne (fun z => e (.inr z.symm)), List.getElem?_set_ne (fun z => e (.inl z.symm))]
theorem Ev.all2 {L : Wd} {δ : DEnv} {w : L.W} {it : DA L} {e : DE L} {i j : Nat} {α : Type} {ps : List α} {a b : α → D} {f : α → Bool} (hit : EvA it δ w (ps.map fun p => .tup [a p, b p])) (hi : i < δ.length) (hj : j < δ.length) (no : ∀ d, δ[i]? ≠ some (DV.own d)) (no2 : ∀ d, δ[j]? ≠ some (DV.own d))
    (he : ∀ p ∈ ps, Ev e ((δ.set i (.val (a p))).set j (.val (b p))) w (.bl (f p))) : Ev (deAll [i, j] it (dgTup 2 (dgsCons (dgName i) (dgsCons (dgName j) dgsNil))) dtYes e) δ w (.bl (ps.all f)) := fun Q q => by
  refine hit _ ⟨fun k hk d => ?_, ?_⟩
  · rcases (by simpa using hk : k = i ∨ k = j) with e | e
    · rw [e]; exact no d
    · rw [e]; exact no2 d
  · have key : ∀ (ys : List α) (acc : List D), (∀ x ∈ ys, Ev e ((δ.set i (.val (a x))).set j (.val (b x))) w (.bl (f x))) → Q (.bl (ys.all f)) δ w → dGen [i, j] (dgTup 2 (dgsCons (dgName i) (dgsCons (dgName j) dgsNil))) dtYes e (dcAll Q) (fun _ => Q (.bl true)) (ys.map fun p => .tup [a p, b p]) acc δ w := fun ys => by
      induction ys with
      | nil => exact fun _ _ q => q
      | cons x ys ih =>
        intro acc h q
        refine ⟨rfl, by rw [wipeD_length]; exact hi, by rw [List.length_set, wipeD_length]; exact hj, rfl, ?_⟩
        rw [wipe_set2]
        refine h x (List.mem_cons_self ..) _ ⟨f x, rfl, ?_⟩
        rw [mix_set2]
        rw [List.all_cons] at q
        cases hf : f x with
        | false => rw [hf] at q; exact q
        | true => rw [hf] at q; exact ih _ (fun y hy => h y (List.mem_cons_of_mem _ hy)) q
    exact key ps [] he q
def SeqS (a : D) (zs : List Str) : Prop := a = .lst (zs.map .str) ∨ a = .tup (zs.map .str)
theorem SeqS.seq {L : Wd} {e : DE L} {δ : DEnv} {w : L.W} {a : D} {zs : List Str} (s : SeqS a zs) (h : Ev e δ w a) : EvA (diSeq e) δ w (zs.map .str) := by
  rcases s with rfl | rfl
  · exact EvA.seqL h
  · exact EvA.seqT h
section
variable {L : Wd} {δ : DEnv} {w : L.W} {a b : DE L} {x y : D} {z : Str} {zs : List Str}
theorem Ev.inS (h : Ev a δ w (.str z)) (h2 : Ev b δ w y) (s : SeqS y zs) (oz : PyData.strOk z = true) (os : OkS zs) : Ev (deOp (dIn false) a b) δ w (.bl (decide (z ∈ zs))) :=
  Ev.in (n := 0) (m := 0) h h2 s oz (fit_strs os) rfl (nb_strs zs) (by rw [decide_eq_true_iff, mem_strs])
theorem Ev.ninS (h : Ev a δ w (.str z)) (h2 : Ev b δ w y) (s : SeqS y zs) (oz : PyData.strOk z = true) (os : OkS zs) : Ev (deOp (dIn true) a b) δ w (.bl (!decide (z ∈ zs))) :=
  Ev.nin (n := 0) (m := 0) h h2 s oz (fit_strs os) rfl (nb_strs zs) (by rw [Bool.not_eq_true', decide_eq_false_iff_not, mem_strs])
theorem Ev.neS {y : Str} (h : Ev a δ w (.str z)) (h2 : Ev b δ w (.str y)) (oz : PyData.strOk z = true) (oy : PyData.strOk y = true) : Ev (deOp dNe a b) δ w (.bl (!decide (z = y))) :=
  Ev.ne (x := .str z) (y := .str y) (n := 0) (m := 0) h h2 oz oy rfl rfl (by simp)
theorem Ev.eqS {y : Str} (h : Ev a δ w (.str z)) (h2 : Ev b δ w (.str y)) (oz : PyData.strOk z = true) (oy : PyData.strOk y = true) : Ev (deOp dEq a b) δ w (.bl (decide (z = y))) :=
  Ev.eq (x := .str z) (y := .str y) (n := 0) (m := 0) h h2 oz oy rfl rfl (by simp)
theorem s_ifs {E : DEnds L} {t : DT L} {a b r : DS L} {c : Bool} (h : EvT t δ w c) (h1 : c = true → a { E with nx := r E } δ w) (h2 : c = false → b { E with nx := r E } δ w) : dsSeq (dsIf t a b) r E δ w := s_if h h1 h2
theorem s_ifn {E : DEnds L} {t : DT L} {a r : DS L} {c : Bool} (h : EvT t δ w c) (h1 : c = true → a { E with nx := r E } δ w) (h2 : c = false → r E δ w) : dsSeq (dsIf t a dsNext) r E δ w := s_if h h1 h2
theorem EvA.compS {it : DA L} {t : DT L} {e : DE L} {i : Nat} {p : Str → Bool} {f : Str → D} (hit : EvA it δ w (zs.map .str)) (hi : i < δ.length) (no : ∀ d, δ[i]? ≠ some (DV.own d)) (hx : zs.length ≤ sizeLine) (ht : ∀ x ∈ zs, EvT t (δ.set i (.val (.str x))) w (p x)) (he : ∀ x ∈ zs, p x = true → Ev e (δ.set i (.val (.str x))) w (f x)) :
    EvA (dfLc [i] it (dgName i) t e) δ w ((zs.filter p).map f) := by
  have h := EvA.comp (p := fun d => match d with | .str z => p z | _ => false) (f := fun d => match d with | .str z => f z | _ => .non) hit hi no (by rw [List.length_map]; exact hx) (t := t) (e := e) (fun x hx => by
    obtain ⟨z, hz, rfl⟩ := List.mem_map.mp hx
    exact ht z hz) (fun x hx hp => by
    obtain ⟨z, hz, rfl⟩ := List.mem_map.mp hx
    exact he z hz hp)
  rw [List.filter_map, List.map_map] at h
  exact h
end
section
variable {KF : PySem.W.Frag} {K : Deck} {Ts : List Addr} {δ : DEnv} {p c : Addr} {n : Nat}
theorem e_draw {da : DA (wd KF K Ts)} {m : Nat} {Q : D → DEnv → (wd KF K Ts).W → Prop} (h : EvA da δ (DW.run p c n) [.ref p, .int m]) (hn : n < 1000000) (h0 : 0 < m) (hm : m ≤ 1000000) (q : ∀ r : Nat, r < m → Q (.int r) δ (DW.run p c (n + 1))) : deCall fDraw da δ (DW.run p c n) Q :=
  h _ ⟨p, c, n, m, rfl, rfl, by omega, by omega, by
    show ((m : Int)).natAbs < 2 ^ 200
    have : (1000000 : Nat) < 2 ^ 200 := by decide
    omega, fun r h0 h1 => by
    obtain ⟨r, rfl⟩ := Int.eq_ofNat_of_zero_le h0
    exact q r (by omega)⟩
def fRnd (B : Nat) (G : Addr → List D → (D → Prop) → Prop) : DF (wd KF K Ts) := fun ds w R => ∃ p c n X, w = DW.run p c n ∧ n + B ≤ 1000000 ∧ G p ds X ∧ ∀ y n', n ≤ n' → n' ≤ n + B → X y → R y (DW.run p c n')
theorem e_rnd {B : Nat} {G : Addr → List D → (D → Prop) → Prop} {da : DA (wd KF K Ts)} {ds : List D} {X : D → Prop} {Q : D → DEnv → (wd KF K Ts).W → Prop} (h : EvA da δ (DW.run p c n) ds) (hn : n + B ≤ 1000000) (g : G p ds X) (q : ∀ y n', n ≤ n' → n' ≤ n + B → X y → Q y δ (DW.run p c n')) : deCall (fRnd B G) da δ (DW.run p c n) Q :=
  h _ ⟨p, c, n, X, rfl, hn, g, q⟩
end
theorem fold_cat : ∀ (zs : List Str) (acc : Array Nat), (zs.foldl (fun acc p => acc ++ (#[] : Array Nat) ++ p.cps) acc).toList = acc.toList ++ (zs.map fun z => z.cps.toList).flatten
  | [], acc => by simp
  | z :: zs, acc => by
    rw [List.foldl_cons, fold_cat zs]
    simp
theorem join_one (zs : List Str) : (Txt.join (⟨#[]⟩ : Str) zs).cps.toList = (zs.map fun z => z.cps.toList).flatten := by
  show ((zs.drop 1).foldl (fun acc p => acc ++ (#[] : Array Nat) ++ p.cps) (zs.headD Str.empty).cps).toList = _
  rw [fold_cat]
  cases zs with
  | nil => rfl
  | cons z r => simp
theorem nodup_map_on {α β : Type} {f : α → β} {l : List α} (h : ∀ a ∈ l, ∀ b ∈ l, f a = f b → a = b) (n : l.Nodup) : (l.map f).Nodup := by
  induction l with
  | nil => exact .nil
  | cons a l ih =>
    rw [List.map_cons]
    refine List.nodup_cons.mpr ⟨fun z => ?_, ih (fun x hx y hy => h x (List.mem_cons_of_mem _ hx) y (List.mem_cons_of_mem _ hy)) (List.nodup_cons.mp n).2⟩
    obtain ⟨b, hb, e⟩ := List.mem_map.mp z
    rw [h b (List.mem_cons_of_mem _ hb) a (List.mem_cons_self ..) e] at hb
    exact (List.nodup_cons.mp n).1 hb
theorem op_r {L : Wd} {f : DO} {a b : DE L} {x : D} {δ : DEnv} {w : L.W} {Q : D → DEnv → L.W → Prop} (ha : Ev a δ w x) (h : b δ w fun y δ2 w2 => f x y fun z => Q z δ2 w2) : deOp f a b δ w Q := ha _ h
theorem sm_nat {m : Nat} (h : m ≤ 1000000) : Sm (m : Int) := by
  show ((m : Int)).natAbs < 2 ^ 200
  have : (1000000 : Nat) < 2 ^ 200 := by decide
  omega
theorem s_app {L : Wd} {E : DEnds L} {i : Nat} {l : List D} {d : DE L} {x : D} {δ : DEnv} {w : L.W} (h : Ev d δ w x) (e : δ[i]? = some (.own (.lst l))) (hl : l.length < sizeLine) (q : E.nx (δ.set i (.own (.lst (l ++ [x])))) w) : dsExpr (deMut i mApp (daCons d daNil)) E δ w := ⟨⟨l, e⟩, h _ ⟨l, e, x, rfl, hl, q⟩⟩
theorem Ev.slS {L : Wd} {a : DE L} {lo hi : DPt L} {l u : Option Int} {z : Str} {δ : DEnv} {w : L.W} (h : Ev a δ w (.str z)) (h1 : EvO lo δ w l) (h2 : EvO hi δ w u) (hz : z.length ≤ sizeLine) : Ev (deSl a lo hi) δ w (.str (cutS z l u)) := fun Q q => h _ (h1 _ (h2 _ ⟨hz, q⟩))
theorem yes_step {L : Wd} {e : DE L} {Y : D → DEnv → L.W → Prop} {N : DEnv → L.W → Prop} {δ : DEnv} {w : L.W} (h : e δ w Y) : dtYes δ w (fun c δ2 w2 => if c = true then e δ2 w2 Y else N δ2 w2) := h
section
variable {L : Wd}
theorem s_own {E : DEnds L} {i : Nat} {da : DA L} {r : DS L} {xs : List D} {δ : DEnv} {w : L.W} (h : EvA da δ w xs) (hi : i < δ.length) (q : r E (δ.set i (.own (.lst xs))) w) : dsSeq (dsOwn i da) r E δ w := h _ ⟨hi, q⟩
theorem s_frz {E : DEnds L} {i : Nat} {d : DS L} {l : List D} {δ : DEnv} {w : L.W} (e : δ[i]? = some (.own (.lst l))) (q : d E (δ.set i (.val (.lst l))) w) : dsFrz i d E δ w := by
  unfold dsFrz
  rw [e]
  exact q
theorem Ev.neT {δ : DEnv} {w : L.W} {a b : DE L} {x y : List Str} (h : Ev a δ w (dT x)) (h2 : Ev b δ w (dT y)) (ox : OkS x) (oy : OkS y) : Ev (deOp dNe a b) δ w (.bl (!decide (x = y))) :=
  Ev.ne (x := dT x) (y := dT y) (n := 1) (m := 1) h h2 (fit_dT ox) (fit_dT oy) (nb_dT x) (nb_dT y) (by
    rw [Bool.not_eq_true', decide_eq_false_iff_not]
    exact not_congr ⟨fun e => e ▸ rfl, dT_inj⟩)
theorem Ev.eqNil {δ : DEnv} {w : L.W} {a b : DE L} {xs : List D} (h : Ev a δ w (.lst xs)) (h2 : Ev b δ w (.lst [])) {n : Nat} (hf : fitL n xs = true) (hb : nbL xs = true) (hn : n < 60 := by decide) : Ev (deOp dEq a b) δ w (.bl (decide (xs = []))) :=
  Ev.eq (x := .lst xs) (y := .lst []) (n := n + 1) (m := 1) h h2 hf rfl hb rfl (by simp) hn
theorem Ev.neNil {δ : DEnv} {w : L.W} {a b : DE L} {xs : List D} (h : Ev a δ w (.lst xs)) (h2 : Ev b δ w (.lst [])) {n : Nat} (hf : fitL n xs = true) (hb : nbL xs = true) (hn : n < 60 := by decide) : Ev (deOp dNe a b) δ w (.bl (!decide (xs = []))) :=
  Ev.ne (x := .lst xs) (y := .lst []) (n := n + 1) (m := 1) h h2 hf rfl hb rfl (by simp) hn
end
section
variable {L : Wd} {δ : DEnv} {w : L.W} {a b : DE L} {x : D} {da : DA L} {i j : Nat} {E : DEnds L} {r : DS L}
theorem cons_r {Q : List D → DEnv → L.W → Prop} (ha : Ev a δ w x) (h : da δ w fun xs δ2 w2 => Q (x :: xs) δ2 w2) : daCons a da δ w Q := ha _ h
theorem cons1_r {Q : List D → DEnv → L.W → Prop} (h : a δ w fun x δ1 w1 => da δ1 w1 fun xs δ2 w2 => Q (x :: xs) δ2 w2) : daCons a da δ w Q := h
theorem call_r {f : DF L} {Q : D → DEnv → L.W → Prop} (h : da δ w fun xs δ1 w1 => f xs w1 fun y w2 => Q y δ1 w2) : deCall f da δ w Q := h
theorem tup_r {Q : D → DEnv → L.W → Prop} (h : da δ w fun xs δ1 w1 => xs.length ≤ sizeLine ∧ Q (.tup xs) δ1 w1) : deTup da δ w Q := h
theorem set_r (h : a δ w fun x δ1 w1 => i < δ1.length ∧ r E (δ1.set i (.val x)) w1) : dsSeq (dsSet i a) r E δ w := h
theorem con_r {Q : D → DEnv → L.W → Prop} (h : Q x δ w) : deC x δ w Q := h
theorem ret_r (h : a δ w fun x _ w' => E.rt x w') : dsRet a E δ w := h
theorem tupF_r {Q : D → DEnv → L.W → Prop} (h : da δ w fun l δ1 w1 => Q (.tup l) δ1 w1) : deCB dTuple (daCons (deF da) daNil) δ w Q := h
theorem comp_r {it : DA L} {t : DT L} {g : DG} {xs : List D} {Q : List D → DEnv → L.W → Prop} (hit : EvA it δ w xs) (no : ∀ d, δ[i]? ≠ some (DV.own d)) (h : dComp [i] g t a Q xs [] δ w) : dfLc [i] it g t a δ w Q := hit _ ⟨fun j hj d => by rw [List.mem_singleton.mp hj]; exact no d, h⟩
theorem sl_r {lo hi : DPt L} {l : Option Int} {Q : D → DEnv → L.W → Prop} (ha : Ev a δ w x) (h1 : EvO lo δ w l) (h : hi δ w fun u δ3 w3 => dSl x l u fun z => Q z δ3 w3) : deSl a lo hi δ w Q := ha _ (h1 _ h)
theorem sort_r {zs : List Str} {k : List D → Prop} (h : k ((sortS zs).map .str)) : dfSorted [.lst (zs.map .str)] k := ⟨_, _, rfl, rfl, .inr (.inl ⟨zs, rfl, fun ms p hs => by rw [sortS_eq p hs]; exact h⟩)⟩
theorem addI_r {i j : Int} {k : D → Prop} (h : k (.int (i + j))) : dAdd (.int i) (.int j) k := h
theorem slL_r {l : List D} {lo hi : Option Int} {k : D → Prop} (h : k (.lst (cutD l lo hi))) : dSl (.lst l) lo hi k := h
theorem slT_r {l : List D} {lo hi : Option Int} {k : D → Prop} (h : k (.tup (cutD l lo hi))) : dSl (.tup l) lo hi k := h
theorem nil_r {Q : List D → DEnv → L.W → Prop} (h : Q [] δ w) : daNil δ w Q := h
theorem fcb_r {f : List D → (List D → Prop) → Prop} {Q : List D → DEnv → L.W → Prop} (h : da δ w fun xs δ1 w1 => f xs fun l => Q l δ1 w1) : dfCB f da δ w Q := h
theorem par2_r (h : da δ w fun xs δ' w' => ∃ x y, xs = [x, y] ∧ i < δ'.length ∧ j < δ'.length ∧ r E ((δ'.set i (.val x)).set j (.val y)) w') : dsSeq (dsPar2 i j da) r E δ w := h
theorem F_r {Q : D → DEnv → L.W → Prop} (h : da δ w fun l δ1 w1 => Q (.lst l) δ1 w1) : deF da δ w Q := h
theorem lc_r {it : DA L} {t : DT L} {g : DG} {vs : List Nat} {Q : List D → DEnv → L.W → Prop} (h : it δ w fun xs δ' w' => NoOwn vs δ' ∧ dComp vs g t a Q xs [] δ' w') : dfLc vs it g t a δ w Q := h
theorem set0_r (h : a δ w fun x δ1 w1 => i < δ1.length ∧ E.nx (δ1.set i (.val x)) w1) : dsSet i a E δ w := h
theorem if_r {t : DT L} {Q : D → DEnv → L.W → Prop} (h : t δ w fun c δ1 w1 => if c = true then a δ1 w1 Q else b δ1 w1 Q) : deIf t a b δ w Q := h
theorem of_r {Q : Bool → DEnv → L.W → Prop} (h : a δ w fun x δ1 w1 => match x with
  | .bl c => Q c δ1 w1
  | _ => False) : dtOf a δ w Q := h
theorem evA_r {xs : List D} {Q : List D → DEnv → L.W → Prop} (h : EvA da δ w xs) (q : Q xs δ w) : da δ w Q := h _ q
theorem ev_r {Q : D → DEnv → L.W → Prop} (h : Ev a δ w x) (q : Q x δ w) : a δ w Q := h _ q
theorem asg_r {g : DG} (h : a δ w fun x δ' w' => g x δ' fun δ'' => r E δ'' w') : dsSeq (dsAsg a g) r E δ w := h
theorem sif_r {t : DT L} {a b : DS L} (h : t δ w fun c δ' w' => if c = true then a E δ' w' else b E δ' w') : dsIf t a b E δ w := h
theorem evT_r {t : DT L} {c : Bool} {Q : Bool → DEnv → L.W → Prop} (h : EvT t δ w c) (q : Q c δ w) : t δ w Q := h _ q
theorem s_appS {l : List D} {d : DE L} (h : Ev d δ w x) (e : δ[i]? = some (.own (.lst l))) (hl : l.length < sizeLine) (q : r E (δ.set i (.own (.lst (l ++ [x])))) w) : dsSeq (dsExpr (deMut i mApp (daCons d daNil))) r E δ w := s_app (E := { E with nx := r E }) h e hl q
theorem s_ifj {t : DT L} {a b : DS L} {c : Bool} (h : EvT t δ w c) (Post : DEnv → L.W → Prop) (h1 : c = true → ∀ N : DEnv → L.W → Prop, (∀ δ' w', Post δ' w' → N δ' w') → a { E with nx := N } δ w) (h2 : c = false → ∀ N : DEnv → L.W → Prop, (∀ δ' w', Post δ' w' → N δ' w') → b { E with nx := N } δ w) (h3 : ∀ δ' w', Post δ' w' → r E δ' w') : dsSeq (dsIf t a b) r E δ w :=
  s_ifs h (fun hc => h1 hc _ h3) fun hc => h2 hc _ h3
end
theorem upTo_eq (m : Nat) : upTo 0 m = (List.range m).map fun i => D.int (i : Nat) := by
  unfold upTo
  exact List.map_congr_left fun i _ => by rw [Int.zero_add]
theorem cut_take {α : Type} (xs : List α) (f : α → D) (k : Nat) : cutD (xs.map f) none (some (k : Int)) = (xs.take k).map f := by
  unfold cutD
  rw [HT.sIx_nat, HT.sIx_none, Nat.sub_zero, List.drop_zero, List.map_take, List.length_map]
  rcases Nat.le_total k xs.length with h | h
  · rw [Nat.min_eq_left h]
  · rw [Nat.min_eq_right h, List.take_of_length_le (by rw [List.length_map]; exact Nat.le_refl _), List.take_of_length_le (by rw [List.length_map]; exact h)]
theorem cut_drop {α : Type} (xs : List α) (f : α → D) (k : Nat) : cutD (xs.map f) (some (k : Int)) none = (xs.drop k).map f := by
  unfold cutD
  rw [HT.sIx_nat, HT.sIx_none, List.length_map, List.map_drop]
  rcases Nat.le_total k xs.length with h | h
  · rw [Nat.min_eq_left h, List.take_of_length_le (by rw [List.length_drop, List.length_map]; exact Nat.le_refl _)]
  · rw [Nat.min_eq_right h, Nat.sub_self, List.take_zero, List.drop_eq_nil_of_le (by rw [List.length_map]; exact h)]
theorem cut_mid {α : Type} (xs : List α) (f : α → D) (k m : Nat) : cutD (xs.map f) (some (k : Int)) (some (m : Int)) = ((xs.take m).drop k).map f := by
  unfold cutD
  rw [HT.sIx_nat, HT.sIx_nat, List.length_map, List.map_drop, List.map_take, List.drop_take]
  rcases Nat.le_total k xs.length with h | h
  · rw [Nat.min_eq_left h]
    rcases Nat.le_total m xs.length with h2 | h2
    · rw [Nat.min_eq_left h2]
    · rw [Nat.min_eq_right h2, List.take_of_length_le (by rw [List.length_drop, List.length_map]; exact Nat.le_refl _), List.take_of_length_le (by rw [List.length_drop, List.length_map]; omega)]
  · rw [Nat.min_eq_right h, List.drop_eq_nil_of_le (by rw [List.length_map]; exact Nat.le_refl _), List.drop_eq_nil_of_le (by rw [List.length_map]; exact h), List.take_nil, List.take_nil]
section
variable {KF : PySem.W.Frag} {K : Deck} {Ts : List Addr}
theorem range_draw {δ : DEnv} {p c : Addr} {n a m : Nat} {da : DA (wd KF K Ts)} {Q : List D → DEnv → (wd KF K Ts).W → Prop} (h : EvA da δ (DW.run p c n) [.ref p, .int m]) (hn : n < 1000000) (h0 : 0 < m) (hm : m ≤ 1000000) (ha : a ≤ 1000000) (q : ∀ r, r < m → Q ((List.range (a + r)).map fun i => .int (i : Nat)) δ (DW.run p c (n + 1))) : diRange1 (deOp dAdd (deC (.int a)) (deCall fDraw da)) δ (DW.run p c n) Q := by
  refine e_draw h hn h0 hm fun r hr => ?_
  have e : upTo 0 (Int.toNat ((a : Int) + (r : Int))) = (List.range (a + r)).map fun i => D.int (i : Nat) := by
    rw [show (a : Int) + (r : Int) = ((a + r : Nat) : Int) by omega, Int.toNat_natCast, upTo_eq]
  have z := q r hr
  rw [← e] at z
  exact ⟨⟨by omega, by omega⟩, z⟩
theorem eqI_r {i j : Int} {k : D → Prop} (h : k (.bl (decide (i = j)))) : dEq (.int i) (.int j) k := ⟨rfl, rfl, by
  have e : PyData.eqv (D.int i).py (D.int j).py = decide (i = j) := by
    refine Bool.eq_iff_iff.mpr ?_
    rw [eqv_iff _ _ rfl rfl]
    simp
  rw [e]
  exact h⟩
theorem drawEq_r {δ : DEnv} {p c : Addr} {n m : Nat} {v : Int} {da : DA (wd KF K Ts)} {Q : Bool → DEnv → (wd KF K Ts).W → Prop} (h : EvA da δ (DW.run p c n) [.ref p, .int m]) (hn : n < 1000000) (h0 : 0 < m) (hm : m ≤ 1000000) (q : ∀ b, Q b δ (DW.run p c (n + 1))) : dtOf (deOp dEq (deCall fDraw da) (deC (.int v))) δ (DW.run p c n) Q :=
  of_r (e_draw h hn h0 hm fun r hr => con_r (eqI_r (q _)))
end
theorem sortS_idem (zs : List Str) : sortS (sortS zs) = sortS zs := (sortS_eq (.refl _) (sortS_le zs)).symm
theorem Ev.eqI {L : Wd} {δ : DEnv} {w : L.W} {a b : DE L} {i j : Int} (h : Ev a δ w (.int i)) (h2 : Ev b δ w (.int j)) : Ev (deOp dEq a b) δ w (.bl (decide (i = j))) := Ev.op h h2 fun k q => eqI_r q
theorem EvA.enum {L : Wd} {δ : DEnv} {w : L.W} {d : DE L} {zs : List Str} (h : Ev d δ w (.lst (zs.map .str))) : EvA (diEnum d) δ w (zs.zipIdx.map fun q => .tup [.int (q.2 : Nat), .str q.1]) := fun Q q => h _ (by
  have e : numbered (zs.map D.str) = zs.zipIdx.map fun q => .tup [.int (q.2 : Nat), .str q.1] := by
    unfold numbered
    rw [List.zipIdx_map, List.map_map]
    rfl
  show Q (numbered (zs.map D.str)) δ w
  rw [e]
  exact q)
section
variable {L : Wd} {δ : DEnv} {w : L.W} {a b c : DE L} {da : DA L} {x y : D} {i j m : Nat} {E : DEnds L} {r : DS L} {f : DO}
theorem and_r {L : Wd} {δ : DEnv} {w : L.W} {t u : DT L} {Q : Bool → DEnv → L.W → Prop} (h : t δ w fun c δ1 w1 => if c = true then u δ1 w1 Q else Q false δ1 w1) : dtAnd t u δ w Q := h
theorem or_r {t u : DT L} {Q : Bool → DEnv → L.W → Prop} (h : t δ w fun c δ1 w1 => if c = true then Q true δ1 w1 else u δ1 w1 Q) : dtOr t u δ w Q := h
theorem Ev.eqT {xs ys : List Str} (h : Ev a δ w (dT xs)) (h2 : Ev b δ w (dT ys)) (ox : OkS xs) (oy : OkS ys) : Ev (deOp dEq a b) δ w (.bl (decide (xs = ys))) :=
  Ev.eq (x := dT xs) (y := dT ys) (n := 1) (m := 1) h h2 (fit_dT ox) (fit_dT oy) (nb_dT xs) (nb_dT ys) (by
    rw [decide_eq_true_iff]
    exact ⟨fun e => e ▸ rfl, dT_inj⟩)
theorem Ev.mulB {xs : List D} {k : Bool} (h : Ev a δ w (.tup xs)) (h2 : Ev b δ w (.bl k)) (hl : xs.length ≤ 1000) : Ev (deOp dMul a (deCB dInt (daCons b daNil))) δ w (.tup (if k then xs else [])) :=
  Ev.op h (Ev.cb (x := .int (if k then 1 else 0)) (EvA.cons h2 EvA.nil) fun k q => q) fun Q q => by
    cases k with
    | false => exact ⟨by decide, by decide, hl, q⟩
    | true => exact ⟨by decide, by decide, hl, by simpa using q⟩
theorem Ev.neNilO {n : Nat} {l : List D} (e : δ[i]? = some (.own (.lst l))) (hf : fitL n l = true) (hb : nbL l = true) (hn : n < 60 := by decide) : Ev (L := L) (deOpO dNe i (deF (dfLst daNil))) δ w (.bl (!decide (l = []))) := fun Q q =>
  ⟨⟨l, e⟩, (Ev.F (EvA.lst EvA.nil (Nat.zero_le _)) : Ev (L := L) (deF (dfLst daNil)) δ w (.lst [])) _ ⟨l, e, (Ev.neNil (L := L) (δ := δ) (w := w) (a := deC (.lst l)) (b := deC (.lst [])) Ev.con Ev.con hf hb hn) (fun z δ1 w1 => z.scal = true ∧ Q z δ1 w1) ⟨rfl, q⟩⟩⟩
theorem Ev.lenO {l : List D} (e : δ[i]? = some (.own (.lst l))) : Ev (L := L) (deLenO i) δ w (.int l.length) := fun Q q => ⟨l, e, q⟩
theorem pop_r {Q : D → DEnv → L.W → Prop} (e : ∃ l, δ[i]? = some (.own (.lst l))) (h : da δ w fun xs δ' w' => ∃ l, δ'[i]? = some (.own (.lst l)) ∧ mPopAt l xs fun l' y => Q y (δ'.set i (.own (.lst l'))) w') : deMut i mPopAt da δ w Q := ⟨e, h⟩
theorem s_parOVV {l : List D} (h : EvA da δ w l) (h1 : Ev a δ w x) (h2 : Ev b δ w y) (n1 : i ≠ j) (n2 : i ≠ m) (n3 : j ≠ m) (hi : i < δ.length) (hj : j < δ.length) (hm : m < δ.length) (q : r E (((δ.set j (.val x)).set m (.val y)).set i (.own (.lst l))) w) : dsSeq (dsParOVV i j m da a b) r E δ w := h _ (h1 _ (h2 _ ⟨n1, n2, n3, hi, hj, hm, q⟩))
theorem s_whileS {t : DT L} {b : DS L} (I : Nat → DEnv → L.W → Prop) (n : Nat) (h0 : I n δ w) (turn : ∀ n δ w, I n δ w → t δ w fun c δ' w' => if c = true then b { nx := fun δ w => ∃ m', m' < n ∧ I m' δ w, rt := E.rt, bk := r E, ct := fun δ w => ∃ m', m' < n ∧ I m' δ w } δ' w' else r E δ' w') : dsSeq (dsWhile t b) r E δ w := ⟨I, ⟨n, h0⟩, turn⟩
end
section
variable {L : Wd} {δ : DEnv} {w : L.W} {E : DEnds L} {r a b : DS L} {t : DT L}
theorem not_r {Q : Bool → DEnv → L.W → Prop} (h : t δ w fun c δ1 w1 => Q (!c) δ1 w1) : dtNot t δ w Q := h
theorem seqif_r (h : t δ w fun c δ' w' => if c = true then a { E with nx := r E } δ' w' else b { E with nx := r E } δ' w') : dsSeq (dsIf t a b) r E δ w := h
end
section
variable {L : Wd} {δ : DEnv} {w : L.W} {a b : DE L} {f : DO}
theorem op1_r {Q : D → DEnv → L.W → Prop} (h : a δ w fun x δ1 w1 => b δ1 w1 fun y δ2 w2 => f x y fun z => Q z δ2 w2) : deOp f a b δ w Q := h
end
end Dl
set_option maxRecDepth 100000
set_option maxHeartbeats 1000000
namespace Dl
open PySem PySem.Spec PyProof.Rows L2 Lk
theorem Ev.addTS {L : Wd} {δ : DEnv} {w : L.W} {a b : DE L} {xs ys : List Str} (h : Ev a δ w (dT xs)) (h2 : Ev b δ w (dT ys)) (hl : xs.length + ys.length ≤ 1000000) : Ev (deOp dAdd a b) δ w (dT (xs ++ ys)) := by
  have z := Ev.addT (xs := xs.map .str) (ys := ys.map .str) h h2 (by rw [List.length_map, List.length_map]; exact sz hl)
  rw [← List.map_append] at z
  exact z
/-- a comprehension over pairs, step by step -/
theorem comp_ind2 {L : Wd} {δ : DEnv} {w : L.W} {t : DT L} {e : DE L} {i j : Nat} {α : Type} {zs : List α} {a b : α → D} {Q : List D → DEnv → L.W → Prop} (hi : i < δ.length) (hj : j < δ.length) (I : Nat → List D → L.W → Prop)
    (step : ∀ k x acc w, zs[k]? = some x → I k acc w → ∀ (Y : D → DEnv → L.W → Prop) (N : DEnv → L.W → Prop), (∀ y w', acc.length < sizeLine → I (k + 1) (acc ++ [y]) w' → Y y ((δ.set i (.val (a x))).set j (.val (b x))) w') → (∀ w', I (k + 1) acc w' → N ((δ.set i (.val (a x))).set j (.val (b x))) w') →
      t ((δ.set i (.val (a x))).set j (.val (b x))) w fun c δ2 w2 => if c = true then e δ2 w2 Y else N δ2 w2)
    (fin : ∀ acc w, I zs.length acc w → Q acc δ w) (h0 : I 0 [] w) : dComp [i, j] (dgTup 2 (dgsCons (dgName i) (dgsCons (dgName j) dgsNil))) t e Q (zs.map fun x => .tup [a x, b x]) [] δ w := by
  have key : ∀ (n k : Nat) (acc : List D) (w : L.W), n = zs.length - k → k ≤ zs.length → I k acc w → dComp [i, j] (dgTup 2 (dgsCons (dgName i) (dgsCons (dgName j) dgsNil))) t e Q ((zs.drop k).map fun x => .tup [a x, b x]) acc δ w := fun n => by
    induction n with
    | zero =>
      intro k acc w hn hk h
      have : k = zs.length := by omega
      subst this
      rw [List.drop_length]
      exact fin _ _ h
    | succ n ih =>
      intro k acc w hn hk h
      have hlt : k < zs.length := by omega
      rw [List.drop_eq_getElem_cons hlt, List.map_cons]
      refine ⟨rfl, by rw [wipeD_length]; exact hi, by rw [List.length_set, wipeD_length]; exact hj, rfl, ?_⟩
      rw [wipe_set2]
      refine step k _ acc w (List.getElem?_eq_getElem hlt) h (fun y δ3 w3 => acc.length < sizeLine ∧ dComp [i, j] _ t e Q ((zs.drop (k + 1)).map fun x => .tup [a x, b x]) (acc ++ [y]) (mixD [i, j] 0 δ δ3) w3) (fun δ2 w2 => dComp [i, j] _ t e Q ((zs.drop (k + 1)).map fun x => .tup [a x, b x]) acc (mixD [i, j] 0 δ δ2) w2) (fun y w' ha hI => ⟨ha, ?_⟩) (fun w' hI => ?_)
      · rw [mix_set2]
        exact ih (k + 1) _ w' (by omega) hlt hI
      · rw [mix_set2]
        exact ih (k + 1) _ w' (by omega) hlt hI
  simpa using key _ 0 [] w rfl (Nat.zero_le _) h0
/-- acc is short enough: carry it in the invariant -/
theorem EvA.enumT {L : Wd} {δ : DEnv} {w : L.W} {d : DE L} {zs : List Str} (h : Ev d δ w (dT zs)) : EvA (diEnumT d) δ w (zs.zipIdx.map fun q => .tup [.int (q.2 : Nat), .str q.1]) := fun Q q => h _ (by
  have e : numbered (zs.map D.str) = zs.zipIdx.map fun q => .tup [.int (q.2 : Nat), .str q.1] := by
    unfold numbered
    rw [List.zipIdx_map, List.map_map]
    rfl
  show Q (numbered (zs.map D.str)) δ w
  rw [e]
  exact q)
end Dl
set_option maxRecDepth 100000
set_option maxHeartbeats 2000000
namespace Dl
open PySem PySem.Spec PyProof.Rows L2 Lk

/-! ### texts, and further peels (from k02's P4) -/
theorem ok_iff {z : Str} : PyData.strOk z = true ↔ ∀ c ∈ z.cps.toList, c < 0x110000 := strOk_iff
theorem cutS_ok {z : Str} (h : PyData.strOk z = true) (lo hi : Option Int) : PyData.strOk (cutS z lo hi) = true := by
  rw [ok_iff] at *
  intro c hc
  unfold cutS at hc
  exact h c (List.mem_of_mem_drop (List.mem_of_mem_take (by simpa using hc)))
theorem one_ok {z : Str} (h : PyData.strOk z = true) {c : Nat} (hc : c ∈ z.cps.toList) : PyData.strOk (⟨#[c]⟩ : Str) = true := by
  rw [ok_iff]
  intro d hd
  have : d = c := by simpa using hd
  rw [this]
  exact ok_iff.mp h c hc
theorem len_one (c : Nat) : (⟨#[c]⟩ : Str).length = 1 := rfl
theorem len_cut (z : Str) (k : Nat) (hk : k ≤ z.length) : (cutS z none (some (k : Int))).length = k := by
  unfold cutS
  show ((z.cps.toList.drop (HT.sIx z.length 0 none)).take (HT.sIx z.length z.length (some (k : Int)) - HT.sIx z.length 0 none)).toArray.size = k
  rw [HT.sIx_nat, HT.sIx_none, Nat.min_eq_left hk, List.size_toArray, List.length_take, List.length_drop, Array.length_toList]
  have : z.length = z.cps.size := rfl
  omega
theorem len_from (z : Str) (k : Nat) (hk : k ≤ z.length) : (cutS z (some (k : Int)) none).length = z.length - k := by
  unfold cutS
  show ((z.cps.toList.drop (HT.sIx z.length 0 (some (k : Int)))).take (HT.sIx z.length z.length none - HT.sIx z.length 0 (some (k : Int)))).toArray.size = z.length - k
  rw [HT.sIx_nat, HT.sIx_none, Nat.min_eq_left hk, List.size_toArray, List.length_take, List.length_drop, Array.length_toList]
  have : z.length = z.cps.size := rfl
  omega
theorem mul_ok1 {c m : Nat} (h : m ≤ 8) (h0 : 1 ≤ m) : MulOk (⟨#[c]⟩ : Str) (m : Int) := by
  refine ⟨by rw [decide_eq_false (by omega), decide_eq_false (by omega)]; rfl, fun _ _ => ?_, fun _ _ => ?_⟩
  · rw [len_one]
    have : (1 : Int) ≤ (2 ^ 63 - 1) / (m : Int) := by
      rw [Int.le_ediv_iff_mul_le (by omega)]
      omega
    omega
  · rw [len_one, Int.toNat_natCast, Nat.one_mul]
    rcases (by omega : m = 1 ∨ m = 2 ∨ m = 3 ∨ m = 4 ∨ m = 5 ∨ m = 6 ∨ m = 7 ∨ m = 8) with rfl | rfl | rfl | rfl | rfl | rfl | rfl | rfl <;> decide +kernel
theorem mul_len1 {c m : Nat} (h : m ≤ 8) (h0 : 1 ≤ m) (hc : c < 0x110000) : (Txt.mul (⟨#[c]⟩ : Str) (m : Int)).length ≤ 8 ∧ PyData.strOk (Txt.mul (⟨#[c]⟩ : Str) (m : Int)) = true := by
  have key : ∀ m : Nat, m ≤ 8 → 1 ≤ m → (Txt.mul (⟨#[c]⟩ : Str) (m : Int)).cps.toList = List.replicate m c := fun m h h0 => by
    rcases (by omega : m = 1 ∨ m = 2 ∨ m = 3 ∨ m = 4 ∨ m = 5 ∨ m = 6 ∨ m = 7 ∨ m = 8) with rfl | rfl | rfl | rfl | rfl | rfl | rfl | rfl <;> rfl
  have e := key m h h0
  refine ⟨?_, ok_iff.mpr fun d hd => ?_⟩
  · show (Txt.mul (⟨#[c]⟩ : Str) (m : Int)).cps.size ≤ 8
    rw [← Array.length_toList, e, List.length_replicate]
    exact h
  · rw [e] at hd
    rw [(List.mem_replicate.mp hd).2]
    exact hc
theorem abc_ok : PyData.strOk ("abcdefghijklmnopqrstuvwxyz" : Str) = true := by decide +kernel
theorem join_ok {zs : List Str} (h : ∀ z ∈ zs, z.length = 1 ∧ PyData.strOk z = true) (hl : zs.length ≤ 8) : (Txt.join ("" : Str) zs).length ≤ 8 ∧ PyData.strOk (Txt.join ("" : Str) zs) = true := by
  have ec : (Txt.join ("" : Str) zs).cps.toList = (zs.map fun z => z.cps.toList).flatten := join_one zs
  have sum1 : ∀ (l : List Str), (∀ z ∈ l, z.length = 1) → (l.map fun z => z.cps.toList).flatten.length = l.length := fun l => by
    induction l with
    | nil => intro _; rfl
    | cons a l ih =>
      intro h
      have e1 : a.cps.toList.length = 1 := by rw [Array.length_toList]; exact h a (List.mem_cons_self ..)
      rw [List.map_cons, List.flatten_cons, List.length_append, e1, ih fun z hz => h z (List.mem_cons_of_mem _ hz), List.length_cons]
      omega
  refine ⟨?_, ok_iff.mpr fun d hd => ?_⟩
  · show (Txt.join ("" : Str) zs).cps.size ≤ 8
    rw [← Array.length_toList, ec, sum1 zs fun z hz => (h z hz).1]
    exact hl
  · rw [ec] at hd
    obtain ⟨l, hl, hd⟩ := List.mem_flatten.mp hd
    obtain ⟨z, hz, rfl⟩ := List.mem_map.mp hl
    exact ok_iff.mp (h z hz).2 d hd
section
variable {L : Wd} {δ : DEnv} {w : L.W} {a b : DE L} {da : DA L} {i j l : Nat} {E : DEnds L} {r : DS L}
theorem cb_r {f : DC} {Q : D → DEnv → L.W → Prop} (h : da δ w fun xs δ1 w1 => f xs fun z => Q z δ1 w1) : deCB f da δ w Q := h
theorem own_r (h : da δ w fun xs δ1 w1 => i < δ1.length ∧ r E (δ1.set i (.own (.lst xs))) w1) : dsSeq (dsOwn i da) r E δ w := h
theorem par3_r (h : da δ w fun xs δ' w' => ∃ x y z, xs = [x, y, z] ∧ i < δ'.length ∧ j < δ'.length ∧ l < δ'.length ∧ r E (((δ'.set i (.val x)).set j (.val y)).set l (.val z)) w') : dsSeq (dsPar3 i j l da) r E δ w := h
theorem cat_r {xs : List D} {Q : List D → DEnv → L.W → Prop} (ha : Ev a δ w (.lst xs)) (h : b δ w fun y δ2 w2 => match y with
  | .lst m => xs.length + m.length ≤ sizeLine ∧ Q (xs ++ m) δ2 w2
  | _ => False) : dfCat a b δ w Q := ha _ (by
  refine cast ?_ h
  congr 1
  funext y δ2 w2
  cases y <;> rfl)
theorem lst_r {Q : List D → DEnv → L.W → Prop} (h : da δ w fun xs δ1 w1 => xs.length ≤ sizeLine ∧ Q xs δ1 w1) : dfLst da δ w Q := h
theorem Ev.dct0 : Ev (L := L) deDct0 δ w (.dct []) := fun Q q => q
theorem Ev.dct1 {z : Str} {i : Int} : Ev (L := L) (deDct1 z i) δ w (.dct [(.str z, .int i)]) := fun Q q => q
theorem Ev.revT {xs : List D} (h : Ev a δ w (.tup xs)) : Ev (deRevA a) δ w (.tup xs.reverse) := fun Q q => h _ q
theorem Ev.revL {xs : List D} (h : Ev a δ w (.lst xs)) : Ev (deRevA a) δ w (.lst xs.reverse) := fun Q q => h _ q
theorem app_r {d : DE L} (e : ∃ l, δ[i]? = some (.own (.lst l))) (h : d δ w fun x δ1 w1 => ∃ l, δ1[i]? = some (.own (.lst l)) ∧ mApp l [x] fun l' y => E.nx (δ1.set i (.own (.lst l'))) w1) : dsExpr (deMut i mApp (daCons d daNil)) E δ w := ⟨e, h⟩
theorem appS_r {d : DE L} (e : ∃ l, δ[i]? = some (.own (.lst l))) (h : d δ w fun x δ1 w1 => ∃ l, δ1[i]? = some (.own (.lst l)) ∧ mApp l [x] fun l' y => r E (δ1.set i (.own (.lst l'))) w1) : dsSeq (dsExpr (deMut i mApp (daCons d daNil))) r E δ w := ⟨e, h⟩
end
section
variable {KF : PySem.W.Frag} {K : Deck} {Ts : List Addr}
theorem range_draw0 {δ : DEnv} {p c : Addr} {n m : Nat} {da : DA (wd KF K Ts)} {Q : List D → DEnv → (wd KF K Ts).W → Prop} (h : EvA da δ (DW.run p c n) [.ref p, .int m]) (hn : n < 1000000) (h0 : 0 < m) (hm : m ≤ 1000000) (q : ∀ r, r < m → Q ((List.range r).map fun i => .int (i : Nat)) δ (DW.run p c (n + 1))) : diRange1 (deCall fDraw da) δ (DW.run p c n) Q := by
  refine e_draw h hn h0 hm fun r hr => ?_
  have z := q r hr
  rw [← upTo_eq] at z
  exact ⟨⟨by omega, by omega⟩, by rw [Int.toNat_natCast]; exact z⟩
end
theorem Ev.lenS {L : Wd} {δ : DEnv} {w : L.W} {a : DE L} {z : Str} (h : Ev a δ w (.str z)) (hl : z.length ≤ 1000000) : Ev (deCB dLen (daCons a daNil)) δ w (.int z.length) := Ev.cb (EvA.cons h EvA.nil) fun k q => ⟨sz hl, q⟩
theorem Ev.divI {L : Wd} {δ : DEnv} {w : L.W} {a b : DE L} {p q : Int} (h : Ev a δ w (.int p)) (h2 : Ev b δ w (.int q)) (h0 : 0 < q) (hs : Sm q) : Ev (deOp dDiv a b) δ w (.int (p / q)) := Ev.op h h2 fun k z => ⟨h0, hs, z⟩
theorem Ev.ixS {L : Wd} {δ : DEnv} {w : L.W} {a b : DE L} {z : Str} {j c : Nat} (h : Ev a δ w (.str z)) (h2 : Ev b δ w (.int j)) (hz : z.length ≤ 1000000) (e : z.cps.toList[j]? = some c) : Ev (deOp dIx a b) δ w (.str ⟨#[c]⟩) := Ev.op h h2 fun k q => ⟨sz hz, c, atI_nat e, q⟩
theorem app_cps (a b : Str) : (a ++ b).cps.toList = a.cps.toList ++ b.cps.toList := by
  show (a.cps ++ b.cps).toList = _
  simp
theorem mul_cps1 {c : Nat} (m : Nat) (h : m ≤ 8) (h0 : 1 ≤ m) : (Txt.mul (⟨#[c]⟩ : Str) (m : Int)).cps.toList = List.replicate m c := by
  rcases (by omega : m = 1 ∨ m = 2 ∨ m = 3 ∨ m = 4 ∨ m = 5 ∨ m = 6 ∨ m = 7 ∨ m = 8) with rfl | rfl | rfl | rfl | rfl | rfl | rfl | rfl <;> rfl
theorem str_ext {a b : Str} (h : a.cps.toList = b.cps.toList) : a = b := by
  cases a; cases b
  congr
  exact Array.toList_inj.mp h
section
variable {L : Wd} {δ : DEnv} {w : L.W} {d a : DE L} {da : DA L} {i j : Nat} {E : DEnds L} {r : DS L}
theorem sortGs_r {gs : List (List Str)} {Q : List D → DEnv → L.W → Prop} (h : Ev d δ w (.lst (gs.map dT))) (hl : gs.length < 64) (q : ∀ nss : List (List Str), nss.Pairwise (fun a b => lexS b a = false) → nss.Nodup → (∀ k, k ∈ nss ↔ k ∈ gs) → Q (nss.map dT) δ w) : dfSortSet d δ w Q := h _ (.inr ⟨gs, .inl rfl, hl, q⟩)
theorem sortSet_r {Q : List D → DEnv → L.W → Prop} (h : d δ w fun x δ' w' => (∃ zs : List Str, (x = .lst (zs.map .str) ∨ x = .tup (zs.map .str)) ∧ zs.length < 64 ∧ ∀ ns : List Str, sortedS ns = true → ns.Nodup → (∀ k, k ∈ ns ↔ k ∈ zs) → Q (ns.map .str) δ' w') ∨
    ∃ zss : List (List Str), (x = .lst (zss.map dT) ∨ x = .tup (zss.map dT)) ∧ zss.length < 64 ∧ ∀ nss : List (List Str), nss.Pairwise (fun a b => lexS b a = false) → nss.Nodup → (∀ k, k ∈ nss ↔ k ∈ zss) → Q (nss.map dT) δ' w') : dfSortSet d δ w Q := h
theorem parVO_r (h : a δ w fun x δ1 w1 => da δ1 w1 fun l δ' w' => i ≠ j ∧ i < δ'.length ∧ j < δ'.length ∧ r E ((δ'.set i (.val x)).set j (.own (.lst l))) w') : dsSeq (dsParVO i j a da) r E δ w := h
end
end Dl
set_option maxRecDepth 100000
set_option maxHeartbeats 2000000
namespace Dl
open PySem PySem.Spec PyProof.Rows L2 Lk

/-! ### whole numbers of any size, as texts -/
theorem str_len_of (s : String) : (Str.ofString s).length = s.toList.length := by
  show (Str.ofString s).cps.size = _
  rw [← Array.length_toList, Str.ofString_eq_toList, List.length_map]
theorem nat_len {n k : Nat} (hk : 1 ≤ k) (h : n < 10 ^ k) : (Nat.repr n).toList.length ≤ k := by
  show (String.ofList (Nat.toDigits 10 n)).toList.length ≤ k
  rw [String.toList_ofList]
  exact digits10_le hk h
theorem int_len {i : Int} {k : Nat} (hk : 1 ≤ k) (h : i.natAbs < 10 ^ k) : (PyData.int i).shown.length ≤ k + 1 := by
  rw [PyData.shown_int]
  show (Str.ofString (toString i)).length ≤ k + 1
  rw [str_len_of]
  cases i with
  | ofNat n => exact Nat.le_succ_of_le (nat_len hk h)
  | negSucc n =>
    show ("-" ++ Nat.repr (n + 1)).toList.length ≤ k + 1
    rw [String.toList_append, List.length_append]
    have := nat_len (n := n + 1) hk h
    have e : "-".toList.length = 1 := by decide
    omega
theorem sh_big {i : Int} (h : i.natAbs < 10 ^ 60) : Sh (.int i) 70 1 := by
  refine sh_int ?_ (Nat.le_trans (int_len (k := 60) (by decide) h) (by decide))
  show decide (i.natAbs.log2 < 1920) = true
  rw [decide_eq_true_eq]
  by_cases c : i.natAbs = 0
  · rw [c]; decide
  · rw [Nat.log2_lt c]
    exact Nat.lt_of_lt_of_le h (by decide +kernel)
section
variable {L : Wd} {δ : DEnv} {w : L.W} {a : DE L} {da : DA L} {i j : Nat} {E : DEnds L} {r : DS L} {x : D}
theorem s_parOV {l : List D} (h : EvA da δ w l) (h1 : Ev a δ w x) (n : i ≠ j) (hi : i < δ.length) (hj : j < δ.length) (q : r E ((δ.set j (.val x)).set i (.own (.lst l))) w) : dsSeq (dsParOV i j da a) r E δ w := h _ (h1 _ ⟨n, hi, hj, q⟩)
theorem if_st {t : DT L} {a b : DS L} (h : t δ w fun c δ' w' => if c = true then a E δ' w' else b E δ' w') : dsIf t a b E δ w := h
theorem neNil_r {k : D → Prop} (h : k (.bl false)) : dNe (.lst []) (.lst []) k := ⟨rfl, rfl, h⟩
/-- tuple(e for x in xs), that changes nothing -/
theorem Ev.tupGM {it : DA L} {e : DE L} {α : Type} {emb : α → D} {zs : List α} {f : α → D} (hit : EvA it δ w (zs.map emb)) (hi : i < δ.length) (no : ∀ d, δ[i]? ≠ some (DV.own d)) (hl : zs.length ≤ sizeLine) (he : ∀ x ∈ zs, Ev e (δ.set i (.val (emb x))) w (f x)) : Ev (deTupG [i] it (dgName i) dtYes e) δ w (.tup (zs.map f)) := fun Q q => by
  refine hit _ ⟨fun j hj d => by rw [List.mem_singleton.mp hj]; exact no d, ?_⟩
  have key : ∀ (ys : List α) (acc : List D), (∀ x ∈ ys, Ev e (δ.set i (.val (emb x))) w (f x)) → acc.length + ys.length ≤ sizeLine → Q (.tup (acc ++ ys.map f)) δ w → dGen [i] (dgName i) dtYes e dcTup (fun acc δ w => acc.length ≤ sizeLine ∧ Q (.tup acc) δ w) (ys.map emb) acc δ w := fun ys => by
    induction ys with
    | nil =>
      intro acc _ h q
      rw [List.map_nil, List.append_nil] at q
      exact ⟨by simpa using h, q⟩
    | cons x ys ih =>
      intro acc h h2 q
      rw [List.length_cons] at h2
      refine ⟨by rw [wipeD_length]; exact hi, ?_⟩
      rw [wipe_set]
      refine h x (List.mem_cons_self ..) _ ⟨by omega, ?_⟩
      rw [mix_set]
      refine ih _ (fun y hy => h y (List.mem_cons_of_mem _ hy)) (by rw [List.length_append, List.length_singleton]; omega) ?_
      rw [List.append_assoc]
      exact q
  exact key zs [] he (by simpa using hl) q
/-- a comparison of two texts of the same data -/
theorem Ev.same {b : DE L} {n m : Nat} (h : Ev a δ w x) (h2 : Ev b δ w x) (s : Sh x n m) (hn : n ≤ 1000000 := by decide) (hm : m ≤ 30 := by decide) : Ev (deOp dEq (deCB dRepr (daCons a daNil)) (deCB dRepr (daCons b daNil))) δ w (.bl true) :=
  Ev.eq (x := .str x.py.shown) (y := .str x.py.shown) (n := 0) (m := 0) (Ev.repr h (s.showOk hm) (Nat.le_trans s.le (sz hn))) (Ev.repr h2 (s.showOk hm) (Nat.le_trans s.le (sz hn))) s.tx s.tx rfl rfl (by simp)
theorem Ev.nsame {b : DE L} {n m : Nat} (h : Ev a δ w x) (h2 : Ev b δ w x) (s : Sh x n m) (hn : n ≤ 1000000 := by decide) (hm : m ≤ 30 := by decide) : Ev (deOp dNe (deCB dRepr (daCons a daNil)) (deCB dRepr (daCons b daNil))) δ w (.bl false) :=
  Ev.ne (x := .str x.py.shown) (y := .str x.py.shown) (n := 0) (m := 0) (Ev.repr h (s.showOk hm) (Nat.le_trans s.le (sz hn))) (Ev.repr h2 (s.showOk hm) (Nat.le_trans s.le (sz hn))) s.tx s.tx rfl rfl (by simp)
end
section
variable {KF : PySem.W.Frag} {K : Deck} {Ts : List Addr} {δ : DEnv} {p c : Addr} {n : Nat}
theorem e_drawL {da : DA (wd KF K Ts)} {m : Nat} {Q : D → DEnv → (wd KF K Ts).W → Prop} (h : EvA da δ (DW.run p c n) [.ref p, .int m]) (hn : n < 1000000) (h0 : 0 < m) (hm : m < 2 ^ 200) (q : ∀ r : Nat, r < m → Q (.int r) δ (DW.run p c (n + 1))) : deCall fDraw da δ (DW.run p c n) Q :=
  h _ ⟨p, c, n, m, rfl, rfl, by omega, by omega, hm, fun r h0 h1 => by
    obtain ⟨r, rfl⟩ := Int.eq_ofNat_of_zero_le h0
    exact q r (by omega)⟩
end
end Dl
set_option maxRecDepth 100000
set_option maxHeartbeats 2000000
namespace Dl
open PySem PySem.Spec PyProof.Rows L2 Lk

/-! ### names -/
def NmOk (z : Str) : Prop := 1 ≤ z.cps.toList.length ∧ z.cps.toList.length ≤ 6 ∧ ∀ x ∈ z.cps.toList, 97 ≤ x ∧ x ≤ 122
theorem NmOk.ok {z : Str} (h : NmOk z) : PyData.strOk z = true := by
  show z.cps.all (· < 0x110000) = true
  rw [Array.all_eq_true_iff_forall_mem]
  intro x hx
  have := h.2.2 x (Array.mem_toList_iff.mpr hx)
  simp
  omega
theorem NmOk.len {z : Str} (h : NmOk z) : z.length ≤ 6 := h.2.1
def abc : Str := "abcdefghijklmnopqrstuvwxyz"
def rotS (st : Nat) : Str := cutS abc (some (st : Int)) none ++ cutS abc none (some (st : Int))
theorem rot_cps (st : Nat) (h : st < 26) : (rotS st).cps.toList = (List.range 26).map fun k => 97 + (st + k) % 26 := by
  have key : ∀ st, st < 26 → (rotS st).cps.toList = (List.range 26).map fun k => 97 + (st + k) % 26 := by decide +kernel
  exact key st h
theorem rot_at {st k : Nat} (h : st < 26) (hk : k < 26) : (rotS st).cps.toList[k]? = some (97 + (st + k) % 26) := by
  rw [rot_cps st h, List.getElem?_map, List.getElem?_range hk]
  rfl
theorem rot_len {st : Nat} (h : st < 26) : (rotS st).length = 26 := by
  have e := congrArg List.length (rot_cps st h)
  rw [List.length_map, List.length_range, Array.length_toList] at e
  exact e
def rot5 (st : Nat) : Str := cutS (rotS st) (some 3) (some 8)
theorem rot5_cps (st : Nat) (h : st < 26) : (rot5 st).cps.toList = (List.range 5).map fun k => 97 + (st + 3 + k) % 26 := by
  have key : ∀ st, st < 26 → (rot5 st).cps.toList = (List.range 5).map fun k => 97 + (st + 3 + k) % 26 := by decide +kernel
  exact key st h
/-- the k-th name -/
def nmS (way st k : Nat) : Str :=
  if way = 0 then ⟨#[97 + (st + k) % 26]⟩ else if way = 1 then Txt.mul ⟨#[97 + (st + k / 6) % 26]⟩ ((1 + k % 6 : Nat) : Int) else rot5 st ++ ⟨#[97 + (st + k) % 26]⟩
theorem nmS_cps {way st k : Nat} (h : st < 26) : (nmS way st k).cps.toList = if way = 0 then [97 + (st + k) % 26] else if way = 1 then List.replicate (1 + k % 6) (97 + (st + k / 6) % 26) else (List.range 5).map (fun k => 97 + (st + 3 + k) % 26) ++ [97 + (st + k) % 26] := by
  unfold nmS
  by_cases h0 : way = 0
  · rw [if_pos h0, if_pos h0]
  · rw [if_neg h0, if_neg h0]
    by_cases h1 : way = 1
    · rw [if_pos h1, if_pos h1, mul_cps1 _ (by omega) (by omega)]
    · rw [if_neg h1, if_neg h1, app_cps, rot5_cps st h]
theorem nmS_ok {way st k : Nat} (h : st < 26) : NmOk (nmS way st k) := by
  unfold NmOk
  rw [nmS_cps h]
  by_cases h0 : way = 0
  · rw [if_pos h0]
    refine ⟨Nat.le_refl _, by simp, fun x hx => ?_⟩
    rw [List.mem_singleton.mp hx]
    omega
  · rw [if_neg h0]
    by_cases h1 : way = 1
    · rw [if_pos h1, List.length_replicate]
      refine ⟨by omega, by omega, fun x hx => ?_⟩
      rw [(List.mem_replicate.mp hx).2]
      omega
    · rw [if_neg h1]
      refine ⟨by simp, by simp, fun x hx => ?_⟩
      rcases List.mem_append.mp hx with hx | hx
      · obtain ⟨j, _, rfl⟩ := List.mem_map.mp hx
        omega
      · rw [List.mem_singleton.mp hx]
        omega
theorem nmS_inj {way st k k' : Nat} (h : st < 26) (hk : k < 26) (hk' : k' < 26) (e : nmS way st k = nmS way st k') : k = k' := by
  have e := congrArg (fun z : Str => z.cps.toList) e
  simp only [nmS_cps h] at e
  have key : (97 + (st + k) % 26) = 97 + (st + k') % 26 → k = k' := fun z => by omega
  by_cases h0 : way = 0
  · rw [if_pos h0, if_pos h0] at e
    exact key (List.cons.inj e).1
  · rw [if_neg h0, if_neg h0] at e
    by_cases h1 : way = 1
    · rw [if_pos h1, if_pos h1] at e
      have l := congrArg List.length e
      rw [List.length_replicate, List.length_replicate] at l
      rw [l] at e
      have m : (97 + (st + k / 6) % 26) ∈ List.replicate (1 + k' % 6) (97 + (st + k' / 6) % 26) := by
        rw [← e]
        exact List.mem_replicate.mpr ⟨by omega, rfl⟩
      have m2 := (List.mem_replicate.mp m).2
      omega
    · rw [if_neg h1, if_neg h1] at e
      exact key (List.cons.inj (List.append_cancel_left e)).1
section
variable {KF : PySem.W.Frag} {K : Deck} {Ts : List Addr}
/-- _law_pick -/
def gPick : Addr → List D → (D → Prop) → Prop := fun p ds X => ∃ x, ds = [.ref p, x] ∧ ∃ l, (x = .lst l ∨ x = .tup l) ∧ l ≠ [] ∧ l.length ≤ 1000000 ∧ ∀ y ∈ l, X y
theorem sp_pick : ∀ ds (w : (wd KF K Ts).W) R, fRnd 1 gPick ds w R → dfOf 2 2 (m_l_pick (L := wd KF K Ts) fDraw) ds w R := by
  rintro ds w R ⟨p, c, n, X, rfl, hn, ⟨x, rfl, l, hx, hne, hl, hX⟩, q⟩
  refine ⟨rfl, ?_⟩
  have el : Ev (L := wd KF K Ts) (deCB dLen (daCons (deVar 1) daNil)) [.val (.ref p), .val x] (DW.run p c n) (.int l.length) := by
    rcases hx with rfl | rfl
    · exact Ev.len (Ev.var rfl)
    · exact Ev.lenT (Ev.var rfl)
  refine e_draw (m := l.length) (EvA.cons (Ev.var (i := 0) rfl) (EvA.cons el EvA.nil)) (by omega) (List.length_pos_iff.mpr hne) hl fun r hr => ?_
  have e := List.getElem?_eq_getElem hr
  have qq := q (l[r]) (n + 1) (by omega) (by omega) (hX _ (List.getElem_mem hr))
  rcases hx with rfl | rfl
  · exact ⟨l[r], atI_nat e, qq⟩
  · exact ⟨l[r], atI_nat e, qq⟩
/-- _law_names -/
def gNames : Addr → List D → (D → Prop) → Prop := fun p ds X => ∃ cnt : Nat, ds = [.ref p, .int cnt] ∧ cnt ≤ 26 ∧ ∀ ns : List Str, ns.length = cnt → ns.Nodup → (∀ z ∈ ns, NmOk z) → X (.lst (ns.map .str))
theorem sp_names : ∀ ds (w : (wd KF K Ts).W) R, fRnd 2 gNames ds w R → dfOf 2 7 (m_l_names (L := wd KF K Ts) fDraw) ds w R := by
  rintro ds w R ⟨p, c, n, X, rfl, hn, ⟨cnt, rfl, hc, hX⟩, q⟩
  refine ⟨rfl, ?_⟩
  refine par2_r (cons_r (x := .str abc) Ev.con (cons1_r (e_draw (m := 3) (EvA.cons (Ev.var (i := 0) rfl) (EvA.cons Ev.con EvA.nil)) (by omega) (by decide) (by decide) fun way hway => nil_r ⟨_, _, rfl, by simp, by simp, ?_⟩)))
  refine set_r (e_draw (m := 26) (n := n + 1) (EvA.cons (Ev.var (i := 0) rfl) (EvA.cons Ev.con EvA.nil)) (by omega) (by decide) (by decide) fun st hst => ⟨by simp, ?_⟩)
  have al : abc.length = 26 := by decide +kernel
  refine s_set (x := .str (rotS st)) (Ev.addS (Ev.slS (z := abc) (Ev.var (i := 2) rfl) (EvO.some (Ev.var (i := 4) (x := .int st) rfl)) EvO.none (by rw [al]; exact sz)) (Ev.slS (z := abc) (Ev.var (i := 2) rfl) EvO.none (EvO.some (Ev.var (i := 4) (x := .int st) rfl)) (by rw [al]; exact sz)) ?_) (by simp) ?_
  · have h1 := cutS_length abc (some (st : Int)) none
    have h2 := cutS_length abc none (some (st : Int))
    have h3 := sz (k := 52)
    omega
  have key : ∀ zs : List Str, zs = (List.range cnt).map (nmS way st) → ∀ n', n ≤ n' → n' ≤ n + 2 → R (.lst (zs.map .str)) (DW.run p c n') := fun zs e n' h1 h2 => by
    subst e
    refine q _ _ h1 h2 (hX _ (by simp) ?_ fun z hz => ?_)
    · refine nodup_map_on (fun a ha b hb hab => nmS_inj hst ?_ ?_ hab) List.nodup_range
      · have := List.mem_range.mp ha; omega
      · have := List.mem_range.mp hb; omega
    · obtain ⟨k, hk, rfl⟩ := List.mem_map.mp hz
      exact nmS_ok hst
  have rl := rot_len hst
  refine s_ifn (c := decide ((way : Int) = 0)) (EvT.of (Ev.eqI (Ev.var (i := 3) rfl) Ev.con)) (fun h0 => ?_) fun h0 => ?_
  · have h0 : way = 0 := by simpa using h0
    have hs := Ev.slL (L := wd KF K Ts) (w := DW.run p c (n + 1 + 1)) (δ := [.val (.ref p), .val (.int cnt), .val (.str abc), .val (.int way), .val (.int st), .val (.str (rotS st)), .no]) (a := deF (dfCB dfListX (daCons (deVar 5) daNil))) (xs := ((rotS st).cps.toList.map fun c => (⟨#[c]⟩ : Str)).map .str) (lo := dpNone) (hi := dpSome (deVar 1)) (Ev.F (EvA.fcb (EvA.cons (Ev.var (i := 5) rfl) EvA.nil) fun k q => .inr ⟨rotS st, rfl, by rw [rl]; exact sz, q⟩)) EvO.none (EvO.some (Ev.var (i := 1) (x := .int cnt) rfl))
    rw [cut_take] at hs
    refine s_ret hs (key _ ?_ _ (by omega) (by omega))
    rw [rot_cps st hst, List.map_map, ← List.map_take, List.take_range, Nat.min_eq_left hc]
    refine List.map_congr_left fun k _ => ?_
    unfold nmS
    rw [if_pos h0]
    rfl
  have h0 : way ≠ 0 := by simpa using h0
  refine s_ifn (c := decide ((way : Int) = 1)) (EvT.of (Ev.eqI (Ev.var (i := 3) rfl) Ev.con)) (fun h1 => ?_) fun h1 => ?_
  · have h1 : way = 1 := by
      have z := of_decide_eq_true h1
      omega
    refine s_ret (Ev.F (xs := ((List.range cnt).map (nmS way st)).map .str) ?_) (key _ rfl _ (by omega) (by omega))
    rw [List.map_map]
    refine EvA.mapM (emb := fun i : Nat => D.int (i : Nat)) (f := D.str ∘ nmS way st) (EvA.range (Ev.var rfl) (by omega)) (by simp) (by simp) (sz (by rw [List.length_range]; omega)) fun k hk => ?_
    have hk := List.mem_range.mp hk
    have e1 : Ev (L := wd KF K Ts) (deOp dDiv (deVar 6) (deC (.int 6))) [.val (.ref p), .val (.int cnt), .val (.str abc), .val (.int way), .val (.int st), .val (.str (rotS st)), .val (.int k)] (DW.run p c (n + 1 + 1)) (.int ((k / 6 : Nat) : Int)) := by
      have z := Ev.divI (L := wd KF K Ts) (w := DW.run p c (n + 1 + 1)) (δ := [.val (.ref p), .val (.int cnt), .val (.str abc), .val (.int way), .val (.int st), .val (.str (rotS st)), .val (.int k)]) (Ev.var (i := 6) (x := .int k) rfl) (Ev.con (x := .int 6)) (by decide) (sm_nat (m := 6) (by decide))
      exact_mod_cast z
    have e2 : Ev (L := wd KF K Ts) (deOp dAdd (deC (.int 1)) (deOp dMod (deVar 6) (deC (.int 6)))) [.val (.ref p), .val (.int cnt), .val (.str abc), .val (.int way), .val (.int st), .val (.str (rotS st)), .val (.int k)] (DW.run p c (n + 1 + 1)) (.int ((1 + k % 6 : Nat) : Int)) := by
      have z := Ev.addI (L := wd KF K Ts) (w := DW.run p c (n + 1 + 1)) (δ := [.val (.ref p), .val (.int cnt), .val (.str abc), .val (.int way), .val (.int st), .val (.str (rotS st)), .val (.int k)]) (Ev.con (x := .int 1)) (Ev.modI (Ev.var (i := 6) (x := .int k) rfl) (Ev.con (x := .int 6)) (by decide))
      exact_mod_cast z
    refine Ev.op (Ev.ixS (Ev.var (i := 5) (x := .str (rotS st)) rfl) e1 (by rw [rl]; decide) (rot_at hst (by omega))) e2 fun Q q => ⟨mul_ok1 (by omega) (by omega), ?_⟩
    show Q (.str (Txt.mul _ _))
    have e3 : nmS way st k = Txt.mul ⟨#[97 + (st + k / 6) % 26]⟩ ((1 + k % 6 : Nat) : Int) := by
      unfold nmS
      rw [if_neg h0, if_pos h1]
    rw [← e3]
    exact q
  · have h1 : way ≠ 1 := fun z => absurd h1 (by rw [z]; decide)
    refine s_ret (Ev.F (xs := ((List.range cnt).map (nmS way st)).map .str) ?_) (key _ rfl _ (by omega) (by omega))
    rw [List.map_map]
    refine EvA.mapM (emb := fun i : Nat => D.int (i : Nat)) (f := D.str ∘ nmS way st) (EvA.range (Ev.var rfl) (by omega)) (by simp) (by simp) (sz (by rw [List.length_range]; omega)) fun k hk => ?_
    have hk := List.mem_range.mp hk
    have e3 : nmS way st k = rot5 st ++ ⟨#[97 + (st + k) % 26]⟩ := by
      unfold nmS
      rw [if_neg h0, if_neg h1]
    show Ev _ _ _ (.str (nmS way st k))
    rw [e3]
    refine Ev.addS (Ev.slS (z := rotS st) (Ev.var (i := 5) rfl) (EvO.some Ev.con) (EvO.some Ev.con) (by rw [rl]; exact sz)) (Ev.ixS (Ev.var (i := 5) (x := .str (rotS st)) rfl) (Ev.var (i := 6) (x := .int k) rfl) (by rw [rl]; decide) (rot_at hst (by omega))) ?_
    have l5 := cutS_length (rotS st) (some 3) (some 8)
    have l6 := sz (k := 27)
    show (cutS (rotS st) (some 3) (some 8)).length + 1 ≤ sizeLine
    omega
end
end Dl
set_option maxRecDepth 100000
set_option maxHeartbeats 2000000
namespace Dl
open PySem PySem.Spec PyProof.Rows L2 Lk

/-! ### sets of names -/
def subS (xs ys : List Str) : Bool := xs.all fun z => decide (z ∈ ys)
theorem subS_iff {xs ys : List Str} : subS xs ys = true ↔ ∀ z ∈ xs, z ∈ ys := by simp [subS]
def OkG (gs : List (List Str)) : Prop := ∀ g ∈ gs, OkS g ∧ g.length ≤ 1000
def bigger (gs : List (List Str)) (g : List Str) : List (List Str) := gs.filter fun h => !decide (h = g) && subS g h
def maxOf (gs : List (List Str)) : List (List Str) := gs.filter fun g => decide (bigger gs g = [])
theorem OkS.app {xs ys : List Str} (a : OkS xs) (b : OkS ys) : OkS (xs ++ ys) := fun z hz => (List.mem_append.mp hz).elim (a z) (b z)
/-- no observer set and two fault sets hold all -/
def stS (sv : List Str) (ob fl : List (List Str)) : Bool := ob.all fun g => fl.all fun a => fl.all fun b => !subS sv ((g ++ a) ++ b)
theorem stS_iff {sv : List Str} {ob fl : List (List Str)} : stS sv ob fl = true ↔ ∀ g ∈ ob, ∀ a ∈ fl, ∀ b ∈ fl, subS sv ((g ++ a) ++ b) = false := by simp [stS]
section
variable {L : Wd}
/-- _law_contains -/
def fCont : DF L := fun ds w R => ∃ a b xs ys, ds = [a, b] ∧ SeqS a xs ∧ SeqS b ys ∧ OkS xs ∧ OkS ys ∧ xs.length ≤ 1000000 ∧ R (.bl (subS xs ys)) w
theorem sp_contains : ∀ ds (w : L.W) R, fCont ds w R → dfOf 2 3 (m_l_contains (L := L)) ds w R := by
  rintro ds w R ⟨a, b, xs, ys, rfl, sa, sb, ox, oy, hl, q⟩
  refine ⟨rfl, s_ret (Ev.eq (n := 1) (m := 1) (x := .lst ((xs.filter fun z => !decide (z ∈ ys)).map .str)) (y := .lst []) ?_ (Ev.F (EvA.lst EvA.nil (Nat.zero_le _))) (fit_strs fun z hz => ox z (List.mem_filter.mp hz).1) rfl (nb_strs _) rfl ?_) q⟩
  · exact Ev.F (EvA.compM (emb := D.str) (f := D.str) (p := fun z => !decide (z ∈ ys)) (sa.seq (Ev.var rfl)) (by simp) (by simp) (sz hl) (fun x hx => EvT.of (Ev.ninS (Ev.var rfl) (Ev.var rfl) sb (ox x hx) oy)) fun x _ _ => Ev.var rfl)
  · rw [subS_iff]
    refine ⟨fun h => ?_, fun h z hz => ?_⟩
    · rw [List.filter_eq_nil_iff.mpr fun z hz => by simp [h z hz]]
      rfl
    · have e : (xs.filter fun z => !decide (z ∈ ys)) = [] := List.map_eq_nil_iff.mp (D.lst.inj h)
      have := List.filter_eq_nil_iff.mp e z hz
      simpa using this
/-- _law_maximal -/
def fMaxS : DF L := fun ds w R => ∃ gs, ds = [.lst (gs.map dT)] ∧ OkG gs ∧ gs.length < 64 ∧ ∀ nss : List (List Str), nss.Pairwise (fun a b => lexS b a = false) → nss.Nodup → (∀ k, k ∈ nss ↔ k ∈ gs) → R (.tup ((maxOf nss).map dT)) w
theorem nodup_len {α : Type} [DecidableEq α] : ∀ {l m : List α}, l.Nodup → (∀ x ∈ l, x ∈ m) → l.length ≤ m.length
  | [], m, _, _ => Nat.zero_le _
  | x :: l, m, n, s => by
    obtain ⟨n1, n2⟩ := List.nodup_cons.mp n
    have hx := s x List.mem_cons_self
    have ih := nodup_len (l := l) (m := m.erase x) n2 fun y hy => (List.mem_erase_of_ne (by rintro rfl; exact n1 hy)).mpr (s y (List.mem_cons_of_mem _ hy))
    have e := List.length_erase_of_mem hx
    have p := List.length_pos_of_mem hx
    rw [List.length_cons]
    omega
theorem sp_maximal : ∀ ds (w : L.W) R, fMaxS ds w R → dfOf 1 5 (m_l_maximal (L := L) fCont) ds w R := by
  rintro ds w R ⟨gs, rfl, ok, hl, q⟩
  refine ⟨rfl, ?_⟩
  refine parVO_r (F_r (sortGs_r (Ev.var rfl) hl fun nss hs hn hm => ?_))
  have q := q nss hs hn hm
  have okn : ∀ g ∈ nss, OkS g ∧ g.length ≤ 1000 := fun g hg => ok g ((hm g).mp hg)
  have ln : nss.length ≤ 64 := Nat.le_trans (nodup_len hn fun x hx => (hm x).mp hx) (Nat.le_of_lt hl)
  refine (EvA.lst EvA.nil (Nat.zero_le _) : EvA (L := L) (dfLst daNil) _ _ []) _ ⟨by decide, by simp, by simp, ?_⟩
  refine s_forS (emb := dT) (zs := nss) (EvA.seqL (Ev.var rfl)) (fun j δ w' => ∃ b c, (∀ d, c ≠ DV.own d) ∧ δ = [.val (.lst (gs.map dT)), .val (.lst (nss.map dT)), .own (.lst (((nss.take j).filter fun g => decide (bigger nss g = [])).map dT)), b, c] ∧ w' = w) ⟨.no, .no, by simp, rfl, rfl⟩ (fun j x δ w' hx hI N hN => ?_) (fun δ w' hI => ?_)
  · obtain ⟨b, c, hc0, rfl, rfl⟩ := hI
    have hxm : x ∈ nss := List.mem_of_getElem? hx
    have hxo := (okn x hxm).1
    have tk : nss.take (j + 1) = nss.take j ++ [x] := by rw [List.take_add_one, hx]; rfl
    have hlj : (((nss.take j).filter fun g => decide (bigger nss g = [])).map dT).length < sizeLine := by
      rw [List.length_map]
      have h1 := List.length_filter_le (fun g => decide (bigger nss g = [])) (nss.take j)
      have h2 : (nss.take j).length ≤ j := List.length_take_le _ _
      have h3 := (List.getElem?_eq_some_iff.mp hx).1
      have h5 := sz (k := 1001)
      omega
    refine ⟨by simp, s_if (c := decide (bigger nss x = [])) (EvT.of ?_) (fun hc => ?_) fun hc => ?_⟩
    · have h1 : Ev (L := L) (deF (dfLc [4] (diSeq (deVar 1)) (dgName 4) (dtAnd (dtOf (deOp dNe (deVar 4) (deVar 3))) (dtOf (deCall fCont (daCons (deVar 3) (daCons (deVar 4) daNil))))) (deVar 4))) [.val (.lst (gs.map dT)), .val (.lst (nss.map dT)), .own (.lst (((nss.take j).filter fun g => decide (bigger nss g = [])).map dT)), .val (dT x), c] w' (.lst ((bigger nss x).map dT)) := by
        have h := EvA.compM (L := L) (w := w') (δ := [.val (.lst (gs.map dT)), .val (.lst (nss.map dT)), .own (.lst (((nss.take j).filter fun g => decide (bigger nss g = [])).map dT)), .val (dT x), c]) (i := 4) (emb := dT) (f := dT) (zs := nss) (it := diSeq (deVar 1)) (e := deVar 4) (t := dtAnd (dtOf (deOp dNe (deVar 4) (deVar 3))) (dtOf (deCall fCont (daCons (deVar 3) (daCons (deVar 4) daNil))))) (p := fun h => !decide (h = x) && subS x h) (EvA.seqL (Ev.var rfl)) (by simp) (by simpa using hc0) (sz (by omega)) (fun h hh => ?_) fun h hh _ => Ev.var rfl
        · exact Ev.F h
        · exact EvT.and (EvT.of (Ev.neT (Ev.var rfl) (Ev.var rfl) (okn h hh).1 hxo)) fun _ => EvT.of (Ev.call (EvA.cons (Ev.var rfl) (EvA.cons (Ev.var rfl) EvA.nil)) fun R r => ⟨_, _, x, h, rfl, .inr rfl, .inr rfl, hxo, (okn h hh).1, by have := (okn x hxm).2; omega, r⟩)
      have h2 := Ev.eqNil h1 (Ev.F (EvA.lst EvA.nil (Nat.zero_le _))) (n := 1) (fit_tups fun g hg => (okn g (List.mem_filter.mp hg).1).1) (nb_tups _)
      have e : decide ((bigger nss x).map dT = []) = decide (bigger nss x = []) := by simp
      rw [e] at h2
      exact h2
    · refine s_app (i := 2) (x := dT x) (Ev.var rfl) rfl hlj (hN _ _ ⟨.val (dT x), c, hc0, ?_, rfl⟩)
      rw [tk, List.filter_append, List.filter_cons_of_pos (by exact hc)]
      simp
    · refine hN _ _ ⟨.val (dT x), c, hc0, ?_, rfl⟩
      rw [tk, List.filter_append, List.filter_cons_of_neg (by rw [hc]; decide)]
      simp
  · obtain ⟨b, c, hc0, rfl, rfl⟩ := hI
    rw [List.take_length]
    refine s_frz (i := 2) rfl ?_
    exact s_ret (Ev.tupL (Ev.var (i := 2) rfl)) q
/-- _law_supports_storage -/
def fSt : DF L := fun ds w R => ∃ (sv : List Str) (ob fl : List (List Str)), ds = [dT sv, .tup (ob.map dT), .tup (fl.map dT)] ∧ OkS sv ∧ sv.length ≤ 1000 ∧ OkG ob ∧ OkG fl ∧ R (.bl (stS sv ob fl)) w
theorem sp_stores : ∀ ds (w : L.W) R, fSt ds w R → dfOf 3 6 (m_l_supports_storage (L := L) fCont) ds w R := by
  rintro ds w R ⟨sv, ob, fl, rfl, osv, hsv, ook, fok, q⟩
  refine ⟨rfl, ?_⟩
  have no : ∀ g ∈ ob, ∀ a ∈ fl, ∀ b ∈ fl, subS sv ((g ++ a) ++ b) = true → R (.bl false) w := fun g hg a ha b hb e => by
    have z : stS sv ob fl = false := by
      rw [Bool.eq_false_iff]
      intro z
      rw [stS_iff.mp z g hg a ha b hb] at e
      cases e
    rw [z] at q
    exact q
  refine s_forS (emb := dT) (zs := ob) (EvA.seqT (Ev.var rfl)) (fun j δ w' => (∃ b c d, δ = [.val (dT sv), .val (.tup (ob.map dT)), .val (.tup (fl.map dT)), b, c, d] ∧ w' = w) ∧ ∀ g ∈ ob.take j, ∀ a ∈ fl, ∀ b ∈ fl, subS sv ((g ++ a) ++ b) = false) ⟨⟨.no, .no, .no, rfl, rfl⟩, fun g z => by simp at z⟩ (fun j x δ w' hx hI N hN => ?_) (fun δ w' hI => ?_)
  · obtain ⟨⟨b, c, d, rfl, rfl⟩, old⟩ := hI
    refine ⟨by simp, ?_⟩
    have mx := List.mem_of_getElem? hx
    have tkx : ob.take (j + 1) = ob.take j ++ [x] := by rw [List.take_add_one, hx]; rfl
    have hx := ook x mx
    refine s_for (emb := dT) (zs := fl) (EvA.seqT (Ev.var rfl)) (fun j δ w'' => (∃ c d, δ = [.val (dT sv), .val (.tup (ob.map dT)), .val (.tup (fl.map dT)), .val (dT x), c, d] ∧ w'' = w') ∧ ∀ a ∈ fl.take j, ∀ b ∈ fl, subS sv ((x ++ a) ++ b) = false) ⟨⟨c, d, rfl, rfl⟩, fun g z => by simp at z⟩ (fun j y δ w'' hy hI N hN => ?_) (fun δ w'' hI => ?_)
    · obtain ⟨⟨c, d, rfl, rfl⟩, old2⟩ := hI
      refine ⟨by simp, ?_⟩
      have my := List.mem_of_getElem? hy
      have tky : fl.take (j + 1) = fl.take j ++ [y] := by rw [List.take_add_one, hy]; rfl
      have hy := fok y my
      refine s_for (emb := dT) (zs := fl) (EvA.seqT (Ev.var rfl)) (fun j δ w => (∃ d, δ = [.val (dT sv), .val (.tup (ob.map dT)), .val (.tup (fl.map dT)), .val (dT x), .val (dT y), d] ∧ w = w'') ∧ ∀ b ∈ fl.take j, subS sv ((x ++ y) ++ b) = false) ⟨⟨d, rfl, rfl⟩, fun g z => by simp at z⟩ (fun j z δ w hz hI N hN => ?_) (fun δ w hI => ?_)
      · obtain ⟨⟨d, rfl, rfl⟩, old3⟩ := hI
        refine ⟨by simp, ?_⟩
        have mz := List.mem_of_getElem? hz
        have tkz : fl.take (j + 1) = fl.take j ++ [z] := by rw [List.take_add_one, hz]; rfl
        have hz := fok z mz
        refine s_if (c := subS sv ((x ++ y) ++ z)) (EvT.of (Ev.call (EvA.cons (Ev.var rfl) (EvA.cons (Ev.addTS (Ev.addTS (Ev.var rfl) (Ev.var rfl) (by omega)) (Ev.var rfl) (by rw [List.length_append]; omega)) EvA.nil)) fun R r => ⟨_, _, sv, _, rfl, .inr rfl, .inr rfl, osv, (hx.1.app hy.1).app hz.1, by omega, r⟩)) (fun hc => ?_) fun hc => ?_
        · exact s_ret Ev.con (no x mx y my z mz hc)
        · refine hN _ _ ⟨⟨_, rfl, rfl⟩, fun b hb => ?_⟩
          rw [tkz] at hb
          rcases List.mem_append.mp hb with hb | hb
          · exact old3 b hb
          · rw [List.mem_singleton.mp hb]
            exact hc
      · obtain ⟨⟨d, rfl, rfl⟩, old3⟩ := hI
        rw [List.take_length] at old3
        refine hN _ _ ⟨⟨_, _, rfl, rfl⟩, fun a ha => ?_⟩
        rw [tky] at ha
        rcases List.mem_append.mp ha with ha | ha
        · exact old2 a ha
        · rw [List.mem_singleton.mp ha]
          exact old3
    · obtain ⟨⟨c, d, rfl, rfl⟩, old2⟩ := hI
      rw [List.take_length] at old2
      refine hN _ _ ⟨⟨_, _, _, rfl, rfl⟩, fun g hg => ?_⟩
      rw [tkx] at hg
      rcases List.mem_append.mp hg with hg | hg
      · exact old g hg
      · rw [List.mem_singleton.mp hg]
        exact old2
  · obtain ⟨⟨b, c, d, rfl, rfl⟩, old⟩ := hI
    rw [List.take_length] at old
    have z : stS sv ob fl = true := stS_iff.mpr old
    rw [z] at q
    exact s_ret Ev.con q
end
section
variable {KF : PySem.W.Frag} {K : Deck} {Ts : List Addr}
/-- _law_sample -/
def gSample : Addr → List D → (D → Prop) → Prop := fun p ds X => ∃ (zs : List Str) (m : Nat), ds = [.ref p, dT zs, .int m] ∧ zs.length ≤ 5 ∧ 0 < m ∧ m ≤ 1000 ∧ ∀ ys, ys.Sublist zs → X (dT ys)
theorem sp_sample : ∀ ds (w : (wd KF K Ts).W) R, fRnd 5 gSample ds w R → dfOf 3 4 (m_l_sample (L := wd KF K Ts) fDraw) ds w R := by
  rintro ds w R ⟨p, c, n, X, rfl, hn, ⟨zs, m, rfl, hl, m0, m1, hX⟩, q⟩
  refine ⟨rfl, ?_⟩
  have ez : EvA (L := wd KF K Ts) (diSeq (deVar 1)) [.val (.ref p), .val (dT zs), .val (.int m), .no] (DW.run p c n) (zs.map .str) := EvA.seqT (Ev.var rfl)
  refine ret_r (tupF_r (comp_r ez (by simp) ?_))
  refine comp_indM (emb := D.str) (by simp) (fun j acc w' => ∃ ys, acc = ys.map D.str ∧ ys.Sublist (zs.take j) ∧ w' = DW.run p c (n + j)) (fun j x acc w hx hI Y N hY hN => ?_) (fun acc w hI => ?_) (fun j acc w hI => ?_) (sz (by omega)) ⟨[], rfl, by simp, rfl⟩
  · obtain ⟨ys, rfl, hs, rfl⟩ := hI
    have hj := (List.getElem?_eq_some_iff.mp hx).1
    have tk : zs.take (j + 1) = zs.take j ++ [x] := by rw [List.take_add_one, hx]; rfl
    refine e_draw (m := m) (n := n + j) (EvA.cons (Ev.var (i := 0) rfl) (EvA.cons (Ev.var (i := 2) rfl) EvA.nil)) (by omega) m0 (by omega) fun r hr => ?_
    refine con_r (eqI_r ?_)
    cases e : decide ((r : Int) = 0) with
    | true =>
      refine (Ev.var rfl : Ev (deVar 3) _ _ _) _ (hY _ _ ?_ ⟨ys ++ [x], by simp, ?_, rfl⟩)
      · rw [List.length_map]
        have h1 := hs.length_le
        have h2 : (zs.take j).length ≤ j := List.length_take_le _ _
        have := sz (k := 1000)
        omega
      · rw [tk]; exact hs.append (List.Sublist.refl _)
    | false =>
      refine hN _ ⟨ys, rfl, ?_, rfl⟩
      rw [tk]
      exact hs.trans (List.sublist_append_left _ _)
  · obtain ⟨ys, rfl, hs, rfl⟩ := hI
    rw [List.take_length] at hs
    exact q _ _ (by omega) (by omega) (hX ys hs)
  · obtain ⟨ys, rfl, hs, rfl⟩ := hI
    rw [List.length_map]
    exact Nat.le_trans hs.length_le (List.length_take_le _ _)
end
end Dl
set_option maxRecDepth 100000
set_option maxHeartbeats 2000000
namespace Dl
open PySem PySem.Spec PyProof.Rows L2 Lk

/-! ### sorted sets of names, and what is maximal among them -/
theorem Sublist.nmOk {xs ys : List Str} (s : xs.Sublist ys) (h : ∀ z ∈ ys, NmOk z) : ∀ z ∈ xs, NmOk z := fun z hz => h z (s.subset hz)
theorem okS_of {xs : List Str} (h : ∀ z ∈ xs, NmOk z) : OkS xs := fun z hz => (h z hz).ok
theorem okG_of {sv : List Str} {gs : List (List Str)} (h : ∀ z ∈ sv, NmOk z) (hl : sv.length ≤ 1000) (hs : ∀ g ∈ gs, g.Sublist sv) : OkG gs := fun g hg => ⟨okS_of (Sublist.nmOk (hs g hg) h), Nat.le_trans (hs g hg).length_le hl⟩
theorem asc_sub : ∀ {ys xs : List Str}, Asc xs → Asc ys → (∀ x ∈ xs, x ∈ ys) → xs.Sublist ys
  | [], xs, _, _, s => by
    cases xs with
    | nil => exact .slnil
    | cons x xs => exact absurd (s x List.mem_cons_self) (by simp)
  | y :: ys, [], _, _, _ => List.nil_sublist _
  | y :: ys, x :: xs, ax, ay, s => by
    obtain ⟨ax1, ax2⟩ := List.pairwise_cons.mp ax
    obtain ⟨ay1, ay2⟩ := List.pairwise_cons.mp ay
    by_cases e : x = y
    · subst e
      refine (asc_sub ax2 ay2 fun z hz => (List.mem_cons.mp (s z (List.mem_cons_of_mem _ hz))).resolve_left fun e => ?_).cons₂ x
      subst e
      exact asc_irr (ax1 _ hz)
    · refine (asc_sub ax ay2 fun z hz => (List.mem_cons.mp (s z hz)).resolve_left fun e2 => ?_).cons y
      subst e2
      have hx := (List.mem_cons.mp (s x List.mem_cons_self)).resolve_left e
      rcases List.mem_cons.mp hz with q | q
      · exact e q.symm
      · exact asc_irr (List.lt_trans (ay1 x hx) (ax1 z q))
/-- for sublists of a list without doubles: one in the other, and not shorter, is the same -/
theorem sub_same {s : List Str} (hs : s.Nodup) : ∀ {g h : List Str}, g.Sublist s → h.Sublist s → (∀ x ∈ g, x ∈ h) → g.length ≤ h.length ∧ (h.length ≤ g.length → g = h) := by
  induction s with
  | nil =>
    intro g h hg hh _
    rw [List.sublist_nil.mp hg, List.sublist_nil.mp hh]
    simp
  | cons a s ih =>
    intro g h hg hh hs2
    obtain ⟨na, ns⟩ := List.nodup_cons.mp hs
    rcases List.sublist_cons_iff.mp hg with hg1 | ⟨g', rfl, hg1⟩
    · rcases List.sublist_cons_iff.mp hh with hh1 | ⟨h', rfl, hh1⟩
      · exact ih ns hg1 hh1 hs2
      · have z := ih ns hg1 hh1 fun x hx => (List.mem_cons.mp (hs2 x hx)).resolve_left fun e => na (e ▸ hg1.subset hx)
        rw [List.length_cons]
        exact ⟨by omega, fun q => by omega⟩
    · rcases List.sublist_cons_iff.mp hh with hh1 | ⟨h', rfl, hh1⟩
      · exact absurd (hh1.subset (hs2 a (List.mem_cons_self ..))) na
      · have z := ih ns hg1 hh1 fun x hx => (List.mem_cons.mp (hs2 x (List.mem_cons_of_mem _ hx))).resolve_left fun e => na (e ▸ hg1.subset hx)
        rw [List.length_cons, List.length_cons]
        exact ⟨by omega, fun q => by rw [z.2 (by omega)]⟩
theorem bigger_nil {gs : List (List Str)} {g : List Str} : bigger gs g = [] ↔ ∀ h ∈ gs, h ≠ g → subS g h = false := by
  rw [bigger, List.filter_eq_nil_iff]
  simp only [Bool.and_eq_true, Bool.not_eq_true', decide_eq_false_iff_not, not_and, Bool.not_eq_true]
theorem subS_refl (g : List Str) : subS g g = true := subS_iff.mpr fun _ h => h
theorem subS_trans {a b c : List Str} (h : subS a b = true) (h2 : subS b c = true) : subS a c = true := subS_iff.mpr fun z hz => subS_iff.mp h2 z (subS_iff.mp h z hz)
theorem maxOf_sub {gs : List (List Str)} : ∀ g ∈ maxOf gs, g ∈ gs := fun g h => (List.mem_filter.mp h).1
theorem maxOf_max {gs : List (List Str)} {g : List Str} (h : g ∈ maxOf gs) : ∀ x ∈ maxOf gs, x ≠ g → subS g x = false := fun x hx ne => bigger_nil.mp (of_decide_eq_true (List.mem_filter.mp h).2) x (maxOf_sub x hx) ne
/-- each is within a maximal one -/
theorem maxOf_over {s : List Str} (hs : s.Nodup) {gs : List (List Str)} (hg : ∀ g ∈ gs, g.Sublist s) : ∀ (n : Nat) (g : List Str), s.length - g.length = n → g ∈ gs → ∃ m ∈ maxOf gs, subS g m = true := by
  intro n
  induction n using Nat.strongRecOn with
  | ind n ih =>
    intro g e hm
    by_cases c : bigger gs g = []
    · exact ⟨g, List.mem_filter.mpr ⟨hm, decide_eq_true c⟩, subS_refl g⟩
    · have : ∃ h ∈ gs, h ≠ g ∧ subS g h = true := by
        refine Classical.byContradiction fun z => c (bigger_nil.mpr fun h hh ne => ?_)
        cases q : subS g h with
        | false => rfl
        | true => exact absurd ⟨h, hh, ne, q⟩ z
      obtain ⟨h, hh, ne, sub⟩ := this
      have z := sub_same hs (hg g hm) (hg h hh) (subS_iff.mp sub)
      have l1 := (hg h hh).length_le
      have l2 : g.length < h.length := by
        rcases Nat.lt_or_ge g.length h.length with q | q
        · exact q
        · exact absurd (z.2 q).symm ne
      obtain ⟨m, hm2, sm⟩ := ih (s.length - h.length) (by omega) h rfl hh
      exact ⟨m, hm2, subS_trans sub sm⟩
theorem maxOf_ne {s : List Str} (hs : s.Nodup) {gs : List (List Str)} (hg : ∀ g ∈ gs, g.Sublist s) (h : gs ≠ []) : maxOf gs ≠ [] := by
  obtain ⟨g, hm⟩ := List.exists_mem_of_ne_nil gs h
  obtain ⟨m, h2, _⟩ := maxOf_over hs hg _ g rfl hm
  intro e
  rw [e] at h2
  cases h2
/-- a family of sets, as the document wants one -/
structure Fam (sv : List Str) (gs : List (List Str)) : Prop where
  ne : gs ≠ []
  sub : ∀ g ∈ gs, g.Sublist sv
  nd : gs.Nodup
  up : gs.Pairwise fun a b => lexS b a = false
  max : ∀ g ∈ gs, ∀ x ∈ gs, x ≠ g → subS g x = false
theorem fam_of {sv : List Str} (hs : sv.Nodup) {gs nss : List (List Str)} (hg : ∀ g ∈ gs, g.Sublist sv) (ne : gs ≠ []) (up : nss.Pairwise fun a b => lexS b a = false) (nd : nss.Nodup) (hm : ∀ k, k ∈ nss ↔ k ∈ gs) : Fam sv (maxOf nss) ∧ (maxOf nss).length ≤ gs.length ∧ ∀ g ∈ gs, ∃ m ∈ maxOf nss, subS g m = true := by
  have hn : ∀ g ∈ nss, g.Sublist sv := fun g h => hg g ((hm g).mp h)
  have nn : nss ≠ [] := fun e => by
    obtain ⟨g, h⟩ := List.exists_mem_of_ne_nil gs ne
    have := (hm g).mpr h
    rw [e] at this
    cases this
  refine ⟨⟨maxOf_ne hs hn nn, fun g h => hn g (maxOf_sub g h), nd.filter _, up.filter _, fun g h x hx e => maxOf_max h x hx e⟩, ?_, fun g h => maxOf_over hs hn _ g rfl ((hm g).mpr h)⟩
  exact Nat.le_trans (List.length_filter_le _ _) (nodup_len nd fun x hx => (hm x).mp hx)
theorem lex_one {a b : Str} (h : cds a < cds b) : lexS [b] [a] = false := by
  rw [Bool.eq_false_iff]
  intro z
  have z := lexS_iff.mp z
  simp only [List.map_cons, List.map_nil] at z
  rcases List.cons_lt_cons_iff.mp z with q | ⟨q, _⟩
  · exact asc_irr (List.lt_trans q h)
  · rw [q] at h
    exact asc_irr h
/-- the sets of one server each -/
theorem fam_ones {sv : List Str} (ha : Asc sv) (hn : sv.Nodup) (ne : sv ≠ []) : Fam sv (sv.map fun z => [z]) := by
  refine ⟨fun e => ne (List.map_eq_nil_iff.mp e), fun g h => ?_, ?_, ?_, fun g h x hx ne => ?_⟩
  · obtain ⟨z, hz, rfl⟩ := List.mem_map.mp h
    exact List.singleton_sublist.mpr hz
  · exact nodup_map_on (fun a _ b _ e => (List.cons.inj e).1) hn
  · exact List.pairwise_map.mpr (ha.imp fun h => lex_one h)
  · obtain ⟨z, hz, rfl⟩ := List.mem_map.mp h
    obtain ⟨y, hy, rfl⟩ := List.mem_map.mp hx
    rw [Bool.eq_false_iff]
    intro q
    have := subS_iff.mp q z (List.mem_singleton.mpr rfl)
    rw [List.mem_singleton.mp this] at ne
    exact ne rfl
theorem cover_len {sv g : List Str} (hn : sv.Nodup) (h : subS sv g = true) : sv.length ≤ g.length := nodup_len hn (subS_iff.mp h)
structure CfgS (sv cl : List Str) (ob fl : List (List Str)) : Prop where
  nm : ∀ z ∈ sv ++ cl, NmOk z
  nd : (sv ++ cl).Nodup
  sv2 : 2 ≤ sv.length
  sv5 : sv.length ≤ 5
  cl1 : 1 ≤ cl.length
  cl4 : cl.length ≤ 4
  svs : sv = sortS sv
  cls : cl = sortS cl
  ob6 : ob.length ≤ 6
  fl5 : fl.length ≤ 5
  fob : Fam sv ob
  ffl : Fam sv fl
  wi : ∀ f ∈ fl, ∃ g ∈ ob, subS f g = true
  st : stS sv ob fl = true
def primesS : List Int := [2, 3, 5, 7, 11, 97, 499, 997]
def dSch (pr : Int) (sv cl : List Str) (ob fl : List (List Str)) : D := .tup [.int pr, dT sv, dT cl, .tup (ob.map dT), .tup (fl.map dT)]
theorem asc_sort {zs : List Str} (h : zs.Nodup) : Asc (sortS zs) := asc_of (sortS_le zs) ((sortS_perm zs).nodup_iff.mpr h)
end Dl
set_option maxRecDepth 100000
set_option maxHeartbeats 4000000
namespace Dl
open PySem PySem.Spec PyProof.Rows L2 Lk

theorem st_ones {sv : List Str} (hn : sv.Nodup) (h : 4 ≤ sv.length) : stS sv (sv.map fun z => [z]) (sv.map fun z => [z]) = true := stS_iff.mpr fun g hg a ha b hb => by
  obtain ⟨x, _, rfl⟩ := List.mem_map.mp hg
  obtain ⟨y, _, rfl⟩ := List.mem_map.mp ha
  obtain ⟨z, _, rfl⟩ := List.mem_map.mp hb
  rw [Bool.eq_false_iff]
  intro q
  have := cover_len hn q
  simp at this
  omega
theorem st_none {sv : List Str} (hn : sv.Nodup) (h : 2 ≤ sv.length) : stS sv (sv.map fun z => [z]) [[]] = true := stS_iff.mpr fun g hg a ha b hb => by
  obtain ⟨x, _, rfl⟩ := List.mem_map.mp hg
  rw [List.mem_singleton.mp ha, List.mem_singleton.mp hb, Bool.eq_false_iff]
  intro q
  have := cover_len hn q
  simp at this
  omega
theorem fam_nil (sv : List Str) : Fam sv [[]] := ⟨by simp, fun g h => by rw [List.mem_singleton.mp h]; exact List.nil_sublist _, by simp, by simp, fun g h x hx ne => absurd ((List.mem_singleton.mp hx).trans (List.mem_singleton.mp h).symm) ne⟩
section
variable {KF : PySem.W.Frag} {K : Deck} {Ts : List Addr}
def gScheme : Addr → List D → (D → Prop) → Prop := fun p ds X => ds = [.ref p] ∧ ∀ pr sv cl ob fl, pr ∈ primesS → CfgS sv cl ob fl → X (dSch pr sv cl ob fl)
theorem sp_scheme : ∀ ds (w : (wd KF K Ts).W) R, fRnd 80 gScheme ds w R → dfOf 1 11 (m_l_scheme (L := wd KF K Ts) (fRnd 2 gNames) fMaxS (fRnd 1 gPick) fSt (fRnd 5 gSample) fDraw) ds w R := by
  rintro ds w R ⟨p, c, n, X, rfl, hn, ⟨rfl, hX⟩, q⟩
  refine ⟨rfl, ?_⟩
  -- the names
  refine set_r (e_rnd (B := 2) (G := gNames) (X := fun d => ∃ ns : List Str, d = .lst (ns.map .str) ∧ ns.length = 9 ∧ ns.Nodup ∧ ∀ z ∈ ns, NmOk z) (EvA.cons (Ev.var (i := 0) rfl) (EvA.cons (Ev.con (x := .int 9)) EvA.nil)) (by omega) ⟨9, rfl, by decide, fun ns h1 h2 h3 => ⟨ns, rfl, h1, h2, h3⟩⟩ ?_)
  rintro y n1 hn1 hn1' ⟨ns, rfl, hns, hnd, hnm⟩
  refine ⟨by simp, ?_⟩
  -- the servers
  refine set_r (tupF_r ?_)
  refine sl_r (x := .lst (ns.map .str)) (Ev.var rfl) EvO.none ?_
  refine op_r (x := .int 2) Ev.con ?_
  refine e_draw (m := 4) (EvA.cons (Ev.var (i := 0) rfl) (EvA.cons Ev.con EvA.nil)) (by omega) (by omega) (by omega) fun r1 hr1 => ?_
  refine addI_r (slL_r ?_)
  rw [show (2 : Int) + (r1 : Int) = ((2 + r1 : Nat) : Int) by omega, cut_take]
  refine nil_r (sort_r ⟨by simp, ?_⟩)
  have hsv : ∀ z ∈ sortS (ns.take (2 + r1)), NmOk z := fun z hz => hnm z (List.mem_of_mem_take ((sortS_perm _).mem_iff.mp hz))
  have hsl : (sortS (ns.take (2 + r1))).length = 2 + r1 := by rw [(sortS_perm _).length_eq, List.length_take]; omega
  have hsn : (sortS (ns.take (2 + r1))).Nodup := (sortS_perm _).nodup_iff.mpr (hnd.sublist (List.take_sublist ..))
  have hss := (sortS_idem (ns.take (2 + r1))).symm
  have hsa : Asc (sortS (ns.take (2 + r1))) := asc_sort (hnd.sublist (List.take_sublist ..))
  have hsd : ∀ z ∈ sortS (ns.take (2 + r1)), z ∈ ns.take 5 := fun z hz => List.mem_of_mem_take (i := 2 + r1) (by
    rw [List.take_take, Nat.min_eq_left (by omega)]
    exact (sortS_perm _).mem_iff.mp hz)
  generalize sortS (ns.take (2 + r1)) = sv at hsv hsl hsn hss hsa hsd ⊢
  -- the clients
  refine set_r (tupF_r ?_)
  refine sl_r (x := .lst (ns.map .str)) (Ev.var rfl) (EvO.some (Ev.con (x := .int 5))) ?_
  refine op_r (x := .int 6) Ev.con ?_
  refine e_draw (m := 4) (n := n1 + 1) (EvA.cons (Ev.var (i := 0) rfl) (EvA.cons Ev.con EvA.nil)) (by omega) (by omega) (by omega) fun r2 hr2 => ?_
  refine addI_r (slL_r ?_)
  rw [show (6 : Int) + (r2 : Int) = ((6 + r2 : Nat) : Int) by omega, show (5 : Int) = ((5 : Nat) : Int) from rfl, cut_mid]
  refine nil_r (sort_r ⟨by simp, ?_⟩)
  have hcv : ∀ z ∈ sortS ((ns.take (6 + r2)).drop 5), NmOk z := fun z hz => hnm z (List.mem_of_mem_take (List.mem_of_mem_drop ((sortS_perm _).mem_iff.mp hz)))
  have hcl : (sortS ((ns.take (6 + r2)).drop 5)).length = 1 + r2 := by rw [(sortS_perm _).length_eq, List.length_drop, List.length_take]; omega
  have hcn : (sortS ((ns.take (6 + r2)).drop 5)).Nodup := (sortS_perm _).nodup_iff.mpr ((hnd.sublist (List.take_sublist ..)).sublist (List.drop_sublist ..))
  have hcs := (sortS_idem ((ns.take (6 + r2)).drop 5)).symm
  have hcd : ∀ z ∈ sortS ((ns.take (6 + r2)).drop 5), z ∈ ns.drop 5 := fun z hz => by
    have hz := (sortS_perm _).mem_iff.mp hz
    rw [List.drop_take] at hz
    exact List.mem_of_mem_take hz
  generalize sortS ((ns.take (6 + r2)).drop 5) = cl at hcv hcl hcn hcs hcd ⊢
  have hdis : (sv ++ cl).Nodup := by
    refine List.nodup_append.mpr ⟨hsn, hcn, fun x hx y hy e => ?_⟩
    subst e
    have h := hnd
    rw [← List.take_append_drop 5 ns, List.nodup_append] at h
    exact h.2.2 x (hsd x hx) x (hcd x hy) rfl
  have hall : ∀ z ∈ sv ++ cl, NmOk z := fun z hz => (List.mem_append.mp hz).elim (hsv z) (hcv z)
  have svne : sv ≠ [] := fun e => by
    rw [e] at hsl
    simp at hsl
    omega
  -- the fault sets
  refine set_r (call_r (cons1_r (F_r (lc_r ?_))))
  refine range_draw (a := 1) (m := 4) (n := n1 + 1 + 1) (EvA.cons (Ev.var (i := 0) rfl) (EvA.cons Ev.con EvA.nil)) (by omega) (by omega) (by omega) (by omega) fun r3 hr3 => ⟨fun j hj d => by rw [List.mem_singleton.mp hj]; simp, ?_⟩
  refine comp_indM (by simp) (fun j acc w' => ∃ (gs : List (List Str)) (n' : Nat), acc = gs.map dT ∧ gs.length = j ∧ (∀ g ∈ gs, g.Sublist sv) ∧ w' = DW.run p c n' ∧ n1 + 3 ≤ n' ∧ n' ≤ n1 + 3 + 5 * j) (fun j x acc w hx hI Y N hY hN => ?_) (fun acc w hI => ?_) (fun j acc w hI => ?_) (by rw [List.length_range]; exact sz (by omega)) ⟨[], _, rfl, rfl, by simp, rfl, by omega, by omega⟩
  rotate_left 2
  · obtain ⟨gs, n', rfl, hgl, _⟩ := hI
    rw [List.length_map, hgl]
    exact Nat.le_refl _
  · obtain ⟨gs, n', rfl, hgl, hgs, rfl, hn3, hn4⟩ := hI
    have hj : j < 1 + r3 := by
      have := (List.getElem?_eq_some_iff.mp hx).1
      rwa [List.length_range] at this
    refine yes_step (e_rnd (B := 5) (G := gSample) (X := fun d => ∃ g : List Str, d = dT g ∧ g.Sublist sv) (EvA.cons (Ev.var (i := 0) rfl) (EvA.cons (Ev.var (i := 2) rfl) (EvA.cons (Ev.con (x := .int 3)) EvA.nil))) (by omega) ⟨sv, 3, rfl, by omega, by decide, by decide, fun ys h => ⟨ys, rfl, h⟩⟩ ?_)
    rintro y n5 h5 h6 ⟨g, rfl, hg⟩
    refine hY _ _ ?_ ⟨gs ++ [g], n5, by simp, by simp [hgl], ?_, rfl, by omega, by omega⟩
    · rw [List.length_map, hgl]
      have := sz (k := 1000)
      omega
    · intro x hx
      rcases List.mem_append.mp hx with h | h
      · exact hgs x h
      · rw [List.mem_singleton.mp h]; exact hg
  obtain ⟨gs, n', rfl, hgl, hgs, rfl, hn3, hn4⟩ := hI
  rw [List.length_range] at hgl hn4
  refine nil_r ⟨gs, rfl, okG_of hsv (by omega) hgs, by omega, fun nss up nd hm => ?_⟩
  obtain ⟨ffl, lfl, _⟩ := fam_of hsn hgs (fun e => by rw [e] at hgl; simp at hgl; omega) up nd hm
  rw [hgl] at lfl
  generalize maxOf nss = fl at ffl lfl ⊢
  refine ⟨by simp, ?_⟩
  have nob : ∀ d : D, DV.no ≠ DV.own d := fun d e => nomatch e
  -- .. and more of each
  refine set_r (F_r (lc_r ?_))
  refine (EvA.seqT (Ev.var rfl) : EvA (L := wd KF K Ts) (diSeq (deVar 4)) [.val (.ref p), .val (.lst (ns.map .str)), .val (dT sv), .val (dT cl), .val (.tup (fl.map dT)), .no, .no, .no, .no, .no, .no] (DW.run p c n') (fl.map dT)) _ ⟨fun j hj d => by rw [List.mem_singleton.mp hj]; simp, ?_⟩
  refine comp_indM (emb := dT) (by simp) (fun j acc w' => ∃ (hs : List (List Str)) (m : Nat), acc = hs.map dT ∧ hs.length = j ∧ (∀ g ∈ hs, g.Sublist sv) ∧ (∀ f ∈ fl.take j, ∃ g ∈ hs, subS f g = true) ∧ w' = DW.run p c m ∧ n' ≤ m ∧ m ≤ n' + 5 * j) (fun j x acc w hx hI Y N hY hN => ?_) (fun acc w hI => ?_) (fun j acc w hI => ?_) (sz (by omega)) ⟨[], _, rfl, rfl, by simp, fun f z => by simp at z, rfl, by omega, by omega⟩
  rotate_left 2
  · obtain ⟨hs, m, rfl, hgl, _⟩ := hI
    rw [List.length_map, hgl]
    exact Nat.le_refl _
  · obtain ⟨hs, m, rfl, hhl, hhs, hwi, rfl, hm1, hm2⟩ := hI
    have hj : j < fl.length := (List.getElem?_eq_some_iff.mp hx).1
    have mx := List.mem_of_getElem? hx
    have xs := ffl.sub x mx
    have tk : fl.take (j + 1) = fl.take j ++ [x] := by rw [List.take_add_one, hx]; rfl
    refine yes_step (tupF_r (sortSet_r (op_r (x := dT x) (Ev.var rfl) ?_)))
    refine e_rnd (B := 5) (G := gSample) (X := fun d => ∃ g : List Str, d = dT g ∧ g.Sublist sv) (EvA.cons (Ev.var (i := 0) rfl) (EvA.cons (Ev.var (i := 2) rfl) (EvA.cons (Ev.con (x := .int 3)) EvA.nil))) (by omega) ⟨sv, 3, rfl, by omega, by decide, by decide, fun ys h => ⟨ys, rfl, h⟩⟩ ?_
    rintro y n5 h5 h6 ⟨g, rfl, hg⟩
    have l1 := xs.length_le
    have l2 := hg.length_le
    refine ⟨by rw [List.length_map, List.length_map]; exact sz (by omega), .inl ⟨x ++ g, .inr (by rw [List.map_append]), by rw [List.length_append]; omega, fun ns' so nd' me => ?_⟩⟩
    have sub : ns'.Sublist sv := asc_sub (asc_of (sortedS_le so) nd') hsa fun z hz => (List.mem_append.mp ((me z).mp hz)).elim (fun h => xs.subset h) fun h => hg.subset h
    refine hY (dT ns') _ ?_ ⟨hs ++ [ns'], n5, by simp, by simp [hhl], ?_, ?_, rfl, by omega, by omega⟩
    · rw [List.length_map, hhl]
      have := sz (k := 1000)
      omega
    · intro x hx
      rcases List.mem_append.mp hx with h | h
      · exact hhs x h
      · rw [List.mem_singleton.mp h]; exact sub
    · intro f hf
      rw [tk] at hf
      rcases List.mem_append.mp hf with hf | hf
      · obtain ⟨g2, h1, h2⟩ := hwi f hf
        exact ⟨g2, List.mem_append_left _ h1, h2⟩
      · rw [List.mem_singleton.mp hf]
        exact ⟨ns', List.mem_append_right _ (List.mem_singleton.mpr rfl), subS_iff.mpr fun z hz => (me z).mpr (List.mem_append_left _ hz)⟩
  obtain ⟨hs, m, rfl, hhl, hhs, hwi, rfl, hm1, hm2⟩ := hI
  rw [List.take_length] at hwi
  refine ⟨by simp, ?_⟩
  -- the observer sets
  refine set_r (call_r (cons1_r (op_r (x := .lst (hs.map dT)) (Ev.var rfl) (F_r (lc_r ?_)))))
  refine range_draw0 (m := 3) (n := m) (EvA.cons (Ev.var (i := 0) rfl) (EvA.cons Ev.con EvA.nil)) (by omega) (by omega) (by omega) fun r4 hr4 => ⟨fun j hj d => by rw [List.mem_singleton.mp hj]; simp, ?_⟩
  refine comp_indM (by simp) (fun j acc w' => ∃ (ks : List (List Str)) (m' : Nat), acc = ks.map dT ∧ ks.length = j ∧ (∀ g ∈ ks, g.Sublist sv) ∧ w' = DW.run p c m' ∧ m ≤ m' ∧ m' ≤ m + 1 + 5 * j) (fun j x acc w hx hI Y N hY hN => ?_) (fun acc w hI => ?_) (fun j acc w hI => ?_) (by rw [List.length_range]; exact sz (by omega)) ⟨[], _, rfl, rfl, by simp, rfl, by omega, by omega⟩
  rotate_left 2
  · obtain ⟨ks, m', rfl, hkl, _⟩ := hI
    rw [List.length_map, hkl]
    exact Nat.le_refl _
  · obtain ⟨ks, m', rfl, hkl, hks, rfl, hm3, hm4⟩ := hI
    have hj : j < r4 := by
      have := (List.getElem?_eq_some_iff.mp hx).1
      rwa [List.length_range] at this
    refine yes_step (e_rnd (B := 5) (G := gSample) (X := fun d => ∃ g : List Str, d = dT g ∧ g.Sublist sv) (EvA.cons (Ev.var (i := 0) rfl) (EvA.cons (Ev.var (i := 2) rfl) (EvA.cons (Ev.con (x := .int 2)) EvA.nil))) (by omega) ⟨sv, 2, rfl, by omega, by decide, by decide, fun ys h => ⟨ys, rfl, h⟩⟩ ?_)
    rintro y n5 h5 h6 ⟨g, rfl, hg⟩
    refine hY _ _ ?_ ⟨ks ++ [g], n5, by simp, by simp [hkl], ?_, rfl, by omega, by omega⟩
    · rw [List.length_map, hkl]
      have := sz (k := 1000)
      omega
    · intro x hx
      rcases List.mem_append.mp hx with h | h
      · exact hks x h
      · rw [List.mem_singleton.mp h]; exact hg
  obtain ⟨ks, m', rfl, hkl, hks, rfl, hm3, hm4⟩ := hI
  rw [List.length_range] at hkl hm4
  have hcat : ∀ g ∈ hs ++ ks, g.Sublist sv := fun g hg => (List.mem_append.mp hg).elim (hhs g) (hks g)
  refine ⟨by rw [List.length_map, List.length_map]; exact sz (by omega), nil_r ⟨hs ++ ks, by rw [List.map_append], okG_of hsv (by omega) hcat, by rw [List.length_append]; omega, fun nss2 up2 nd2 hm2' => ?_⟩⟩
  have flp : 0 < fl.length := List.length_pos_iff.mpr ffl.ne
  obtain ⟨fob, lob, over⟩ := fam_of hsn hcat (fun e => by
    have := congrArg List.length e
    rw [List.length_append, List.length_nil] at this
    omega) up2 nd2 hm2'
  rw [List.length_append] at lob
  generalize maxOf nss2 = ob at fob lob over ⊢
  have wi : ∀ f ∈ fl, ∃ g ∈ ob, subS f g = true := fun f hf => by
    obtain ⟨g, hg, s1⟩ := hwi f hf
    obtain ⟨k, hk, s2⟩ := over g (List.mem_append_left _ hg)
    exact ⟨k, hk, subS_trans s1 s2⟩
  refine ⟨by simp, ?_⟩
  -- where they conflict
  refine s_ifj (c := !stS sv ob fl) (EvT.not (EvT.of (Ev.call (EvA.cons (Ev.var rfl) (EvA.cons (Ev.var rfl) (EvA.cons (Ev.var rfl) EvA.nil))) fun R r => ⟨sv, ob, fl, rfl, okS_of hsv, by omega, okG_of hsv (by omega) fob.sub, okG_of hsv (by omega) ffl.sub, r⟩))) (fun δ' w' => ∃ ob fl, δ' = [.val (.ref p), .val (.lst (ns.map .str)), .val (dT sv), .val (dT cl), .val (.tup (fl.map dT)), .val (.lst (hs.map dT)), .val (.tup (ob.map dT)), .no, .no, .no, .no] ∧ w' = DW.run p c m' ∧ CfgS sv cl ob fl) (fun _ N hN => ?_) (fun hc N hN => ?_) ?_
  · refine s_set (x := .tup ((sv.map fun z => [z]).map dT)) (Ev.tupL (Ev.F ?_)) (by simp) ?_
    · rw [List.map_map]
      exact EvA.mapM (emb := D.str) (f := dT ∘ fun z => [z]) (EvA.seqT (Ev.var rfl)) (by simp) (by simp) (sz (by omega)) fun z hz => Ev.tup (EvA.cons (Ev.var rfl) EvA.nil) (by show 1 ≤ sizeLine; exact sz)
    · refine set0_r ?_
      refine if_r ((EvT.of (Ev.gtI (Ev.lenT (xs := sv.map .str) (Ev.var (i := 2) rfl)) (Ev.con (x := .int 3)))) _ ?_)
      rw [List.length_map]
      have base : ∀ fl', Fam sv fl' → (∀ f ∈ fl', ∃ g ∈ sv.map (fun z => [z]), subS f g = true) → fl'.length ≤ 5 → stS sv (sv.map fun z => [z]) fl' = true → CfgS sv cl (sv.map fun z => [z]) fl' := fun fl' h1 h2 h3 h4 => ⟨hall, hdis, by omega, by omega, by omega, by omega, hss, hcs, by rw [List.length_map]; omega, h3, fam_ones hsa hsn svne, h1, h2, h4⟩
      by_cases c3 : (3 : Int) < (sv.length : Int)
      · rw [decide_eq_true c3, if_pos rfl]
        refine (Ev.var rfl : Ev (deVar 6) _ _ (.tup ((sv.map fun z => [z]).map dT))) _ ⟨by simp, hN _ _ ⟨_, _, rfl, rfl, base _ (fam_ones hsa hsn svne) (fun f hf => ⟨f, hf, subS_refl f⟩) (by rw [List.length_map]; omega) (st_ones hsn (by omega))⟩⟩
      · rw [decide_eq_false c3, if_neg (by decide)]
        have e0 : Ev (L := wd KF K Ts) (deTup (daCons (deTup daNil) daNil)) ([.val (.ref p), .val (.lst (ns.map .str)), .val (dT sv), .val (dT cl), .val (.tup (fl.map dT)), .val (.lst (hs.map dT)), .val (.tup ((sv.map fun z => [z]).map dT)), .no, .no, .no, .no]) (DW.run p c m') (.tup (([[]] : List (List Str)).map dT)) := Ev.tup (EvA.cons (Ev.tup EvA.nil (Nat.zero_le _)) EvA.nil) (by show 1 ≤ sizeLine; exact sz)
        refine e0 _ ⟨by simp, hN _ _ ⟨_, _, rfl, rfl, base _ (fam_nil sv) (fun f hf => ?_) (by decide) (st_none hsn (by omega))⟩⟩
        obtain ⟨z, hz⟩ := List.exists_mem_of_ne_nil sv svne
        rw [List.mem_singleton.mp hf]
        exact ⟨[z], List.mem_map.mpr ⟨z, hz, rfl⟩, rfl⟩
  · have hc : stS sv ob fl = true := by simpa using hc
    exact hN _ _ ⟨ob, fl, rfl, rfl, hall, hdis, by omega, by omega, by omega, by omega, hss, hcs, by omega, by omega, fob, ffl, wi, hc⟩
  -- the prime
  rintro δ' w' ⟨ob, fl, rfl, rfl, C⟩
  refine set_r (e_rnd (B := 1) (G := gPick) (X := fun d => ∃ pr, d = .int pr ∧ pr ∈ primesS) (EvA.cons (Ev.var (i := 0) rfl) (EvA.cons (Ev.F (EvA.lst (EvA.cons Ev.con (EvA.cons Ev.con (EvA.cons Ev.con (EvA.cons Ev.con (EvA.cons Ev.con (EvA.cons Ev.con (EvA.cons Ev.con (EvA.cons Ev.con EvA.nil)))))))) (by show 8 ≤ sizeLine; exact sz))) EvA.nil)) (by omega) ⟨_, rfl, primesS.map .int, .inl rfl, by simp [primesS], by decide, fun y hy => ?_⟩ ?_)
  · obtain ⟨i, hi, rfl⟩ := List.mem_map.mp hy
    exact ⟨i, rfl, hi⟩
  rintro y n9 h9 h9' ⟨pr, rfl, hpr⟩
  refine ⟨by simp, ?_⟩
  exact s_ret (Ev.tup (EvA.cons (Ev.var rfl) (EvA.cons (Ev.var rfl) (EvA.cons (Ev.var rfl) (EvA.cons (Ev.var rfl) (EvA.cons (Ev.var rfl) EvA.nil))))) (by show 5 ≤ sizeLine; exact sz)) (q _ _ (by omega) (by omega) (hX pr sv cl ob fl hpr C))
end
end Dl
set_option maxRecDepth 100000
set_option maxHeartbeats 4000000
namespace Dl
open PySem PySem.Spec PyProof.Rows L2 Lk

/-! ### numbers of a scheme -/
theorem sh_small {i : Int} (h0 : 0 ≤ i) (h1 : i < 1000) : Sh (.int i) 10 1 := by
  have key : ∀ n : Nat, n < 1000 → (PyData.int (n : Int)).showable = true ∧ (PyData.int (n : Int)).shown.length ≤ 10 := by decide +kernel
  obtain ⟨n, rfl⟩ := Int.eq_ofNat_of_zero_le h0
  have z := key n (by omega)
  exact sh_int z.1 z.2
theorem prime_nat {pr : Int} (h : pr ∈ primesS) : ∃ m : Nat, pr = (m : Int) ∧ 2 ≤ m ∧ m < 1000 := by
  simp only [primesS, List.mem_cons, List.not_mem_nil, or_false] at h
  rcases h with rfl | rfl | rfl | rfl | rfl | rfl | rfl | rfl
  · exact ⟨2, rfl, by decide, by decide⟩
  · exact ⟨3, rfl, by decide, by decide⟩
  · exact ⟨5, rfl, by decide, by decide⟩
  · exact ⟨7, rfl, by decide, by decide⟩
  · exact ⟨11, rfl, by decide, by decide⟩
  · exact ⟨97, rfl, by decide, by decide⟩
  · exact ⟨499, rfl, by decide, by decide⟩
  · exact ⟨997, rfl, by decide, by decide⟩
theorem rep_one {α : Type} (n : Nat) (a : α) : (List.replicate n [a]).flatten = List.replicate n a := by
  induction n with
  | zero => rfl
  | succ n ih => rw [List.replicate_succ, List.flatten_cons, ih, List.replicate_succ]; rfl
/-- a tuple of whole numbers -/
abbrev dI (ns : List Int) : D := .tup (ns.map .int)
/-- a share for each observer set -/
def Shares (m : Nat) (ns : List Int) : Prop := ∀ i ∈ ns, 0 ≤ i ∧ i < (m : Int)
def pubL (v : Int) (k : Nat) : List Int := v :: List.replicate (k - 1) 0
theorem pubL_len (v : Int) {k : Nat} (h : 1 ≤ k) : (pubL v k).length = k := by
  unfold pubL
  rw [List.length_cons, List.length_replicate]
  omega
theorem sum_rep0 : ∀ n : Nat, (List.replicate n (0 : Int)).sum = 0
  | 0 => rfl
  | n + 1 => by rw [List.replicate_succ, List.sum_cons, sum_rep0 n]; rfl
theorem pubL_sum (v : Int) (k : Nat) : (pubL v k).sum = v := by
  unfold pubL
  rw [List.sum_cons, sum_rep0, Int.add_zero]
theorem sum_one (a : Int) : [a].sum = a := by
  show a + 0 = a
  exact Int.add_zero a
theorem sum_rev : ∀ l : List Int, l.reverse.sum = l.sum
  | [] => rfl
  | a :: l => by
    simp [List.sum_append, sum_rev l, Int.add_comm]
section
variable {L : Wd}
theorem Ev.sumT {δ : DEnv} {w : L.W} {a : DE L} {ns : List Int} (h : Ev a δ w (dI ns)) : Ev (deCB dSum (daCons a daNil)) δ w (.int ns.sum) := Ev.cb (EvA.cons h EvA.nil) fun k q => ⟨ns, .inr rfl, q⟩
theorem Ev.repT {δ : DEnv} {w : L.W} {a b : DE L} {i : Int} {n : Nat} (h : Ev a δ w (.int i)) (h2 : Ev b δ w (.int n)) (hn : n ≤ 1000) : Ev (deOp dMul (deTup (daCons a daNil)) b) δ w (dI (List.replicate n i)) := by
  refine Ev.op (x := .tup [.int i]) (Ev.tup (EvA.cons h EvA.nil) (by show 1 ≤ sizeLine; exact sz)) h2 fun k q => ⟨by omega, by omega, by simp, ?_⟩
  rw [Int.toNat_natCast, rep_one]
  have e : dI (List.replicate n i) = .tup (List.replicate n (.int i)) := by
    show D.tup ((List.replicate n i).map .int) = _
    rw [List.map_replicate]
  rw [e] at q
  exact q
end
end Dl
set_option maxRecDepth 100000
set_option maxHeartbeats 4000000
namespace Dl
open PySem PySem.Spec PyProof.Rows L2 Lk

/-! ### names and sets of names, of any value -/
def letB (c : Nat) : Bool := decide (97 ≤ c) && decide (c ≤ 122)
def nameS (z : Str) : Bool := decide (1 ≤ z.length) && decide (z.length ≤ 6) && z.cps.toList.all letB
def nameB : D → Bool
  | .str z => nameS z
  | _ => false
def toS : D → Str
  | .str z => z
  | _ => ⟨#[]⟩
def ltS (a b : Str) : Bool := decide (cds a < cds b)
def ascS (zs : List Str) : Bool := (zs.zip (zs.drop 1)).all fun q => ltS q.1 q.2
def setB : D → Bool
  | .tup l => l.all nameB && ascS (l.map toS)
  | _ => false
theorem cds_one (c : Nat) : cds (⟨#[c]⟩ : Str) = [c] := rfl
theorem let_chain (c : Nat) : ((!decide (cds (⟨#[c]⟩ : Str) < cds ("a" : Str))) && !decide (cds ("z" : Str) < cds (⟨#[c]⟩ : Str))) = letB c := by
  have e1 : cds ("a" : Str) = [97] := rfl
  have e2 : cds ("z" : Str) = [122] := rfl
  rw [cds_one, e1, e2]
  unfold letB
  refine Bool.eq_iff_iff.mpr ?_
  simp [List.cons_lt_cons_iff]
section
variable {L : Wd} {δ : DEnv} {w : L.W}
/-- a value that is looked at: no object, texts not too long -/
def Seen (x : D) : Prop := x.isRef = false ∧ ∀ z, x = .str z → z.length ≤ 1000000
theorem Ev.is {d : DE L} {x : D} {n : String} {b : Bool} (h : Ev d δ w x) (nr : x.isRef = false) (e : kitB x.ty n = some b) : Ev (deIs n d) δ w (.bl b) := fun Q q => h _ ⟨nr, b, e, q⟩
def isStr : D → Bool
  | .str _ => true
  | _ => false
def isTup : D → Bool
  | .tup _ => true
  | _ => false
theorem kit_str (x : D) (nr : x.isRef = false) : kitB x.ty "str" = some (isStr x) := by
  have h : kitB "NoneType" "str" = some false ∧ kitB "bool" "str" = some false ∧ kitB "int" "str" = some false ∧ kitB "str" "str" = some true ∧ kitB "tuple" "str" = some false ∧ kitB "list" "str" = some false ∧ kitB "dict" "str" = some false := by decide +kernel
  cases x with
  | ref _ => cases nr
  | non => exact h.1
  | bl _ => exact h.2.1
  | int _ => exact h.2.2.1
  | str _ => exact h.2.2.2.1
  | tup _ => exact h.2.2.2.2.1
  | lst _ => exact h.2.2.2.2.2.1
  | dct _ => exact h.2.2.2.2.2.2
theorem kit_tup (x : D) (nr : x.isRef = false) : kitB x.ty "tuple" = some (isTup x) := by
  have h : kitB "NoneType" "tuple" = some false ∧ kitB "bool" "tuple" = some false ∧ kitB "int" "tuple" = some false ∧ kitB "str" "tuple" = some false ∧ kitB "tuple" "tuple" = some true ∧ kitB "list" "tuple" = some false ∧ kitB "dict" "tuple" = some false := by decide +kernel
  cases x with
  | ref _ => cases nr
  | non => exact h.1
  | bl _ => exact h.2.1
  | int _ => exact h.2.2.1
  | str _ => exact h.2.2.2.1
  | tup _ => exact h.2.2.2.2.1
  | lst _ => exact h.2.2.2.2.2.1
  | dct _ => exact h.2.2.2.2.2.2
theorem Ev.chainI {a b c : DE L} {i j k : Int} (h : Ev a δ w (.int i)) (h2 : Ev b δ w (.int j)) (h3 : Ev c δ w (.int k)) : Ev (deChain dLe dLe a b c) δ w (.bl (decide (i ≤ j) && decide (j ≤ k))) := fun Q q => h _ (h2 _ ⟨decide (i ≤ j), rfl, by
  cases hc : decide (i ≤ j) with
  | false => rw [hc] at q; exact q
  | true => rw [hc] at q; exact h3 _ q⟩)
theorem Ev.chainS {a b c : DE L} {i j k : Str} (h : Ev a δ w (.str i)) (h2 : Ev b δ w (.str j)) (h3 : Ev c δ w (.str k)) : Ev (deChain dLe dLe a b c) δ w (.bl ((!decide (cds j < cds i)) && !decide (cds k < cds j))) := fun Q q => h _ (h2 _ ⟨!decide (cds j < cds i), rfl, by
  cases hc : (!decide (cds j < cds i)) with
  | false => rw [hc] at q; exact q
  | true => rw [hc] at q; exact h3 _ q⟩)
theorem Ev.lenS' {a : DE L} {z : Str} (h : Ev a δ w (.str z)) (hl : z.length ≤ 1000000) : Ev (deCB dLen (daCons a daNil)) δ w (.int z.length) := Ev.cb (EvA.cons h EvA.nil) fun k q => ⟨sz hl, q⟩
theorem EvA.signs {a : DE L} {z : Str} (h : Ev a δ w (.str z)) : EvA (diSeq a) δ w (z.cps.toList.map fun c => .str ⟨#[c]⟩) := fun Q q => h _ q
def fName : DF L := fun ds w R => ∃ x, ds = [x] ∧ Seen x ∧ R (.bl (nameB x)) w
theorem sp_is_name : ∀ ds (w : L.W) R, fName ds w R → dfOf 1 2 (m_is_name (L := L)) ds w R := by
  rintro ds w R ⟨x, rfl, ⟨nr, hl⟩, q⟩
  refine ⟨rfl, s_ifn (c := !isStr x) (EvT.not (EvT.of (Ev.is (Ev.var rfl) nr (kit_str x nr)))) (fun hc => ?_) fun hc => ?_⟩
  · have : nameB x = false := by
      cases x with
      | str z => cases hc
      | _ => rfl
    rw [this] at q
    exact s_ret Ev.con q
  · cases x with
    | str z =>
      have hz := hl z rfl
      have e : nameB (.str z) = ((decide ((1 : Int) ≤ z.length) && decide ((z.length : Int) ≤ 6)) && (z.cps.toList.all letB)) := by
        unfold nameB nameS
        rw [show decide ((1 : Int) ≤ z.length) = decide (1 ≤ z.length) from decide_eq_decide.mpr (by omega), show decide ((z.length : Int) ≤ 6) = decide (z.length ≤ 6) from decide_eq_decide.mpr (by omega)]
      rw [e] at q
      refine s_ret (Ev.and (Ev.chainI Ev.con (Ev.lenS' (Ev.var rfl) hz) Ev.con) fun _ => Ev.allM (emb := fun c => D.str ⟨#[c]⟩) (zs := z.cps.toList) (f := letB) (EvA.signs (Ev.var rfl)) (by simp) (by simp) fun c hc => ?_) q
      have h := Ev.chainS (L := L) (w := w) (δ := ([.val (.str z), .no] : DEnv).set 1 (.val (.str ⟨#[c]⟩))) (a := deC (.str "a")) (b := deVar 1) (c := deC (.str "z")) Ev.con (Ev.var rfl) Ev.con
      rw [let_chain] at h
      exact h
    | _ => cases hc
def ascT (gs : List (List Str)) : Bool := (gs.zip (gs.drop 1)).all fun q => lexS q.1 q.2
def fAsc : DF L := fun ds w R => (∃ zs, ds = [dT zs] ∧ R (.bl (ascS zs)) w) ∨ ∃ gs : List (List Str), ds = [.tup (gs.map dT)] ∧ R (.bl (ascT gs)) w
theorem pairs_map {α : Type} (f : α → D) (xs ys : List α) : pairs (xs.map f) (ys.map f) = (xs.zip ys).map fun q => .tup [f q.1, f q.2] := by
  unfold pairs
  rw [List.zip_map, List.map_map]
  rfl
theorem sp_is_ascending : ∀ ds (w : L.W) R, fAsc ds w R → dfOf 1 3 (m_is_ascending (L := L)) ds w R := by
  have key : ∀ {α : Type} (f : α → D) (lt : α → α → Bool) (zs : List α) (w : L.W) (R : D → L.W → Prop), (∀ x y (k : D → Prop), k (.bl (lt x y)) → dLtX (f x) (f y) k) → R (.bl ((zs.zip (zs.drop 1)).all fun q => lt q.1 q.2)) w → dfOf 1 3 (m_is_ascending (L := L)) [.tup (zs.map f)] w R := fun {α} f lt zs w R hlt q => by
    refine ⟨rfl, s_ret (Ev.all2 (i := 1) (j := 2) (a := fun q => f q.1) (b := fun q => f q.2) (ps := zs.zip (zs.drop 1)) (f := fun q => lt q.1 q.2) ?_ (by simp) (by simp) (by simp) (by simp) fun r hr => ?_) q⟩
    · intro Q h
      refine (Ev.var rfl : Ev (deVar 0) _ _ (.tup (zs.map f))) _ ?_
      have e : Ev (L := L) (deSl (deVar 0) (dpSome (deC (.int 1))) dpNone) [.val (.tup (zs.map f)), .no, .no] w (.tup ((zs.drop 1).map f)) := by
        rw [← cut_drop]
        exact Ev.slT (Ev.var rfl) (EvO.some Ev.con) EvO.none
      refine e _ ?_
      show Q (pairs (zs.map f) ((zs.drop 1).map f)) _ _
      rw [pairs_map]
      exact h
    · exact Ev.op (x := f r.1) (y := f r.2) (Ev.var rfl) (Ev.var rfl) fun k q => hlt _ _ k q
  rintro ds w R (⟨zs, rfl, q⟩ | ⟨gs, rfl, q⟩)
  · exact key D.str ltS zs w R (fun x y k q => .inl q) q
  · exact key dT lexS gs w R (fun x y k q => .inr ⟨x, y, rfl, rfl, q⟩) q
def fSet : DF L := fun ds w R => ∃ x, ds = [x] ∧ x.isRef = false ∧ (∀ l, x = .tup l → ∀ d ∈ l, Seen d) ∧ R (.bl (setB x)) w
theorem all_names {l : List D} (h : l.all nameB = true) : ∃ zs : List Str, l = zs.map .str := ⟨l.map toS, by
  rw [List.map_map]
  symm
  rw [List.map_congr_left (g := id), List.map_id]
  intro d hd
  have := List.all_eq_true.mp h d hd
  cases d with
  | str z => rfl
  | _ => cases this⟩
theorem map_toS (zs : List Str) : (zs.map D.str).map toS = zs := by
  rw [List.map_map]
  exact (List.map_congr_left fun z _ => rfl).trans (List.map_id zs)
theorem sp_is_party_set : ∀ ds (w : L.W) R, fSet ds w R → dfOf 1 2 (m_is_party_set (L := L) fAsc fName) ds w R := by
  rintro ds w R ⟨x, rfl, nr, hs, q⟩
  refine ⟨rfl, s_ifn (c := !isTup x) (EvT.not (EvT.of (Ev.is (Ev.var rfl) nr (kit_tup x nr)))) (fun hc => ?_) fun hc => ?_⟩
  · have : setB x = false := by
      cases x with
      | tup z => cases hc
      | _ => rfl
    rw [this] at q
    exact s_ret Ev.con q
  · cases x with
    | tup l =>
      refine s_ret (Ev.and (c := l.all nameB) (Ev.all (i := 1) (xs := l) (f := nameB) (EvA.seqT (Ev.var rfl)) (by simp) (by simp) fun d hd => Ev.call (EvA.cons (Ev.var rfl) EvA.nil) fun R r => ⟨d, rfl, hs l rfl d hd, r⟩) fun hl => Ev.call (EvA.cons (Ev.var rfl) EvA.nil) fun R r => ?_) q
      obtain ⟨zs, e⟩ := all_names hl
      rw [e, map_toS] at r
      exact .inl ⟨zs, by rw [e]; rfl, r⟩
    | _ => cases hc
end
end Dl
set_option maxRecDepth 100000
set_option maxHeartbeats 4000000
namespace Dl
open PySem PySem.Spec PyProof.Rows L2 Lk

/-! ### schemes that are valid, for the program's own check -/
structure CfgW (sv cl : List Str) (ob fl : List (List Str)) : Prop where
  nm : ∀ z ∈ sv ++ cl, NmOk z
  nd : (sv ++ cl).Nodup
  sv2 : 2 ≤ sv.length
  svn : sv.length ≤ 20
  cl1 : 1 ≤ cl.length
  cln : cl.length ≤ 20
  svs : sv = sortS sv
  cls : cl = sortS cl
  obn : ob.length ≤ 20
  fln : fl.length ≤ 20
  fob : Fam sv ob
  ffl : Fam sv fl
  wi : ∀ f ∈ fl, ∃ g ∈ ob, subS f g = true
theorem CfgS.w {sv cl : List Str} {ob fl : List (List Str)} (C : CfgS sv cl ob fl) : CfgW sv cl ob fl where
  nm := C.nm
  nd := C.nd
  sv2 := C.sv2
  svn := by have := C.sv5; omega
  cl1 := C.cl1
  cln := by have := C.cl4; omega
  svs := C.svs
  cls := C.cls
  obn := by have := C.ob6; omega
  fln := by have := C.fl5; omega
  fob := C.fob
  ffl := C.ffl
  wi := C.wi
theorem NmOk.name {z : Str} (h : NmOk z) : nameB (.str z) = true := by
  obtain ⟨h1, h2, h3⟩ := h
  show (decide (1 ≤ z.length) && decide (z.length ≤ 6) && z.cps.toList.all letB) = true
  have e : z.length = z.cps.toList.length := by first | rfl | simp [Str.length]
  rw [e, decide_eq_true h1, decide_eq_true h2, Bool.true_and, Bool.true_and, List.all_eq_true]
  intro c hc
  obtain ⟨a, b⟩ := h3 c hc
  simp [letB, a, b]
theorem zip_drop_pw {α : Type} {r : α → α → Prop} : ∀ {l : List α}, l.Pairwise r → ∀ q ∈ l.zip (l.drop 1), r q.1 q.2
  | [], _, q, h => nomatch h
  | [a], _, q, h => nomatch h
  | a :: b :: l, p, q, h => by
    have h : q ∈ (a, b) :: (b :: l).zip ((b :: l).drop 1) := h
    rw [List.pairwise_cons] at p
    rcases List.mem_cons.mp h with rfl | h
    · exact p.1 b List.mem_cons_self
    · exact zip_drop_pw p.2 q h
theorem asc_ok {zs : List Str} (h : Asc zs) : ascS zs = true := List.all_eq_true.mpr fun q hq => decide_eq_true (zip_drop_pw h q hq)
theorem Asc.sub {zs ys : List Str} (h : Asc zs) (s : ys.Sublist zs) : Asc ys := List.Pairwise.sublist s h
theorem ascT_ok {gs : List (List Str)} (up : gs.Pairwise fun a b => lexS b a = false) (nd : gs.Nodup) : ascT gs = true := by
  have p : gs.Pairwise fun a b => lexS a b = true := (up.and nd).imp fun {a b} h => by
    cases e : lexS a b with
    | true => rfl
    | false => exact absurd (leT_anti a b h.1 e) h.2
  exact List.all_eq_true.mpr fun q hq => zip_drop_pw p q hq
theorem set_ok {zs : List Str} (h : ∀ z ∈ zs, NmOk z) (a : Asc zs) : setB (dT zs) = true := by
  show ((zs.map D.str).all nameB && ascS ((zs.map D.str).map toS)) = true
  rw [map_toS, asc_ok a, Bool.and_true, List.all_eq_true]
  intro d hd
  obtain ⟨z, hz, rfl⟩ := List.mem_map.mp hd
  exact (h z hz).name
section
variable {L : Wd}
/-- is_integer, is_prime, _is_modulus -/
def fInt : DF L := fun ds w R => ∃ i : Int, ds = [.int i] ∧ R (.bl true) w
theorem sp_is_integer : ∀ ds (w : L.W) R, fInt ds w R → dfOf 1 1 (m_is_integer (L := L)) ds w R := by
  rintro ds w R ⟨i, rfl, q⟩
  have h : kitB "int" "int" = some true ∧ kitB "int" "bool" = some false := by decide +kernel
  exact ⟨rfl, s_ret (Ev.and (c := true) (c' := !false) (Ev.is (Ev.var (x := .int i) rfl) rfl h.1) fun _ => Ev.not (Ev.is (Ev.var (x := .int i) rfl) rfl h.2)) q⟩
def primeB (n : Nat) : Bool := (List.range (n - 2)).all fun k => !decide (n % (k + 2) = 0)
def fPrime : DF L := fun ds w R => ∃ n : Nat, ds = [.int (n : Int)] ∧ 2 ≤ n ∧ n ≤ 1000 ∧ R (.bl (primeB n)) w
theorem neI_r {i j : Int} {k : D → Prop} (h : k (.bl (!decide (i = j)))) : dNe (.int i) (.int j) k := ⟨rfl, rfl, by
  have e : PyData.eqv (D.int i).py (D.int j).py = decide (i = j) := by
    refine Bool.eq_iff_iff.mpr ?_
    rw [eqv_iff _ _ rfl rfl]
    simp
  rw [e]
  exact h⟩
theorem Ev.neI {δ : DEnv} {w : L.W} {a b : DE L} {i j : Int} (h : Ev a δ w (.int i)) (h2 : Ev b δ w (.int j)) : Ev (deOp dNe a b) δ w (.bl (!decide (i = j))) := Ev.op h h2 fun k q => neI_r q
theorem sp_is_prime : ∀ ds (w : L.W) R, fPrime ds w R → dfOf 1 2 (m_is_prime (L := L)) ds w R := by
  rintro ds w R ⟨n, rfl, h2, hn, q⟩
  have hit : EvA (L := L) (diRange2 (deC (.int 2)) (deVar 0)) [.val (.int (n : Int)), .no] w ((List.range (n - 2)).map fun i : Nat => D.int (2 + (i : Int))) := fun Q q => (Ev.con : Ev (deC (.int 2)) _ _ (.int 2)) _ ((Ev.var rfl : Ev (deVar 0) _ _ (.int (n : Int))) _ ⟨by omega, by
    have e : ((n : Int) - 2).toNat = n - 2 := by omega
    rw [e]
    exact q⟩)
  have z := Ev.and (Ev.geI (Ev.var (L := L) (w := w) (δ := [.val (.int (n : Int)), .no]) (i := 0) rfl) (Ev.con (x := .int 2))) fun _ => Ev.allM (i := 1) (f := fun k => !decide (n % (k + 2) = 0)) hit (by simp) (by simp) fun k hk => by
    have y := Ev.neI (Ev.modI (L := L) (w := w) (δ := ([.val (.int (n : Int)), .no] : DEnv).set 1 (.val (.int (2 + (k : Int))))) (a := deVar 0) (b := deVar 1) (Ev.var rfl) (Ev.var rfl) (by omega)) (Ev.con (x := .int 0))
    have e : decide ((n : Int) % (2 + (k : Int)) = 0) = decide (n % (k + 2) = 0) := decide_eq_decide.mpr (by
      have e2 : (2 + (k : Int)) = ((k + 2 : Nat) : Int) := by omega
      rw [e2]
      norm_cast)
    rw [e] at y
    exact y
  rw [decide_eq_true (show (2 : Int) ≤ (n : Int) by omega), Bool.true_and] at z
  exact ⟨rfl, s_ret z q⟩
def fMod : DF L := fun ds w R => ∃ n : Nat, ds = [.int (n : Int)] ∧ 2 ≤ n ∧ n ≤ 997 ∧ primeB n = true ∧ R (.bl true) w
theorem sp_is_modulus : ∀ ds (w : L.W) R, fMod ds w R → dfOf 1 1 (m_is_modulus (L := L) fInt fPrime) ds w R := by
  rintro ds w R ⟨n, rfl, h2, hn, hp, q⟩
  have z := Ev.leI (Ev.var (L := L) (w := w) (δ := [.val (.int (n : Int))]) (i := 0) rfl) (Ev.con (x := .int 997))
  rw [decide_eq_true (show (n : Int) ≤ 997 by omega)] at z
  refine ⟨rfl, s_ret (Ev.and (c := true) (c' := true && true) (Ev.call (EvA.cons (Ev.var (i := 0) rfl) EvA.nil) fun R r => ⟨(n : Int), rfl, r⟩) fun _ => Ev.and z fun _ => Ev.call (EvA.cons (Ev.var (i := 0) rfl) EvA.nil) fun R r => ⟨n, rfl, h2, by omega, by rw [hp]; exact r⟩) q⟩
/-! ### sets within sets -/
def fSub : DF L := fun ds w R => ∃ a b xs ys, ds = [a, b] ∧ SeqS a xs ∧ SeqS b ys ∧ OkS xs ∧ OkS ys ∧ R (.bl (subS xs ys)) w
theorem sp_sub : ∀ ds (w : L.W) R, fSub ds w R → dfOf 2 3 (m_is_subset (L := L)) ds w R := by
  rintro ds w R ⟨a, b, xs, ys, rfl, sa, sb, ox, oy, q⟩
  exact ⟨rfl, s_ret (Ev.allM (f := fun z => decide (z ∈ ys)) (sa.seq (Ev.var rfl)) (by simp) (by simp) fun x hx => Ev.inS (Ev.var rfl) (Ev.var rfl) sb (ox x hx) oy) q⟩
def fLarger : DF L := fun ds w R => ∃ (g : List Str) (gs : List (List Str)), ds = [dT g, .tup (gs.map dT)] ∧ OkS g ∧ OkG gs ∧ R (.bl (gs.any fun e => decide ((g.length : Int) < e.length) && subS g e)) w
theorem sp_larger : ∀ ds (w : L.W) R, fLarger ds w R → dfOf 2 3 (m_is_within_larger (L := L) fSub) ds w R := by
  rintro ds w R ⟨g, gs, rfl, og, os, q⟩
  refine ⟨rfl, s_ret (Ev.anyM (emb := dT) (f := fun e => decide ((g.length : Int) < e.length) && subS g e) (EvA.seqT (Ev.var (i := 1) rfl)) (by simp) (by simp) fun e he => ?_) q⟩
  have z := Ev.ltI (Ev.lenT (L := L) (w := w) (δ := ([.val (dT g), .val (.tup (gs.map dT)), .no] : DEnv).set 2 (.val (dT e))) (a := deVar 0) (xs := g.map .str) (Ev.var rfl)) (Ev.lenT (a := deVar 2) (xs := e.map .str) (Ev.var rfl))
  rw [List.length_map, List.length_map] at z
  exact Ev.and z fun _ => Ev.call (EvA.cons (Ev.var (i := 0) rfl) (EvA.cons (Ev.var (i := 2) rfl) EvA.nil)) fun R r => ⟨_, _, _, _, rfl, .inr rfl, .inr rfl, og, (os e he).1, r⟩
def fWithin : DF L := fun ds w R => ∃ (g : List Str) (gs : List (List Str)), ds = [dT g, .tup (gs.map dT)] ∧ OkS g ∧ OkG gs ∧ R (.bl (gs.any fun e => subS g e)) w
theorem sp_within : ∀ ds (w : L.W) R, fWithin ds w R → dfOf 2 3 (m_is_within (L := L) fSub) ds w R := by
  rintro ds w R ⟨g, gs, rfl, og, os, q⟩
  exact ⟨rfl, s_ret (Ev.anyM (emb := dT) (f := fun e => subS g e) (EvA.seqT (Ev.var (i := 1) rfl)) (by simp) (by simp) fun e he => Ev.call (EvA.cons (Ev.var (i := 0) rfl) (EvA.cons (Ev.var (i := 2) rfl) EvA.nil)) fun R r => ⟨_, _, _, _, rfl, .inr rfl, .inr rfl, og, (os e he).1, r⟩) q⟩
def fFamOk : DF L := fun ds w R => ∃ (gs : List (List Str)) (sv : List Str), ds = [.tup (gs.map dT), dT sv] ∧ Fam sv gs ∧ gs.length ≤ 20 ∧ sv.length ≤ 20 ∧ (∀ z ∈ sv, NmOk z) ∧ Asc sv ∧ R (.bl true) w
theorem seen_names {zs : List Str} (h : ∀ z ∈ zs, NmOk z) : ∀ l, dT zs = .tup l → ∀ d ∈ l, Seen d := fun l e d hd => by
  have e := D.tup.inj e
  subst e
  obtain ⟨z, hz, rfl⟩ := List.mem_map.mp hd
  exact ⟨rfl, fun y hy => by
    cases hy
    have := (h z hz).len
    omega⟩
theorem sp_is_family : ∀ ds (w : L.W) R, fFamOk ds w R → dfOf 2 3 (m_is_family (L := L) fAsc fSet fSub fLarger) ds w R := by
  rintro ds w R ⟨gs, sv, rfl, F, hl, hsl, nm, as, q⟩
  have og : OkG gs := okG_of nm (by omega) F.sub
  have osv : OkS sv := okS_of nm
  refine ⟨rfl, ?_⟩
  have e0 := Ev.eqI (Ev.lenT (L := L) (w := w) (δ := [.val (.tup (gs.map dT)), .val (dT sv), .no]) (a := deVar 0) (xs := gs.map dT) (Ev.var rfl)) (Ev.con (x := .int 0))
  have hne : 1 ≤ gs.length := List.length_pos_iff.mpr F.ne
  rw [List.length_map, decide_eq_false (by omega)] at e0
  refine s_ifn (c := !true || false) (EvT.or (EvT.not (EvT.of (Ev.is (Ev.var (i := 0) (x := .tup (gs.map dT)) rfl) rfl (kit_tup (.tup (gs.map dT)) rfl)))) fun _ => EvT.of e0) (fun hc => by cases hc) fun _ => ?_
  have hall : (gs.all fun g => setB (dT g) && subS g sv) = true := List.all_eq_true.mpr fun g hg => by
    have s := F.sub g hg
    rw [set_ok (Sublist.nmOk s nm) (Asc.sub as s), Bool.true_and, subS_iff]
    exact fun z hz => s.subset hz
  have e1 := Ev.allM (L := L) (w := w) (δ := [.val (.tup (gs.map dT)), .val (dT sv), .no]) (i := 2) (it := diSeq (deVar 0)) (e := deAnd (deCall fSet (daCons (deVar 2) daNil)) (deCall fSub (daCons (deVar 2) (daCons (deVar 1) daNil)))) (emb := dT) (zs := gs) (f := fun g => setB (dT g) && subS g sv) (EvA.seqT (Ev.var rfl)) (by simp) (by simp) fun g hg => Ev.and (Ev.call (EvA.cons (Ev.var (i := 2) rfl) EvA.nil) fun R r => ⟨dT g, rfl, rfl, seen_names (Sublist.nmOk (F.sub g hg) nm), r⟩) fun _ => Ev.call (EvA.cons (Ev.var (i := 2) rfl) (EvA.cons (Ev.var (i := 1) rfl) EvA.nil)) fun R r => ⟨_, _, _, _, rfl, .inr rfl, .inr rfl, (og g hg).1, osv, r⟩
  rw [hall] at e1
  refine s_ifn (c := !true) (EvT.not (EvT.of e1)) (fun hc => by cases hc) fun _ => ?_
  have hany : (gs.any fun g => gs.any fun e => decide ((g.length : Int) < e.length) && subS g e) = false := by
    rw [List.any_eq_false]
    intro g hg h
    obtain ⟨e, he, h⟩ := List.any_eq_true.mp h
    rw [Bool.and_eq_true, decide_eq_true_eq] at h
    have ne : e ≠ g := fun z => by rw [z] at h; omega
    rw [F.max g hg e he ne] at h
    exact Bool.noConfusion h.2
  have e2 := Ev.anyM (L := L) (w := w) (δ := [.val (.tup (gs.map dT)), .val (dT sv), .no]) (i := 2) (it := diSeq (deVar 0)) (e := deCall fLarger (daCons (deVar 2) (daCons (deVar 0) daNil))) (emb := dT) (zs := gs) (f := fun g => gs.any fun e => decide ((g.length : Int) < e.length) && subS g e) (EvA.seqT (Ev.var rfl)) (by simp) (by simp) fun g hg => Ev.call (EvA.cons (Ev.var (i := 2) rfl) (EvA.cons (Ev.var (i := 0) rfl) EvA.nil)) fun R r => ⟨g, gs, rfl, (og g hg).1, og, r⟩
  rw [hany] at e2
  exact s_ret (Ev.and (c := true) (c' := !false) (Ev.call (EvA.cons (Ev.var (i := 0) rfl) EvA.nil) fun R r => .inr ⟨gs, rfl, by rw [ascT_ok F.up F.nd]; exact r⟩) fun _ => Ev.not e2) q
def fParties : DF L := fun ds w R => ∃ (sv cl : List Str), ds = [dT sv, dT cl] ∧ (∀ z ∈ sv ++ cl, NmOk z) ∧ (sv ++ cl).Nodup ∧ 2 ≤ sv.length ∧ 1 ≤ cl.length ∧ Asc sv ∧ Asc cl ∧ R (.bl true) w
theorem sp_are_parties : ∀ ds (w : L.W) R, fParties ds w R → dfOf 2 3 (m_are_parties (L := L) fSet) ds w R := by
  rintro ds w R ⟨sv, cl, rfl, nm, nd, h2, h1, as, ac, q⟩
  have ns : ∀ z ∈ sv, NmOk z := fun z hz => nm z (List.mem_append_left _ hz)
  have nc : ∀ z ∈ cl, NmOk z := fun z hz => nm z (List.mem_append_right _ hz)
  refine ⟨rfl, ?_⟩
  refine s_ifn (c := !true || !true) (EvT.or (EvT.not (EvT.of (Ev.call (EvA.cons (Ev.var (i := 0) rfl) EvA.nil) fun R r => ⟨dT sv, rfl, rfl, seen_names ns, by rw [set_ok ns as]; exact r⟩))) fun _ => EvT.not (EvT.of (Ev.call (EvA.cons (Ev.var (i := 1) rfl) EvA.nil) fun R r => ⟨dT cl, rfl, rfl, seen_names nc, by rw [set_ok nc ac]; exact r⟩))) (fun hc => by cases hc) fun _ => ?_
  have e1 := Ev.geI (Ev.lenT (L := L) (w := w) (δ := [.val (dT sv), .val (dT cl), .no]) (a := deVar 0) (xs := sv.map .str) (Ev.var rfl)) (Ev.con (x := .int 2))
  have e2 := Ev.geI (Ev.lenT (L := L) (w := w) (δ := [.val (dT sv), .val (dT cl), .no]) (a := deVar 1) (xs := cl.map .str) (Ev.var rfl)) (Ev.con (x := .int 1))
  rw [List.length_map, decide_eq_true (by omega)] at e1
  rw [List.length_map, decide_eq_true (by omega)] at e2
  have hany : (cl.any fun z => decide (z ∈ sv)) = false := by
    rw [List.any_eq_false]
    intro z hz h
    exact (List.nodup_append.mp nd).2.2 z (of_decide_eq_true h) z hz rfl
  have e3 := Ev.anyM (L := L) (w := w) (δ := [.val (dT sv), .val (dT cl), .no]) (i := 2) (it := diSeq (deVar 1)) (e := deOp (dIn false) (deVar 2) (deVar 0)) (emb := D.str) (zs := cl) (f := fun z => decide (z ∈ sv)) (EvA.seqT (Ev.var rfl)) (by simp) (by simp) fun z hz => Ev.inS (Ev.var rfl) (Ev.var rfl) (.inr rfl) (nc z hz).ok (okS_of ns)
  rw [hany] at e3
  exact s_ret (Ev.and e1 fun _ => Ev.and e2 fun _ => Ev.not e3) q
/-- is_scheme of a valid one -/
def fScheme : DF L := fun ds w R => ∃ (n : Nat) (sv cl : List Str) (ob fl : List (List Str)), ds = [dSch n sv cl ob fl] ∧ 2 ≤ n ∧ n ≤ 997 ∧ primeB n = true ∧ CfgW sv cl ob fl ∧ R (.bl true) w
theorem sp_is_scheme : ∀ ds (w : L.W) R, fScheme ds w R → dfOf 1 7 (m_is_scheme (L := L) fMod fParties fFamOk fWithin) ds w R := by
  rintro ds w R ⟨n, sv, cl, ob, fl, rfl, h2, hn, hp, C, q⟩
  have ns : ∀ z ∈ sv, NmOk z := fun z hz => C.nm z (List.mem_append_left _ hz)
  have sn : sv.Nodup := (List.nodup_append.mp C.nd).1
  have cn : cl.Nodup := (List.nodup_append.mp C.nd).2.1
  have as : Asc sv := by rw [C.svs]; exact asc_sort sn
  have ac : Asc cl := by rw [C.cls]; exact asc_sort cn
  have svn := C.svn
  have oo : OkG ob := okG_of ns (by omega) C.fob.sub
  have of' : OkG fl := okG_of ns (by omega) C.ffl.sub
  refine ⟨rfl, ?_⟩
  have e0 := Ev.neI (Ev.lenT (L := L) (w := w) (δ := [.val (dSch n sv cl ob fl), .no, .no, .no, .no, .no, .no]) (a := deVar 0) (xs := [.int n, dT sv, dT cl, .tup (ob.map dT), .tup (fl.map dT)]) (Ev.var rfl)) (Ev.con (x := .int 5))
  refine s_ifn (c := !true || false) (EvT.or (EvT.not (EvT.of (Ev.is (Ev.var (i := 0) (x := dSch n sv cl ob fl) rfl) rfl (kit_tup (dSch n sv cl ob fl) rfl)))) fun _ => EvT.of e0) (fun hc => by cases hc) fun _ => ?_
  refine asg_r (ev_r (Ev.var (i := 0) rfl) ⟨rfl, by simp, by simp, by simp, by simp, by simp, rfl, ?_⟩)
  refine s_ifn (c := !true || !true) (EvT.or (EvT.not (EvT.of (Ev.call (EvA.cons (Ev.var (i := 1) (x := .int n) rfl) EvA.nil) fun R r => ⟨n, rfl, h2, hn, hp, r⟩))) fun _ => EvT.not (EvT.of (Ev.call (EvA.cons (Ev.var (i := 2) (x := dT sv) rfl) (EvA.cons (Ev.var (i := 3) (x := dT cl) rfl) EvA.nil)) fun R r => ⟨sv, cl, rfl, C.nm, C.nd, C.sv2, C.cl1, as, ac, r⟩))) (fun hc => by cases hc) fun _ => ?_
  refine s_ifn (c := !true || !true) (EvT.or (EvT.not (EvT.of (Ev.call (EvA.cons (Ev.var (i := 4) (x := .tup (ob.map dT)) rfl) (EvA.cons (Ev.var (i := 2) (x := dT sv) rfl) EvA.nil)) fun R r => ⟨ob, sv, rfl, C.fob, C.obn, C.svn, ns, as, r⟩))) fun _ => EvT.not (EvT.of (Ev.call (EvA.cons (Ev.var (i := 5) (x := .tup (fl.map dT)) rfl) (EvA.cons (Ev.var (i := 2) (x := dT sv) rfl) EvA.nil)) fun R r => ⟨fl, sv, rfl, C.ffl, C.fln, C.svn, ns, as, r⟩))) (fun hc => by cases hc) fun _ => ?_
  have hall : (fl.all fun f => ob.any fun g => subS f g) = true := List.all_eq_true.mpr fun f hf => by
    obtain ⟨g, hg, h⟩ := C.wi f hf
    exact List.any_eq_true.mpr ⟨g, hg, h⟩
  have e4 : Ev (L := L) (deAll [6] (diSeq (deVar 5)) (dgName 6) dtYes (deCall fWithin (daCons (deVar 6) (daCons (deVar 4) daNil)))) [.val (dSch n sv cl ob fl), .val (.int n), .val (dT sv), .val (dT cl), .val (.tup (ob.map dT)), .val (.tup (fl.map dT)), .no] w (.bl (fl.all fun f => ob.any fun g => subS f g)) := Ev.allM (emb := dT) (zs := fl) (EvA.seqT (Ev.var rfl)) (by simp) (by simp) fun f hf => Ev.call (EvA.cons (Ev.var (i := 6) rfl) (EvA.cons (Ev.var (i := 4) rfl) EvA.nil)) fun R r => ⟨f, ob, rfl, (of' f hf).1, oo, r⟩
  rw [hall] at e4
  exact s_ret e4 q
end
end Dl
set_option maxRecDepth 100000
set_option maxHeartbeats 4000000
namespace Dl
open PySem PySem.Spec PyProof.Rows L2 Lk

/-! ### texts: joined and split -/
def NL : Str := "\n"
def SP : Str := " "
theorem NL_S : NL = SX.S [10] := by decide +kernel
theorem SP_S : SP = SX.S [32] := by decide +kernel
theorem split_join {c : Nat} (hc : c < 256) {xs : List Str} (ne : xs ≠ []) (h : ∀ x ∈ xs, c ∉ x.cps.toList) : Txt.split (Txt.join (SX.S [c]) xs) (SX.S [c]) = xs := by
  have e : xs = (xs.map TL.tl).map SX.S := by
    rw [List.map_map]
    exact (List.map_congr_left (g := id) (fun x _ => SX.S_tl x) |>.trans (List.map_id xs)).symm
  have e2 : Txt.join (SX.S [c]) xs = SX.S (TL.joinL [c] (xs.map TL.tl)) := by
    rw [← SX.join_S, ← e]
  rw [e2, SX.split_S (by simp) (by simp [hc]), SX.spl_join (by simpa using ne) fun p hp => ?_]
  · exact e.symm
  · obtain ⟨x, hx, rfl⟩ := List.mem_map.mp hp
    exact h x hx
theorem join_cps (c : Nat) (xs : List Str) : (Txt.join (SX.S [c]) xs).cps.toList = TL.joinL [c] (xs.map TL.tl) := by
  have e : xs = (xs.map TL.tl).map SX.S := by
    rw [List.map_map]
    exact (List.map_congr_left (g := id) (fun x _ => SX.S_tl x) |>.trans (List.map_id xs)).symm
  have e2 : Txt.join (SX.S [c]) xs = SX.S (TL.joinL [c] (xs.map TL.tl)) := by
    rw [← SX.join_S, ← e]
  rw [e2]
theorem joinL_mem {c d : Nat} : ∀ {ls : List (List Nat)}, d ∈ TL.joinL [c] ls → d = c ∨ ∃ l ∈ ls, d ∈ l
  | [], h => by simp [TL.joinL] at h
  | [l], h => by
    simp [TL.joinL] at h
    exact .inr ⟨l, List.mem_singleton.mpr rfl, h⟩
  | l :: m :: ls, h => by
    have h : d ∈ l ++ ([c] ++ TL.joinL [c] (m :: ls)) := by simpa [TL.joinL] using h
    rcases List.mem_append.mp h with h | h
    · exact .inr ⟨l, List.mem_cons_self, h⟩
    · rcases List.mem_append.mp h with h | h
      · exact .inl (List.mem_singleton.mp h)
      · rcases joinL_mem h with h | ⟨x, hx, h⟩
        · exact .inl h
        · exact .inr ⟨x, List.mem_cons_of_mem _ hx, h⟩
/-- no sign c in it -/
def Free (c : Nat) (x : Str) : Prop := c ∉ x.cps.toList
theorem free_join {c d : Nat} (hd : d ≠ c) {xs : List Str} (h : ∀ x ∈ xs, Free d x) : Free d (Txt.join (SX.S [c]) xs) := fun z => by
  rw [join_cps] at z
  rcases joinL_mem z with z | ⟨l, hl, z⟩
  · exact hd z
  · obtain ⟨x, hx, rfl⟩ := List.mem_map.mp hl
    exact h x hx z
theorem NmOk.free {z : Str} (h : NmOk z) {c : Nat} (hc : c < 97) : Free c z := fun y => by
  have := (h.2.2 c y).1
  omega
/-! ### lines and the text of a scheme -/
def lineT (w : Str) (ns : List Str) : Str := Txt.join SP (w :: ns)
def numT (n : Nat) : Str := (toString (n : Int) : Str)
/-- a number whose text is read as it was shown -/
structure NumOk (n : Nat) : Prop where
  len : 1 ≤ (numT n).length ∧ (numT n).length ≤ 6
  dig : ∀ c ∈ (numT n).cps.toList, 48 ≤ c ∧ c ≤ 57
  top : (numT n).cps.toList.head? ≠ some 48
  val : PySem.intText? (numT n) = some (n : Int)
def numB (n : Nat) : Bool := decide (1 ≤ (numT n).length) && decide ((numT n).length ≤ 6) && ((numT n).cps.toList.all fun c => decide (48 ≤ c) && decide (c ≤ 57)) && decide ((numT n).cps.toList.head? ≠ some 48) && decide (PySem.intText? (numT n) = some (n : Int))
theorem num_of {n : Nat} (h : numB n = true) : NumOk n := by
  unfold numB at h
  simp only [Bool.and_eq_true, decide_eq_true_eq, List.all_eq_true] at h
  exact ⟨⟨h.1.1.1.1, h.1.1.1.2⟩, h.1.1.2, h.1.2, h.2⟩
def primesW : List Nat := [2, 3, 5, 7, 11, 97, 101, 499, 991, 997]
theorem primes_ok : ∀ n ∈ primesW, numB n = true ∧ primeB n = true ∧ 2 ≤ n ∧ n ≤ 997 := by decide +kernel
def headT (n : Nat) : Str := Txt.join SP [("prime" : Str), numT n]
def textT (n : Nat) (sv cl : List Str) (ob fl : List (List Str)) : Str := Txt.join NL ([headT n, lineT "servers" sv, lineT "clients" cl] ++ (ob.map (lineT "observe") ++ fl.map (lineT "fault")))
theorem word_free : ∀ w ∈ (["prime", "servers", "clients", "observe", "fault"] : List Str), ∀ c ∈ w.cps.toList, 97 ≤ c := by decide +kernel
theorem line_split {w : Str} (hw : w ∈ (["prime", "servers", "clients", "observe", "fault"] : List Str)) {ns : List Str} (h : ∀ z ∈ ns, NmOk z) : Txt.split (lineT w ns) SP = w :: ns ∧ Free 10 (lineT w ns) := by
  have fw : ∀ c, c < 97 → Free c w := fun c hc y => by
    have := word_free w hw c y
    omega
  have fr : ∀ c, c < 97 → ∀ x ∈ w :: ns, Free c x := fun c hc x hx => by
    rcases List.mem_cons.mp hx with rfl | hx
    · exact fw c hc
    · exact (h x hx).free hc
  unfold lineT
  rw [SP_S]
  exact ⟨split_join (by decide) (by simp) (fr 32 (by decide)), free_join (by decide) (fr 10 (by decide))⟩
theorem head_split {n : Nat} (h : NumOk n) : Txt.split (headT n) SP = [("prime" : Str), numT n] ∧ Free 10 (headT n) := by
  have fr : ∀ c, c < 48 → ∀ x ∈ ([("prime" : Str), numT n] : List Str), Free c x := fun c hc x hx => by
    simp only [List.mem_cons, List.not_mem_nil, or_false] at hx
    rcases hx with rfl | rfl
    · intro y
      have := word_free "prime" (by simp) c y
      omega
    · intro y
      have := (h.dig c y).1
      omega
  unfold headT
  rw [SP_S]
  exact ⟨split_join (by decide) (by simp) (fr 32 (by decide)), free_join (by decide) (fr 10 (by decide))⟩
/-- the text's lines -/
theorem text_split {n : Nat} {sv cl : List Str} {ob fl : List (List Str)} (h : NumOk n) (ns : ∀ z ∈ sv, NmOk z) (nc : ∀ z ∈ cl, NmOk z) (no : ∀ g ∈ ob, ∀ z ∈ g, NmOk z) (nf : ∀ g ∈ fl, ∀ z ∈ g, NmOk z) :
    Txt.split (textT n sv cl ob fl) NL = [headT n, lineT "servers" sv, lineT "clients" cl] ++ (ob.map (lineT "observe") ++ fl.map (lineT "fault")) := by
  unfold textT
  rw [NL_S]
  refine split_join (by decide) (by simp) fun x hx => ?_
  rcases List.mem_append.mp hx with hx | hx
  · simp only [List.mem_cons, List.not_mem_nil, or_false] at hx
    rcases hx with rfl | rfl | rfl
    · exact (head_split h).2
    · exact (line_split (by simp) ns).2
    · exact (line_split (by simp) nc).2
  · rcases List.mem_append.mp hx with hx | hx
    · obtain ⟨g, hg, rfl⟩ := List.mem_map.mp hx
      exact (line_split (by simp) (no g hg)).2
    · obtain ⟨g, hg, rfl⟩ := List.mem_map.mp hx
      exact (line_split (by simp) (nf g hg)).2
end Dl
set_option maxRecDepth 100000
set_option maxHeartbeats 4000000
namespace Dl
open PySem PySem.Spec PyProof.Rows L2 Lk

theorem join_len {c : Nat} (xs : List Str) : (Txt.join (SX.S [c]) xs).length ≤ (xs.map (·.length)).sum + xs.length := by
  have key : ∀ ls : List (List Nat), (TL.joinL [c] ls).length ≤ (ls.map (·.length)).sum + ls.length := fun ls => by
    induction ls with
    | nil => simp [TL.joinL]
    | cons l ls ih =>
      cases ls with
      | nil => simp [TL.joinL]
      | cons m ls =>
        have e : TL.joinL [c] (l :: m :: ls) = l ++ ([c] ++ TL.joinL [c] (m :: ls)) := by simp [TL.joinL]
        rw [e, List.length_append, List.length_append, List.map_cons, List.sum_cons, List.length_cons]
        simp only [List.length_cons, List.length_nil] at ih ⊢
        omega
  have e : (Txt.join (SX.S [c]) xs).length = (TL.joinL [c] (xs.map TL.tl)).length := by
    rw [← join_cps]
    rfl
  rw [e]
  have z := key (xs.map TL.tl)
  rw [List.map_map, List.length_map] at z
  exact z
theorem sum_le {k : Nat} : ∀ {ys : List Str}, (∀ y ∈ ys, y.length ≤ k) → (ys.map (·.length)).sum ≤ ys.length * k
  | [], _ => by simp
  | y :: ys, h => by
    have h1 := h y List.mem_cons_self
    have h2 := sum_le (k := k) fun z hz => h z (List.mem_cons_of_mem _ hz)
    rw [List.map_cons, List.sum_cons, List.length_cons, Nat.add_mul]
    omega
theorem word_len : ∀ w ∈ (["prime", "servers", "clients", "observe", "fault"] : List Str), w.length ≤ 7 := by decide +kernel
theorem line_len {w : Str} (hw : w ∈ (["prime", "servers", "clients", "observe", "fault"] : List Str)) {ns : List Str} (h : ∀ z ∈ ns, NmOk z) (hl : ns.length ≤ 20) : (∀ y ∈ w :: ns, y.length ≤ 7) ∧ (lineT w ns).length ≤ 200 := by
  have h7 : ∀ y ∈ w :: ns, y.length ≤ 7 := fun y hy => by
    rcases List.mem_cons.mp hy with rfl | hy
    · exact word_len _ hw
    · have := (h y hy).len
      omega
  refine ⟨h7, ?_⟩
  have z := join_len (c := 32) (w :: ns)
  have y := sum_le h7
  unfold lineT
  rw [SP_S]
  rw [List.length_cons] at y z
  omega
theorem head_eq (n : Nat) : (Str.empty ++ ("prime " : Str)) ++ (toString (n : Int) : Str) = headT n := by
  refine str_ext ?_
  have e : (Str.empty ++ ("prime " : Str)).cps.toList = TL.tl ("prime" : Str) ++ [32] := by decide +kernel
  rw [app_cps, e]
  unfold headT
  rw [SP_S, join_cps]
  simp [TL.joinL, numT]
theorem head_len {n : Nat} (h : NumOk n) : (headT n).length ≤ 20 := by
  have z := join_len (c := 32) [("prime" : Str), numT n]
  have e : ("prime" : Str).length = 5 := by decide +kernel
  have := h.len.2
  unfold headT
  rw [SP_S]
  simp only [List.map_cons, List.map_nil, List.sum_cons, List.sum_nil, List.length_cons, List.length_nil, e] at z
  omega
section
variable {L : Wd} {δ : DEnv} {w : L.W}
theorem Ev.join {a b : DE L} {z : Str} {ys : List Str} (ha : Ev a δ w (.str z)) (hb : Ev b δ w (.lst (ys.map .str))) (hs : (ys.map (·.length)).sum + ys.length * z.length ≤ 16777216) : Ev (deJoin a b) δ w (.str (Txt.join z ys)) := fun Q q => ha _ (hb _ ⟨z, ys, rfl, .inl rfl, hs, q⟩)
theorem EvA.star {d : DE L} {r : DA L} {xs ys : List D} (h : Ev d δ w (.tup xs)) (hr : EvA r δ w ys) : EvA (daStar d r) δ w (xs ++ ys) := fun Q q => h _ ⟨xs, .inl rfl, hr _ q⟩
theorem s_ext {E : DEnds L} {r : DS L} {i : Nat} {l ys : List D} {d : DE L} (h : Ev d δ w (.lst ys)) (e : δ[i]? = some (.own (.lst l))) (hl : l.length + ys.length ≤ sizeLine) (q : r E (δ.set i (.own (.lst (l ++ ys)))) w) : dsSeq (dsExpr (deMut i mExt (daCons d daNil))) r E δ w := ⟨⟨l, e⟩, h _ ⟨l, e, ys, rfl, hl, q⟩⟩
def fLine : DF L := fun ds w R => ∃ (x : Str) (ns : List Str), ds = [.str x, dT ns] ∧ x ∈ (["prime", "servers", "clients", "observe", "fault"] : List Str) ∧ (∀ z ∈ ns, NmOk z) ∧ ns.length ≤ 20 ∧ R (.str (lineT x ns)) w
theorem sp_line : ∀ ds (w : L.W) R, fLine ds w R → dfOf 2 2 (m_line (L := L)) ds w R := by
  rintro ds w R ⟨x, ns, rfl, hx, nm, hl, q⟩
  have big := sz (k := 1000)
  refine ⟨rfl, s_ret (Ev.join (z := SP) (ys := x :: ns) Ev.con ?_ ?_) q⟩
  · have z := EvA.lst (L := L) (w := w) (δ := [.val (.str x), .val (dT ns)]) (EvA.cons (a := deVar 0) (Ev.var rfl) (EvA.star (d := deVar 1) (xs := ns.map .str) (Ev.var rfl) EvA.nil)) (by rw [List.append_nil, List.length_cons, List.length_map]; omega)
    rw [List.append_nil] at z
    exact Ev.F z
  · have y := sum_le (line_len hx nm hl).1
    have e : SP.length = 1 := by decide +kernel
    rw [e]
    rw [List.length_cons] at y ⊢
    omega
/-- what the texts are made of -/
structure TxtOk (n : Nat) (sv cl : List Str) (ob fl : List (List Str)) : Prop where
  num : NumOk n
  ns : ∀ z ∈ sv, NmOk z
  nc : ∀ z ∈ cl, NmOk z
  no : ∀ g ∈ ob, (∀ z ∈ g, NmOk z) ∧ g.length ≤ 20
  nf : ∀ g ∈ fl, (∀ z ∈ g, NmOk z) ∧ g.length ≤ 20
  ls : sv.length ≤ 20
  lc : cl.length ≤ 20
  lo : ob.length ≤ 20
  lf : fl.length ≤ 20
theorem CfgW.txt {n : Nat} {sv cl : List Str} {ob fl : List (List Str)} (h : NumOk n) (C : CfgW sv cl ob fl) : TxtOk n sv cl ob fl where
  num := h
  ns := fun z hz => C.nm z (List.mem_append_left _ hz)
  nc := fun z hz => C.nm z (List.mem_append_right _ hz)
  no := fun g hg => ⟨Sublist.nmOk (C.fob.sub g hg) fun z hz => C.nm z (List.mem_append_left _ hz), Nat.le_trans (C.fob.sub g hg).length_le C.svn⟩
  nf := fun g hg => ⟨Sublist.nmOk (C.ffl.sub g hg) fun z hz => C.nm z (List.mem_append_left _ hz), Nat.le_trans (C.ffl.sub g hg).length_le C.svn⟩
  ls := C.svn
  lc := C.cln
  lo := C.obn
  lf := C.fln
def linesT (n : Nat) (sv cl : List Str) (ob fl : List (List Str)) : List Str := [headT n, lineT "servers" sv, lineT "clients" cl] ++ (ob.map (lineT "observe") ++ fl.map (lineT "fault"))
theorem lines_len {n : Nat} {sv cl : List Str} {ob fl : List (List Str)} (T : TxtOk n sv cl ob fl) : (∀ y ∈ linesT n sv cl ob fl, y.length ≤ 200) ∧ (linesT n sv cl ob fl).length ≤ 43 ∧ (textT n sv cl ob fl).length ≤ 10000 := by
  have h1 : ∀ y ∈ linesT n sv cl ob fl, y.length ≤ 200 := fun y hy => by
    rcases List.mem_append.mp hy with hy | hy
    · simp only [List.mem_cons, List.not_mem_nil, or_false] at hy
      rcases hy with rfl | rfl | rfl
      · have := head_len T.num
        omega
      · exact (line_len (by simp) T.ns T.ls).2
      · exact (line_len (by simp) T.nc T.lc).2
    · rcases List.mem_append.mp hy with hy | hy
      · obtain ⟨g, hg, rfl⟩ := List.mem_map.mp hy
        exact (line_len (by simp) (T.no g hg).1 (T.no g hg).2).2
      · obtain ⟨g, hg, rfl⟩ := List.mem_map.mp hy
        exact (line_len (by simp) (T.nf g hg).1 (T.nf g hg).2).2
  have h2 : (linesT n sv cl ob fl).length ≤ 43 := by
    have := T.lo
    have := T.lf
    simp [linesT]
    omega
  refine ⟨h1, h2, ?_⟩
  have z := join_len (c := 10) (linesT n sv cl ob fl)
  have y := sum_le h1
  have e : textT n sv cl ob fl = Txt.join (SX.S [10]) (linesT n sv cl ob fl) := by rw [← NL_S]; rfl
  rw [e]
  have : (linesT n sv cl ob fl).length * 200 ≤ 43 * 200 := Nat.mul_le_mul_right _ h2
  omega
def fFormat : DF L := fun ds w R => ∃ (n : Nat) (sv cl : List Str) (ob fl : List (List Str)), ds = [dSch n sv cl ob fl] ∧ n ≤ 1000 ∧ TxtOk n sv cl ob fl ∧ R (.str (textT n sv cl ob fl)) w
theorem join_fit {ys : List Str} (h1 : ∀ y ∈ ys, y.length ≤ 200) (h2 : ys.length ≤ 43) : (ys.map (·.length)).sum + ys.length * NL.length ≤ 16777216 := by
  have y := sum_le h1
  have e : NL.length = 1 := by decide +kernel
  have : ys.length * 200 ≤ 43 * 200 := Nat.mul_le_mul_right _ h2
  rw [e]
  omega
theorem sp_format : ∀ ds (w : L.W) R, fFormat ds w R → dfOf 1 8 (m_format_scheme (L := L) fLine) ds w R := by
  rintro ds w R ⟨n, sv, cl, ob, fl, rfl, hn, T, q⟩
  have big := sz (k := 1000)
  obtain ⟨l1, l2, l3⟩ := lines_len T
  have lo := T.lo
  have lf := T.lf
  refine ⟨rfl, asg_r (ev_r (Ev.var (i := 0) rfl) ⟨rfl, by simp, by simp, by simp, by simp, by simp, rfl, ?_⟩)⟩
  have ehd : Ev (L := L) (deFInt "prime " (deVar 1)) [.val (dSch n sv cl ob fl), .val (.int n), .val (dT sv), .val (dT cl), .val (.tup (ob.map dT)), .val (.tup (fl.map dT)), .no, .no] w (.str (headT n)) := fun Q q => by
    have hh := head_len T.num
    rw [← head_eq] at hh q
    exact ⟨Nat.le_trans (by decide +kernel) big, (Ev.var rfl : Ev (deVar 1) _ _ (.int (n : Int))) _ ⟨n, rfl, by
      have : Nat.log2 (n : Int).natAbs ≤ n := by
        have := Nat.log2_self_le (n := n)
        rcases Nat.eq_zero_or_pos n with rfl | h
        · decide
        · have h1 := Nat.log2_lt (n := n) (k := n) (by omega)
          exact Nat.le_of_lt (h1.mpr Nat.lt_two_pow_self)
      omega, by omega, q⟩⟩
  have eln : ∀ (x : Str) (i : Nat) (ns : List Str) (δ : DEnv), x ∈ (["prime", "servers", "clients", "observe", "fault"] : List Str) → δ[i]? = some (.val (dT ns)) → (∀ z ∈ ns, NmOk z) → ns.length ≤ 20 → Ev (L := L) (deCall fLine (daCons (deC (.str x)) (daCons (deVar i) daNil))) δ w (.str (lineT x ns)) := fun x i ns δ hx hi nm hl => Ev.call (EvA.cons Ev.con (EvA.cons (Ev.var hi) EvA.nil)) fun R r => ⟨x, ns, rfl, hx, nm, hl, r⟩
  refine s_own (xs := [headT n, lineT "servers" sv, lineT "clients" cl].map .str) (EvA.lst (EvA.cons ehd (EvA.cons (eln "servers" 2 sv _ (by simp) rfl T.ns T.ls) (EvA.cons (eln "clients" 3 cl _ (by simp) rfl T.nc T.lc) EvA.nil))) (by show 3 ≤ sizeLine; exact sz)) (by simp) ?_
  refine s_ext (ys := (ob.map (lineT "observe")).map .str) ?_ rfl (by simp; omega) ?_
  · rw [List.map_map]
    exact Ev.F (EvA.mapM (i := 7) (emb := dT) (zs := ob) (f := fun g => .str (lineT "observe" g)) (EvA.seqT (Ev.var (i := 4) rfl)) (by simp) (by simp) (by omega) fun g hg => eln "observe" 7 g _ (by simp) rfl (T.no g hg).1 (T.no g hg).2)
  refine s_ext (ys := (fl.map (lineT "fault")).map .str) ?_ rfl (by simp; omega) ?_
  · rw [show (fl.map (lineT "fault")).map D.str = fl.map (fun g => D.str (lineT "fault" g)) by rw [List.map_map]; rfl]
    refine Ev.F (EvA.mapM (i := 7) (emb := dT) (zs := fl) (f := fun g => .str (lineT "fault" g)) (EvA.seqT (Ev.var (i := 5) rfl)) ?_ ?_ (by omega) fun g hg => ?_)
    · simp
    · simp
    · exact eln "fault" 7 g _ (by simp) rfl (T.nf g hg).1 (T.nf g hg).2
  refine s_frz (i := 6) rfl (s_ret (Ev.join (z := NL) (ys := linesT n sv cl ob fl) Ev.con ?_ (join_fit l1 l2)) q)
  have e : (linesT n sv cl ob fl).map D.str = [headT n, lineT "servers" sv, lineT "clients" cl].map D.str ++ (ob.map (lineT "observe")).map D.str ++ (fl.map (lineT "fault")).map D.str := by
    simp [linesT]
  rw [e]
  exact Ev.var (i := 6) rfl
end
end Dl
set_option maxRecDepth 100000
set_option maxHeartbeats 4000000
namespace Dl
open PySem PySem.Spec PyProof.Rows L2 Lk

def digB (c : Nat) : Bool := decide (48 ≤ c) && decide (c ≤ 57)
theorem dig_chain (c : Nat) : ((!decide (cds (⟨#[c]⟩ : Str) < cds ("0" : Str))) && !decide (cds ("9" : Str) < cds (⟨#[c]⟩ : Str))) = digB c := by
  have e1 : cds ("0" : Str) = [48] := rfl
  have e2 : cds ("9" : Str) = [57] := rfl
  rw [cds_one, e1, e2]
  unfold digB
  refine Bool.eq_iff_iff.mpr ?_
  simp [List.cons_lt_cons_iff]
/-- a line's words -/
def rowD (x : Str × List Str) : D := .lst ((x.1 :: x.2).map .str)
theorem word_ok : ∀ w ∈ (["prime", "servers", "clients", "observe", "fault"] : List Str), PyData.strOk w = true := by decide +kernel
section
variable {L : Wd} {δ : DEnv} {w : L.W}
def fNum : DF L := fun ds w R => ∃ n : Nat, ds = [.str (numT n)] ∧ NumOk n ∧ R (.int n) w
theorem sp_number_of : ∀ ds (w : L.W) R, fNum ds w R → dfOf 1 2 (m_number_of (L := L)) ds w R := by
  rintro ds w R ⟨n, rfl, N, q⟩
  have l6 := N.len
  have z1 := Ev.chainI (L := L) (w := w) (δ := [.val (.str (numT n)), .no]) (a := deC (.int 1)) (b := deCB dLen (daCons (deVar 0) daNil)) (c := deC (.int 6)) Ev.con (Ev.lenS' (Ev.var rfl) (by omega)) Ev.con
  rw [decide_eq_true (show (1 : Int) ≤ ((numT n).length : Int) by omega), decide_eq_true (show ((numT n).length : Int) ≤ 6 by omega)] at z1
  have z2 := Ev.allM (L := L) (w := w) (δ := [.val (.str (numT n)), .no]) (i := 1) (it := diSeq (deVar 0)) (e := deChain dLe dLe (deC (.str "0")) (deVar 1) (deC (.str "9"))) (emb := fun c => D.str ⟨#[c]⟩) (zs := (numT n).cps.toList) (f := digB) (EvA.signs (Ev.var rfl)) (by simp) (by simp) fun c hc => by
    have h := Ev.chainS (L := L) (w := w) (δ := ([.val (.str (numT n)), .no] : DEnv).set 1 (.val (.str ⟨#[c]⟩))) (a := deC (.str "0")) (b := deVar 1) (c := deC (.str "9")) Ev.con (Ev.var rfl) Ev.con
    rw [dig_chain] at h
    exact h
  have hall : (numT n).cps.toList.all digB = true := List.all_eq_true.mpr fun c hc => by
    obtain ⟨a, b⟩ := N.dig c hc
    simp [digB, a, b]
  rw [hall] at z2
  refine ⟨rfl, s_ifn (c := !(true && true) || !true) (EvT.or (EvT.not (EvT.of z1)) fun _ => EvT.not (EvT.of z2)) (fun hc => by cases hc) fun _ => ?_⟩
  have hne : (numT n).cps.toList ≠ [] := fun z => by
    have : (numT n).length = (numT n).cps.toList.length := by first | rfl | simp [Str.length]
    rw [z] at this
    simp at this
    omega
  obtain ⟨c, r, hcr⟩ := List.exists_cons_of_ne_nil hne
  have hc48 : c ≠ 48 := fun z => N.top (by rw [hcr, z]; rfl)
  have ok : ∀ d, 48 ≤ d → d ≤ 57 → PyData.strOk (⟨#[d]⟩ : Str) = true := fun d h1 h2 => ok_iff.mpr fun x hx => by
    have : x = d := by simpa using hx
    omega
  have okc := N.dig c (by rw [hcr]; exact List.mem_cons_self)
  have z3 := Ev.eqS (L := L) (w := w) (δ := [.val (.str (numT n)), .no]) (a := deOp dIx (deVar 0) (deC (.int 0))) (b := deC (.str "0")) (y := "0") (Ev.ixS (j := 0) (c := c) (Ev.var rfl) Ev.con (by omega) (by rw [hcr]; rfl)) Ev.con (ok c okc.1 okc.2) (by decide +kernel)
  rw [decide_eq_false (fun z => hc48 (by
    have y := congrArg (fun s : Str => s.cps.toList) z
    have e : ("0" : Str).cps.toList = [48] := rfl
    rw [e] at y
    simpa using y))] at z3
  refine s_ifn (c := false && true) (EvT.and (EvT.of z3) fun h => by cases h) (fun hc => by cases hc) fun _ => ?_
  exact s_ret (Ev.cb (EvA.cons (Ev.var (i := 0) rfl) EvA.nil) fun k q => ⟨numT n, (n : Int), rfl, N.val, by omega, q⟩) q
end
end Dl
set_option maxRecDepth 100000
set_option maxHeartbeats 4000000
namespace Dl
open PySem PySem.Spec PyProof.Rows L2 Lk

section
variable {L : Wd} {δ : DEnv} {w : L.W}
theorem Ev.tupGF {it : DA L} {t : DT L} {e : DE L} {i : Nat} {α : Type} {emb : α → D} {zs : List α} {p : α → Bool} {f : α → D} (hit : EvA it δ w (zs.map emb)) (hi : i < δ.length) (no : ∀ d, δ[i]? ≠ some (DV.own d)) (hl : zs.length ≤ sizeLine)
    (ht : ∀ x ∈ zs, EvT t (δ.set i (.val (emb x))) w (p x)) (he : ∀ x ∈ zs, p x = true → Ev e (δ.set i (.val (emb x))) w (f x)) : Ev (deTupG [i] it (dgName i) t e) δ w (.tup ((zs.filter p).map f)) := fun Q q => by
  refine hit _ ⟨fun j hj d => by rw [List.mem_singleton.mp hj]; exact no d, ?_⟩
  have key : ∀ (ys : List α) (acc : List D), (∀ x ∈ ys, EvT t (δ.set i (.val (emb x))) w (p x)) → (∀ x ∈ ys, p x = true → Ev e (δ.set i (.val (emb x))) w (f x)) → acc.length + ys.length ≤ sizeLine → Q (.tup (acc ++ (ys.filter p).map f)) δ w → dGen [i] (dgName i) t e dcTup (fun acc δ w => acc.length ≤ sizeLine ∧ Q (.tup acc) δ w) (ys.map emb) acc δ w := fun ys => by
    induction ys with
    | nil =>
      intro acc _ _ h q
      rw [List.filter_nil, List.map_nil, List.append_nil] at q
      exact ⟨by simpa using h, q⟩
    | cons x ys ih =>
      intro acc h h' h2 q
      rw [List.length_cons] at h2
      refine ⟨by rw [wipeD_length]; exact hi, ?_⟩
      rw [wipe_set]
      refine h x (List.mem_cons_self ..) _ ?_
      cases hp : p x with
      | true =>
        rw [if_pos rfl]
        refine h' x (List.mem_cons_self ..) hp _ ⟨by omega, ?_⟩
        rw [mix_set]
        refine ih _ (fun y hy => h y (List.mem_cons_of_mem _ hy)) (fun y hy => h' y (List.mem_cons_of_mem _ hy)) (by rw [List.length_append, List.length_singleton]; omega) ?_
        rw [List.filter_cons_of_pos hp] at q
        rw [List.append_assoc]
        exact q
      | false =>
        rw [if_neg (by decide), mix_set]
        refine ih _ (fun y hy => h y (List.mem_cons_of_mem _ hy)) (fun y hy => h' y (List.mem_cons_of_mem _ hy)) (by omega) ?_
        rw [List.filter_cons_of_neg (by rw [hp]; decide)] at q
        exact q
  exact key zs [] ht he (by simpa using hl) q
/-! ### the text is read -/
theorem dropRow (x : Str × List Str) : ((x.1 :: x.2).map D.str).drop 1 = x.2.map D.str := rfl
theorem Ev.tail {a : DE L} {x : Str × List Str} (h : Ev a δ w (rowD x)) : Ev (deCB dTuple (daCons (deSl a (dpSome (deC (.int 1))) dpNone) daNil)) δ w (dT x.2) := by
  have z := Ev.slL (L := L) (w := w) (δ := δ) (a := a) (xs := (x.1 :: x.2).map .str) (lo := dpSome (deC (.int 1))) (hi := dpNone) h (EvO.some (j := ((1 : Nat) : Int)) Ev.con) EvO.none
  rw [cut_drop, List.drop_one, List.tail_cons] at z
  exact Ev.tupL z
def fNamed : DF L := fun ds w R => ∃ (v : Str) (rs : List (Str × List Str)), ds = [.str v, .lst (rs.map rowD)] ∧ PyData.strOk v = true ∧ (∀ x ∈ rs, PyData.strOk x.1 = true) ∧ rs.length ≤ 100 ∧ R (.tup ((rs.filter fun x => decide (x.1 = v)).map fun x => dT x.2)) w
theorem sp_named : ∀ ds (w : L.W) R, fNamed ds w R → dfOf 2 3 (m_named_sets (L := L)) ds w R := by
  rintro ds w R ⟨v, rs, rfl, ov, ok, hl, q⟩
  refine ⟨rfl, s_ret (Ev.tupGF (emb := rowD) (f := fun x => dT x.2) (p := fun x => decide (x.1 = v)) (EvA.seqL (Ev.var (i := 1) rfl)) (by simp) (by simp) (sz (by omega)) (fun x hx => EvT.of (Ev.eqS (Ev.ixL (l := (x.1 :: x.2).map .str) (j := 0) (Ev.var (i := 2) rfl) Ev.con rfl) (Ev.var (i := 0) rfl) (ok x hx) ov)) fun x hx _ => Ev.tail (Ev.var (i := 2) rfl)) q⟩
def bodyR (ob fl : List (List Str)) : List (Str × List Str) := ob.map (fun g => (("observe" : Str), g)) ++ fl.map (fun g => (("fault" : Str), g))
theorem body_obs (ob fl : List (List Str)) : ((bodyR ob fl).filter fun x => decide (x.1 = ("observe" : Str))).map (fun x => dT x.2) = ob.map dT ∧ ((bodyR ob fl).filter fun x => decide (x.1 = ("fault" : Str))).map (fun x => dT x.2) = fl.map dT := by
  have n1 : ¬ ("fault" : Str) = ("observe" : Str) := by decide +kernel
  have n2 : ¬ ("observe" : Str) = ("fault" : Str) := by decide +kernel
  unfold bodyR
  simp only [List.filter_append, List.map_append, List.filter_map, List.map_map]
  constructor
  · have a : ob.filter ((fun x : Str × List Str => decide (x.1 = ("observe" : Str))) ∘ fun g => (("observe" : Str), g)) = ob := List.filter_eq_self.mpr fun g _ => by simp
    have b : fl.filter ((fun x : Str × List Str => decide (x.1 = ("observe" : Str))) ∘ fun g => (("fault" : Str), g)) = [] := List.filter_eq_nil_iff.mpr fun g _ => by simp [n1]
    rw [a, b]
    simp [Function.comp_def]
  · have a : ob.filter ((fun x : Str × List Str => decide (x.1 = ("fault" : Str))) ∘ fun g => (("observe" : Str), g)) = [] := List.filter_eq_nil_iff.mpr fun g _ => by simp [n2]
    have b : fl.filter ((fun x : Str × List Str => decide (x.1 = ("fault" : Str))) ∘ fun g => (("fault" : Str), g)) = fl := List.filter_eq_self.mpr fun g _ => by simp
    rw [a, b]
    simp [Function.comp_def]
theorem lines_rows {n : Nat} {sv cl : List Str} {ob fl : List (List Str)} (T : TxtOk n sv cl ob fl) : (linesT n sv cl ob fl).map (fun l => D.lst ((Txt.split l SP).map .str)) = [.lst ([("prime" : Str), numT n].map .str), rowD ("servers", sv), rowD ("clients", cl)] ++ (bodyR ob fl).map rowD := by
  unfold linesT bodyR
  rw [List.map_append, List.map_append, List.map_append]
  simp only [List.map_cons, List.map_nil, List.map_map]
  rw [(head_split T.num).1, (line_split (by simp) T.ns).1, (line_split (by simp) T.nc).1]
  have a : ob.map ((fun l => D.lst ((Txt.split l SP).map .str)) ∘ lineT "observe") = ob.map (rowD ∘ fun g => (("observe" : Str), g)) := List.map_congr_left fun g hg => by
    show D.lst ((Txt.split (lineT "observe" g) SP).map .str) = _
    rw [(line_split (by simp) (T.no g hg).1).1]
    rfl
  have b : fl.map ((fun l => D.lst ((Txt.split l SP).map .str)) ∘ lineT "fault") = fl.map (rowD ∘ fun g => (("fault" : Str), g)) := List.map_congr_left fun g hg => by
    show D.lst ((Txt.split (lineT "fault" g) SP).map .str) = _
    rw [(line_split (by simp) (T.nf g hg).1).1]
    rfl
  rw [a, b]
  rfl
def fRead : DF L := fun ds w R => ∃ (n : Nat) (sv cl : List Str) (ob fl : List (List Str)), ds = [.str (textT n sv cl ob fl)] ∧ TxtOk n sv cl ob fl ∧ R (dSch n sv cl ob fl) w
theorem sp_read : ∀ ds (w : L.W) R, fRead ds w R → dfOf 1 3 (m_read_scheme (L := L) fNum fNamed) ds w R := by
  rintro ds w R ⟨n, sv, cl, ob, fl, rfl, T, q⟩
  have big := sz (k := 20000)
  obtain ⟨l1, l2, l3⟩ := lines_len T
  have lo := T.lo
  have lf := T.lf
  have hsp : SP.length = 1 := by decide +kernel
  refine ⟨rfl, ?_⟩
  have eL : EvA (L := L) (diSeq (deF (dfSplit (deVar 0) "\n"))) [.val (.str (textT n sv cl ob fl)), .no, .no] w ((linesT n sv cl ob fl).map .str) := EvA.seqL (Ev.F fun Q q => (Ev.var rfl : Ev (deVar 0) _ _ (.str (textT n sv cl ob fl))) _ ⟨_, rfl, by omega, by
    have z := text_split T.num T.ns T.nc (fun g hg => (T.no g hg).1) fun g hg => (T.nf g hg).1
    rw [show Txt.split (textT n sv cl ob fl) ("\n" : Str) = linesT n sv cl ob fl from z]
    exact q⟩)
  have eR := Ev.F (EvA.mapM (i := 2) (e := deF (dfSplit (deVar 2) " ")) (f := fun l => D.lst ((Txt.split l SP).map .str)) eL (by simp) (by simp) (by omega) fun l hl => Ev.F fun Q q => (Ev.var rfl : Ev (deVar 2) _ _ (.str l)) _ ⟨_, rfl, by have := l1 l hl; omega, q⟩)
  rw [lines_rows T] at eR
  refine s_set eR (by simp) ?_
  have lr : ([D.lst ([("prime" : Str), numT n].map .str), rowD ("servers", sv), rowD ("clients", cl)] ++ (bodyR ob fl).map rowD).length = 3 + (ob.length + fl.length) := by simp [bodyR]; omega
  have e3 := Ev.ltI (Ev.len (L := L) (w := w) (δ := [.val (.str (textT n sv cl ob fl)), .val (.lst ([D.lst ([("prime" : Str), numT n].map .str), rowD ("servers", sv), rowD ("clients", cl)] ++ (bodyR ob fl).map rowD)), .no]) (a := deVar 1) (Ev.var rfl)) (Ev.con (x := .int 3))
  rw [lr, decide_eq_false (by omega)] at e3
  refine s_ifn (c := false) (EvT.of e3) (fun hc => by cases hc) fun _ => ?_
  have eB : ∀ {δ : DEnv}, δ[1]? = some (.val (.lst ([D.lst ([("prime" : Str), numT n].map .str), rowD ("servers", sv), rowD ("clients", cl)] ++ (bodyR ob fl).map rowD))) → Ev (L := L) (deSl (deVar 1) (dpSome (deC (.int 3))) dpNone) δ w (.lst ((bodyR ob fl).map rowD)) := fun {δ} h => by
    have z := Ev.slL (L := L) (w := w) (δ := δ) (a := deVar 1) (lo := dpSome (deC (.int 3))) (hi := dpNone) (Ev.var h) (EvO.some (j := ((3 : Nat) : Int)) Ev.con) EvO.none
    have e : ∀ l : List D, cutD l (some ((3 : Nat) : Int)) none = l.drop 3 := fun l => by
      have z := cut_drop l _root_.id 3
      simpa using z
    rw [e] at z
    exact z
  have okB : ∀ x ∈ bodyR ob fl, PyData.strOk x.1 = true := fun x hx => by
    rcases List.mem_append.mp hx with hx | hx
    · obtain ⟨g, _, rfl⟩ := List.mem_map.mp hx
      exact word_ok "observe" (by simp)
    · obtain ⟨g, _, rfl⟩ := List.mem_map.mp hx
      exact word_ok "fault" (by simp)
  have lB : (bodyR ob fl).length ≤ 100 := by simp [bodyR]; omega
  refine s_ret (x := dSch n sv cl ob fl) (Ev.tup (EvA.cons ?_ (EvA.cons (Ev.tail (x := ("servers", sv)) ?_) (EvA.cons (Ev.tail (x := ("clients", cl)) ?_) (EvA.cons ?_ (EvA.cons ?_ EvA.nil))))) (by show 5 ≤ sizeLine; omega)) q
  · refine Ev.call (EvA.cons (x := .str (numT n)) (Ev.op (x := .lst ([("prime" : Str), numT n].map .str)) (y := .int (-1)) (Ev.ixL (j := 0) (Ev.var (i := 1) rfl) Ev.con rfl) (fun Q q => ⟨1, rfl, q⟩) fun k q => ⟨_, rfl, q⟩) EvA.nil) fun R r => ⟨n, rfl, T.num, r⟩
  · exact Ev.ixL (j := 1) (Ev.var (i := 1) rfl) Ev.con rfl
  · exact Ev.ixL (j := 2) (Ev.var (i := 1) rfl) Ev.con rfl
  · exact Ev.call (EvA.cons Ev.con (EvA.cons (eB rfl) EvA.nil)) fun R r => ⟨"observe", bodyR ob fl, rfl, word_ok _ (by simp), okB, lB, by rw [(body_obs ob fl).1]; exact r⟩
  · exact Ev.call (EvA.cons Ev.con (EvA.cons (eB rfl) EvA.nil)) fun R r => ⟨"fault", bodyR ob fl, rfl, word_ok _ (by simp), okB, lB, by rw [(body_obs ob fl).2]; exact r⟩
end
end Dl
set_option maxRecDepth 100000
set_option maxHeartbeats 4000000
namespace Dl
open PySem PySem.Spec PyProof.Rows L2 Lk

theorem ok_join {c : Nat} (hc : c < 0x110000) {xs : List Str} (h : ∀ x ∈ xs, PyData.strOk x = true) : PyData.strOk (Txt.join (SX.S [c]) xs) = true := ok_iff.mpr fun d hd => by
  rw [join_cps] at hd
  rcases joinL_mem hd with rfl | ⟨l, hl, hd⟩
  · exact hc
  · obtain ⟨x, hx, rfl⟩ := List.mem_map.mp hl
    exact ok_iff.mp (h x hx) d hd
theorem num_ok {n : Nat} (N : NumOk n) : PyData.strOk (numT n) = true := ok_iff.mpr fun d hd => by
  have := N.dig d hd
  omega
theorem line_ok {w : Str} (hw : w ∈ (["prime", "servers", "clients", "observe", "fault"] : List Str)) {ns : List Str} (h : ∀ z ∈ ns, NmOk z) : PyData.strOk (lineT w ns) = true := by
  unfold lineT
  rw [SP_S]
  exact ok_join (by decide) fun x hx => by
    rcases List.mem_cons.mp hx with rfl | hx
    · exact word_ok _ hw
    · exact (h x hx).ok
theorem text_ok {n : Nat} {sv cl : List Str} {ob fl : List (List Str)} (T : TxtOk n sv cl ob fl) : PyData.strOk (textT n sv cl ob fl) = true := by
  unfold textT
  rw [NL_S]
  refine ok_join (by decide) fun x hx => ?_
  rcases List.mem_append.mp hx with hx | hx
  · simp only [List.mem_cons, List.not_mem_nil, or_false] at hx
    rcases hx with rfl | rfl | rfl
    · unfold headT
      rw [SP_S]
      exact ok_join (by decide) fun x hx => by
        simp only [List.mem_cons, List.not_mem_nil, or_false] at hx
        rcases hx with rfl | rfl
        · exact word_ok "prime" (by simp)
        · exact num_ok T.num
    · exact line_ok (by simp) T.ns
    · exact line_ok (by simp) T.nc
  · rcases List.mem_append.mp hx with hx | hx
    · obtain ⟨g, hg, rfl⟩ := List.mem_map.mp hx
      exact line_ok (by simp) (T.no g hg).1
    · obtain ⟨g, hg, rfl⟩ := List.mem_map.mp hx
      exact line_ok (by simp) (T.nf g hg).1
/-- what a scheme of the law is -/
structure SchW (n : Nat) (sv cl : List Str) (ob fl : List (List Str)) : Prop where
  mem : n ∈ primesW
  cfg : CfgW sv cl ob fl
theorem SchW.num {n : Nat} {sv cl : List Str} {ob fl : List (List Str)} (h : SchW n sv cl ob fl) : NumOk n ∧ primeB n = true ∧ 2 ≤ n ∧ n ≤ 997 :=
  let z := primes_ok n h.mem
  ⟨num_of z.1, z.2⟩
theorem SchW.txt {n : Nat} {sv cl : List Str} {ob fl : List (List Str)} (h : SchW n sv cl ob fl) : TxtOk n sv cl ob fl := h.cfg.txt h.num.1
section
variable {L : Wd} {δ : DEnv} {w : L.W}
def fParse : DF L := fun ds w R => ∃ (n : Nat) (sv cl : List Str) (ob fl : List (List Str)), ds = [.str (textT n sv cl ob fl)] ∧ SchW n sv cl ob fl ∧ R (dSch n sv cl ob fl) w
theorem sp_parse : ∀ ds (w : L.W) R, fParse ds w R → dfOf 1 2 (m_parse_scheme (L := L) fRead fScheme fFormat) ds w R := by
  rintro ds w R ⟨n, sv, cl, ob, fl, rfl, S, q⟩
  have T := S.txt
  obtain ⟨N, p1, p2, p3⟩ := S.num
  refine ⟨rfl, s_ifn (c := !true) (EvT.not (EvT.of (Ev.is (Ev.var (i := 0) (x := .str (textT n sv cl ob fl)) rfl) rfl (kit_str (.str (textT n sv cl ob fl)) rfl)))) (fun hc => by cases hc) fun _ => ?_⟩
  refine s_set (x := dSch n sv cl ob fl) (Ev.call (EvA.cons (Ev.var (i := 0) rfl) EvA.nil) fun R r => ⟨n, sv, cl, ob, fl, rfl, T, r⟩) (by simp) ?_
  have e := Ev.neS (L := L) (w := w) (δ := [.val (.str (textT n sv cl ob fl)), .val (dSch n sv cl ob fl)]) (a := deCall fFormat (daCons (deVar 1) daNil)) (b := deVar 0) (z := textT n sv cl ob fl) (y := textT n sv cl ob fl) (Ev.call (EvA.cons (Ev.var rfl) EvA.nil) fun R r => ⟨n, sv, cl, ob, fl, rfl, by omega, T, r⟩) (Ev.var rfl) (text_ok T) (text_ok T)
  rw [decide_eq_true rfl] at e
  refine s_ifn (c := !true || !true) (EvT.or (EvT.not (EvT.of (Ev.call (EvA.cons (Ev.var (i := 1) rfl) EvA.nil) fun R r => ⟨n, sv, cl, ob, fl, rfl, p2, p3, p1, S.cfg, r⟩))) fun _ => EvT.of e) (fun hc => by cases hc) fun _ => ?_
  exact s_ret (Ev.var (i := 1) rfl) q
end
end Dl
set_option maxRecDepth 100000
set_option maxHeartbeats 4000000
namespace Dl
open PySem PySem.Spec PyProof.Rows L2 Lk

theorem join_cpsA (a : List Nat) (xs : List Str) : (Txt.join (SX.S a) xs).cps.toList = TL.joinL a (xs.map TL.tl) := by
  have e : xs = (xs.map TL.tl).map SX.S := by
    rw [List.map_map]
    exact (List.map_congr_left (g := id) (fun x _ => SX.S_tl x) |>.trans (List.map_id xs)).symm
  have e2 : Txt.join (SX.S a) xs = SX.S (TL.joinL a (xs.map TL.tl)) := by
    rw [← SX.join_S, ← e]
  rw [e2]
theorem joinL_cat (c : Nat) : ∀ (ls : List (List Nat)) (l : List Nat), TL.joinL [c] (l :: ls) = l ++ TL.joinL [] (ls.map fun x => c :: x)
  | [], l => by simp [TL.joinL]
  | m :: ls, l => by
    have e : TL.joinL [c] (l :: m :: ls) = l ++ ([c] ++ TL.joinL [c] (m :: ls)) := by simp [TL.joinL]
    rw [e, joinL_cat c ls m]
    cases ls with
    | nil => simp [TL.joinL]
    | cons x ls => simp [TL.joinL]
theorem nil_S : ("" : Str) = SX.S [] := by decide +kernel
theorem line_cat (v : Str) (ns : List Str) : v ++ Txt.join ("" : Str) (ns.map fun z => (" " : Str) ++ z) = lineT v ns := by
  refine str_ext ?_
  unfold lineT
  rw [app_cps, SP_S, join_cps, nil_S, join_cpsA, List.map_cons, joinL_cat, List.map_map, List.map_map]
  congr 2
  refine List.map_congr_left fun z _ => ?_
  show TL.tl ((" " : Str) ++ z) = 32 :: TL.tl z
  have e : (" " : Str).cps.toList = [32] := by decide +kernel
  show ((" " : Str) ++ z).cps.toList = 32 :: z.cps.toList
  rw [app_cps, e]
  rfl
theorem head_eq2 (n : Nat) : ("prime " : Str) ++ (toString (n : Int) : Str) = headT n := by
  refine str_ext ?_
  have e : ("prime " : Str).cps.toList = TL.tl ("prime" : Str) ++ [32] := by decide +kernel
  rw [app_cps, e]
  unfold headT
  rw [SP_S, join_cps]
  simp [TL.joinL, numT]
section
variable {L : Wd} {δ : DEnv} {w : L.W}
/-- the law's own text -/
def fText : DF L := fun ds w R => ∃ (n : Nat) (sv cl : List Str) (ob fl : List (List Str)), ds = [dSch n sv cl ob fl] ∧ n ≤ 1000 ∧ TxtOk n sv cl ob fl ∧ R (.str (textT n sv cl ob fl)) w
theorem sp_text : ∀ ds (w : L.W) R, fText ds w R → dfOf 1 6 (m_l_text (L := L)) ds w R := by
  rintro ds w R ⟨n, sv, cl, ob, fl, rfl, hn, T, q⟩
  have big := sz (k := 1000)
  obtain ⟨l1, l2, l3⟩ := lines_len T
  have lo := T.lo
  have lf := T.lf
  have hsp : SP.length = 1 := by decide +kernel
  have hlog : Nat.log2 (n : Int).natAbs < 1920 := by
    rcases Nat.eq_zero_or_pos n with rfl | h
    · decide
    · have h1 := (Nat.log2_lt (n := n) (k := n) (by omega)).mpr Nat.lt_two_pow_self
      show Nat.log2 n < 1920
      omega
  refine ⟨rfl, ?_⟩
  refine s_own (xs := [headT n].map .str) ?_ (by simp) ?_
  · have z := Ev.addS (L := L) (w := w) (δ := [.val (dSch n sv cl ob fl), .no, .no, .no, .no, .no]) (a := deC (.str "prime ")) (b := deCB dStrI (daCons (deOp dIx (deVar 0) (deC (.int 0))) daNil)) (p := "prime ") (q := (toString (n : Int) : Str)) Ev.con (Ev.cb (EvA.cons (Ev.ixT (j := 0) (y := .int n) (Ev.var rfl) Ev.con rfl) EvA.nil) fun k q => ⟨_, rfl, hlog, q⟩) (by
      have h1 : ("prime " : Str).length = 6 := by decide +kernel
      have h2 := T.num.len.2
      unfold numT at h2
      omega)
    rw [head_eq2] at z
    exact EvA.lst (EvA.cons z EvA.nil) (by show 1 ≤ sizeLine; exact sz)
  -- servers and clients
  refine s_forS (emb := fun x : Str × List Str => .tup [.str x.1, dT x.2]) (zs := [(("servers" : Str), sv), ("clients", cl)]) (EvA.seqL (Ev.F (EvA.lst (EvA.cons (Ev.tup (EvA.cons Ev.con (EvA.cons (Ev.ixT (j := 1) (y := dT sv) (Ev.var (i := 0) rfl) Ev.con rfl) EvA.nil)) (by show 2 ≤ sizeLine; exact sz)) (EvA.cons (Ev.tup (EvA.cons Ev.con (EvA.cons (Ev.ixT (j := 2) (y := dT cl) (Ev.var (i := 0) rfl) Ev.con rfl) EvA.nil)) (by show 2 ≤ sizeLine; exact sz)) EvA.nil)) (by show 2 ≤ sizeLine; exact sz))))
    (fun j δ w' => w' = w ∧ ∃ a b c, δ = [.val (dSch n sv cl ob fl), .own (.lst ((headT n :: (([(("servers" : Str), sv), ("clients", cl)] : List (Str × List Str)).take j).map fun x => lineT x.1 x.2).map .str)), a, b, c, .no]) ⟨rfl, _, _, _, rfl⟩ (fun j x δ w hx hI N hN => ?_) (fun δ w hI => ?_)
  · obtain ⟨rfl, a, b, c, rfl⟩ := hI
    have hj := (List.getElem?_eq_some_iff.mp hx).1
    have tk := (List.take_add_one (l := ([(("servers" : Str), sv), ("clients", cl)] : List (Str × List Str))) (i := j)).trans (by rw [hx])
    have hm := List.mem_of_getElem? hx
    have hw : x.1 ∈ (["prime", "servers", "clients", "observe", "fault"] : List Str) ∧ (∀ z ∈ x.2, NmOk z) ∧ x.2.length ≤ 20 := by
      simp only [List.mem_cons, List.not_mem_nil, or_false] at hm
      rcases hm with rfl | rfl
      · exact ⟨by simp, T.ns, T.ls⟩
      · exact ⟨by simp, T.nc, T.lc⟩
    obtain ⟨hw, nm, hl⟩ := hw
    obtain ⟨h7, h200⟩ := line_len hw nm hl
    have hj2 : j < 2 := hj
    refine ⟨rfl, by simp, by simp, rfl, ?_⟩
    refine s_app (x := .str (lineT x.1 x.2)) ?_ rfl (by simp; omega) (hN _ _ ⟨rfl, .val (.str x.1), .val (dT x.2), c, ?_⟩)
    · have s8 : ∀ y ∈ x.2.map (fun z => (" " : Str) ++ z), y.length ≤ 8 := fun y hy => by
        obtain ⟨z, hz, rfl⟩ := List.mem_map.mp hy
        have h1 := (nm z hz).len
        have h2 : ((" " : Str) ++ z).length = (" " : Str).length + z.length := by
          show ((" " : Str) ++ z).cps.size = _
          rw [← Array.length_toList, app_cps, List.length_append]
          rfl
        have h3 : (" " : Str).length = 1 := by decide +kernel
        omega
      have sm := sum_le s8
      rw [List.length_map] at sm
      have z := Ev.addS (L := L) (w := w) (δ := [.val (dSch n sv cl ob fl), .own (.lst ((headT n :: (([(("servers" : Str), sv), ("clients", cl)] : List (Str × List Str)).take j).map fun x => lineT x.1 x.2).map .str)), .val (.str x.1), .val (dT x.2), c, .no]) (a := deVar 2) (b := deJoin (deC (.str "")) (deF (dfLc [5] (diSeq (deVar 3)) (dgName 5) dtYes (deOp dAdd (deC (.str " ")) (deVar 5))))) (p := x.1) (q := Txt.join ("" : Str) (x.2.map fun z => (" " : Str) ++ z)) (Ev.var rfl) (Ev.join Ev.con (by
        rw [List.map_map]
        exact Ev.F (EvA.mapM (i := 5) (emb := D.str) (zs := x.2) (f := fun z => .str ((" " : Str) ++ z)) (EvA.seqT (Ev.var rfl)) (by simp) (by simp) (by omega) fun z hz => Ev.addS Ev.con (Ev.var rfl) (by
          have := (nm z hz).len
          have h3 : (" " : Str).length = 1 := by decide +kernel
          omega))) (by
        have h0 : ("" : Str).length = 0 := by decide +kernel
        rw [h0, List.length_map]
        omega)) (by
        have e := congrArg Str.length (line_cat x.1 x.2)
        have e2 : (x.1 ++ Txt.join ("" : Str) (x.2.map fun z => (" " : Str) ++ z)).length = x.1.length + (Txt.join ("" : Str) (x.2.map fun z => (" " : Str) ++ z)).length := by
          show (x.1 ++ Txt.join ("" : Str) (x.2.map fun z => (" " : Str) ++ z)).cps.size = _
          rw [← Array.length_toList, app_cps, List.length_append]
          rfl
        omega)
      rw [line_cat] at z
      exact z
    · rw [tk]
      simp
  · obtain ⟨rfl, a, b, c, rfl⟩ := hI
    -- the sets
    have e0 : (headT n :: (([(("servers" : Str), sv), ("clients", cl)] : List (Str × List Str)).take ([(("servers" : Str), sv), ("clients", cl)] : List (Str × List Str)).length).map fun x => lineT x.1 x.2) = [headT n, lineT "servers" sv, lineT "clients" cl] := rfl
    rw [e0]
    generalize hB : [headT n, lineT "servers" sv, lineT "clients" cl] = B
    have lB : B.length = 3 := by rw [← hB]; rfl
    refine s_forS (emb := fun x : Str × List (List Str) => .tup [.str x.1, .tup (x.2.map dT)]) (zs := [(("observe" : Str), ob), ("fault", fl)]) (EvA.seqL (Ev.F (EvA.lst (EvA.cons (Ev.tup (EvA.cons Ev.con (EvA.cons (Ev.ixT (j := 3) (y := .tup (ob.map dT)) (Ev.var (i := 0) rfl) Ev.con rfl) EvA.nil)) (by show 2 ≤ sizeLine; exact sz)) (EvA.cons (Ev.tup (EvA.cons Ev.con (EvA.cons (Ev.ixT (j := 4) (y := .tup (fl.map dT)) (Ev.var (i := 0) rfl) Ev.con rfl) EvA.nil)) (by show 2 ≤ sizeLine; exact sz)) EvA.nil)) (by show 2 ≤ sizeLine; exact sz))))
      (fun j δ w' => w' = w ∧ ∃ a b c, δ = [.val (dSch n sv cl ob fl), .own (.lst ((B ++ (([(("observe" : Str), ob), ("fault", fl)] : List (Str × List (List Str))).take j).flatMap fun x => x.2.map (lineT x.1)).map .str)), a, b, c, .no]) ⟨rfl, a, b, c, by simp⟩ (fun j x δ w hx hI N hN => ?_) (fun δ w hI => ?_)
    · obtain ⟨rfl, a, b, c, rfl⟩ := hI
      have hj := (List.getElem?_eq_some_iff.mp hx).1
      have tk := (List.take_add_one (l := ([(("observe" : Str), ob), ("fault", fl)] : List (Str × List (List Str)))) (i := j)).trans (by rw [hx])
      have hm := List.mem_of_getElem? hx
      have hw : x.1 ∈ (["prime", "servers", "clients", "observe", "fault"] : List Str) ∧ (∀ g ∈ x.2, (∀ z ∈ g, NmOk z) ∧ g.length ≤ 20) ∧ x.2.length ≤ 20 := by
        simp only [List.mem_cons, List.not_mem_nil, or_false] at hm
        rcases hm with rfl | rfl
        · exact ⟨by simp, T.no, T.lo⟩
        · exact ⟨by simp, T.nf, T.lf⟩
      have lG : ((([(("observe" : Str), ob), ("fault", fl)] : List (Str × List (List Str))).take j).flatMap fun x => x.2.map (lineT x.1)).length ≤ 40 := by
        have hj2 : j < 2 := hj
        rcases (by omega : j = 0 ∨ j = 1) with rfl | rfl
        · simp
        · simp; omega
      have tk2 : (([(("observe" : Str), ob), ("fault", fl)] : List (Str × List (List Str))).take (j + 1)).flatMap (fun x => x.2.map (lineT x.1)) = (([(("observe" : Str), ob), ("fault", fl)] : List (Str × List (List Str))).take j).flatMap (fun x => x.2.map (lineT x.1)) ++ x.2.map (lineT x.1) := by
        rw [tk]
        simp
      generalize (([(("observe" : Str), ob), ("fault", fl)] : List (Str × List (List Str))).take j).flatMap (fun x => x.2.map (lineT x.1)) = G at lG tk2 ⊢
      obtain ⟨hw, hg, hl⟩ := hw
      refine ⟨rfl, by simp, by simp, rfl, ?_⟩
      refine s_for (emb := dT) (zs := x.2) (EvA.seqT (Ev.var (i := 4) rfl)) (fun i δ w' => w' = w ∧ ∃ b, δ = [.val (dSch n sv cl ob fl), .own (.lst ((B ++ (G ++ (x.2.take i).map (lineT x.1))).map .str)), .val (.str x.1), b, .val (.tup (x.2.map dT)), .no]) ⟨rfl, b, by simp⟩ (fun i g δ w hi hI M hM => ?_) (fun δ w hI => ?_)
      · obtain ⟨rfl, b, rfl⟩ := hI
        have li := (List.getElem?_eq_some_iff.mp hi).1
        have ti : x.2.take (i + 1) = x.2.take i ++ [g] := by rw [List.take_add_one, hi]; rfl
        obtain ⟨nm, gl⟩ := hg g (List.mem_of_getElem? hi)
        refine ⟨by simp, ?_⟩
        refine s_app (x := .str (lineT x.1 g)) (Ev.join (z := SP) (ys := x.1 :: g) Ev.con ?_ ?_) rfl (by simp; omega) (hM _ _ ⟨rfl, .val (dT g), ?_⟩)
        · exact Ev.addL (xs := [.str x.1]) (ys := g.map .str) (Ev.F (EvA.lst (EvA.cons (Ev.var (i := 2) rfl) EvA.nil) (by show 1 ≤ sizeLine; exact sz))) (Ev.F (EvA.fcb (EvA.cons (Ev.var (i := 3) (x := dT g) rfl) EvA.nil) fun k q => .inl ⟨_, _, rfl, rfl, q⟩)) (by simp; omega)
        · have y := sum_le (line_len hw nm gl).1
          rw [hsp]
          rw [List.length_cons] at y ⊢
          omega
        · rw [ti]
          simp
      · obtain ⟨rfl, b, rfl⟩ := hI
        rw [List.take_length]
        refine hN _ _ ⟨rfl, .val (.str x.1), b, .val (.tup (x.2.map dT)), ?_⟩
        rw [tk2]
    · obtain ⟨rfl, a, b, c, rfl⟩ := hI
      refine s_frz (i := 1) rfl (s_ret (Ev.join (z := NL) (ys := linesT n sv cl ob fl) Ev.con ?_ (join_fit l1 l2)) q)
      have e1 : linesT n sv cl ob fl = B ++ (([(("observe" : Str), ob), ("fault", fl)] : List (Str × List (List Str))).take ([(("observe" : Str), ob), ("fault", fl)] : List (Str × List (List Str))).length).flatMap fun x => x.2.map (lineT x.1) := by
        rw [← hB]
        simp [linesT]
      rw [e1]
      exact Ev.var (i := 1) rfl
end
end Dl
set_option maxRecDepth 100000
set_option maxHeartbeats 4000000
namespace Dl
open PySem PySem.Spec PyProof.Rows L2 Lk

/-! ### the law's wide schemes -/
def wideN : List Str := ["observe", "fault", "prime", "client", "a", "ab", "abc", "zzzzzz", "none", "store", "row", "to"]
def turnN (i : Nat) : List Str := (wideN.drop i ++ wideN.take i).map fun z => cutS z none (some 6)
theorem turn_ok : ∀ i < 12, (turnN i).Nodup ∧ (turnN i).length = 12 ∧ ∀ z ∈ turnN i, NmOk z := by
  unfold NmOk
  decide +kernel
theorem turn_line : ∀ i < 12, ∀ z ∈ wideN.drop i ++ wideN.take i, z.length ≤ 10 := by decide +kernel
section
variable {KF : PySem.W.Frag} {K : Deck} {Ts : List Addr}
def gWide : Addr → List D → (D → Prop) → Prop := fun p ds X => ds = [.ref p] ∧ ∀ n sv cl ob fl, SchW n sv cl ob fl → sv.length ≤ 5 → cl.length ≤ 5 → ob.length ≤ 9 → fl.length ≤ 9 → X (dSch (n : Nat) sv cl ob fl)
theorem sp_wide : ∀ ds (w : (wd KF K Ts).W) R, fRnd 60 gWide ds w R → dfOf 1 11 (m_l_wide_scheme (L := wd KF K Ts) fMaxS fDraw (fRnd 5 gSample) (fRnd 1 gPick)) ds w R := by
  rintro ds w R ⟨p, c, n, X, rfl, hn, ⟨rfl, hX⟩, q⟩
  refine ⟨rfl, ?_⟩
  -- the names
  have e1 : Ev (L := wd KF K Ts) (deF (dfLst (daCons (deC (.str "observe")) (daCons (deC (.str "fault")) (daCons (deC (.str "prime")) (daCons (deC (.str "client")) (daCons (deC (.str "a")) (daCons (deC (.str "ab")) (daCons (deC (.str "abc")) (daCons (deC (.str "zzzzzz")) (daCons (deC (.str "none")) (daCons (deC (.str "store")) (daCons (deC (.str "row")) (daCons (deC (.str "to")) daNil)))))))))))))) [.val (.ref p), .no, .no, .no, .no, .no, .no, .no, .no, .no, .no] (DW.run p c n) (.lst (wideN.map .str)) := Ev.F (EvA.lst (EvA.cons Ev.con (EvA.cons Ev.con (EvA.cons Ev.con (EvA.cons Ev.con (EvA.cons Ev.con (EvA.cons Ev.con (EvA.cons Ev.con (EvA.cons Ev.con (EvA.cons Ev.con (EvA.cons Ev.con (EvA.cons Ev.con (EvA.cons Ev.con EvA.nil)))))))))))) (by show 12 ≤ sizeLine; exact sz))
  refine s_set e1 (by simp) ?_
  refine par2_r (cons1_r (e_draw (m := 12) (n := n) (EvA.cons (Ev.var (i := 0) rfl) (EvA.cons Ev.con EvA.nil)) (by omega) (by omega) (by omega) fun t ht => cons1_r ?_))
  refine op_r (x := .int 2) Ev.con ?_
  refine e_draw (m := 4) (n := n + 1) (EvA.cons (Ev.var (i := 0) rfl) (EvA.cons Ev.con EvA.nil)) (by omega) (by omega) (by omega) fun r1 hr1 => ?_
  refine addI_r (nil_r ⟨_, _, rfl, by simp, by simp, ?_⟩)
  obtain ⟨hnd, hns, hnm⟩ := turn_ok t ht
  have e2 : Ev (L := wd KF K Ts) (deOp dAdd (deSl (deVar 1) (dpSome (deVar 2)) dpNone) (deSl (deVar 1) dpNone (dpSome (deVar 2)))) [.val (.ref p), .val (.lst (wideN.map .str)), .val (.int t), .val (.int (2 + r1)), .no, .no, .no, .no, .no, .no, .no] (DW.run p c (n + 1 + 1)) (.lst ((wideN.drop t ++ wideN.take t).map .str)) := by
    rw [List.map_append, ← cut_drop, ← cut_take]
    refine Ev.addL (Ev.slL (Ev.var rfl) (EvO.some (Ev.var rfl)) EvO.none) (Ev.slL (Ev.var rfl) EvO.none (EvO.some (Ev.var rfl))) ?_
    rw [cut_drop, cut_take, List.length_map, List.length_map, List.length_drop, List.length_take]
    exact sz (by show 12 - t + min t 12 ≤ _; omega)
  refine s_set (x := .lst ((turnN t).map .str)) (Ev.F ?_) (by simp) ?_
  · unfold turnN
    rw [List.map_map]
    refine EvA.mapM (emb := D.str) (f := D.str ∘ fun z => cutS z none (some 6)) (EvA.seqL e2) (by simp) (by simp) (sz ?_) fun z hz => Ev.slS (Ev.var rfl) EvO.none (EvO.some (Ev.con (x := .int 6))) (sz (Nat.le_trans (turn_line t ht z hz) (by decide)))
    rw [List.length_append, List.length_drop, List.length_take]
    show 12 - t + min t 12 ≤ _
    omega
  generalize turnN t = ns at hnd hns hnm ⊢
  have fr1 : (2 : Int) + (r1 : Int) = ((2 + r1 : Nat) : Int) := by omega
  simp only [fr1]
  -- the servers
  have e3 : Ev (L := wd KF K Ts) (deSl (deVar 1) dpNone (dpSome (deVar 3))) [.val (.ref p), .val (.lst (ns.map .str)), .val (.int t), .val (.int (2 + r1 : Nat)), .no, .no, .no, .no, .no, .no, .no] (DW.run p c (n + 1 + 1)) (.lst ((ns.take (2 + r1)).map .str)) := by
    rw [← cut_take]
    exact Ev.slL (Ev.var rfl) EvO.none (EvO.some (Ev.var rfl))
  refine set_r (tupF_r (cons1_r (e3 _ (nil_r (sort_r ⟨by simp, ?_⟩)))))
  have hsv : ∀ z ∈ sortS (ns.take (2 + r1)), NmOk z := fun z hz => hnm z (List.mem_of_mem_take ((sortS_perm _).mem_iff.mp hz))
  have hsl : (sortS (ns.take (2 + r1))).length = 2 + r1 := by rw [(sortS_perm _).length_eq, List.length_take]; omega
  have hsn : (sortS (ns.take (2 + r1))).Nodup := (sortS_perm _).nodup_iff.mpr (hnd.sublist (List.take_sublist ..))
  have hss := (sortS_idem (ns.take (2 + r1))).symm
  have hsa : Asc (sortS (ns.take (2 + r1))) := asc_sort (hnd.sublist (List.take_sublist ..))
  have hsd : ∀ z ∈ sortS (ns.take (2 + r1)), z ∈ ns.take (2 + r1) := fun z hz => (sortS_perm _).mem_iff.mp hz
  generalize sortS (ns.take (2 + r1)) = sv at hsv hsl hsn hss hsa hsd ⊢
  -- the clients
  refine set_r (tupF_r ?_)
  refine sl_r (x := .lst (ns.map .str)) (Ev.var rfl) (EvO.some (Ev.var rfl)) ?_
  refine op_r (x := .int ((2 + r1 : Nat) + 1)) (Ev.addI (Ev.var rfl) Ev.con) ?_
  refine e_draw (m := 4) (n := n + 1 + 1) (EvA.cons (Ev.var (i := 0) rfl) (EvA.cons Ev.con EvA.nil)) (by omega) (by omega) (by omega) fun r2 hr2 => ?_
  refine addI_r (slL_r ?_)
  rw [show ((2 + r1 : Nat) : Int) + 1 + (r2 : Int) = ((3 + r1 + r2 : Nat) : Int) by omega, cut_mid]
  refine nil_r (sort_r ⟨by simp, ?_⟩)
  have hcv : ∀ z ∈ sortS ((ns.take (3 + r1 + r2)).drop (2 + r1)), NmOk z := fun z hz => hnm z (List.mem_of_mem_take (List.mem_of_mem_drop ((sortS_perm _).mem_iff.mp hz)))
  have hcl : (sortS ((ns.take (3 + r1 + r2)).drop (2 + r1))).length = 1 + r2 := by rw [(sortS_perm _).length_eq, List.length_drop, List.length_take]; omega
  have hcn : (sortS ((ns.take (3 + r1 + r2)).drop (2 + r1))).Nodup := (sortS_perm _).nodup_iff.mpr ((hnd.sublist (List.take_sublist ..)).sublist (List.drop_sublist ..))
  have hcs := (sortS_idem ((ns.take (3 + r1 + r2)).drop (2 + r1))).symm
  have hcd : ∀ z ∈ sortS ((ns.take (3 + r1 + r2)).drop (2 + r1)), z ∈ ns.drop (2 + r1) := fun z hz => by
    have hz := (sortS_perm _).mem_iff.mp hz
    rw [List.drop_take] at hz
    exact List.mem_of_mem_take hz
  generalize sortS ((ns.take (3 + r1 + r2)).drop (2 + r1)) = cl at hcv hcl hcn hcs hcd ⊢
  have hdis : (sv ++ cl).Nodup := by
    refine List.nodup_append.mpr ⟨hsn, hcn, fun x hx y hy e => ?_⟩
    subst e
    have h := hnd
    rw [← List.take_append_drop (2 + r1) ns, List.nodup_append] at h
    exact h.2.2 x (hsd x hx) x (hcd x hy) rfl
  have hall : ∀ z ∈ sv ++ cl, NmOk z := fun z hz => (List.mem_append.mp hz).elim (hsv z) (hcv z)
  -- the fault sets
  refine set_r (call_r (cons1_r (F_r (lc_r ?_))))
  refine range_draw (a := 1) (m := 6) (n := n + 1 + 1 + 1) ?_ (by omega) (by omega) (by omega) (by omega) fun r3 hr3 => ⟨fun j hj d => by rw [List.mem_singleton.mp hj]; simp, ?_⟩
  · exact EvA.cons (Ev.var (i := 0) rfl) (EvA.cons Ev.con EvA.nil)
  refine comp_indM (by simp) (fun j acc w' => ∃ (gs : List (List Str)) (n' : Nat), acc = gs.map dT ∧ gs.length = j ∧ (∀ g ∈ gs, g.Sublist sv) ∧ w' = DW.run p c n' ∧ n + 4 ≤ n' ∧ n' ≤ n + 4 + 5 * j) (fun j x acc w hx hI Y N hY hN => ?_) (fun acc w hI => ?_) (fun j acc w hI => ?_) (by rw [List.length_range]; exact sz (by omega)) ⟨[], _, rfl, rfl, by simp, rfl, by omega, by omega⟩
  rotate_left 2
  · obtain ⟨gs, n', rfl, hgl, _⟩ := hI
    rw [List.length_map, hgl]
    exact Nat.le_refl _
  · obtain ⟨gs, n', rfl, hgl, hgs, rfl, hn3, hn4⟩ := hI
    have hj : j < 1 + r3 := by
      have := (List.getElem?_eq_some_iff.mp hx).1
      rwa [List.length_range] at this
    have xj : x = j := by
      have := (List.getElem?_eq_some_iff.mp hx).2
      rw [List.getElem_range] at this
      exact this.symm
    subst xj
    refine yes_step (e_rnd (B := 5) (G := gSample) (X := fun d => ∃ g : List Str, d = dT g ∧ g.Sublist sv) (EvA.cons (Ev.var (i := 0) rfl) (EvA.cons (Ev.var (i := 4) rfl) (EvA.cons (Ev.addI (Ev.con (x := .int 2)) (Ev.var (i := 10) rfl)) EvA.nil))) (by omega) ⟨sv, 2 + x, by simp [dT], by omega, by omega, by omega, fun ys h => ⟨ys, rfl, h⟩⟩ ?_)
    rintro y n5 h5 h6 ⟨g, rfl, hg⟩
    refine hY _ _ ?_ ⟨gs ++ [g], n5, by simp, by simp [hgl], ?_, rfl, by omega, by omega⟩
    · rw [List.length_map, hgl]
      have := sz (k := 1000)
      omega
    · intro z hz
      rcases List.mem_append.mp hz with h | h
      · exact hgs z h
      · rw [List.mem_singleton.mp h]; exact hg
  obtain ⟨gs, n', rfl, hgl, hgs, rfl, hn3, hn4⟩ := hI
  rw [List.length_range] at hgl hn4
  refine nil_r ⟨gs, rfl, okG_of hsv (by omega) hgs, by omega, fun nss up nd hm => ?_⟩
  obtain ⟨ffl, lfl, _⟩ := fam_of hsn hgs (fun e => by rw [e] at hgl; simp at hgl; omega) up nd hm
  rw [hgl] at lfl
  generalize maxOf nss = fl at ffl lfl ⊢
  refine ⟨by simp, ?_⟩
  -- more of them
  refine set_r (F_r (lc_r ?_))
  refine range_draw0 (m := 4) (n := n') ?_ (by omega) (by omega) (by omega) fun r4 hr4 => ⟨fun j hj d => by rw [List.mem_singleton.mp hj]; simp, ?_⟩
  · exact EvA.cons (Ev.var (i := 0) rfl) (EvA.cons Ev.con EvA.nil)
  refine comp_indM (by simp) (fun j acc w' => ∃ (ks : List (List Str)) (m' : Nat), acc = ks.map dT ∧ ks.length = j ∧ (∀ g ∈ ks, g.Sublist sv) ∧ w' = DW.run p c m' ∧ n' ≤ m' ∧ m' ≤ n' + 1 + 5 * j) (fun j x acc w hx hI Y N hY hN => ?_) (fun acc w hI => ?_) (fun j acc w hI => ?_) (by rw [List.length_range]; exact sz (by omega)) ⟨[], _, rfl, rfl, by simp, rfl, by omega, by omega⟩
  rotate_left 2
  · obtain ⟨ks, m', rfl, hkl, _⟩ := hI
    rw [List.length_map, hkl]
    exact Nat.le_refl _
  · obtain ⟨ks, m', rfl, hkl, hks, rfl, hm3, hm4⟩ := hI
    have hj : j < r4 := by
      have := (List.getElem?_eq_some_iff.mp hx).1
      rwa [List.length_range] at this
    refine yes_step (e_rnd (B := 5) (G := gSample) (X := fun d => ∃ g : List Str, d = dT g ∧ g.Sublist sv) (EvA.cons (Ev.var (i := 0) rfl) (EvA.cons (Ev.var (i := 4) rfl) (EvA.cons (Ev.con (x := .int 2)) EvA.nil))) (by omega) ⟨sv, 2, rfl, by omega, by decide, by decide, fun ys h => ⟨ys, rfl, h⟩⟩ ?_)
    rintro y n5 h5 h6 ⟨g, rfl, hg⟩
    refine hY _ _ ?_ ⟨ks ++ [g], n5, by simp, by simp [hkl], ?_, rfl, by omega, by omega⟩
    · rw [List.length_map, hkl]
      have := sz (k := 1000)
      omega
    · intro x hx
      rcases List.mem_append.mp hx with h | h
      · exact hks x h
      · rw [List.mem_singleton.mp h]; exact hg
  obtain ⟨ks, m', rfl, hkl, hks, rfl, hm3, hm4⟩ := hI
  rw [List.length_range] at hkl hm4
  refine ⟨by simp, ?_⟩
  -- the observer sets
  have hcat : ∀ g ∈ fl ++ ks, g.Sublist sv := fun g hg => (List.mem_append.mp hg).elim (ffl.sub g) (hks g)
  have e5 : Ev (L := wd KF K Ts) (deOp dAdd (deF (dfCB dfListX (daCons (deVar 6) daNil))) (deVar 7)) [.val (.ref p), .val (.lst (ns.map .str)), .val (.int t), .val (.int (2 + r1 : Nat)), .val (dT sv), .val (dT cl), .val (.tup (fl.map dT)), .val (.lst (ks.map dT)), .no, .no, .no] (DW.run p c m') (.lst ((fl ++ ks).map dT)) := by
    rw [List.map_append]
    exact Ev.addL (xs := fl.map dT) (Ev.F (EvA.fcb (EvA.cons (Ev.var (i := 6) rfl) EvA.nil) fun k q => .inl ⟨_, _, rfl, rfl, q⟩)) (Ev.var rfl) (by rw [List.length_map, List.length_map]; exact sz (by omega))
  refine set_r (call_r (cons1_r (e5 _ (nil_r ⟨fl ++ ks, rfl, okG_of hsv (by omega) hcat, by rw [List.length_append]; omega, fun nss2 up2 nd2 hm2' => ?_⟩))))
  have flp : 0 < fl.length := List.length_pos_iff.mpr ffl.ne
  obtain ⟨fob, lob, over⟩ := fam_of hsn hcat (fun e => by
    have := congrArg List.length e
    rw [List.length_append, List.length_nil] at this
    omega) up2 nd2 hm2'
  rw [List.length_append] at lob
  generalize maxOf nss2 = ob at fob lob over ⊢
  have wi : ∀ f ∈ fl, ∃ g ∈ ob, subS f g = true := fun f hf => over f (List.mem_append_left _ hf)
  refine ⟨by simp, ?_⟩
  have ffl' := ffl
  refine set_r (if_r ((EvT.of (Ev.ltI (Ev.lenT (xs := ob.map dT) (Ev.var (i := 8) rfl)) (Ev.con (x := .int 7)))) _ ?_))
  have fin : ∀ ob2 : List (List Str), ob2.length ≤ 20 → Fam sv ob2 → (∀ f ∈ fl, ∃ g ∈ ob2, subS f g = true) → CfgW sv cl ob2 fl := fun ob2 h1 h2 h3 => ⟨hall, hdis, by omega, by omega, by omega, by omega, hss, hcs, h1, by omega, h2, ffl, h3⟩
  have go : ∀ ob2 : List (List Str), CfgW sv cl ob2 fl → ob2.length ≤ 9 → ∀ (E : DEnds (wd KF K Ts)) δ', E.rt = R → δ' = [DV.val (.ref p), .val (.lst (ns.map .str)), .val (.int t), .val (.int (2 + r1 : Nat)), .val (dT sv), .val (dT cl), .val (.tup (fl.map dT)), .val (.lst (ks.map dT)), .val (.tup (ob2.map dT)), .no, .no] → dsRet (L := wd KF K Ts) (deTup (daCons (deCall (fRnd 1 gPick) (daCons (deVar 0) (daCons (deF (dfLst (daCons (deC (.int 2)) (daCons (deC (.int 3)) (daCons (deC (.int 5)) (daCons (deC (.int 101)) (daCons (deC (.int 991)) (daCons (deC (.int 997)) daNil)))))))) daNil))) (daCons (deVar 4) (daCons (deVar 5) (daCons (deVar 8) (daCons (deVar 6) daNil)))))) E δ' (DW.run p c m') := by
    rintro ob2 C C9 E δ' hE rfl
    refine ret_r (tup_r (cons1_r (e_rnd (B := 1) (G := gPick) (X := fun d => ∃ m : Nat, d = .int m ∧ m ∈ primesW) (EvA.cons (Ev.var (i := 0) rfl) (EvA.cons (Ev.F (EvA.lst (EvA.cons Ev.con (EvA.cons Ev.con (EvA.cons Ev.con (EvA.cons Ev.con (EvA.cons Ev.con (EvA.cons Ev.con EvA.nil)))))) (by show 6 ≤ sizeLine; exact sz))) EvA.nil)) (by omega) ⟨_, rfl, ([2, 3, 5, 101, 991, 997] : List Nat).map fun (m : Nat) => D.int (m : Nat), .inl rfl, by simp, by decide, fun y hy => ?_⟩ ?_)))
    · obtain ⟨m, hm, rfl⟩ := List.mem_map.mp hy
      exact ⟨m, rfl, (by decide : ∀ m ∈ ([2, 3, 5, 101, 991, 997] : List Nat), m ∈ primesW) m hm⟩
    · rintro y n9 h9 h9' ⟨m, rfl, hm⟩
      refine (EvA.cons (Ev.var rfl) (EvA.cons (Ev.var rfl) (EvA.cons (Ev.var rfl) (EvA.cons (Ev.var rfl) EvA.nil))) : EvA (daCons (deVar 4) (daCons (deVar 5) (daCons (deVar 8) (daCons (deVar 6) daNil)))) _ _ [dT sv, dT cl, .tup (ob2.map dT), .tup (fl.map dT)]) _ ⟨by show 5 ≤ sizeLine; exact sz, ?_⟩
      rw [hE]
      exact q _ _ (by omega) (by omega) (hX m sv cl ob2 fl ⟨hm, C⟩ (by omega) (by omega) C9 (by omega))
  by_cases c7 : (((ob.map dT).length : Nat) : Int) < 7
  · rw [decide_eq_true c7, if_pos rfl]
    exact (Ev.var rfl : Ev (deVar 8) _ _ (.tup (ob.map dT))) _ ⟨by simp, go ob (fin ob (by omega) fob wi) (by omega) _ _ rfl rfl⟩
  · rw [decide_eq_false c7, if_neg (by decide)]
    exact (Ev.var rfl : Ev (deVar 6) _ _ (.tup (fl.map dT))) _ ⟨by simp, go fl (fin fl (by omega) ffl fun f hf => ⟨f, hf, subS_refl f⟩) (by omega) _ _ rfl rfl⟩
end
end Dl
set_option maxRecDepth 100000
set_option maxHeartbeats 4000000
namespace Dl
open PySem PySem.Spec PyProof.Rows L2 Lk

/-! ### a text is one scheme's only -/
theorem map_inj {α β : Type} {f : α → β} (hf : ∀ x y, f x = f y → x = y) : ∀ {l m : List α}, l.map f = m.map f → l = m
  | [], [], _ => rfl
  | [], _ :: _, h => by simp at h
  | _ :: _, [], h => by simp at h
  | x :: l, y :: m, h => by
    rw [List.map_cons, List.map_cons, List.cons.injEq] at h
    rw [hf x y h.1, map_inj hf h.2]
theorem strs_inj {l m : List Str} (h : l.map D.str = m.map D.str) : l = m := map_inj (fun x y e => by injection e) h
theorem rowD_inj (x y : Str × List Str) (h : rowD x = rowD y) : x = y := by
  obtain ⟨a, b⟩ := x
  obtain ⟨c, d⟩ := y
  unfold rowD at h
  injection h with h
  have h := strs_inj h
  rw [List.cons.injEq] at h
  rw [Prod.mk.injEq]
  exact h
theorem num_inj {n m : Nat} (a : NumOk n) (b : NumOk m) (h : numT n = numT m) : n = m := by
  have x := a.val
  rw [h, b.val] at x
  injection x with x
  omega
theorem text_inj {n m : Nat} {sv cl sv' cl' : List Str} {ob fl ob' fl' : List (List Str)} (T : TxtOk n sv cl ob fl) (T' : TxtOk m sv' cl' ob' fl') (h : textT n sv cl ob fl = textT m sv' cl' ob' fl') : n = m ∧ sv = sv' ∧ cl = cl' ∧ ob = ob' ∧ fl = fl' := by
  have a := text_split T.num T.ns T.nc (fun g hg => (T.no g hg).1) fun g hg => (T.nf g hg).1
  have b := text_split T'.num T'.ns T'.nc (fun g hg => (T'.no g hg).1) fun g hg => (T'.nf g hg).1
  rw [h, b] at a
  have r := lines_rows T
  have r' := lines_rows T'
  have e : linesT m sv' cl' ob' fl' = linesT n sv cl ob fl := a
  rw [e, r] at r'
  simp only [List.cons_append, List.nil_append, List.cons.injEq] at r'
  obtain ⟨r1, r2, r3, r4⟩ := r'
  injection r1 with r1
  have r1 := strs_inj r1
  have r2 := rowD_inj _ _ r2
  have r3 := rowD_inj _ _ r3
  have r4 := map_inj rowD_inj r4
  rw [Prod.mk.injEq] at r2 r3
  rw [List.cons.injEq, List.cons.injEq] at r1
  have b1 := body_obs ob fl
  have b2 := body_obs ob' fl'
  rw [r4] at b1
  exact ⟨num_inj T.num T'.num r1.2.1, r2.2, r3.2, map_inj (fun _ _ => dT_inj) (b1.1.symm.trans b2.1), map_inj (fun _ _ => dT_inj) (b1.2.symm.trans b2.2)⟩
structure Sc where
  n : Nat
  sv : List Str
  cl : List Str
  ob : List (List Str)
  fl : List (List Str)
def Sc.d (s : Sc) : D := dSch s.n s.sv s.cl s.ob s.fl
def Sc.t (s : Sc) : Str := textT s.n s.sv s.cl s.ob s.fl
def Sc.Ok (s : Sc) : Prop := SchW s.n s.sv s.cl s.ob s.fl
structure Sc.Sm (s : Sc) : Prop where
  ok : s.Ok
  l1 : s.sv.length ≤ 5
  l2 : s.cl.length ≤ 5
  l3 : s.ob.length ≤ 9
  l4 : s.fl.length ≤ 9
theorem sc_iff {s z : Sc} (a : s.Ok) (b : z.Ok) : s.t = z.t ↔ s.d = z.d := by
  constructor
  · intro h
    obtain ⟨h1, h2, h3, h4, h5⟩ := text_inj a.txt b.txt h
    unfold Sc.d
    rw [h1, h2, h3, h4, h5]
  · intro h
    unfold Sc.d dSch at h
    injection h with h
    simp only [List.cons.injEq] at h
    obtain ⟨h1, h2, h3, h4, h5, _⟩ := h
    injection h1 with h1
    injection h4 with h4
    injection h5 with h5
    unfold Sc.t
    rw [show s.n = z.n by omega, dT_inj h2, dT_inj h3, map_inj (fun _ _ => dT_inj) h4, map_inj (fun _ _ => dT_inj) h5]
theorem sc_fit {s : Sc} (a : s.Ok) : s.d.fit 4 = true ∧ s.d.nb = true := by
  have T := a.txt
  refine ⟨fitL_iff.mpr fun d hd => ?_, ?_⟩
  · simp only [List.mem_cons, List.not_mem_nil, or_false] at hd
    rcases hd with rfl | rfl | rfl | rfl | rfl
    · rfl
    · exact fit_dT (okS_of T.ns)
    · exact fit_dT (okS_of T.nc)
    · exact fit_tups fun g hg => okS_of (T.no g hg).1
    · exact fit_tups fun g hg => okS_of (T.nf g hg).1
  · have nbS : ∀ l : List Str, nbL (l.map .str) = true := fun l => by
      induction l with
      | nil => rfl
      | cons x l ih => simpa [nbL, D.nb] using ih
    have nbT : ∀ l : List (List Str), nbL (l.map dT) = true := fun l => by
      induction l with
      | nil => rfl
      | cons x l ih => simpa [nbL, D.nb, dT, nbS] using ih
    simp [Sc.d, dSch, D.nb, nbL, dT, nbS, nbT]
theorem sc_sh {s : Sc} (a : s.Sm) : Sh s.d 15000 4 := by
  have T := a.ok.txt
  have C := a.ok.cfg
  have st : ∀ {l : List Str}, (∀ z ∈ l, NmOk z) → l.length ≤ 5 → Sh (dT l) 323 2 := fun {l} h hl => sh_tup (n := 62) (m := 1) (k := 5) (fun d hd => by
    obtain ⟨z, hz, rfl⟩ := List.mem_map.mp hd
    exact sh_str (k := 6) (h z hz).2.1 (h z hz).ok) (by rw [List.length_map]; exact hl)
  have sg : ∀ {l : List (List Str)}, (∀ g ∈ l, (∀ z ∈ g, NmOk z) ∧ g.length ≤ 5) → l.length ≤ 9 → Sh (.tup (l.map dT)) 2928 3 := fun {l} h hl => sh_tup (n := 323) (m := 2) (k := 9) (fun d hd => by
    obtain ⟨z, hz, rfl⟩ := List.mem_map.mp hd
    exact st (h z hz).1 (h z hz).2) (by rw [List.length_map]; exact hl)
  have n1 := a.ok.num.2.2.2
  refine (sh_tup (ds := [.int s.n, dT s.sv, dT s.cl, .tup (s.ob.map dT), .tup (s.fl.map dT)]) (n := 2928) (m := 3) (k := 5) (fun d hd => ?_) (Nat.le_refl 5)).mono (by decide) (by decide)
  simp only [List.mem_cons, List.not_mem_nil, or_false] at hd
  rcases hd with rfl | rfl | rfl | rfl | rfl
  · exact (sh_small (by omega) (by omega)).mono (by decide) (by decide)
  · exact (st T.ns a.l1).mono (by decide) (by decide)
  · exact (st T.nc a.l2).mono (by decide) (by decide)
  · exact (sg (fun g hg => ⟨(T.no g hg).1, Nat.le_trans (C.fob.sub g hg).length_le a.l1⟩) a.l3).mono (by decide) (by decide)
  · exact (sg (fun g hg => ⟨(T.nf g hg).1, Nat.le_trans (C.ffl.sub g hg).length_le a.l1⟩) a.l4).mono (by decide) (by decide)
theorem EvA.zipL {L : Wd} {δ : DEnv} {w : L.W} {a b : DE L} {α : Type} {A : List α} {f g : α → D} (h : Ev a δ w (.lst (A.map f))) (h2 : Ev b δ w (.lst (A.map g))) : EvA (diZip a b) δ w (A.map fun q => .tup [f q, g q]) := fun Q q => h _ (h2 _ (by
  show Q (pairs (A.map f) (A.map g)) _ _
  have e : pairs (A.map f) (A.map g) = A.map fun q => .tup [f q, g q] := by
    unfold pairs
    rw [List.zip_map', List.map_map]
    rfl
  rw [e]
  exact q))
theorem Ev.neB {L : Wd} {δ : DEnv} {w : L.W} {a b : DE L} {c : Bool} (h : Ev a δ w (.bl c)) (h2 : Ev b δ w (.bl c)) : Ev (deOp dNe a b) δ w (.bl false) := Ev.op h h2 fun k q => ⟨by cases c <;> rfl, by cases c <;> rfl, by cases c <;> simpa [D.py, PyData.eqv] using q⟩
section
variable {KF : PySem.W.Frag} {K : Deck} {Ts : List Addr}
def fLaw : DF (wd KF K Ts) := fun ds w R => ∃ a : Addr, ds = [.ref a] ∧ (w = DW.lit a ∨ w = DW.scr a) ∧ ∀ w', R (.bl true) w'
theorem sp_law : ∀ ds (w : (wd KF K Ts).W) R, fLaw ds w R → dfOf 1 9 (m_law (L := wd KF K Ts) fDeck fText (fRnd 80 gScheme) (fRnd 60 gWide) fScheme fFormat fParse) ds w R := by
  rintro ds w R ⟨a, rfl, hw, q⟩
  refine ⟨rfl, set_r (call_r (cons_r (Ev.var (i := 0) (x := .ref a) rfl) (nil_r ⟨a, rfl, hw, fun p c => ⟨by simp, ?_⟩⟩)))⟩
  have big := sz (k := 1000)
  refine s_set (x := .lst ([] : List D)) (Ev.F (EvA.lst EvA.nil (Nat.zero_le _))) (by simp) ?_
  refine s_forS (emb := fun i : Nat => D.int i) (zs := List.range 5) (EvA.range (m := 5) Ev.con (by decide)) (fun j δ w' => ∃ (b3 : DV) (l : List Sc) (n : Nat), δ = [.val (.ref a), .val (.ref p), .val (.lst (l.map Sc.d)), b3, .no, .no, .no, .no, .no] ∧ w' = DW.run p c n ∧ n ≤ 1000 * j ∧ l.length = 2 * j ∧ ∀ s ∈ l, s.Sm) ⟨.no, [], 0, rfl, rfl, by omega, rfl, by simp⟩ (fun j x δ w hx hI N hN => ?_) (fun δ w hI => ?_)
  · obtain ⟨b3, l, n, rfl, rfl, hn, hl, hs⟩ := hI
    have hj : j < 5 := by
      have := (List.getElem?_eq_some_iff.mp hx).1
      rwa [List.length_range] at this
    refine ⟨by simp, ?_⟩
    refine set0_r (op_r (x := .lst (l.map Sc.d)) (Ev.var (i := 2) rfl) (F_r (cons1_r ?_)))
    refine e_rnd (B := 80) (G := gScheme) (X := fun d => ∃ s : Sc, d = s.d ∧ s.Sm) (EvA.cons (Ev.var (i := 1) rfl) EvA.nil) (by omega) ⟨rfl, fun pr sv cl ob fl h1 h2 => ?_⟩ ?_
    · obtain ⟨e1, e2⟩ := (by decide : ∀ pr ∈ primesS, pr.toNat ∈ primesW ∧ (pr.toNat : Int) = pr) pr h1
      refine ⟨⟨pr.toNat, sv, cl, ob, fl⟩, ?_, ⟨e1, h2.w⟩, h2.sv5, Nat.le_trans h2.cl4 (by decide), Nat.le_trans h2.ob6 (by decide), Nat.le_trans h2.fl5 (by decide)⟩
      show dSch pr sv cl ob fl = dSch (pr.toNat : Int) sv cl ob fl
      rw [e2]
    rintro y n1 h1 h1' ⟨s1, rfl, m1⟩
    refine cons1_r (e_rnd (B := 60) (G := gWide) (X := fun d => ∃ s : Sc, d = s.d ∧ s.Sm) (EvA.cons (Ev.var (i := 1) rfl) EvA.nil) (by omega) ⟨rfl, fun pr sv cl ob fl h1 h2 h3 h4 h5 => ⟨⟨pr, sv, cl, ob, fl⟩, rfl, h1, h2, h3, h4, h5⟩⟩ ?_)
    rintro y n2 h2 h2' ⟨s2, rfl, m2⟩
    refine nil_r ⟨by show 2 ≤ sizeLine; exact sz, ⟨by rw [List.length_map]; exact sz (by show l.length + 2 ≤ _; omega), by simp, hN _ _ ⟨.val (.int x), l ++ [s1, s2], n2, by simp, rfl, by omega, by rw [List.length_append]; show l.length + 2 = _; omega, fun s hm => ?_⟩⟩⟩
    rcases List.mem_append.mp hm with h | h
    · exact hs s h
    · simp only [List.mem_cons, List.not_mem_nil, or_false] at h
      rcases h with rfl | rfl
      · exact m1
      · exact m2
  · obtain ⟨b3, l, n, rfl, rfl, hn, hl, hs⟩ := hI
    rw [List.length_range] at hl
    have sl : Sh (.lst (l.map Sc.d)) 200000 5 := (sh_lst (n := 15000) (m := 4) (k := 10) (fun d hd => by
      obtain ⟨s, h, rfl⟩ := List.mem_map.mp hd
      exact sc_sh (hs s h)) (by rw [List.length_map]; omega)).mono (by decide) (by decide)
    have fmt : ∀ {δ : DEnv} {w : (wd KF K Ts).W} {i : Nat} {s : Sc}, s.Sm → δ[i]? = some (.val s.d) → Ev (L := wd KF K Ts) (deCall fFormat (daCons (deVar i) daNil)) δ w (.str s.t) := fun {δ w i s} m h => Ev.call (EvA.cons (Ev.var h) EvA.nil) fun R r => ⟨s.n, s.sv, s.cl, s.ob, s.fl, rfl, by have := m.ok.num.2.2.2; omega, m.ok.txt, r⟩
    have prs : ∀ {δ : DEnv} {w : (wd KF K Ts).W} {i : Nat} {s : Sc}, s.Sm → δ[i]? = some (.val (.str s.t)) → Ev (L := wd KF K Ts) (deCall fParse (daCons (deVar i) daNil)) δ w s.d := fun {δ w i s} m h => Ev.call (EvA.cons (Ev.var h) EvA.nil) fun R r => ⟨s.n, s.sv, s.cl, s.ob, s.fl, rfl, m.ok, r⟩
    have l10 : l.length ≤ 1000 := by omega
    -- their texts
    refine par2_r (cons_r (x := .str (D.lst (l.map Sc.d)).py.shown) (Ev.repr (Ev.var (i := 2) rfl) sl.showOk (Nat.le_trans sl.le sz)) (cons_r (x := .lst (l.map fun s => D.str s.t)) (Ev.F ?_) (nil_r ⟨_, _, rfl, by simp, by simp, ?_⟩)))
    · exact EvA.mapM (emb := Sc.d) (f := fun s => D.str s.t) (EvA.seqL (Ev.var (i := 2) rfl)) (by simp) (by simp) (sz (by omega)) fun s h => Ev.call (EvA.cons (Ev.var (i := 6) rfl) EvA.nil) fun R r => ⟨s.n, s.sv, s.cl, s.ob, s.fl, rfl, by have := (hs s h).ok.num.2.2.2; omega, (hs s h).ok.txt, r⟩
    refine s_forS (emb := fun s : Sc => .tup [s.d, .str s.t]) (zs := l) (EvA.zipL (Ev.var (i := 2) rfl) (Ev.var (i := 5) rfl)) (fun j δ w' => ∃ b6 b7 : DV, δ = [.val (.ref a), .val (.ref p), .val (.lst (l.map Sc.d)), b3, .val (.str (D.lst (l.map Sc.d)).py.shown), .val (.lst (l.map fun s => D.str s.t)), b6, b7, .no] ∧ w' = DW.run p c n) ⟨_, _, rfl, rfl⟩ (fun j s δ w hx hI N hN => ?_) (fun δ w hI => ?_)
    · obtain ⟨b6, b7, rfl, rfl⟩ := hI
      have m := hs s (List.mem_of_getElem? hx)
      have ok : PyData.strOk s.t = true := text_ok m.ok.txt
      refine ⟨rfl, by simp, by simp, rfl, ?_⟩
      refine s_ifn (c := !true || false) (EvT.or (EvT.not (EvT.of (Ev.call (EvA.cons (Ev.var (i := 6) rfl) EvA.nil) fun R r => ⟨s.n, s.sv, s.cl, s.ob, s.fl, rfl, m.ok.num.2.2.1, m.ok.num.2.2.2, m.ok.num.2.1, m.ok.cfg, r⟩))) fun _ => EvT.of (Ev.ne (n := 1) (m := 1) (x := .lst [.str s.t, .str s.t]) (y := .lst [.str s.t, .str s.t]) (Ev.F (EvA.lst (EvA.cons (fmt (i := 6) m rfl) (EvA.cons (fmt (i := 6) m rfl) EvA.nil)) (by show 2 ≤ sizeLine; exact sz))) (Ev.F (EvA.lst (EvA.cons (Ev.var (i := 7) rfl) (EvA.cons (Ev.var (i := 7) rfl) EvA.nil)) (by show 2 ≤ sizeLine; exact sz))) (by simp [D.fit, fitL, ok]) (by simp [D.fit, fitL, ok]) rfl rfl (c := false) (by simp))) (fun h => nomatch h) fun _ => ?_
      have s2 : Sh (.lst [s.d, s.d]) 40000 5 := (sh_lst (ds := [s.d, s.d]) (n := 15000) (m := 4) (k := 2) (fun d hd => by
        simp only [List.mem_cons, List.not_mem_nil, or_false] at hd
        rcases hd with rfl | rfl <;> exact sc_sh m) (Nat.le_refl 2)).mono (by decide) (by decide)
      refine s_if (c := false) (EvT.of (Ev.nsame (Ev.F (EvA.lst (EvA.cons (prs (i := 7) m rfl) (EvA.cons (prs (i := 7) m rfl) EvA.nil)) (by show 2 ≤ sizeLine; exact sz))) (Ev.F (EvA.lst (EvA.cons (Ev.var (i := 6) rfl) (EvA.cons (Ev.var (i := 6) rfl) EvA.nil)) (by show 2 ≤ sizeLine; exact sz))) s2)) (fun h => nomatch h) fun _ => ?_
      exact hN _ _ ⟨_, _, rfl, rfl⟩
    obtain ⟨b6, b7, rfl, rfl⟩ := hI
    refine s_forS (emb := fun s : Sc => .tup [s.d, .str s.t]) (zs := l) (EvA.zipL (Ev.var (i := 2) rfl) (Ev.var (i := 5) rfl)) (fun j δ w' => ∃ b6 b7 b8 : DV, δ = [.val (.ref a), .val (.ref p), .val (.lst (l.map Sc.d)), b3, .val (.str (D.lst (l.map Sc.d)).py.shown), .val (.lst (l.map fun s => D.str s.t)), b6, b7, b8] ∧ w' = DW.run p c n) ⟨_, _, _, rfl, rfl⟩ (fun j s δ w hx hI N hN => ?_) (fun δ w hI => ?_)
    · obtain ⟨b6, b7, b8, rfl, rfl⟩ := hI
      have m := hs s (List.mem_of_getElem? hx)
      have ok : PyData.strOk s.t = true := text_ok m.ok.txt
      refine ⟨rfl, by simp, by simp, rfl, ?_⟩
      refine s_for (emb := Sc.d) (zs := l) (EvA.seqL (Ev.var (i := 2) rfl)) (fun j δ w' => ∃ b8 : DV, δ = [.val (.ref a), .val (.ref p), .val (.lst (l.map Sc.d)), b3, .val (.str (D.lst (l.map Sc.d)).py.shown), .val (.lst (l.map fun s => D.str s.t)), .val s.d, .val (.str s.t), b8] ∧ w' = DW.run p c n) ⟨_, rfl, rfl⟩ (fun i z δ w hz hI M hM => ?_) (fun δ w hI => ?_)
      · obtain ⟨b8, rfl, rfl⟩ := hI
        have mz := hs z (List.mem_of_getElem? hz)
        have okz : PyData.strOk z.t = true := text_ok mz.ok.txt
        refine ⟨by simp, ?_⟩
        refine s_if (c := false) (EvT.of (Ev.neB (c := decide (z.t = s.t)) (Ev.eq (x := s.d) (y := z.d) (Ev.var (i := 6) rfl) (Ev.var (i := 8) rfl) (sc_fit m.ok).1 (sc_fit mz.ok).1 (sc_fit m.ok).2 (sc_fit mz.ok).2 ?_) (Ev.eqS (fmt (i := 8) mz rfl) (Ev.var (i := 7) rfl) okz ok))) (fun h => nomatch h) fun _ => ?_
        · rw [decide_eq_true_iff, sc_iff mz.ok m.ok]
          exact eq_comm
        · exact hM _ _ ⟨_, rfl, rfl⟩
      · obtain ⟨b8, rfl, rfl⟩ := hI
        exact hN _ _ ⟨_, _, _, rfl, rfl⟩
    obtain ⟨b6, b7, b8, rfl, rfl⟩ := hI
    refine s_ret (x := .bl true) ?_ (q _)
    have h := Ev.eqS (L := wd KF K Ts) (w := DW.run p c n) (δ := [.val (.ref a), .val (.ref p), .val (.lst (l.map Sc.d)), b3, .val (.str (D.lst (l.map Sc.d)).py.shown), .val (.lst (l.map fun s => D.str s.t)), b6, b7, b8]) (Ev.repr (Ev.var (i := 2) rfl) sl.showOk (Nat.le_trans sl.le sz)) (Ev.var (i := 4) rfl) sl.tx sl.tx
    rw [decide_eq_true rfl] at h
    exact h
end
end Dl
set_option maxRecDepth 100000
set_option maxHeartbeats 2000000
namespace Dl
open PySem PySem.Spec PyProof.Rows L2 LamX Lk

theorem all_mk {l : PySem.W.OpenLaw} {w : World} {K : PySem.W.Frag} {h : Heap} {mg : Str → Option Value} {fa : Addr} (X : K.In h) (G : h.Ns mainGlobals mg) (hfa : mg "law" = some (.ref fa)) (d_number_of : HasTab K mg h "number_of" s_number_of) (d_is_prime : HasTab K mg h "is_prime" s_is_prime) (d_is_name : HasTab K mg h "is_name" s_is_name) (d_is_ascending : HasTab K mg h "is_ascending" s_is_ascending) (d_is_party_set : HasTab K mg h "is_party_set" s_is_party_set) (d_is_subset : HasTab K mg h "is_subset" s_is_subset) (d_is_scheme : HasTab K mg h "is_scheme" s_is_scheme) (d_are_parties : HasTab K mg h "_are_parties" s_are_parties) (d_is_family : HasTab K mg h "_is_family" s_is_family) (d_is_within_larger : HasTab K mg h "_is_within_larger" s_is_within_larger) (d_is_within : HasTab K mg h "_is_within" s_is_within) (d_named_sets : HasTab K mg h "_named_sets" s_named_sets) (d_is_integer : HasDef K mg "is_integer" s_is_integer) (d_is_modulus : HasDef K mg "_is_modulus" s_is_modulus) (d_format_scheme : HasDef K mg "format_scheme" s_format_scheme) (d_parse_scheme : HasDef K mg "parse_scheme" s_parse_scheme) (d_line : HasDef K mg "_line" s_line) (d_read_scheme : HasDef K mg "_read_scheme" s_read_scheme) (d_l_pick : HasDef K mg "_law_pick" s_l_pick) (d_l_names : HasDef K mg "_law_names" s_l_names) (d_l_contains : HasDef K mg "_law_contains" s_l_contains) (d_l_maximal : HasDef K mg "_law_maximal" s_l_maximal) (d_l_sample : HasDef K mg "_law_sample" s_l_sample) (d_l_supports_storage : HasDef K mg "_law_supports_storage" s_l_supports_storage) (d_l_scheme : HasDef K mg "_law_scheme" s_l_scheme) (d_l_wide_scheme : HasDef K mg "_law_wide_scheme" s_l_wide_scheme) (d_l_text : HasDef K mg "_law_text" s_l_text) (d_law : HasDef K mg "law" s_law) (d_l_deck : HasDef K mg "_law_deck" s_l_deck) (d_l_draw : HasDef K mg "_law_draw" s_l_draw) (z_int : PySem.W.nsIn K mainGlobals "int" = some none) (z_all : PySem.W.nsIn K mainGlobals "all" = some none) (z_len : PySem.W.nsIn K mainGlobals "len" = some none) (z_isinstance : PySem.W.nsIn K mainGlobals "isinstance" = some none) (z_bool : PySem.W.nsIn K mainGlobals "bool" = some none) (z_range : PySem.W.nsIn K mainGlobals "range" = some none) (z_str : PySem.W.nsIn K mainGlobals "str" = some none) (z_zip : PySem.W.nsIn K mainGlobals "zip" = some none) (z_tuple : PySem.W.nsIn K mainGlobals "tuple" = some none) (z_any : PySem.W.nsIn K mainGlobals "any" = some none) (z_list : PySem.W.nsIn K mainGlobals "list" = some none) (z_sorted : PySem.W.nsIn K mainGlobals "sorted" = some none) (z_set : PySem.W.nsIn K mainGlobals "set" = some none) (z_repr : PySem.W.nsIn K mainGlobals "repr" = some none) (zc_MOST_DIGITS : ∃ t, PySem.W.nsIn K mainGlobals "MOST_DIGITS" = some (some (.int 6 t))) (zc_LONGEST_NAME : ∃ t, PySem.W.nsIn K mainGlobals "LONGEST_NAME" = some (some (.int 6 t))) (zc_LARGEST_PRIME : ∃ t, PySem.W.nsIn K mainGlobals "LARGEST_PRIME" = some (some (.int 997 t))) : LawAtG l w K 9 63 "_law_script" mg fa h := by
  obtain ⟨f_number_of, fd_number_of, c_number_of, T_number_of, F_number_of, n_number_of, C_number_of, k_number_of, e_number_of⟩ := d_number_of
  obtain ⟨f_is_prime, fd_is_prime, c_is_prime, T_is_prime, F_is_prime, n_is_prime, C_is_prime, k_is_prime, e_is_prime⟩ := d_is_prime
  obtain ⟨f_is_name, fd_is_name, c_is_name, T_is_name, F_is_name, n_is_name, C_is_name, k_is_name, e_is_name⟩ := d_is_name
  obtain ⟨f_is_ascending, fd_is_ascending, c_is_ascending, T_is_ascending, F_is_ascending, n_is_ascending, C_is_ascending, k_is_ascending, e_is_ascending⟩ := d_is_ascending
  obtain ⟨f_is_party_set, fd_is_party_set, c_is_party_set, T_is_party_set, F_is_party_set, n_is_party_set, C_is_party_set, k_is_party_set, e_is_party_set⟩ := d_is_party_set
  obtain ⟨f_is_subset, fd_is_subset, c_is_subset, T_is_subset, F_is_subset, n_is_subset, C_is_subset, k_is_subset, e_is_subset⟩ := d_is_subset
  obtain ⟨f_is_scheme, fd_is_scheme, c_is_scheme, T_is_scheme, F_is_scheme, n_is_scheme, C_is_scheme, k_is_scheme, e_is_scheme⟩ := d_is_scheme
  obtain ⟨f_are_parties, fd_are_parties, c_are_parties, T_are_parties, F_are_parties, n_are_parties, C_are_parties, k_are_parties, e_are_parties⟩ := d_are_parties
  obtain ⟨f_is_family, fd_is_family, c_is_family, T_is_family, F_is_family, n_is_family, C_is_family, k_is_family, e_is_family⟩ := d_is_family
  obtain ⟨f_is_within_larger, fd_is_within_larger, c_is_within_larger, T_is_within_larger, F_is_within_larger, n_is_within_larger, C_is_within_larger, k_is_within_larger, e_is_within_larger⟩ := d_is_within_larger
  obtain ⟨f_is_within, fd_is_within, c_is_within, T_is_within, F_is_within, n_is_within, C_is_within, k_is_within, e_is_within⟩ := d_is_within
  obtain ⟨f_named_sets, fd_named_sets, c_named_sets, T_named_sets, F_named_sets, n_named_sets, C_named_sets, k_named_sets, e_named_sets⟩ := d_named_sets
  obtain ⟨fL, fdL, FL, mL⟩ := d_law
  have m_int := PySem.W.mg_none_of X G z_int
  have m_all := PySem.W.mg_none_of X G z_all
  have m_len := PySem.W.mg_none_of X G z_len
  have m_isinstance := PySem.W.mg_none_of X G z_isinstance
  have m_bool := PySem.W.mg_none_of X G z_bool
  have m_range := PySem.W.mg_none_of X G z_range
  have m_str := PySem.W.mg_none_of X G z_str
  have m_zip := PySem.W.mg_none_of X G z_zip
  have m_tuple := PySem.W.mg_none_of X G z_tuple
  have m_any := PySem.W.mg_none_of X G z_any
  have m_list := PySem.W.mg_none_of X G z_list
  have m_sorted := PySem.W.mg_none_of X G z_sorted
  have m_set := PySem.W.mg_none_of X G z_set
  have m_repr := PySem.W.mg_none_of X G z_repr
  have c_MOST_DIGITS : ∃ t, mg "MOST_DIGITS" = some (.int 6 t) := let ⟨t, h⟩ := zc_MOST_DIGITS; ⟨t, PySem.W.mg_of X G h⟩
  have c_LONGEST_NAME : ∃ t, mg "LONGEST_NAME" = some (.int 6 t) := let ⟨t, h⟩ := zc_LONGEST_NAME; ⟨t, PySem.W.mg_of X G h⟩
  have c_LARGEST_PRIME : ∃ t, mg "LARGEST_PRIME" = some (.int 997 t) := let ⟨t, h⟩ := zc_LARGEST_PRIME; ⟨t, PySem.W.mg_of X G h⟩
  have eL : fL = fa := by
    have z := mL.symm.trans hfa
    cases z
    rfl
  subst eL
  have bL : ∀ (s : Shared) (u : Value), BindsTo s fdL ⟨[u], []⟩ [("_law_script", u)] := by
    obtain ⟨oc, od, kV, doc, pm, an, cdv, ct, osl, rfl, _⟩ := FL.ex
    exact fun s u => .of_eq rfl
  refine lawAt_mk [(c_number_of, T_number_of), (c_is_prime, T_is_prime), (c_is_name, T_is_name), (c_is_ascending, T_is_ascending), (c_is_party_set, T_is_party_set), (c_is_subset, T_is_subset), (c_is_scheme, T_is_scheme), (c_are_parties, T_are_parties), (c_is_family, T_is_family), (c_is_within_larger, T_is_within_larger), (c_is_within, T_is_within), (c_named_sets, T_named_sets)] deckD (f := fLaw) ?_ ?_ ?_ bL (fun a w0 R h1 h2 => ⟨a, rfl, h1, h2⟩) fun base _ _ TB => ?_
  · intro p hp
    simp only [List.mem_cons, List.not_mem_nil, or_false] at hp
    rcases hp with hp | hp | hp | hp | hp | hp | hp | hp | hp | hp | hp | hp
    · rw [hp]; exact e_number_of
    · rw [hp]; exact e_is_prime
    · rw [hp]; exact e_is_name
    · rw [hp]; exact e_is_ascending
    · rw [hp]; exact e_is_party_set
    · rw [hp]; exact e_is_subset
    · rw [hp]; exact e_is_scheme
    · rw [hp]; exact e_are_parties
    · rw [hp]; exact e_is_family
    · rw [hp]; exact e_is_within_larger
    · rw [hp]; exact e_is_within
    · rw [hp]; exact e_named_sets
  · intro p hp
    simp only [List.mem_cons, List.not_mem_nil, or_false] at hp
    rcases hp with hp | hp | hp | hp | hp | hp | hp | hp | hp | hp | hp | hp
    · rw [hp]; exact k_number_of
    · rw [hp]; exact k_is_prime
    · rw [hp]; exact k_is_name
    · rw [hp]; exact k_is_ascending
    · rw [hp]; exact k_is_party_set
    · rw [hp]; exact k_is_subset
    · rw [hp]; exact k_is_scheme
    · rw [hp]; exact k_are_parties
    · rw [hp]; exact k_is_family
    · rw [hp]; exact k_is_within_larger
    · rw [hp]; exact k_is_within
    · rw [hp]; exact k_named_sets
  · intro p hp
    simp only [List.mem_cons, List.not_mem_nil, or_false] at hp
    rcases hp with hp | hp | hp | hp | hp | hp | hp | hp | hp | hp | hp | hp
    · rw [hp]; exact C_number_of
    · rw [hp]; exact C_is_prime
    · rw [hp]; exact C_is_name
    · rw [hp]; exact C_is_ascending
    · rw [hp]; exact C_is_party_set
    · rw [hp]; exact C_is_subset
    · rw [hp]; exact C_is_scheme
    · rw [hp]; exact C_are_parties
    · rw [hp]; exact C_is_family
    · rw [hp]; exact C_is_within_larger
    · rw [hp]; exact C_is_within
    · rw [hp]; exact C_named_sets
  · have tb_number_of := TB (c_number_of, T_number_of) (by simp)
    have D_number_of : TabAt K mg base "number_of" s_number_of c_number_of T_number_of := ⟨f_number_of, fd_number_of, F_number_of, n_number_of, ⟨tb_number_of.code, tb_number_of.bm, tb_number_of.gP⟩⟩
    have HT_number_of : Tabs (wd K deckD [T_number_of, T_is_prime, T_is_name, T_is_ascending, T_is_party_set, T_is_subset, T_is_scheme, T_are_parties, T_is_family, T_is_within_larger, T_is_within, T_named_sets]) T_number_of := tabs_wd (by simp)
    have tb_is_prime := TB (c_is_prime, T_is_prime) (by simp)
    have D_is_prime : TabAt K mg base "is_prime" s_is_prime c_is_prime T_is_prime := ⟨f_is_prime, fd_is_prime, F_is_prime, n_is_prime, ⟨tb_is_prime.code, tb_is_prime.bm, tb_is_prime.gP⟩⟩
    have HT_is_prime : Tabs (wd K deckD [T_number_of, T_is_prime, T_is_name, T_is_ascending, T_is_party_set, T_is_subset, T_is_scheme, T_are_parties, T_is_family, T_is_within_larger, T_is_within, T_named_sets]) T_is_prime := tabs_wd (by simp)
    have tb_is_name := TB (c_is_name, T_is_name) (by simp)
    have D_is_name : TabAt K mg base "is_name" s_is_name c_is_name T_is_name := ⟨f_is_name, fd_is_name, F_is_name, n_is_name, ⟨tb_is_name.code, tb_is_name.bm, tb_is_name.gP⟩⟩
    have HT_is_name : Tabs (wd K deckD [T_number_of, T_is_prime, T_is_name, T_is_ascending, T_is_party_set, T_is_subset, T_is_scheme, T_are_parties, T_is_family, T_is_within_larger, T_is_within, T_named_sets]) T_is_name := tabs_wd (by simp)
    have tb_is_ascending := TB (c_is_ascending, T_is_ascending) (by simp)
    have D_is_ascending : TabAt K mg base "is_ascending" s_is_ascending c_is_ascending T_is_ascending := ⟨f_is_ascending, fd_is_ascending, F_is_ascending, n_is_ascending, ⟨tb_is_ascending.code, tb_is_ascending.bm, tb_is_ascending.gP⟩⟩
    have HT_is_ascending : Tabs (wd K deckD [T_number_of, T_is_prime, T_is_name, T_is_ascending, T_is_party_set, T_is_subset, T_is_scheme, T_are_parties, T_is_family, T_is_within_larger, T_is_within, T_named_sets]) T_is_ascending := tabs_wd (by simp)
    have tb_is_party_set := TB (c_is_party_set, T_is_party_set) (by simp)
    have D_is_party_set : TabAt K mg base "is_party_set" s_is_party_set c_is_party_set T_is_party_set := ⟨f_is_party_set, fd_is_party_set, F_is_party_set, n_is_party_set, ⟨tb_is_party_set.code, tb_is_party_set.bm, tb_is_party_set.gP⟩⟩
    have HT_is_party_set : Tabs (wd K deckD [T_number_of, T_is_prime, T_is_name, T_is_ascending, T_is_party_set, T_is_subset, T_is_scheme, T_are_parties, T_is_family, T_is_within_larger, T_is_within, T_named_sets]) T_is_party_set := tabs_wd (by simp)
    have tb_is_subset := TB (c_is_subset, T_is_subset) (by simp)
    have D_is_subset : TabAt K mg base "is_subset" s_is_subset c_is_subset T_is_subset := ⟨f_is_subset, fd_is_subset, F_is_subset, n_is_subset, ⟨tb_is_subset.code, tb_is_subset.bm, tb_is_subset.gP⟩⟩
    have HT_is_subset : Tabs (wd K deckD [T_number_of, T_is_prime, T_is_name, T_is_ascending, T_is_party_set, T_is_subset, T_is_scheme, T_are_parties, T_is_family, T_is_within_larger, T_is_within, T_named_sets]) T_is_subset := tabs_wd (by simp)
    have tb_is_scheme := TB (c_is_scheme, T_is_scheme) (by simp)
    have D_is_scheme : TabAt K mg base "is_scheme" s_is_scheme c_is_scheme T_is_scheme := ⟨f_is_scheme, fd_is_scheme, F_is_scheme, n_is_scheme, ⟨tb_is_scheme.code, tb_is_scheme.bm, tb_is_scheme.gP⟩⟩
    have HT_is_scheme : Tabs (wd K deckD [T_number_of, T_is_prime, T_is_name, T_is_ascending, T_is_party_set, T_is_subset, T_is_scheme, T_are_parties, T_is_family, T_is_within_larger, T_is_within, T_named_sets]) T_is_scheme := tabs_wd (by simp)
    have tb_are_parties := TB (c_are_parties, T_are_parties) (by simp)
    have D_are_parties : TabAt K mg base "_are_parties" s_are_parties c_are_parties T_are_parties := ⟨f_are_parties, fd_are_parties, F_are_parties, n_are_parties, ⟨tb_are_parties.code, tb_are_parties.bm, tb_are_parties.gP⟩⟩
    have HT_are_parties : Tabs (wd K deckD [T_number_of, T_is_prime, T_is_name, T_is_ascending, T_is_party_set, T_is_subset, T_is_scheme, T_are_parties, T_is_family, T_is_within_larger, T_is_within, T_named_sets]) T_are_parties := tabs_wd (by simp)
    have tb_is_family := TB (c_is_family, T_is_family) (by simp)
    have D_is_family : TabAt K mg base "_is_family" s_is_family c_is_family T_is_family := ⟨f_is_family, fd_is_family, F_is_family, n_is_family, ⟨tb_is_family.code, tb_is_family.bm, tb_is_family.gP⟩⟩
    have HT_is_family : Tabs (wd K deckD [T_number_of, T_is_prime, T_is_name, T_is_ascending, T_is_party_set, T_is_subset, T_is_scheme, T_are_parties, T_is_family, T_is_within_larger, T_is_within, T_named_sets]) T_is_family := tabs_wd (by simp)
    have tb_is_within_larger := TB (c_is_within_larger, T_is_within_larger) (by simp)
    have D_is_within_larger : TabAt K mg base "_is_within_larger" s_is_within_larger c_is_within_larger T_is_within_larger := ⟨f_is_within_larger, fd_is_within_larger, F_is_within_larger, n_is_within_larger, ⟨tb_is_within_larger.code, tb_is_within_larger.bm, tb_is_within_larger.gP⟩⟩
    have HT_is_within_larger : Tabs (wd K deckD [T_number_of, T_is_prime, T_is_name, T_is_ascending, T_is_party_set, T_is_subset, T_is_scheme, T_are_parties, T_is_family, T_is_within_larger, T_is_within, T_named_sets]) T_is_within_larger := tabs_wd (by simp)
    have tb_is_within := TB (c_is_within, T_is_within) (by simp)
    have D_is_within : TabAt K mg base "_is_within" s_is_within c_is_within T_is_within := ⟨f_is_within, fd_is_within, F_is_within, n_is_within, ⟨tb_is_within.code, tb_is_within.bm, tb_is_within.gP⟩⟩
    have HT_is_within : Tabs (wd K deckD [T_number_of, T_is_prime, T_is_name, T_is_ascending, T_is_party_set, T_is_subset, T_is_scheme, T_are_parties, T_is_family, T_is_within_larger, T_is_within, T_named_sets]) T_is_within := tabs_wd (by simp)
    have tb_named_sets := TB (c_named_sets, T_named_sets) (by simp)
    have D_named_sets : TabAt K mg base "_named_sets" s_named_sets c_named_sets T_named_sets := ⟨f_named_sets, fd_named_sets, F_named_sets, n_named_sets, ⟨tb_named_sets.code, tb_named_sets.bm, tb_named_sets.gP⟩⟩
    have HT_named_sets : Tabs (wd K deckD [T_number_of, T_is_prime, T_is_name, T_is_ascending, T_is_party_set, T_is_subset, T_is_scheme, T_are_parties, T_is_family, T_is_within_larger, T_is_within, T_named_sets]) T_named_sets := tabs_wd (by simp)
    have G_l_deck : Gd l.prog w K mg base (wd K deckD [T_number_of, T_is_prime, T_is_name, T_is_ascending, T_is_party_set, T_is_subset, T_is_scheme, T_are_parties, T_is_family, T_is_within_larger, T_is_within, T_named_sets]) 1 "_law_deck" _ _ := g_l_deck (k := 0) d_l_deck m_list
    have G_l_draw : Gd l.prog w K mg base (wd K deckD [T_number_of, T_is_prime, T_is_name, T_is_ascending, T_is_party_set, T_is_subset, T_is_scheme, T_are_parties, T_is_family, T_is_within_larger, T_is_within, T_named_sets]) 1 "_law_draw" _ _ := g_l_draw (k := 0) d_l_draw
    have G_is_integer : Gd l.prog w K mg base (wd K deckD [T_number_of, T_is_prime, T_is_name, T_is_ascending, T_is_party_set, T_is_subset, T_is_scheme, T_are_parties, T_is_family, T_is_within_larger, T_is_within, T_named_sets]) _ "is_integer" _ (fInt) := Gd.imp (g_is_integer (k := 0) d_is_integer m_isinstance m_int m_bool) sp_is_integer
    have G_line : Gd l.prog w K mg base (wd K deckD [T_number_of, T_is_prime, T_is_name, T_is_ascending, T_is_party_set, T_is_subset, T_is_scheme, T_are_parties, T_is_family, T_is_within_larger, T_is_within, T_named_sets]) _ "_line" _ (fLine) := Gd.imp (g_line (k := 0) d_line ) sp_line
    have G_l_contains : Gd l.prog w K mg base (wd K deckD [T_number_of, T_is_prime, T_is_name, T_is_ascending, T_is_party_set, T_is_subset, T_is_scheme, T_are_parties, T_is_family, T_is_within_larger, T_is_within, T_named_sets]) _ "_law_contains" _ (fCont) := Gd.imp (g_l_contains (k := 0) d_l_contains ) sp_contains
    have G_l_text : Gd l.prog w K mg base (wd K deckD [T_number_of, T_is_prime, T_is_name, T_is_ascending, T_is_party_set, T_is_subset, T_is_scheme, T_are_parties, T_is_family, T_is_within_larger, T_is_within, T_named_sets]) _ "_law_text" _ (fText) := Gd.imp (g_l_text (k := 0) d_l_text m_str m_list) sp_text
    have G_number_of : Gd l.prog w K mg base (wd K deckD [T_number_of, T_is_prime, T_is_name, T_is_ascending, T_is_party_set, T_is_subset, T_is_scheme, T_are_parties, T_is_family, T_is_within_larger, T_is_within, T_named_sets]) _ "number_of" _ (fNum) := Gd.imp (g_number_of (k := 0) D_number_of HT_number_of m_int m_all m_len c_MOST_DIGITS) sp_number_of
    have G_is_prime : Gd l.prog w K mg base (wd K deckD [T_number_of, T_is_prime, T_is_name, T_is_ascending, T_is_party_set, T_is_subset, T_is_scheme, T_are_parties, T_is_family, T_is_within_larger, T_is_within, T_named_sets]) _ "is_prime" _ (fPrime) := Gd.imp (g_is_prime (k := 0) D_is_prime HT_is_prime m_all m_range) sp_is_prime
    have G_is_name : Gd l.prog w K mg base (wd K deckD [T_number_of, T_is_prime, T_is_name, T_is_ascending, T_is_party_set, T_is_subset, T_is_scheme, T_are_parties, T_is_family, T_is_within_larger, T_is_within, T_named_sets]) _ "is_name" _ (fName) := Gd.imp (g_is_name (k := 0) D_is_name HT_is_name m_isinstance m_all m_len m_str c_LONGEST_NAME) sp_is_name
    have G_is_ascending : Gd l.prog w K mg base (wd K deckD [T_number_of, T_is_prime, T_is_name, T_is_ascending, T_is_party_set, T_is_subset, T_is_scheme, T_are_parties, T_is_family, T_is_within_larger, T_is_within, T_named_sets]) _ "is_ascending" _ (fAsc) := Gd.imp (g_is_ascending (k := 0) D_is_ascending HT_is_ascending m_all m_zip) sp_is_ascending
    have G_is_subset : Gd l.prog w K mg base (wd K deckD [T_number_of, T_is_prime, T_is_name, T_is_ascending, T_is_party_set, T_is_subset, T_is_scheme, T_are_parties, T_is_family, T_is_within_larger, T_is_within, T_named_sets]) _ "is_subset" _ (fSub) := Gd.imp (g_is_subset (k := 0) D_is_subset HT_is_subset m_all) sp_sub
    have G_format_scheme : Gd l.prog w K mg base (wd K deckD [T_number_of, T_is_prime, T_is_name, T_is_ascending, T_is_party_set, T_is_subset, T_is_scheme, T_are_parties, T_is_family, T_is_within_larger, T_is_within, T_named_sets]) _ "format_scheme" _ (fFormat) := Gd.imp (g_format_scheme (k := 0) d_format_scheme G_line) sp_format
    have G_named_sets : Gd l.prog w K mg base (wd K deckD [T_number_of, T_is_prime, T_is_name, T_is_ascending, T_is_party_set, T_is_subset, T_is_scheme, T_are_parties, T_is_family, T_is_within_larger, T_is_within, T_named_sets]) _ "_named_sets" _ (fNamed) := Gd.imp (g_named_sets (k := 0) D_named_sets HT_named_sets m_tuple) sp_named
    have G_l_pick : Gd l.prog w K mg base (wd K deckD [T_number_of, T_is_prime, T_is_name, T_is_ascending, T_is_party_set, T_is_subset, T_is_scheme, T_are_parties, T_is_family, T_is_within_larger, T_is_within, T_named_sets]) _ "_law_pick" _ (fRnd 1 gPick) := Gd.imp (g_l_pick (k := 0) d_l_pick G_l_draw m_len) sp_pick
    have G_l_names : Gd l.prog w K mg base (wd K deckD [T_number_of, T_is_prime, T_is_name, T_is_ascending, T_is_party_set, T_is_subset, T_is_scheme, T_are_parties, T_is_family, T_is_within_larger, T_is_within, T_named_sets]) _ "_law_names" _ (fRnd 2 gNames) := Gd.imp (g_l_names (k := 0) d_l_names G_l_draw m_list m_range) sp_names
    have G_l_maximal : Gd l.prog w K mg base (wd K deckD [T_number_of, T_is_prime, T_is_name, T_is_ascending, T_is_party_set, T_is_subset, T_is_scheme, T_are_parties, T_is_family, T_is_within_larger, T_is_within, T_named_sets]) _ "_law_maximal" _ (fMaxS) := Gd.imp (g_l_maximal (k := 0) d_l_maximal G_l_contains m_tuple m_sorted m_set) sp_maximal
    have G_l_sample : Gd l.prog w K mg base (wd K deckD [T_number_of, T_is_prime, T_is_name, T_is_ascending, T_is_party_set, T_is_subset, T_is_scheme, T_are_parties, T_is_family, T_is_within_larger, T_is_within, T_named_sets]) _ "_law_sample" _ (fRnd 5 gSample) := Gd.imp (g_l_sample (k := 0) d_l_sample G_l_draw m_tuple) sp_sample
    have G_l_supports_storage : Gd l.prog w K mg base (wd K deckD [T_number_of, T_is_prime, T_is_name, T_is_ascending, T_is_party_set, T_is_subset, T_is_scheme, T_are_parties, T_is_family, T_is_within_larger, T_is_within, T_named_sets]) _ "_law_supports_storage" _ (fSt) := Gd.imp (g_l_supports_storage (k := 0) d_l_supports_storage G_l_contains) sp_stores
    have G_is_modulus : Gd l.prog w K mg base (wd K deckD [T_number_of, T_is_prime, T_is_name, T_is_ascending, T_is_party_set, T_is_subset, T_is_scheme, T_are_parties, T_is_family, T_is_within_larger, T_is_within, T_named_sets]) _ "_is_modulus" _ (fMod) := Gd.imp (g_is_modulus (k := 0) d_is_modulus G_is_integer G_is_prime c_LARGEST_PRIME) sp_is_modulus
    have G_read_scheme : Gd l.prog w K mg base (wd K deckD [T_number_of, T_is_prime, T_is_name, T_is_ascending, T_is_party_set, T_is_subset, T_is_scheme, T_are_parties, T_is_family, T_is_within_larger, T_is_within, T_named_sets]) _ "_read_scheme" _ (fRead) := Gd.imp (g_read_scheme (k := 0) d_read_scheme G_number_of G_named_sets m_len m_tuple) sp_read
    have G_l_scheme : Gd l.prog w K mg base (wd K deckD [T_number_of, T_is_prime, T_is_name, T_is_ascending, T_is_party_set, T_is_subset, T_is_scheme, T_are_parties, T_is_family, T_is_within_larger, T_is_within, T_named_sets]) _ "_law_scheme" _ (fRnd 80 gScheme) := Gd.imp (g_l_scheme (k := 0) d_l_scheme G_l_names G_l_maximal G_l_pick G_l_supports_storage G_l_sample G_l_draw m_tuple m_sorted m_range m_set m_len) sp_scheme
    have G_l_wide_scheme : Gd l.prog w K mg base (wd K deckD [T_number_of, T_is_prime, T_is_name, T_is_ascending, T_is_party_set, T_is_subset, T_is_scheme, T_are_parties, T_is_family, T_is_within_larger, T_is_within, T_named_sets]) _ "_law_wide_scheme" _ (fRnd 60 gWide) := Gd.imp (g_l_wide_scheme (k := 0) d_l_wide_scheme G_l_maximal G_l_draw G_l_sample G_l_pick m_tuple m_sorted m_range m_list m_len) sp_wide
    have G_is_party_set : Gd l.prog w K mg base (wd K deckD [T_number_of, T_is_prime, T_is_name, T_is_ascending, T_is_party_set, T_is_subset, T_is_scheme, T_are_parties, T_is_family, T_is_within_larger, T_is_within, T_named_sets]) _ "is_party_set" _ (fSet) := Gd.imp (g_is_party_set (k := 0) D_is_party_set HT_is_party_set G_is_ascending G_is_name m_isinstance m_all m_tuple) sp_is_party_set
    have G_is_within_larger : Gd l.prog w K mg base (wd K deckD [T_number_of, T_is_prime, T_is_name, T_is_ascending, T_is_party_set, T_is_subset, T_is_scheme, T_are_parties, T_is_family, T_is_within_larger, T_is_within, T_named_sets]) _ "_is_within_larger" _ (fLarger) := Gd.imp (g_is_within_larger (k := 0) D_is_within_larger HT_is_within_larger G_is_subset m_any m_len) sp_larger
    have G_is_within : Gd l.prog w K mg base (wd K deckD [T_number_of, T_is_prime, T_is_name, T_is_ascending, T_is_party_set, T_is_subset, T_is_scheme, T_are_parties, T_is_family, T_is_within_larger, T_is_within, T_named_sets]) _ "_is_within" _ (fWithin) := Gd.imp (g_is_within (k := 0) D_is_within HT_is_within G_is_subset m_any) sp_within
    have G_are_parties : Gd l.prog w K mg base (wd K deckD [T_number_of, T_is_prime, T_is_name, T_is_ascending, T_is_party_set, T_is_subset, T_is_scheme, T_are_parties, T_is_family, T_is_within_larger, T_is_within, T_named_sets]) _ "_are_parties" _ (fParties) := Gd.imp (g_are_parties (k := 0) D_are_parties HT_are_parties G_is_party_set m_len m_any) sp_are_parties
    have G_is_family : Gd l.prog w K mg base (wd K deckD [T_number_of, T_is_prime, T_is_name, T_is_ascending, T_is_party_set, T_is_subset, T_is_scheme, T_are_parties, T_is_family, T_is_within_larger, T_is_within, T_named_sets]) _ "_is_family" _ (fFamOk) := Gd.imp (g_is_family (k := 0) D_is_family HT_is_family G_is_ascending G_is_party_set G_is_subset G_is_within_larger m_all m_isinstance m_len m_any m_tuple) sp_is_family
    have G_is_scheme : Gd l.prog w K mg base (wd K deckD [T_number_of, T_is_prime, T_is_name, T_is_ascending, T_is_party_set, T_is_subset, T_is_scheme, T_are_parties, T_is_family, T_is_within_larger, T_is_within, T_named_sets]) _ "is_scheme" _ (fScheme) := Gd.imp (g_is_scheme (k := 0) D_is_scheme HT_is_scheme G_is_modulus G_are_parties G_is_family G_is_within m_all m_isinstance m_len m_tuple) sp_is_scheme
    have G_parse_scheme : Gd l.prog w K mg base (wd K deckD [T_number_of, T_is_prime, T_is_name, T_is_ascending, T_is_party_set, T_is_subset, T_is_scheme, T_are_parties, T_is_family, T_is_within_larger, T_is_within, T_named_sets]) _ "parse_scheme" _ (fParse) := Gd.imp (g_parse_scheme (k := 0) d_parse_scheme G_read_scheme G_is_scheme G_format_scheme m_isinstance m_str) sp_parse
    exact fnD_imp (gf_law (k := 0) FL G_l_deck G_l_text G_l_scheme G_l_wide_scheme G_is_scheme G_format_scheme G_parse_scheme m_range m_zip m_repr) sp_law
end Dl
set_option maxRecDepth 100000
open PySem PySem.W PyProof.Rows
set_option maxHeartbeats 0 in
theorem PySem.Challenge.cw_lotkept_k48_scheme_text_holds : PySem.Challenge.rw_lotkept_k48_scheme_text.Holds := by
  w_on; o_law; k_head; (case hw => w_witness2)
  k_fill
  refine Dl.walk_G (l := PySem.Challenge.rw_lotkept_k48_scheme_text) (n := 63) (k := 9) (x := "_law_script") rfl (by decide) rfl ⟨rfl, by decide, by decide⟩ (fun w h Y => PySem.W.kIn_of Y) ?F
  case F =>
    intro w mg fa h Y KX G hmg tabs
    refine' Dl.all_mk KX G hmg ?d_number_of ?d_is_prime ?d_is_name ?d_is_ascending ?d_is_party_set ?d_is_subset ?d_is_scheme ?d_are_parties ?d_is_family ?d_is_within_larger ?d_is_within ?d_named_sets ?d_is_integer ?d_is_modulus ?d_format_scheme ?d_parse_scheme ?d_line ?d_read_scheme ?d_l_pick ?d_l_names ?d_l_contains ?d_l_maximal ?d_l_sample ?d_l_supports_storage ?d_l_scheme ?d_l_wide_scheme ?d_l_text ?d_law ?d_l_deck ?d_l_draw ?z_int ?z_all ?z_len ?z_isinstance ?z_bool ?z_range ?z_str ?z_zip ?z_tuple ?z_any ?z_list ?z_sorted ?z_set ?z_repr ?zc_MOST_DIGITS ?zc_LONGEST_NAME ?zc_LARGEST_PRIME
    case d_number_of =>
      refine' Dl.hasTab_mk KX G (fun f hf => tabs _ f (by decide +kernel) hf) ?a ?l ?c ?k ?l2 ?v ?hh ?n
      (case a => k_is); (case l => k_is); (case c => k_is); (case k => k_is); (case l2 => k_is); (case v => rfl); (case hh => kernel_rfl); (case n => kernel_rfl)
    case d_is_prime =>
      refine' Dl.hasTab_mk KX G (fun f hf => tabs _ f (by decide +kernel) hf) ?a ?l ?c ?k ?l2 ?v ?hh ?n
      (case a => k_is); (case l => k_is); (case c => k_is); (case k => k_is); (case l2 => k_is); (case v => rfl); (case hh => kernel_rfl); (case n => kernel_rfl)
    case d_is_name =>
      refine' Dl.hasTab_mk KX G (fun f hf => tabs _ f (by decide +kernel) hf) ?a ?l ?c ?k ?l2 ?v ?hh ?n
      (case a => k_is); (case l => k_is); (case c => k_is); (case k => k_is); (case l2 => k_is); (case v => rfl); (case hh => kernel_rfl); (case n => kernel_rfl)
    case d_is_ascending =>
      refine' Dl.hasTab_mk KX G (fun f hf => tabs _ f (by decide +kernel) hf) ?a ?l ?c ?k ?l2 ?v ?hh ?n
      (case a => k_is); (case l => k_is); (case c => k_is); (case k => k_is); (case l2 => k_is); (case v => rfl); (case hh => kernel_rfl); (case n => kernel_rfl)
    case d_is_party_set =>
      refine' Dl.hasTab_mk KX G (fun f hf => tabs _ f (by decide +kernel) hf) ?a ?l ?c ?k ?l2 ?v ?hh ?n
      (case a => k_is); (case l => k_is); (case c => k_is); (case k => k_is); (case l2 => k_is); (case v => rfl); (case hh => kernel_rfl); (case n => kernel_rfl)
    case d_is_subset =>
      refine' Dl.hasTab_mk KX G (fun f hf => tabs _ f (by decide +kernel) hf) ?a ?l ?c ?k ?l2 ?v ?hh ?n
      (case a => k_is); (case l => k_is); (case c => k_is); (case k => k_is); (case l2 => k_is); (case v => rfl); (case hh => kernel_rfl); (case n => kernel_rfl)
    case d_is_scheme =>
      refine' Dl.hasTab_mk KX G (fun f hf => tabs _ f (by decide +kernel) hf) ?a ?l ?c ?k ?l2 ?v ?hh ?n
      (case a => k_is); (case l => k_is); (case c => k_is); (case k => k_is); (case l2 => k_is); (case v => rfl); (case hh => kernel_rfl); (case n => kernel_rfl)
    case d_are_parties =>
      refine' Dl.hasTab_mk KX G (fun f hf => tabs _ f (by decide +kernel) hf) ?a ?l ?c ?k ?l2 ?v ?hh ?n
      (case a => k_is); (case l => k_is); (case c => k_is); (case k => k_is); (case l2 => k_is); (case v => rfl); (case hh => kernel_rfl); (case n => kernel_rfl)
    case d_is_family =>
      refine' Dl.hasTab_mk KX G (fun f hf => tabs _ f (by decide +kernel) hf) ?a ?l ?c ?k ?l2 ?v ?hh ?n
      (case a => k_is); (case l => k_is); (case c => k_is); (case k => k_is); (case l2 => k_is); (case v => rfl); (case hh => kernel_rfl); (case n => kernel_rfl)
    case d_is_within_larger =>
      refine' Dl.hasTab_mk KX G (fun f hf => tabs _ f (by decide +kernel) hf) ?a ?l ?c ?k ?l2 ?v ?hh ?n
      (case a => k_is); (case l => k_is); (case c => k_is); (case k => k_is); (case l2 => k_is); (case v => rfl); (case hh => kernel_rfl); (case n => kernel_rfl)
    case d_is_within =>
      refine' Dl.hasTab_mk KX G (fun f hf => tabs _ f (by decide +kernel) hf) ?a ?l ?c ?k ?l2 ?v ?hh ?n
      (case a => k_is); (case l => k_is); (case c => k_is); (case k => k_is); (case l2 => k_is); (case v => rfl); (case hh => kernel_rfl); (case n => kernel_rfl)
    case d_named_sets =>
      refine' Dl.hasTab_mk KX G (fun f hf => tabs _ f (by decide +kernel) hf) ?a ?l ?c ?k ?l2 ?v ?hh ?n
      (case a => k_is); (case l => k_is); (case c => k_is); (case k => k_is); (case l2 => k_is); (case v => rfl); (case hh => kernel_rfl); (case n => kernel_rfl)
    case d_is_integer =>
      refine' Dl.hasDef_mk KX G ?a ?l ?c ?k
      (case a => k_is); (case l => k_is); (case c => k_is); (case k => k_is)
    case d_is_modulus =>
      refine' Dl.hasDef_mk KX G ?a ?l ?c ?k
      (case a => k_is); (case l => k_is); (case c => k_is); (case k => k_is)
    case d_format_scheme =>
      refine' Dl.hasDef_mk KX G ?a ?l ?c ?k
      (case a => k_is); (case l => k_is); (case c => k_is); (case k => k_is)
    case d_parse_scheme =>
      refine' Dl.hasDef_mk KX G ?a ?l ?c ?k
      (case a => k_is); (case l => k_is); (case c => k_is); (case k => k_is)
    case d_line =>
      refine' Dl.hasDef_mk KX G ?a ?l ?c ?k
      (case a => k_is); (case l => k_is); (case c => k_is); (case k => k_is)
    case d_read_scheme =>
      refine' Dl.hasDef_mk KX G ?a ?l ?c ?k
      (case a => k_is); (case l => k_is); (case c => k_is); (case k => k_is)
    case d_l_pick =>
      refine' Dl.hasDef_mk KX G ?a ?l ?c ?k
      (case a => k_is); (case l => k_is); (case c => k_is); (case k => k_is)
    case d_l_names =>
      refine' Dl.hasDef_mk KX G ?a ?l ?c ?k
      (case a => k_is); (case l => k_is); (case c => k_is); (case k => k_is)
    case d_l_contains =>
      refine' Dl.hasDef_mk KX G ?a ?l ?c ?k
      (case a => k_is); (case l => k_is); (case c => k_is); (case k => k_is)
    case d_l_maximal =>
      refine' Dl.hasDef_mk KX G ?a ?l ?c ?k
      (case a => k_is); (case l => k_is); (case c => k_is); (case k => k_is)
    case d_l_sample =>
      refine' Dl.hasDef_mk KX G ?a ?l ?c ?k
      (case a => k_is); (case l => k_is); (case c => k_is); (case k => k_is)
    case d_l_supports_storage =>
      refine' Dl.hasDef_mk KX G ?a ?l ?c ?k
      (case a => k_is); (case l => k_is); (case c => k_is); (case k => k_is)
    case d_l_scheme =>
      refine' Dl.hasDef_mk KX G ?a ?l ?c ?k
      (case a => k_is); (case l => k_is); (case c => k_is); (case k => k_is)
    case d_l_wide_scheme =>
      refine' Dl.hasDef_mk KX G ?a ?l ?c ?k
      (case a => k_is); (case l => k_is); (case c => k_is); (case k => k_is)
    case d_l_text =>
      refine' Dl.hasDef_mk KX G ?a ?l ?c ?k
      (case a => k_is); (case l => k_is); (case c => k_is); (case k => k_is)
    case d_law =>
      refine' Dl.hasDef_mk KX G ?a ?l ?c ?k
      (case a => k_is); (case l => k_is); (case c => k_is); (case k => k_is)
    case d_l_deck =>
      refine' Dl.hasDef_mk KX G ?a ?l ?c ?k
      (case a => k_is); (case l => k_is); (case c => k_is); (case k => k_is)
    case d_l_draw =>
      refine' Dl.hasDef_mk KX G ?a ?l ?c ?k
      (case a => k_is); (case l => k_is); (case c => k_is); (case k => k_is)
    (case z_int => k_is)
    (case z_all => k_is)
    (case z_len => k_is)
    (case z_isinstance => k_is)
    (case z_bool => k_is)
    (case z_range => k_is)
    (case z_str => k_is)
    (case z_zip => k_is)
    (case z_tuple => k_is)
    (case z_any => k_is)
    (case z_list => k_is)
    (case z_sorted => k_is)
    (case z_set => k_is)
    (case z_repr => k_is)
    (case zc_MOST_DIGITS => exact ⟨_, by k_is⟩)
    (case zc_LONGEST_NAME => exact ⟨_, by k_is⟩)
    (case zc_LARGEST_PRIME => exact ⟨_, by k_is⟩)
