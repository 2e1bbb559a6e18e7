import PyProof.Rows.All
import Wide.All
import OpenK.AllK
import Wide.FinOn
import HandS.Base
import HandS.Call
import HandS.List
import HandS.Comp
import HandS.Words
import HandS.Walk
import HandS.More
import HandS.Conv
import HandS.TupAny
import HandS.WordsExc
import HandS.TupMul
import HandS.Zip
import HandS.SortRule
import HandS.SortInts
import HandS.Iter
import HandS.TupLe
import HandS.RaiseMore
import PyProof.ReprRoads
import HandS.Ends
import KE.DataMinMax
import HandS.SortKw
import HandS.Star
import HandS.IsInst
import HandS.TryOnly
import HandS.Flow
import HandS.Style
import PyProof.PureInt
import KE.GoesEnum
import PySem.Challenge.RW_comeright_k02_whole_steps
set_option Elab.async false
set_option linter.all false
set_option maxRecDepth 100000
/-! The D layer: what a def of the text does, as a plain function over data and a store of lists. -/
namespace DL
open PySem PySem.Spec PyProof.Rows L2

/-- data: tuples by their items; a list by its number in the store -/
inductive D where
  | non | bl (b : Bool) | int (i : Int) | str (x : Str) | tup (xs : List D) | ref (r : Nat) | fn (a : Addr) | ty (n : String) | nam (x : Str)
/-- what stands in the store: a list of the program's, a list that is only read -/
inductive Cl where
  | lst (xs : List D) | fro (xs : List D)
abbrev Sto := List Cl
abbrev En := List (Option D)
/-- an exception: its class, its fields (none: it has no dict) -/
structure Ex where
  cls : Addr
  fs : Option (List (Str × D))
/-- how a piece ends -/
inductive R (β : Type) where
  | ok (b : β) (s : Sto) | ex (x : Ex) (s : Sto) | no
def R.bind {β γ : Type} (r : R β) (k : β → Sto → R γ) : R γ := match r with
  | .ok b s => k b s
  | .ex x s => .ex x s
  | .no => .no

/-! ### what data stand for -/
mutual
inductive RD (K : PySem.W.Frag) (α : List Addr) (H : Hp) : D → V → Prop where
  | non : RD K α H .non .non
  | bl (b : Bool) : RD K α H (.bl b) (.bl b)
  | int (i : Int) : RD K α H (.int i) (.int i)
  | str (x : Str) : RD K α H (.str x) (.str x)
  | tup {a : Addr} {ds : List D} {vs : List V} : SqT K H a vs → RDs K α H ds vs → RD K α H (.tup ds) (.ref a)
  | ref {r : Nat} {a : Addr} : α[r]? = some a → RD K α H (.ref r) (.ref a)
  | fn (a : Addr) : RD K α H (.fn a) (.ref a)
  | ty (n : String) : RD K α H (.ty n) (.ty n)
  | nam {x : Str} {a : Addr} : PySem.W.nsIn K mainGlobals x = some (some (.ref a)) → RD K α H (.nam x) (.ref a)
inductive RDs (K : PySem.W.Frag) (α : List Addr) (H : Hp) : List D → List V → Prop where
  | nil : RDs K α H [] []
  | cons {d : D} {v : V} {ds : List D} {vs : List V} : RD K α H d v → RDs K α H ds vs → RDs K α H (d :: ds) (v :: vs)
end
/-- tuples and locked things stay -/
structure Keep (H H' : Hp) : Prop where
  t : ∀ b xs, H b = some (.tup xs) → H' b = some (.tup xs)
  z : ∀ b o u, H b = some (.frz o u) → H' b = some (.frz o u)
theorem Keep.refl (H : Hp) : Keep H H := ⟨fun _ _ h => h, fun _ _ _ h => h⟩
theorem Keep.trans {H1 H2 H3 : Hp} (a : Keep H1 H2) (b : Keep H2 H3) : Keep H1 H3 := ⟨fun c xs h => b.t c xs (a.t c xs h), fun c o u h => b.z c o u (a.z c o u h)⟩
theorem Keep.fresh {H : Hp} {p : Addr} {o : HO} (h : H p = none) : Keep H (upd H p o) :=
  ⟨fun b xs e => by rw [upd_ne (ne_of_none e h)]; exact e, fun b o' u e => by rw [upd_ne (ne_of_none e h)]; exact e⟩
theorem Keep.lst {H : Hp} {p : Addr} {xs : List V} {o : HO} (h : H p = some (.lst xs)) : Keep H (upd H p o) := by
  refine ⟨fun b ys e => ?_, fun b o' u e => ?_⟩
  · rw [upd_ne (fun q => by subst q; rw [h] at e; cases e)]
    exact e
  · rw [upd_ne (fun q => by subst q; rw [h] at e; cases e)]
    exact e
theorem Keep.sqT {K : PySem.W.Frag} {H H' : Hp} {a : Addr} {xs : List V} (k : Keep H H') (h : SqT K H a xs) : SqT K H' a xs := by
  rcases h with (h | ⟨o, h⟩) | h
  · exact .inl (.inl (k.t _ _ h))
  · exact .inl (.inr ⟨o, k.z _ _ _ h⟩)
  · exact .inr h

section
variable {K : PySem.W.Frag} {α α' : List Addr} {H H' : Hp}
theorem get_pre {β : Type} {l l' : List β} (h : l <+: l') {i : Nat} {x : β} (e : l[i]? = some x) : l'[i]? = some x := by
  obtain ⟨t, rfl⟩ := h
  rw [List.getElem?_append_left (List.getElem?_eq_some_iff.mp e).1]
  exact e
mutual
theorem RD.mono (p : α <+: α') (k : Keep H H') : ∀ (d : D) (v : V), RD K α H d v → RD K α' H' d v
  | .non, _, h => by cases h; exact .non
  | .bl b, _, h => by cases h; exact .bl b
  | .int i, _, h => by cases h; exact .int i
  | .str x, _, h => by cases h; exact .str x
  | .tup ds, _, h => by
    cases h with
    | tup a b => exact .tup (k.sqT a) (RDs.mono p k ds _ b)
  | .ref r, _, h => by
    cases h with
    | ref a => exact .ref (get_pre p a)
  | .fn a, _, h => by cases h; exact .fn a
  | .ty n, _, h => by cases h; exact .ty n
  | .nam x, _, h => by
    cases h with
    | nam a => exact .nam a
theorem RDs.mono (p : α <+: α') (k : Keep H H') : ∀ (ds : List D) (vs : List V), RDs K α H ds vs → RDs K α' H' ds vs
  | [], _, h => by cases h; exact .nil
  | d :: ds, _, h => by
    cases h with
    | cons a b => exact .cons (RD.mono p k d _ a) (RDs.mono p k ds _ b)
end
theorem RDs.len : ∀ {ds : List D} {vs : List V}, RDs K α H ds vs → ds.length = vs.length
  | [], _, h => by cases h; rfl
  | _ :: ds, _, h => by
    cases h with
    | cons a b => simp [RDs.len b]
theorem RDs.get : ∀ {ds : List D} {vs : List V} {i : Nat} {v : V}, RDs K α H ds vs → vs[i]? = some v → ∃ d, ds[i]? = some d ∧ RD K α H d v
  | [], _, i, v, h, e => by cases h; simp at e
  | d :: ds, _, 0, v, h, e => by
    cases h with
    | cons a b => simp at e; subst e; exact ⟨d, rfl, a⟩
  | d :: ds, _, i + 1, v, h, e => by
    cases h with
    | cons a b =>
      obtain ⟨d', h1, h2⟩ := RDs.get (i := i) b (by simpa using e)
      exact ⟨d', by simpa using h1, h2⟩
theorem RDs.getD : ∀ {ds : List D} {vs : List V} {i : Nat} {d : D}, RDs K α H ds vs → ds[i]? = some d → ∃ v, vs[i]? = some v ∧ RD K α H d v
  | [], _, i, d, h, e => by simp at e
  | d :: ds, _, 0, d', h, e => by
    cases h with
    | cons a b => simp at e; subst e; exact ⟨_, rfl, a⟩
  | d :: ds, _, i + 1, d', h, e => by
    cases h with
    | cons a b =>
      obtain ⟨v', h1, h2⟩ := RDs.getD (i := i) b (by simpa using e)
      exact ⟨v', by simpa using h1, h2⟩
theorem RDs.app : ∀ {ds es : List D} {vs ws : List V}, RDs K α H ds vs → RDs K α H es ws → RDs K α H (ds ++ es) (vs ++ ws)
  | [], _, _, _, h, q => by cases h; exact q
  | d :: ds, _, _, _, h, q => by
    cases h with
    | cons a b => exact .cons a (RDs.app b q)
theorem RDs.drop : ∀ {ds : List D} {vs : List V} (n : Nat), RDs K α H ds vs → RDs K α H (ds.drop n) (vs.drop n)
  | _, _, 0, h => h
  | [], _, n + 1, h => by cases h; exact .nil
  | d :: ds, _, n + 1, h => by
    cases h with
    | cons a b => exact RDs.drop n b
theorem RDs.take : ∀ {ds : List D} {vs : List V} (n : Nat), RDs K α H ds vs → RDs K α H (ds.take n) (vs.take n)
  | _, _, 0, h => .nil
  | [], _, n + 1, h => by cases h; exact .nil
  | d :: ds, _, n + 1, h => by
    cases h with
    | cons a b => exact .cons a (RDs.take n b)
theorem RDs.set {d : D} {v : V} (q : RD K α H d v) : ∀ {ds : List D} {vs : List V} (n : Nat), RDs K α H ds vs → RDs K α H (ds.set n d) (vs.set n v)
  | [], _, n, h => by cases h; exact .nil
  | e :: ds, _, 0, h => by
    cases h with
    | cons a b => exact .cons q b
  | e :: ds, _, n + 1, h => by
    cases h with
    | cons a b => exact .cons a (RDs.set q n b)
theorem RDs.erase : ∀ {ds : List D} {vs : List V} (n : Nat), RDs K α H ds vs → RDs K α H (ds.eraseIdx n) (vs.eraseIdx n)
  | [], _, n, h => by cases h; exact .nil
  | e :: ds, _, 0, h => by
    cases h with
    | cons a b => exact b
  | e :: ds, _, n + 1, h => by
    cases h with
    | cons a b => exact .cons a (RDs.erase n b)
theorem RDs.rep {d : D} {v : V} (q : RD K α H d v) : ∀ n : Nat, RDs K α H (List.replicate n d) (List.replicate n v)
  | 0 => .nil
  | n + 1 => by rw [List.replicate_succ, List.replicate_succ]; exact .cons q (RDs.rep q n)
theorem RDs.repL {ds : List D} {vs : List V} (q : RDs K α H ds vs) : ∀ n : Nat, RDs K α H (List.replicate n ds).flatten (List.replicate n vs).flatten
  | 0 => .nil
  | n + 1 => by rw [List.replicate_succ, List.replicate_succ, List.flatten_cons, List.flatten_cons]; exact q.app (RDs.repL q n)
theorem RDs.rev {ds : List D} {vs : List V} (q : RDs K α H ds vs) : RDs K α H ds.reverse vs.reverse := by
  induction ds generalizing vs with
  | nil => cases q; exact .nil
  | cons d ds ih =>
    cases q with
    | cons a b =>
      rw [List.reverse_cons, List.reverse_cons]
      exact (ih b).app (.cons a .nil)
theorem RDs.ints : ∀ (ns : List Int), RDs K α H (ns.map D.int) (ns.map V.int)
  | [] => .nil
  | n :: ns => .cons (.int n) (RDs.ints ns)
theorem RDs.toInts : ∀ {ns : List Int} {vs : List V}, RDs K α H (ns.map D.int) vs → vs = ns.map V.int
  | [], _, h => by cases h; rfl
  | n :: ns, _, h => by
    cases h with
    | cons a b => cases a; rw [RDs.toInts b]; rfl
theorem RDs.toBls : ∀ {ns : List Bool} {vs : List V}, RDs K α H (ns.map D.bl) vs → vs = ns.map V.bl
  | [], _, h => by cases h; rfl
  | n :: ns, _, h => by
    cases h with
    | cons a b => cases a; rw [RDs.toBls b]; rfl
theorem RDs.toStrs : ∀ {ns : List Str} {vs : List V}, RDs K α H (ns.map D.str) vs → vs = ns.map V.str
  | [], _, h => by cases h; rfl
  | n :: ns, _, h => by
    cases h with
    | cons a b => cases a; rw [RDs.toStrs b]; rfl

/-- a list that is read and that nothing can write -/
def Locked (K : PySem.W.Frag) (H : Hp) (a : Addr) (vs : List V) : Prop := (∃ o, H a = some (.frz o (.lst vs))) ∨ ∀ H', SqL K H' a vs
theorem Locked.sq {a : Addr} {vs : List V} (h : Locked K H a vs) : SqL K H a vs := by
  rcases h with ⟨o, h⟩ | h
  · exact .inl (.inr ⟨o, h⟩)
  · exact h H
theorem Locked.keep {a : Addr} {vs : List V} (h : Locked K H a vs) (k : Keep H H') : Locked K H' a vs := by
  rcases h with ⟨o, h⟩ | h
  · exact .inl ⟨o, k.z _ _ _ h⟩
  · exact .inr h
/-- a place of the store -/
def CO (K : PySem.W.Frag) (α : List Addr) (H : Hp) (a : Addr) : Cl → Prop
  | .lst ds => ∃ vs, H a = some (.lst vs) ∧ RDs K α H ds vs
  | .fro ds => ∃ vs, Locked K H a vs ∧ RDs K α H ds vs
structure SR (K : PySem.W.Frag) (α : List Addr) (st : Sto) (H : Hp) : Prop where
  len : α.length = st.length
  cell : ∀ (i : Nat) (c : Cl), st[i]? = some c → ∃ a, α[i]? = some a ∧ CO K α H a c
  inj : ∀ (i j : Nat) (xs ys : List D) (a : Addr), st[i]? = some (.lst xs) → st[j]? = some (.lst ys) → α[i]? = some a → α[j]? = some a → i = j
def ER (K : PySem.W.Frag) (α : List Addr) (env : En) (σ : L2.St) (H : Hp) : Prop :=
  env.length = σ.length ∧ ∀ (i : Nat) (d : D), env[i]? = some (some d) → ∃ v, σ[i]? = some (some v) ∧ RD K α H d v
def RX (K : PySem.W.Frag) (α : List Addr) (H : Hp) (x : Ex) (c : Value) (dx : Option Addr) : Prop :=
  c = .ref x.cls ∧ match x.fs with
    | none => dx = none
    | some fs => ∃ (d : Addr) (vs : List (Str × V)), dx = some d ∧ H d = some (.xd vs) ∧ fs.map (·.1) = vs.map (·.1) ∧ RDs K α H (fs.map (·.2)) (vs.map (·.2))
theorem ER.mono {env : En} {σ : L2.St} (h : ER K α env σ H) (p : α <+: α') (k : Keep H H') : ER K α' env σ H' :=
  ⟨h.1, fun i d e => let ⟨v, e1, e2⟩ := h.2 i d e; ⟨v, e1, e2.mono p k⟩⟩
theorem CO.mono {a : Addr} {c : Cl} (h : CO K α H a c) (p : α <+: α') (k : Keep H H') (e : ∀ vs, H a = some (.lst vs) → H' a = some (.lst vs)) : CO K α' H' a c := by
  cases c with
  | lst ds => obtain ⟨vs, h1, h2⟩ := h; exact ⟨vs, e vs h1, h2.mono p k⟩
  | fro ds => obtain ⟨vs, h1, h2⟩ := h; exact ⟨vs, h1.keep k, h2.mono p k⟩
/-- a new thing that is not kept in the store -/
theorem SR.fresh {st : Sto} {q : Addr} {o : HO} (h : SR K α st H) (e : H q = none) : SR K α st (upd H q o) :=
  ⟨h.len, fun i c hc => let ⟨a, h1, h2⟩ := h.cell i c hc; ⟨a, h1, h2.mono (List.prefix_refl _) (Keep.fresh e) fun vs z => by rw [upd_ne (ne_of_none z e)]; exact z⟩, h.inj⟩
theorem SR.noCell {st : Sto} {q : Addr} (h : SR K α st H) (e : H q = none) {i : Nat} {xs : List D} (hc : st[i]? = some (.lst xs)) : α[i]? ≠ some q := fun z => by
  obtain ⟨a, h1, h2⟩ := h.cell i _ hc
  rw [z] at h1
  cases h1
  obtain ⟨vs, h3, _⟩ := h2
  rw [e] at h3
  cases h3
/-- a new list -/
theorem SR.push {st : Sto} {q : Addr} {ds : List D} {vs : List V} (h : SR K α st H) (e : H q = none) (r : RDs K α H ds vs) : SR K (α ++ [q]) (st ++ [.lst ds]) (upd H q (.lst vs)) := by
  have hp : α <+: α ++ [q] := List.prefix_append _ _
  have hl := h.len
  refine ⟨by simp [hl], fun i c hc => ?_, fun i j xs ys a h1 h2 h3 h4 => ?_⟩
  · by_cases hi : i < st.length
    · rw [List.getElem?_append_left hi] at hc
      obtain ⟨a, h1, h2⟩ := h.cell i c hc
      exact ⟨a, get_pre hp h1, h2.mono hp (Keep.fresh e) fun vs z => by rw [upd_ne (ne_of_none z e)]; exact z⟩
    · have hlen : i < (st ++ [Cl.lst ds]).length := (List.getElem?_eq_some_iff.mp hc).1
      have ei : i = st.length := by simp at hlen; omega
      subst ei
      rw [List.getElem?_concat_length] at hc
      cases hc
      refine ⟨q, by rw [← hl, List.getElem?_concat_length], vs, upd_same, r.mono hp (Keep.fresh e)⟩
  · have key : ∀ (i : Nat) (xs : List D) (a : Addr), (st ++ [Cl.lst ds])[i]? = some (.lst xs) → (α ++ [q])[i]? = some a → (i < st.length ∧ st[i]? = some (.lst xs) ∧ α[i]? = some a) ∨ (i = st.length ∧ a = q) := by
      intro i xs a g1 g2
      by_cases hi : i < st.length
      · rw [List.getElem?_append_left hi] at g1
        rw [List.getElem?_append_left (by omega)] at g2
        exact .inl ⟨hi, g1, g2⟩
      · have hlen : i < (st ++ [Cl.lst ds]).length := (List.getElem?_eq_some_iff.mp g1).1
        have ei : i = st.length := by simp at hlen; omega
        subst ei
        rw [← hl, List.getElem?_concat_length] at g2
        cases g2
        exact .inr ⟨rfl, rfl⟩
    rcases key i xs a h1 h3 with ⟨_, g1, g2⟩ | ⟨g1, g2⟩ <;> rcases key j ys a h2 h4 with ⟨_, g3, g4⟩ | ⟨g3, g4⟩
    · exact h.inj i j xs ys a g1 g3 g2 g4
    · subst g4; exact absurd g2 (h.noCell e g1)
    · subst g2; exact absurd g4 (h.noCell e g3)
    · omega
/-- a list is changed -/
theorem SR.put {st : Sto} {r : Nat} {q : Addr} {ds xs : List D} {vs : List V} (h : SR K α st H) (e : st[r]? = some (.lst xs)) (ea : α[r]? = some q) (rr : RDs K α H ds vs) : SR K α (st.set r (.lst ds)) (upd H q (.lst vs)) := by
  obtain ⟨a, h1, vs0, h2, _⟩ := h.cell r _ e
  rw [ea] at h1
  cases h1
  have k : Keep H (upd H q (.lst vs)) := Keep.lst h2
  have hr : r < st.length := (List.getElem?_eq_some_iff.mp e).1
  have back : ∀ (i : Nat) (ys : List D), (st.set r (.lst ds))[i]? = some (.lst ys) → ∃ zs, st[i]? = some (.lst zs) := fun i ys g => by
    by_cases hi : r = i
    · subst hi; exact ⟨xs, e⟩
    · rw [List.getElem?_set_ne hi] at g; exact ⟨ys, g⟩
  refine ⟨by simp [h.len], fun i c hc => ?_, fun i j ys zs a g1 g2 g3 g4 => ?_⟩
  · by_cases hi : r = i
    · subst hi
      rw [List.getElem?_set_self hr] at hc
      cases hc
      exact ⟨q, ea, vs, upd_same, rr.mono (List.prefix_refl _) k⟩
    · rw [List.getElem?_set_ne hi] at hc
      obtain ⟨a, g1, g2⟩ := h.cell i c hc
      refine ⟨a, g1, ?_⟩
      cases c with
      | lst ys =>
        refine g2.mono (List.prefix_refl _) k fun ws z => ?_
        rw [upd_ne]
        · exact z
        · intro q'
          subst q'
          exact hi (h.inj r i xs ys _ e hc ea g1)
      | fro ys =>
        obtain ⟨ws, g3, g4⟩ := g2
        exact ⟨ws, g3.keep k, g4.mono (List.prefix_refl _) k⟩
  · obtain ⟨y2, k1⟩ := back i ys g1
    obtain ⟨z2, k2⟩ := back j zs g2
    exact h.inj i j y2 z2 a k1 k2 g3 g4
end
end DL
set_option Elab.async false
set_option linter.all false
set_option maxRecDepth 100000
namespace DL
open PySem PySem.Spec PyProof.Rows L2

/-! ### readings -/
def Go {β : Type} (K : PySem.W.Frag) (W : WX) (α : List Addr) (H : Hp) (σ : L2.St) (r : R β) (F : β → Sto → List Addr → Hp → Prop) : Prop :=
  match r with
  | .ok b st => ∀ α' H', α <+: α' → Keep H H' → SR K α' st H' → F b st α' H'
  | .ex x st => ∀ α' H' c dx, α <+: α' → Keep H H' → SR K α' st H' → RX K α' H' x c dx → W c dx σ H'
  | .no => False
def tE (K : PySem.W.Frag) (W : WX) (m : En → Sto → R D) : TE := fun σ H Q => ∃ α env st, ER K α env σ H ∧ SR K α st H ∧ Go K W α H σ (m env st) fun d _ α' H' => ∀ v, RD K α' H' d v → Q v H'
def tT (K : PySem.W.Frag) (W : WX) (m : En → Sto → R Bool) : TT := fun σ H Q => ∃ α env st, ER K α env σ H ∧ SR K α st H ∧ Go K W α H σ (m env st) fun b _ _ H' => Q b H'
def tA (K : PySem.W.Frag) (W : WX) (m : En → Sto → R (List D)) : TA := fun σ H Q => ∃ α env st, ER K α env σ H ∧ SR K α st H ∧ Go K W α H σ (m env st) fun ds _ α' H' => ∀ vs, RDs K α' H' ds vs → Q vs H'
abbrev DE (X : Cx) (W : WX) (e : Expr) (m : En → Sto → R D) : Prop := PE X e (tE X.K W m)
abbrev DT (X : Cx) (W : WX) (e : Expr) (m : En → Sto → R Bool) : Prop := PT X e (tT X.K W m)
abbrev DA (X : Cx) (W : WX) (es : List Expr) (m : En → Sto → R (List D)) : Prop := PA X es (tA X.K W m)

section
variable {K : PySem.W.Frag} {W : WX} {α : List Addr} {H : Hp} {σ : L2.St}
theorem Go.mono {β : Type} {r : R β} {F F' : β → Sto → List Addr → Hp → Prop} (h : Go K W α H σ r F) (f : ∀ b st α' H', α <+: α' → Keep H H' → SR K α' st H' → F b st α' H' → F' b st α' H') : Go K W α H σ r F' := by
  cases r with
  | ok b st => exact fun α' H' p k s => f b st α' H' p k s (h α' H' p k s)
  | ex x st => exact h
  | no => exact h
theorem Go.bind {β γ : Type} {r : R β} {k : β → Sto → R γ} {F : γ → Sto → List Addr → Hp → Prop} (h : Go K W α H σ (r.bind k) F) : Go K W α H σ r fun b st α' H' => Go K W α' H' σ (k b st) F := by
  cases r with
  | ok b st =>
    intro α' H' p q s
    have h' : Go K W α H σ (k b st) F := h
    revert h'
    show Go K W α H σ (k b st) F → Go K W α' H' σ (k b st) F
    cases k b st with
    | ok c st2 => exact fun h' α2 H2 p2 q2 s2 => h' α2 H2 (p.trans p2) (q.trans q2) s2
    | ex x st2 => exact fun h' α2 H2 c dx p2 q2 s2 => h' α2 H2 c dx (p.trans p2) (q.trans q2) s2
    | no => exact fun h' => h'
  | ex x st => exact h
  | no => exact h
/-- at the same place: a pure end -/
theorem Go.here {β : Type} {b : β} {st : Sto} {F : β → Sto → List Addr → Hp → Prop} (h : Go K W α H σ (.ok b st) F) (s : SR K α st H) : F b st α H := h α H (List.prefix_refl _) (Keep.refl _) s
theorem Go.at {β : Type} {b : β} {st : Sto} {F : β → Sto → List Addr → Hp → Prop} {α' : List Addr} {H' : Hp} (h : Go K W α H σ (.ok b st) F) (p : α <+: α') (k : Keep H H') (s : SR K α' st H') : F b st α' H' := h α' H' p k s
end
theorem PE.weak {X : Cx} {e : Expr} {t t' : TE} (h : PE X e t) (f : ∀ σ H Q, t' σ H Q → t σ H Q) : PE X e t' := ⟨fun pins s σ H Q I hw => h.run pins s σ H Q I (f σ H Q hw)⟩
theorem PT.weak {X : Cx} {e : Expr} {t t' : TT} (h : PT X e t) (f : ∀ σ H Q, t' σ H Q → t σ H Q) : PT X e t' := ⟨fun pins s σ H Q I hw => h.run pins s σ H Q I (f σ H Q hw)⟩
theorem PW.weak {X : Cx} {e : Expr} {t t' : TT} (h : PW X e t) (f : ∀ σ H Q, t' σ H Q → t σ H Q) : PW X e t' := ⟨fun wh pins s σ H Q I hw => h.run wh pins s σ H Q I (f σ H Q hw)⟩
theorem PA.weak {X : Cx} {e : List Expr} {t t' : TA} (h : PA X e t) (f : ∀ σ H Q, t' σ H Q → t σ H Q) : PA X e t' := ⟨fun pos pins s σ H Q I hw => h.run pos pins s σ H Q I (f σ H Q hw)⟩
theorem PS.weak {X : Cx} {e : Stmt} {t t' : TS} (h : PS X e t) (f : ∀ Dn σ H, t' Dn σ H → t Dn σ H) : PS X e t' := ⟨fun pins s σ H Dn I hw => h.run pins s σ H Dn I (f Dn σ H hw)⟩
theorem PSs.weak {X : Cx} {e : List Stmt} {t t' : TS} (h : PSs X e t) (f : ∀ Dn σ H, t' Dn σ H → t Dn σ H) : PSs X e t' := ⟨fun pins s σ H Dn I hw => h.run pins s σ H Dn I (f Dn σ H hw)⟩

/-! ### names and constants -/
def mVar (i : Nat) (env : En) (st : Sto) : R D := match env[i]? with
  | some (some d) => .ok d st
  | _ => .no
def mC (d : D) (env : En) (st : Sto) : R D := .ok d st
section
variable {X : Cx} {W : WX}
theorem de_var (i : Nat) {x : Str} {pos : Pos} (hN : X.N[i]? = some x := by rfl) (hv : Vis X.env.scope x := by first | exact Or.inl rfl | exact Or.inr (Or.inl rfl) | exact Or.inr (Or.inr rfl)) (hd : (x == ("__debug__" : Str)) = false := by decide)
    (hcd : (x == ("__classdict__" : Str)) = false := by decide) : DE X W (.Name x pos) (mVar i) := by
  refine PE.weak (pe_var hN hv hd hcd) fun σ H Q h => ?_
  obtain ⟨α, env, st, hE, hS, h⟩ := h
  unfold mVar at h
  split at h
  · rename_i d e
    obtain ⟨v, e1, e2⟩ := hE.2 i d e
    exact ⟨v, e1, h.here hS v e2⟩
  · exact h.elim
theorem de_c {e : Expr} {v : V} {d : D} (h : PE X e (tC v)) (hr : ∀ α H, RD X.K α H d v) : DE X W e (mC d) := by
  refine PE.weak h fun σ H Q h => ?_
  obtain ⟨α, env, st, hE, hS, h⟩ := h
  exact h.here hS v (hr α H)
theorem de_int {i : Int} {j : Nat} {pos : Pos} : DE X W (.Constant (.int i) j pos) (mC (.int i)) := de_c pe_int fun _ _ => .int i
theorem de_bl {i : Bool} {j : Nat} {pos : Pos} : DE X W (.Constant (.bool i) j pos) (mC (.bl i)) := de_c pe_bl fun _ _ => .bl i
theorem de_str {i : Str} {j : Nat} {pos : Pos} : DE X W (.Constant (.str i) j pos) (mC (.str i)) := de_c pe_str fun _ _ => .str i
theorem de_non {j : Nat} {pos : Pos} : DE X W (.Constant .none j pos) (mC .non) := de_c pe_non fun _ _ => .non
/-- a module's constant -/
theorem de_glob {x : Str} {v : V} {d : D} {u : Value} {pos : Pos} (hg : Gl X x) (hm : X.mg x = some u) (r : RelV v u) (hr : ∀ α H, RD X.K α H d v) (hd : (x == ("__debug__" : Str)) = false := by decide) : DE X W (.Name x pos) (mC d) := de_c (pe_glob hg hm r hd) hr
/-- a built-in type, as a value -/
theorem de_ty {x : Str} {n : String} {pos : Pos} (hg : Gl X x) (hm : X.mg x = none) (hv : bootBuiltins x = some (.type n)) (hn : x ≠ "__name__" := by decide) (hd : (x == ("__debug__" : Str)) = false := by decide) : DE X W (.Name x pos) (mC (.ty n)) :=
  de_c (pe_bltn (v := .ty n) hg hm hv rfl hn hd) fun _ _ => .ty n

/-! ### operators -/
/-- an operation on data -/
abbrev O2 := D → D → Sto → R D
abbrev O1 := D → Sto → R D
def Rw {β : Type} (r : R β) (F : β → Sto → Prop) : Prop := match r with
  | .ok b st => F b st
  | _ => False
/-- what an operation is asked for -/
def rD2 (K : PySem.W.Frag) (f : O2) : R2 := fun x y H Q => ∃ α st a b, SR K α st H ∧ RD K α H a x ∧ RD K α H b y ∧ Rw (f a b st) fun d st' => ∀ α' H' v, α <+: α' → Keep H H' → SR K α' st' H' → RD K α' H' d v → Q v H'
def rD1 (K : PySem.W.Frag) (f : O1) : V → Hp → VK → Prop := fun x H Q => ∃ α st a, SR K α st H ∧ RD K α H a x ∧ Rw (f a st) fun d st' => ∀ α' H' v, α <+: α' → Keep H H' → SR K α' st' H' → RD K α' H' d v → Q v H'
/-- no exception: an operation's result -/
def noEx {β : Type} (r : R β) : R β := match r with
  | .ok b s => .ok b s
  | _ => .no
def m2 (f : O2) (ma mb : En → Sto → R D) (env : En) (st : Sto) : R D := (ma env st).bind fun x st1 => (mb env st1).bind fun y st2 => noEx (f x y st2)
def m1 (f : O1) (ma : En → Sto → R D) (env : En) (st : Sto) : R D := (ma env st).bind fun x st1 => noEx (f x st1)
theorem Go.rw {K : PySem.W.Frag} {α : List Addr} {H : Hp} {σ : L2.St} {β : Type} {r : R β} {F : β → Sto → List Addr → Hp → Prop} (h : Go K W α H σ (noEx r) F) : Rw r fun b st => ∀ α' H', α <+: α' → Keep H H' → SR K α' st H' → F b st α' H' := by
  cases r with
  | ok b st => exact h
  | ex x st => exact h.elim
  | no => exact h.elim
theorem Rw.mono {β : Type} {r : R β} {F F' : β → Sto → Prop} (h : Rw r F) (f : ∀ b st, F b st → F' b st) : Rw r F' := by
  cases r with
  | ok b st => exact f b st h
  | ex x st => exact h.elim
  | no => exact h.elim
/-- two pieces, then a value rule -/
theorem two_of {K : PySem.W.Frag} {f : O2} {ma mb : En → Sto → R D} {σ : L2.St} {H : Hp} {Q : VK} (h : tE K W (m2 f ma mb) σ H Q) : tOp (rD2 K f) (tE K W ma) (tE K W mb) σ H Q := by
  obtain ⟨α, env, st, hE, hS, h⟩ := h
  refine ⟨α, env, st, hE, hS, h.bind.mono fun x st1 α1 H1 p1 k1 s1 h1 v rv => ?_⟩
  refine ⟨α1, env, st1, hE.mono p1 k1, s1, h1.bind.mono fun y st2 α2 H2 p2 k2 s2 h2 u ru => ?_⟩
  exact ⟨α2, st2, x, y, s2, rv.mono p2 k2, ru, h2.rw.mono fun d st3 q α' H' w p k s rw => q α' H' p k s w rw⟩
theorem one_of {K : PySem.W.Frag} {f : O1} {ma : En → Sto → R D} {σ : L2.St} {H : Hp} {Q : VK} (h : tE K W (m1 f ma) σ H Q) : tUn (rD1 K f) (tE K W ma) σ H Q := by
  obtain ⟨α, env, st, hE, hS, h⟩ := h
  refine ⟨α, env, st, hE, hS, h.bind.mono fun x st1 α1 H1 p1 k1 s1 h1 v rv => ?_⟩
  exact ⟨α1, st1, x, s1, rv, h1.rw.mono fun d st3 q α' H' w p k s rw => q α' H' p k s w rw⟩
abbrev OD2 (X : Cx) (f : Value → Value → Sem Value) (g : O2) : Prop := OpR X f (rD2 X.K g)
abbrev OD1 (X : Cx) (f : Value → Sem Value) (g : O1) : Prop := UnR X f (rD1 X.K g)
theorem de_bin {op : Operator} {f : O2} {a b : Expr} {ma mb : En → Sto → R D} {pos : Pos} (ho : OD2 X (binaryOp op) f) (ha : DE X W a ma) (hb : DE X W b mb) : DE X W (.BinOp a op b pos) (m2 f ma mb) := PE.weak (pe_op ho ha hb) fun _ _ _ => two_of
theorem de_un {op : UnaryOp} {f : O1} {a : Expr} {ma : En → Sto → R D} {pos : Pos} (ho : OD1 X (unaryOp op) f) (ha : DE X W a ma) : DE X W (.UnaryOp op a pos) (m1 f ma) := PE.weak (pe_un ho ha) fun _ _ _ => one_of
theorem de_cmp {op : CmpOp} {f : O2} {a b : Expr} {ma mb : En → Sto → R D} {pos : Pos} (ho : OD2 X (compareOp op) f) (ha : DE X W a ma) (hb : DE X W b mb) (hm : behindInMarks op b = false) : DE X W (.Compare a [op] [b] pos) (m2 f ma mb) := PE.weak (pe_cmpR ho ha hb hm) fun _ _ _ => two_of
/-- a op b op' c -/
def mChain (f g : O2) (ma mb mc : En → Sto → R D) (env : En) (st : Sto) : R D := (ma env st).bind fun x st1 => (mb env st1).bind fun y st2 => (noEx (f x y st2)).bind fun z st3 => match z with
  | .bl true => (mc env st3).bind fun w st4 => noEx (g y w st4)
  | .bl false => .ok (.bl false) st3
  | _ => .no
theorem RD.bl_of {K : PySem.W.Frag} {α : List Addr} {H : Hp} {b : Bool} {v : V} (h : RD K α H (.bl b) v) : v = .bl b := by cases h; rfl
theorem RD.int_of {K : PySem.W.Frag} {α : List Addr} {H : Hp} {b : Int} {v : V} (h : RD K α H (.int b) v) : v = .int b := by cases h; rfl
theorem RD.str_of {K : PySem.W.Frag} {α : List Addr} {H : Hp} {b : Str} {v : V} (h : RD K α H (.str b) v) : v = .str b := by cases h; rfl
theorem RD.non_of {K : PySem.W.Frag} {α : List Addr} {H : Hp} {v : V} (h : RD K α H .non v) : v = .non := by cases h; rfl
theorem RD.ty_of {K : PySem.W.Frag} {α : List Addr} {H : Hp} {n : String} {v : V} (h : RD K α H (.ty n) v) : v = .ty n := by cases h; rfl
theorem de_chain {op op' : CmpOp} {f g : O2} {a b c : Expr} {ma mb mc : En → Sto → R D} {pos : Pos} (ho : OD2 X (compareOp op) f) (ho' : OD2 X (compareOp op') g) (ha : DE X W a ma) (hb : DE X W b mb) (hc : DE X W c mc)
    (hm : lastMarks [op, op'] [b, c] = false := by with_unfolding_all rfl) : DE X W (.Compare a [op, op'] [b, c] pos) (mChain f g ma mb mc) := by
  refine PE.weak (pe_chain ho ho' ha hb hc hm) fun σ H Q h => ?_
  obtain ⟨α, env, st, hE, hS, h⟩ := h
  refine ⟨α, env, st, hE, hS, h.bind.mono fun x st1 α1 H1 p1 k1 s1 h1 v rv => ?_⟩
  refine ⟨α1, env, st1, hE.mono p1 k1, s1, h1.bind.mono fun y st2 α2 H2 p2 k2 s2 h2 u ru => ?_⟩
  refine ⟨α2, st2, x, y, s2, rv.mono p2 k2, ru, h2.bind.rw.mono fun d st3 q α3 H3 w p3 k3 s3 rw => ?_⟩
  have q3 := q α3 H3 p3 k3 s3
  split at q3
  · refine ⟨true, rw.bl_of, ?_⟩
    rw [if_pos rfl]
    refine ⟨α3, env, st3, ((hE.mono p1 k1).mono p2 k2).mono p3 k3, s3, q3.bind.mono fun w' st4 α4 H4 p4 k4 s4 h4 v' rv' => ?_⟩
    exact ⟨α4, st4, y, w', s4, (ru.mono p3 k3).mono p4 k4, rv', h4.rw.mono fun d st5 q α' H' w p k s rw => q α' H' p k s w rw⟩
  · refine ⟨false, rw.bl_of, ?_⟩
    rw [if_neg Bool.false_ne_true]
    exact q3.here s3 _ (.bl false)
  · exact q3.elim

/-! ### and, or, not, if -/
def mAnd (ma mb : En → Sto → R D) (env : En) (st : Sto) : R D := (ma env st).bind fun x st1 => match x with
  | .bl true => mb env st1
  | .bl false => .ok (.bl false) st1
  | _ => .no
def mOr (ma mb : En → Sto → R D) (env : En) (st : Sto) : R D := (ma env st).bind fun x st1 => match x with
  | .bl false => mb env st1
  | .bl true => .ok (.bl true) st1
  | _ => .no
def mNot (ma : En → Sto → R D) (env : En) (st : Sto) : R D := (ma env st).bind fun x st1 => match x with
  | .bl b => .ok (.bl (!b)) st1
  | _ => .no
variable {a b : Expr} {rest : List Expr} {ma mb : En → Sto → R D} {pos : Pos}
theorem de_one {op : BoolOp} (ha : DE X W a ma) : DE X W (.BoolOp op [a] pos) ma := pe_one ha
theorem de_and (ha : DE X W a ma) (hb : DE X W (.BoolOp .And (b :: rest) pos) mb) : DE X W (.BoolOp .And (a :: b :: rest) pos) (mAnd ma mb) := by
  refine PE.weak (pe_and ha hb) fun σ H Q h => ?_
  obtain ⟨α, env, st, hE, hS, h⟩ := h
  refine ⟨α, env, st, hE, hS, h.bind.mono fun x st1 α1 H1 p1 k1 s1 h1 v rv => ?_⟩
  split at h1
  · refine ⟨true, rv.bl_of, ?_⟩
    rw [if_pos rfl]
    exact ⟨α1, env, st1, hE.mono p1 k1, s1, h1⟩
  · refine ⟨false, rv.bl_of, ?_⟩
    rw [if_neg Bool.false_ne_true]
    exact h1.here s1 _ (.bl false)
  · exact h1.elim
theorem de_or (ha : DE X W a ma) (hb : DE X W (.BoolOp .Or (b :: rest) pos) mb) : DE X W (.BoolOp .Or (a :: b :: rest) pos) (mOr ma mb) := by
  refine PE.weak (pe_or ha hb) fun σ H Q h => ?_
  obtain ⟨α, env, st, hE, hS, h⟩ := h
  refine ⟨α, env, st, hE, hS, h.bind.mono fun x st1 α1 H1 p1 k1 s1 h1 v rv => ?_⟩
  split at h1
  · refine ⟨false, rv.bl_of, ?_⟩
    rw [if_neg Bool.false_ne_true]
    exact ⟨α1, env, st1, hE.mono p1 k1, s1, h1⟩
  · refine ⟨true, rv.bl_of, ?_⟩
    rw [if_pos rfl]
    exact h1.here s1 _ (.bl true)
  · exact h1.elim
theorem de_not (ha : DE X W a ma) : DE X W (.UnaryOp .Not a pos) (mNot ma) := by
  refine PE.weak (pe_not ha) fun σ H Q h => ?_
  obtain ⟨α, env, st, hE, hS, h⟩ := h
  refine ⟨α, env, st, hE, hS, h.bind.mono fun x st1 α1 H1 p1 k1 s1 h1 v rv => ?_⟩
  split at h1
  · exact ⟨_, rv.bl_of, h1.here s1 _ (.bl _)⟩
  · exact h1.elim

/-! ### tests -/
/-- a value that is a bool, as a test -/
def mB (ma : En → Sto → R D) (env : En) (st : Sto) : R Bool := (ma env st).bind fun x st1 => match x with
  | .bl b => .ok b st1
  | _ => .no
theorem b_of {K : PySem.W.Frag} {σ : L2.St} {H : Hp} {Q : Bool → Hp → Prop} (h : tT K W (mB ma) σ H Q) : tE K W ma σ H fun x H1 => ∃ k, x = .bl k ∧ Q k H1 := by
  obtain ⟨α, env, st, hE, hS, h⟩ := h
  refine ⟨α, env, st, hE, hS, h.bind.mono fun x st1 α1 H1 p1 k1 s1 h1 v rv => ?_⟩
  split at h1
  · exact ⟨_, rv.bl_of, h1.here s1⟩
  · exact h1.elim
theorem dt_val (ha : DE X W a ma) (he : ∀ whole, isTrue a X.env whole = (do let v ← whole; standAt a.pos; holding [v] (truthy v)) := by intro _; rfl) : DT X W a (mB ma) := PT.weak (pt_val ha he) fun _ _ _ => b_of
theorem dt_cmp {op : CmpOp} {f : O2} (ho : OD2 X (compareOp op) f) (ha : DE X W a ma) (hb : DE X W b mb) (hm : behindInMarks op b = false) : DT X W (.Compare a [op] [b] pos) (mB (m2 f ma mb)) := by
  refine PT.weak (pt_cmpR ho ha hb hm) fun σ H Q h => ?_
  obtain ⟨α, env, st, hE, hS, h⟩ := h
  refine two_of (W := W) ⟨α, env, st, hE, hS, h.bind.mono fun x st1 α1 H1 p1 k1 s1 h1 v rv => ?_⟩
  split at h1
  · exact ⟨_, rv.bl_of, h1.here s1⟩
  · exact h1.elim
theorem dt_chain {op op' : CmpOp} {f g : O2} {c : Expr} {mc : En → Sto → R D} (ho : OD2 X (compareOp op) f) (ho' : OD2 X (compareOp op') g) (ha : DE X W a ma) (hb : DE X W b mb) (hc : DE X W c mc)
    (hm : lastMarks [op, op'] [b, c] = false := by with_unfolding_all rfl) : DT X W (.Compare a [op, op'] [b, c] pos) (mB (mChain f g ma mb mc)) := by
  refine PT.weak (pt_chain ho ho' ha hb hc hm) fun σ H Q h => ?_
  obtain ⟨α, env, st, hE, hS, h⟩ := b_of h
  refine ⟨α, env, st, hE, hS, h.bind.mono fun x st1 α1 H1 p1 k1 s1 h1 v rv => ?_⟩
  refine ⟨α1, env, st1, hE.mono p1 k1, s1, h1.bind.mono fun y st2 α2 H2 p2 k2 s2 h2 u ru => ?_⟩
  refine ⟨α2, st2, x, y, s2, rv.mono p2 k2, ru, h2.bind.rw.mono fun d st3 q α3 H3 w p3 k3 s3 rw => ?_⟩
  have q3 := q α3 H3 p3 k3 s3
  split at q3
  · refine ⟨true, rw.bl_of, ?_⟩
    rw [if_pos rfl]
    refine ⟨α3, env, st3, ((hE.mono p1 k1).mono p2 k2).mono p3 k3, s3, q3.bind.mono fun w' st4 α4 H4 p4 k4 s4 h4 v' rv' => ?_⟩
    exact ⟨α4, st4, y, w', s4, (ru.mono p3 k3).mono p4 k4, rv', h4.rw.mono fun d st5 q α' H' w p k s rw => q α' H' p k s w rw⟩
  · refine ⟨false, rw.bl_of, ?_⟩
    rw [if_neg Bool.false_ne_true]
    exact q3.here s3 _ (.bl false)
  · exact q3.elim
abbrev DW (X : Cx) (W : WX) (e : Expr) (m : En → Sto → R Bool) : Prop := PW X e (tT X.K W m)
def tmAnd (ma mb : En → Sto → R Bool) (env : En) (st : Sto) : R Bool := (ma env st).bind fun x st1 => if x = true then mb env st1 else .ok false st1
def tmOr (ma mb : En → Sto → R Bool) (env : En) (st : Sto) : R Bool := (ma env st).bind fun x st1 => if x = true then .ok true st1 else mb env st1
def tmNot (ma : En → Sto → R Bool) (env : En) (st : Sto) : R Bool := (ma env st).bind fun x st1 => .ok (!x) st1
variable {ta tb : En → Sto → R Bool}
theorem dw_and1 (ha : DT X W a ta) : DW X W (.BoolOp .And [a] pos) ta := pw_and1 ha
theorem dw_or1 (ha : DT X W a ta) : DW X W (.BoolOp .Or [a] pos) ta := pw_or1 ha
theorem dw_and (ha : DT X W a ta) (hb : DW X W (.BoolOp .And (b :: rest) pos) tb) : DW X W (.BoolOp .And (a :: b :: rest) pos) (tmAnd ta tb) := by
  refine PW.weak (pw_and ha hb) fun σ H Q h => ?_
  obtain ⟨α, env, st, hE, hS, h⟩ := h
  refine ⟨α, env, st, hE, hS, h.bind.mono fun x st1 α1 H1 p1 k1 s1 h1 => ?_⟩
  cases x with
  | true => rw [if_pos rfl] at h1 ⊢; exact ⟨α1, env, st1, hE.mono p1 k1, s1, h1⟩
  | false => rw [if_neg Bool.false_ne_true] at h1 ⊢; exact h1.here s1
theorem dw_or (ha : DT X W a ta) (hb : DW X W (.BoolOp .Or (b :: rest) pos) tb) : DW X W (.BoolOp .Or (a :: b :: rest) pos) (tmOr ta tb) := by
  refine PW.weak (pw_or ha hb) fun σ H Q h => ?_
  obtain ⟨α, env, st, hE, hS, h⟩ := h
  refine ⟨α, env, st, hE, hS, h.bind.mono fun x st1 α1 H1 p1 k1 s1 h1 => ?_⟩
  cases x with
  | true => rw [if_pos rfl] at h1 ⊢; exact h1.here s1
  | false => rw [if_neg Bool.false_ne_true] at h1 ⊢; exact ⟨α1, env, st1, hE.mono p1 k1, s1, h1⟩
theorem dt_w {e : Expr} {m : En → Sto → R Bool} (h : DW X W e m) : DT X W e m := h.pt
theorem dt_not (ha : DT X W a ta) : DT X W (.UnaryOp .Not a pos) (tmNot ta) := by
  refine PT.weak (pt_not ha) fun σ H Q h => ?_
  obtain ⟨α, env, st, hE, hS, h⟩ := h
  exact ⟨α, env, st, hE, hS, h.bind.mono fun x st1 α1 H1 p1 k1 s1 h1 => h1.here s1⟩
def mIf (mc : En → Sto → R Bool) (ma mb : En → Sto → R D) (env : En) (st : Sto) : R D := (mc env st).bind fun x st1 => if x = true then ma env st1 else mb env st1
theorem de_if {c : Expr} {mc : En → Sto → R Bool} (hc : DT X W c mc) (ha : DE X W a ma) (hb : DE X W b mb) : DE X W (.IfExp c a b pos) (mIf mc ma mb) := by
  refine PE.weak (pe_ifExp hc ha hb) fun σ H Q h => ?_
  obtain ⟨α, env, st, hE, hS, h⟩ := h
  refine ⟨α, env, st, hE, hS, h.bind.mono fun x st1 α1 H1 p1 k1 s1 h1 => ?_⟩
  cases x with
  | true => rw [if_pos rfl] at h1 ⊢; exact ⟨α1, env, st1, hE.mono p1 k1, s1, h1⟩
  | false => rw [if_neg Bool.false_ne_true] at h1 ⊢; exact ⟨α1, env, st1, hE.mono p1 k1, s1, h1⟩

/-! ### arguments, displays, calls -/
def aNil (env : En) (st : Sto) : R (List D) := .ok [] st
def aCons (ma : En → Sto → R D) (mr : En → Sto → R (List D)) (env : En) (st : Sto) : R (List D) := (ma env st).bind fun x st1 => (mr env st1).bind fun xs st2 => .ok (x :: xs) st2
variable {e : Expr} {es : List Expr} {me : En → Sto → R D} {mr : En → Sto → R (List D)}
theorem da_nil : DA X W [] aNil := by
  refine PA.weak pa_nil fun σ H Q h => ?_
  obtain ⟨α, env, st, hE, hS, h⟩ := h
  exact h.here hS _ .nil
theorem da_cons (ha : DE X W e me) (hr : DA X W es mr) (hs : starEach (e :: es) X.env = (false, eval e X.env) :: starEach es X.env := by rfl) : DA X W (e :: es) (aCons me mr) := by
  refine PA.weak (pa_cons ha hr hs) fun σ H Q h => ?_
  obtain ⟨α, env, st, hE, hS, h⟩ := h
  refine ⟨α, env, st, hE, hS, h.bind.mono fun x st1 α1 H1 p1 k1 s1 h1 v rv => ?_⟩
  refine ⟨α1, env, st1, hE.mono p1 k1, s1, h1.bind.mono fun xs st2 α2 H2 p2 k2 s2 h2 vs rvs => ?_⟩
  exact h2.here s2 _ (.cons (rv.mono p2 k2) rvs)
def mTup (mr : En → Sto → R (List D)) (env : En) (st : Sto) : R D := (mr env st).bind fun xs st1 => if xs.length ≤ sizeLine then .ok (.tup xs) st1 else .no
def mLst (mr : En → Sto → R (List D)) (env : En) (st : Sto) : R D := (mr env st).bind fun xs st1 => if xs.length ≤ sizeLine then .ok (.ref st1.length) (st1 ++ [.lst xs]) else .no
theorem de_tup {x1 : Nat} (hr : DA X W es mr) : DE X W (.Tuple es x1 pos) (mTup mr) := by
  refine PE.weak (pe_tup hr) fun σ H Q h => ?_
  obtain ⟨α, env, st, hE, hS, h⟩ := h
  refine ⟨α, env, st, hE, hS, h.bind.mono fun xs st1 α1 H1 p1 k1 s1 h1 vs rvs => ?_⟩
  split at h1
  · rename_i hz
    refine ⟨by rw [← rvs.len]; exact hz, fun p hp => ?_⟩
    exact h1.at (List.prefix_refl _) (Keep.fresh hp) (s1.fresh hp) _ (.tup (SqT.of upd_same) (rvs.mono (List.prefix_refl _) (Keep.fresh hp)))
  · exact h1.elim
theorem lst_end {K : PySem.W.Frag} {α1 : List Addr} {H1 : Hp} {σ : L2.St} {xs : List D} {vs : List V} {st1 : Sto} {Q : VK} {p : Addr} (s1 : SR K α1 st1 H1) (rvs : RDs K α1 H1 xs vs) (hp : H1 p = none)
    (h1 : Go K W α1 H1 σ (.ok (D.ref st1.length) (st1 ++ [.lst xs])) fun d _ α' H' => ∀ v, RD K α' H' d v → Q v H') : Q (.ref p) (upd H1 p (.lst vs)) := by
  refine h1.at (List.prefix_append _ [p]) (Keep.fresh hp) (s1.push hp rvs) _ (.ref ?_)
  rw [← s1.len, List.getElem?_concat_length]
theorem de_lst (hr : DA X W es mr) : DE X W (.List es pos) (mLst mr) := by
  refine PE.weak (pe_lst hr) fun σ H Q h => ?_
  obtain ⟨α, env, st, hE, hS, h⟩ := h
  refine ⟨α, env, st, hE, hS, h.bind.mono fun xs st1 α1 H1 p1 k1 s1 h1 vs rvs => ?_⟩
  split at h1
  · rename_i hz
    exact ⟨by rw [← rvs.len]; exact hz, fun p hp => lst_end s1 rvs hp h1⟩
  · exact h1.elim
/-- a built-in by values -/
def rDs (K : PySem.W.Frag) (f : List D → Sto → R D) : List V → Hp → VK → Prop := fun vs H Q => ∃ α st ds, SR K α st H ∧ RDs K α H ds vs ∧ Rw (f ds st) fun d st' => ∀ α' H' v, α <+: α' → Keep H H' → SR K α' st' H' → RD K α' H' d v → Q v H'
abbrev CDs (X : Cx) (f : Value) (g : List D → Sto → R D) : Prop := CallR X f (rDs X.K g)
def mFn (f : List D → Sto → R D) (mr : En → Sto → R (List D)) (env : En) (st : Sto) : R D := (mr env st).bind fun xs st1 => noEx (f xs st1)
theorem fn_of' {K : PySem.W.Frag} {f : List D → Sto → R D} {σ : L2.St} {H : Hp} {Q : VK} (h : tE K W (mFn f mr) σ H Q) : tCB (rDs K f) (tA K W mr) σ H Q := by
  obtain ⟨α, env, st, hE, hS, h⟩ := h
  refine ⟨α, env, st, hE, hS, h.bind.mono fun xs st1 α1 H1 p1 k1 s1 h1 vs rvs => ?_⟩
  exact ⟨α1, st1, xs, s1, rvs, h1.rw.mono fun d st3 q α' H' w p k s rw => q α' H' p k s w rw⟩
theorem de_callB {x : Str} {id : String} {f : List D → Sto → R D} {p : Pos} (hc : CDs X (.builtin id) f) (hg : Gl X x) (hm : X.mg x = none) (hv : bootBuiltins x = some (.builtin id)) (ha : DA X W (e :: es) mr) (hn : x ≠ "__name__" := by decide) (hdb : (x == ("__debug__" : Str)) = false := by decide)
    (he : starEach (e :: es) X.env = (false, eval e X.env) :: starEach es X.env := by rfl) (hpl : (backTo pos (starEach es X.env)).any (·.1) = false := by rfl) : DE X W (.Call (.Name x p) (e :: es) [] pos) (mFn f mr) := PE.weak (pe_callB hc hg hm hv ha hn hdb he hpl) fun _ _ _ => fn_of'
theorem de_callTy {x : Str} {T : String} {f : List D → Sto → R D} {p : Pos} (hc : CDs X (.type T) f) (hg : Gl X x) (hm : X.mg x = none) (hv : bootBuiltins x = some (.type T)) (ha : DA X W (e :: es) mr) (hn : x ≠ "__name__" := by decide) (hdb : (x == ("__debug__" : Str)) = false := by decide)
    (he : starEach (e :: es) X.env = (false, eval e X.env) :: starEach es X.env := by rfl) (hpl : (backTo pos (starEach es X.env)).any (·.1) = false := by rfl) : DE X W (.Call (.Name x p) (e :: es) [] pos) (mFn f mr) := PE.weak (pe_callTy hc hg hm hv ha hn hdb he hpl) fun _ _ _ => fn_of'
end
end DL
set_option Elab.async false
set_option linter.all false
set_option maxRecDepth 100000
namespace DL
open PySem PySem.Spec PyProof.Rows L2
/-! ### a tuple times a number -/
theorem tuple_same (l : Addr) (items : Array Value) (n : Nat) (dd : Option Addr) (sl : Array (Option Value)) (x : Int) (u : Tok) (c0 : (decide (x < -(2 ^ 63)) || decide (x ≥ 2 ^ 63)) = false) (c1 : (items.isEmpty || x == 1) = true) :
    Meets (Builtin.«tuple.__mul__» ⟨[.ref l, .int x u], []⟩) (fun _ R s => s.heap.get? l = some { cls := .type "tuple", dict := dd, data := .seq items n, slots := sl } ∧ R (.ok (.ret (Value.ref l))) s) :=
  .of_wp fun prog w A R s h => by
    obtain ⟨hp, g, d, tk, os⟩ := s
    obtain ⟨hl, h⟩ := h
    have f1 := AutoSeq1.idx_int
    wp_walk using wpAny_loadPart' hl
    refine wpAny_ite_false (decide_eq_false (by rw [c0]; exact Bool.false_ne_true)) ?_
    wp_walk using wpAny_loadPart' hl
    exact ⟨_, rfl, h⟩
theorem tuple_none (l : Addr) (items : Array Value) (n : Nat) (dd : Option Addr) (sl : Array (Option Value)) (x : Int) (u : Tok) (c0 : (decide (x < -(2 ^ 63)) || decide (x ≥ 2 ^ 63)) = false) (c1 : (items.isEmpty || x == 1) = false) (c2 : (decide (x ≤ 0) || items.isEmpty) = true) :
    Meets (Builtin.«tuple.__mul__» ⟨[.ref l, .int x u], []⟩) (fun _ R s => s.heap.get? l = some { cls := .type "tuple", dict := dd, data := .seq items n, slots := sl } ∧ R (.ok (.ret (Value.ref s.heap.objs.size))) { s with heap := s.heap.push { cls := Value.type "tuple", data := Data.seq #[] }, toks := s.toks }) :=
  .of_wp fun prog w A R s h => by
    obtain ⟨hp, g, d, tk, os⟩ := s
    obtain ⟨hl, h⟩ := h
    have f1 := AutoSeq1.idx_int
    wp_walk using wpAny_loadPart' hl
    refine wpAny_ite_false (decide_eq_false (by rw [c0]; exact Bool.false_ne_true)) ?_
    wp_walk using wpAny_loadPart' hl
    exact ⟨_, rfl, h⟩

/-! ### what stands in the store -/
def rdW (st : Sto) (r : Nat) : Option (List D) := match st[r]? with
  | some (.lst xs) => some xs
  | _ => none
def rdL (st : Sto) (r : Nat) : Option (List D) := match st[r]? with
  | some (.lst xs) => some xs
  | some (.fro xs) => some xs
  | none => none
section
variable {K : PySem.W.Frag} {α : List Addr} {H : Hp} {st : Sto}
theorem SR.w (s : SR K α st H) {r : Nat} {a : Addr} {xs : List D} (e : rdW st r = some xs) (ea : α[r]? = some a) : st[r]? = some (.lst xs) ∧ ∃ vs, H a = some (.lst vs) ∧ RDs K α H xs vs := by
  unfold rdW at e
  split at e
  · rename_i ys h
    cases e
    obtain ⟨b, h1, h2⟩ := s.cell r _ h
    rw [ea] at h1
    cases h1
    exact ⟨h, h2⟩
  · cases e
theorem SR.l (s : SR K α st H) {r : Nat} {a : Addr} {xs : List D} (e : rdL st r = some xs) (ea : α[r]? = some a) : ∃ vs, SqL K H a vs ∧ RDs K α H xs vs := by
  unfold rdL at e
  split at e
  · rename_i ys h
    cases e
    obtain ⟨b, h1, vs, h2, h3⟩ := s.cell r _ h
    rw [ea] at h1
    cases h1
    exact ⟨vs, SqL.of h2, h3⟩
  · rename_i ys h
    cases e
    obtain ⟨b, h1, vs, h2, h3⟩ := s.cell r _ h
    rw [ea] at h1
    cases h1
    exact ⟨vs, h2.sq, h3⟩
  · cases e
theorem RD.ref_of {r : Nat} {v : V} (h : RD K α H (.ref r) v) : ∃ a, v = .ref a ∧ α[r]? = some a := by
  cases h with
  | ref e => exact ⟨_, rfl, e⟩
theorem RD.tup_of {xs : List D} {v : V} (h : RD K α H (.tup xs) v) : ∃ a vs, v = .ref a ∧ SqT K H a vs ∧ RDs K α H xs vs := by
  cases h with
  | tup a b => exact ⟨_, _, rfl, a, b⟩
end

/-! ### ends of operations -/
section
variable {K : PySem.W.Frag} {α : List Addr} {H : Hp} {st : Sto}
def Fin (K : PySem.W.Frag) (α : List Addr) (H : Hp) (Q : VK) (d : D) (st : Sto) : Prop := ∀ α' H' v, α <+: α' → Keep H H' → SR K α' st H' → RD K α' H' d v → Q v H'
theorem Fin.here {Q : VK} {d : D} {v : V} (h : Fin K α H Q d st) (s : SR K α st H) (r : RD K α H d v) : Q v H := h α H v (List.prefix_refl _) (Keep.refl _) s r
theorem Fin.tup {Q : VK} {ds : List D} {vs : List V} (h : Fin K α H Q (.tup ds) st) (s : SR K α st H) (r : RDs K α H ds vs) {p : Addr} (hp : H p = none) : Q (.ref p) (upd H p (.tup vs)) :=
  h α _ _ (List.prefix_refl _) (Keep.fresh hp) (s.fresh hp) (.tup (SqT.of upd_same) (r.mono (List.prefix_refl _) (Keep.fresh hp)))
theorem Fin.new {Q : VK} {ds : List D} {vs : List V} (h : Fin K α H Q (.ref st.length) (st ++ [.lst ds])) (s : SR K α st H) (r : RDs K α H ds vs) {p : Addr} (hp : H p = none) : Q (.ref p) (upd H p (.lst vs)) :=
  h (α ++ [p]) _ _ (List.prefix_append _ _) (Keep.fresh hp) (s.push hp r) (.ref (by rw [← s.len, List.getElem?_concat_length]))
theorem Fin.put {Q : VK} {d : D} {v : V} {r : Nat} {q : Addr} {ds xs : List D} {vs ws : List V} (h : Fin K α H Q d (st.set r (.lst ds))) (s : SR K α st H) (e : st[r]? = some (.lst xs)) (ea : α[r]? = some q) (eh : H q = some (.lst ws)) (rr : RDs K α H ds vs) (rd : RD K α H d v) : Q v (upd H q (.lst vs)) :=
  h α _ _ (List.prefix_refl _) (Keep.lst eh) (s.put e ea rr) (rd.mono (List.prefix_refl _) (Keep.lst eh))
end

/-! ### arithmetic -/
def Small (i : Int) : Prop := -(2 ^ 64) < i ∧ i < 2 ^ 64
instance (i : Int) : Decidable (Small i) := by unfold Small; infer_instance
def oAdd : O2 := fun a b st => match a, b with
  | .int i, .int j => .ok (.int (i + j)) st
  | .str x, .str y => if x.length + y.length ≤ sizeLine then .ok (.str (x ++ y)) st else .no
  | .tup xs, .tup ys => if xs.length + ys.length ≤ sizeLine then .ok (.tup (xs ++ ys)) st else .no
  | .ref r, .ref q => match rdW st r, rdW st q with
    | some xs, some ys => if xs.length + ys.length ≤ sizeLine then .ok (.ref st.length) (st ++ [.lst (xs ++ ys)]) else .no
    | _, _ => .no
  | _, _ => .no
def oSub : O2 := fun a b st => match a, b with
  | .int i, .int j => .ok (.int (i - j)) st
  | _, _ => .no
def oMul : O2 := fun a b st => match a, b with
  | .int i, .int j => if Small i ∨ Small j then .ok (.int (i * j)) st else .no
  | .ref r, .int k => match rdW st r with
    | some xs => if Small k ∧ -(2 ^ 63) ≤ k ∧ k < 2 ^ 63 ∧ xs.length * k.toNat ≤ sizeLine then .ok (.ref st.length) (st ++ [.lst (List.replicate k.toNat xs).flatten]) else .no
    | none => .no
  | .tup xs, .int k => if -1000 ≤ k ∧ k ≤ 1000 ∧ xs.length ≤ 1000 then .ok (.tup (List.replicate k.toNat xs).flatten) st else .no
  | _, _ => .no
def oDiv : O2 := fun a b st => match a, b with
  | .int i, .int j => if 0 < j ∧ j < 1073741824 then .ok (.int (i / j)) st else .no
  | _, _ => .no
def oMod : O2 := fun a b st => match a, b with
  | .int i, .int j => if 0 < j then .ok (.int (i % j)) st else .no
  | _, _ => .no
def oPow : O2 := fun a b st => match a, b with
  | .int i, .int j => if 0 ≤ j ∧ j ≤ 1000000 ∧ i.natAbs < 2 ^ 64 then .ok (.int (i ^ j.toNat)) st else .no
  | _, _ => .no
def oNeg : O1 := fun a st => match a with
  | .int i => .ok (.int (-i)) st
  | _ => .no
def oLt : O2 := fun a b st => match a, b with
  | .int i, .int j => .ok (.bl (decide (i < j))) st
  | _, _ => .no
def oLe : O2 := fun a b st => match a, b with
  | .int i, .int j => .ok (.bl (decide (i ≤ j))) st
  | _, _ => .no
def oGt : O2 := fun a b st => match a, b with
  | .int i, .int j => .ok (.bl (decide (j < i))) st
  | _, _ => .no
def oGe : O2 := fun a b st => match a, b with
  | .int i, .int j => .ok (.bl (decide (j ≤ i))) st
  | _, _ => .no
section
variable {X : Cx}
theorem od_add : OD2 X (binaryOp .Add) oAdd := by
  intro pins s σ H x y v u Q I rx ry h
  obtain ⟨α, st, a, b, S, ra, rb, h⟩ := h
  unfold oAdd at h
  split at h
  · have e1 := ra.int_of; have e2 := rb.int_of; subst e1; subst e2
    exact op_add pins s σ H _ _ v u Q I rx ry ⟨_, _, rfl, rfl, Fin.here h S (.int _)⟩
  · have e1 := ra.str_of; have e2 := rb.str_of; subst e1; subst e2
    split at h
    · exact op_add_str pins s σ H _ _ v u Q I rx ry ⟨_, _, rfl, rfl, by assumption, Fin.here h S (.str _)⟩
    · exact h.elim
  · obtain ⟨p, vs, rfl, t1, r1⟩ := ra.tup_of
    obtain ⟨q, ws, rfl, t2, r2⟩ := rb.tup_of
    split at h
    · rename_i hz
      have l1 := r1.len
      have l2 := r2.len
      refine op_catA pins s σ H _ _ v u Q I rx ry ⟨_, _, vs, ws, rfl, rfl, t1, t2, by omega, fun e => ?_, fun e e' => ?_, fun _ _ p hp => Fin.tup h S (r1.app r2) hp⟩
      · subst e
        cases r1
        exact Fin.here h S (.tup t2 r2)
      · subst e'
        cases r2
        rw [List.append_nil] at h
        exact Fin.here h S (.tup t1 r1)
    · exact h.elim
  · obtain ⟨p, rfl, a1⟩ := ra.ref_of
    obtain ⟨q, rfl, a2⟩ := rb.ref_of
    split at h
    · rename_i xs ys e1 e2
      split at h
      · rename_i hz
        obtain ⟨_, vs, h1, r1⟩ := S.w e1 a1
        obtain ⟨_, ws, h2, r2⟩ := S.w e2 a2
        have l1 := r1.len
        have l2 := r2.len
        exact op_cat pins s σ H _ _ v u Q I rx ry ⟨_, _, vs, ws, rfl, rfl, h1, h2, by omega, fun p hp => Fin.new h S (r1.app r2) hp⟩
      · exact h.elim
    · exact h.elim
  · exact h.elim
theorem od_sub : OD2 X (binaryOp .Sub) oSub := by
  intro pins s σ H x y v u Q I rx ry h
  obtain ⟨α, st, a, b, S, ra, rb, h⟩ := h
  unfold oSub at h
  split at h
  · have e1 := ra.int_of; have e2 := rb.int_of; subst e1; subst e2
    exact op_sub pins s σ H _ _ v u Q I rx ry ⟨_, _, rfl, rfl, Fin.here h S (.int _)⟩
  · exact h.elim
/-- a tuple as often as told: the same one, none of it, or more -/
theorem op_repU : OpR X (binaryOp .Mult) (fun x y H Q => ∃ l k xs, x = .ref l ∧ y = .int k ∧ SqT X.K H l xs ∧ -1000 ≤ k ∧ k < 2 ∧ ((xs = [] ∨ k = 1) ∧ Q (.ref l) H ∨ (xs ≠ [] ∧ k ≤ 0) ∧ ∀ p, H p = none → Q (.ref p) (upd H p (.tup [])))) := by
  intro pins s σ H x y v u Q I rx ry h
  obtain ⟨l, k, xs, rfl, rfl, hT, h1, h2, q⟩ := h
  cases rx
  obtain ⟨t, rfl⟩ := ry
  obtain ⟨its, r, ⟨⟨cls, dd, data, sl⟩, ho, hc, n, hd⟩, hs⟩ := I.tuple hT
  simp only at hc hd
  subst hc hd
  have hle : its.length = xs.length := r.length.symm
  have c0 : (decide (k < -(2 ^ 63)) || decide (k ≥ 2 ^ 63)) = false := by
    rw [decide_eq_false (by omega), decide_eq_false (by omega)] <;> rfl
  refine wpAny_binaryOp_repeat_ref (T := "tuple") (U := "int") (by decide) ⟨_, ho, rfl⟩ (fun s' => typeIs_int s' k t) noFill_tuple_mul F.fills_int_mul F.slot_int_rmul repeat_tuple F.slot_int_index.lookup
    (call_meets F.slot_int_rmul (typeIs_int s k t) F.entry_int_rmul (F.args_int_rmul_2 _ _) (int_rmul_tuple k t l its.toArray n dd sl) ⟨ho, rfl, ⟨_, ho, rfl⟩, ?_⟩)
  rcases q with ⟨c, q⟩ | ⟨⟨c, c'⟩, q⟩
  · have c1 : (its.toArray.isEmpty || k == 1) = true := by
      rcases c with c | c
      · subst c
        have : its = [] := List.eq_nil_of_length_eq_zero hle
        subst this; rfl
      · subst c; simp
    exact call_meets F.slot_tuple_mul ⟨_, ho, rfl⟩ F.entry_tuple_mul (F.args_tuple_mul_2 _ _) (tuple_same l its.toArray n dd sl k t c0 c1) ⟨ho, ⟨.ref l, H, I, rfl, q⟩⟩
  · have hi : its.toArray.isEmpty = false := by
      cases its with
      | nil => exact absurd (List.eq_nil_of_length_eq_zero hle.symm) c
      | cons a b => rfl
    have c1 : (its.toArray.isEmpty || k == 1) = false := by
      rw [hi, Bool.false_or]
      exact beq_eq_false_iff_ne.mpr (by omega)
    have c2 : (decide (k ≤ 0) || its.toArray.isEmpty) = true := by rw [decide_eq_true c']; rfl
    refine call_meets F.slot_tuple_mul ⟨_, ho, rfl⟩ F.entry_tuple_mul (F.args_tuple_mul_2 _ _) (tuple_none l its.toArray n dd sl k t c0 c1 c2) ⟨ho, ?_⟩
    exact ⟨.ref s.heap.objs.size, _, I.laid (t' := s.toks) (o := .tup []) (fun b ob q => Heap.get?_push_of_some _ q) (Nat.le_refl _) ⟨by decide, [], .nil, IsTup.new _ _⟩, rfl, q _ (I.hok.fresh (Nat.le_refl _))⟩
/-- the empty tuple, however often -/
theorem op_repE : OpR X (binaryOp .Mult) (fun x y H Q => ∃ l k, x = .ref l ∧ y = .int k ∧ SqT X.K H l [] ∧ 0 ≤ k ∧ k ≤ 1000 ∧ Q (.ref l) H) := by
  intro pins s σ H x y v u Q I rx ry h
  obtain ⟨l, k, rfl, rfl, hT, h1, h2, q⟩ := h
  cases rx
  obtain ⟨t, rfl⟩ := ry
  obtain ⟨its, r, ⟨⟨cls, dd, data, sl⟩, ho, hc, n, hd⟩, hs⟩ := I.tuple hT
  simp only at hc hd
  subst hc hd
  cases r
  have c0 : (decide (k < -(2 ^ 63)) || decide (k ≥ 2 ^ 63)) = false := by
    rw [decide_eq_false (by omega), decide_eq_false (by omega)] <;> rfl
  exact wpAny_binaryOp_repeat_ref (T := "tuple") (U := "int") (by decide) ⟨_, ho, rfl⟩ (fun s' => typeIs_int s' k t) noFill_tuple_mul F.fills_int_mul F.slot_int_rmul repeat_tuple F.slot_int_index.lookup
    (call_meets F.slot_int_rmul (typeIs_int s k t) F.entry_int_rmul (F.args_int_rmul_2 _ _) (int_rmul_tuple k t l _ n dd sl) ⟨ho, rfl, ⟨_, ho, rfl⟩,
      call_meets F.slot_tuple_mul ⟨_, ho, rfl⟩ F.entry_tuple_mul (F.args_tuple_mul_2 _ _) (tuple_same l _ n dd sl k t c0 rfl) ⟨ho, ⟨.ref l, H, I, rfl, q⟩⟩⟩)
theorem od_mul : OD2 X (binaryOp .Mult) oMul := by
  intro pins s σ H x y v u Q I rx ry h
  obtain ⟨α, st, a, b, S, ra, rb, h⟩ := h
  unfold oMul at h
  split at h
  · have e1 := ra.int_of; have e2 := rb.int_of; subst e1; subst e2
    split at h
    · rename_i hs
      exact op_mul pins s σ H _ _ v u Q I rx ry ⟨_, _, rfl, rfl, hs, Fin.here h S (.int _)⟩
    · exact h.elim
  · obtain ⟨p, rfl, a1⟩ := ra.ref_of
    have e2 := rb.int_of; subst e2
    split at h
    · rename_i xs e1
      split at h
      · rename_i hs
        obtain ⟨_, vs, h1, r1⟩ := S.w e1 a1
        have l1 := r1.len
        exact op_rep pins s σ H _ _ v u Q I rx ry ⟨_, _, vs, rfl, rfl, h1, hs.2.1, hs.2.2.1, by rw [← l1]; exact hs.2.2.2, fun p hp => Fin.new h S (r1.repL _) hp⟩
      · exact h.elim
    · exact h.elim
  · rename_i xs k
    obtain ⟨p, vs, rfl, t1, r1⟩ := ra.tup_of
    have e2 := rb.int_of; subst e2
    split at h
    · rename_i hs
      have l1 := r1.len
      by_cases c : xs = [] ∨ k = 1
      · have ef : (List.replicate k.toNat xs).flatten = xs := by
          rcases c with c | c
          · subst c; simp
          · subst c; simp
        rw [ef] at h
        by_cases c2 : k < 2
        · refine op_repU pins s σ H _ _ v u Q I rx ry ⟨_, _, vs, rfl, rfl, t1, hs.1, c2, .inl ⟨?_, Fin.here h S (.tup t1 r1)⟩⟩
          rcases c with c | c
          · subst c; cases r1; exact .inl rfl
          · exact .inr c
        · have cx : xs = [] := c.resolve_right (by omega)
          subst cx
          cases r1
          exact op_repE pins s σ H _ _ v u Q I rx ry ⟨_, _, rfl, rfl, t1, by omega, hs.2.1, Fin.here h S (.tup t1 .nil)⟩
      · have c1 : xs ≠ [] := fun e => c (.inl e)
        have c2 : k ≠ 1 := fun e => c (.inr e)
        have c3 : vs ≠ [] := fun e => by subst e; cases r1; exact c1 rfl
        by_cases c4 : k ≤ 0
        · have ef : (List.replicate k.toNat xs).flatten = [] := by
            have : k.toNat = 0 := by omega
            rw [this]; rfl
          rw [ef] at h
          exact op_repU pins s σ H _ _ v u Q I rx ry ⟨_, _, vs, rfl, rfl, t1, hs.1, by omega, .inr ⟨⟨c3, c4⟩, fun p hp => Fin.tup h S .nil hp⟩⟩
        · exact op_repT pins s σ H _ _ v u Q I rx ry ⟨_, _, vs, rfl, rfl, t1, c3, by omega, hs.2.1, by rw [← l1]; exact hs.2.2, fun p hp => Fin.tup h S (r1.repL _) hp⟩
    · exact h.elim
  · exact h.elim
theorem od_div : OD2 X (binaryOp .FloorDiv) oDiv := by
  intro pins s σ H x y v u Q I rx ry h
  obtain ⟨α, st, a, b, S, ra, rb, h⟩ := h
  unfold oDiv at h
  split at h
  · have e1 := ra.int_of; have e2 := rb.int_of; subst e1; subst e2
    split at h
    · rename_i hs
      exact op_fdiv pins s σ H _ _ v u Q I rx ry ⟨_, _, rfl, rfl, hs, Fin.here h S (.int _)⟩
    · exact h.elim
  · exact h.elim
theorem od_mod : OD2 X (binaryOp .Mod) oMod := by
  intro pins s σ H x y v u Q I rx ry h
  obtain ⟨α, st, a, b, S, ra, rb, h⟩ := h
  unfold oMod at h
  split at h
  · have e1 := ra.int_of; have e2 := rb.int_of; subst e1; subst e2
    split at h
    · rename_i hs
      exact op_mod pins s σ H _ _ v u Q I rx ry ⟨_, _, rfl, rfl, hs, Fin.here h S (.int _)⟩
    · exact h.elim
  · exact h.elim
theorem od_pow : OD2 X (binaryOp .Pow) oPow := by
  intro pins s σ H x y v u Q I rx ry h
  obtain ⟨α, st, a, b, S, ra, rb, h⟩ := h
  unfold oPow at h
  split at h
  · have e1 := ra.int_of; have e2 := rb.int_of; subst e1; subst e2
    split at h
    · rename_i hs
      exact op_pow pins s σ H _ _ v u Q I rx ry ⟨_, _, rfl, rfl, hs, Fin.here h S (.int _)⟩
    · exact h.elim
  · exact h.elim
theorem od_neg : OD1 X (unaryOp .USub) oNeg := by
  intro pins s σ H x v Q I rx h
  obtain ⟨α, st, a, S, ra, h⟩ := h
  unfold oNeg at h
  split at h
  · have e1 := ra.int_of; subst e1
    exact un_neg pins s σ H _ v Q I rx ⟨_, rfl, Fin.here h S (.int _)⟩
  · exact h.elim
theorem od_lt : OD2 X (compareOp .Lt) oLt := by
  intro pins s σ H x y v u Q I rx ry h
  obtain ⟨α, st, a, b, S, ra, rb, h⟩ := h
  unfold oLt at h
  split at h
  · have e1 := ra.int_of; have e2 := rb.int_of; subst e1; subst e2
    exact op_lt pins s σ H _ _ v u Q I rx ry ⟨_, _, rfl, rfl, Fin.here h S (.bl _)⟩
  · exact h.elim
theorem od_le : OD2 X (compareOp .LtE) oLe := by
  intro pins s σ H x y v u Q I rx ry h
  obtain ⟨α, st, a, b, S, ra, rb, h⟩ := h
  unfold oLe at h
  split at h
  · have e1 := ra.int_of; have e2 := rb.int_of; subst e1; subst e2
    exact op_le pins s σ H _ _ v u Q I rx ry ⟨_, _, rfl, rfl, Fin.here h S (.bl _)⟩
  · exact h.elim
theorem od_gt : OD2 X (compareOp .Gt) oGt := by
  intro pins s σ H x y v u Q I rx ry h
  obtain ⟨α, st, a, b, S, ra, rb, h⟩ := h
  unfold oGt at h
  split at h
  · have e1 := ra.int_of; have e2 := rb.int_of; subst e1; subst e2
    exact op_gt pins s σ H _ _ v u Q I rx ry ⟨_, _, rfl, rfl, Fin.here h S (.bl _)⟩
  · exact h.elim
theorem od_ge : OD2 X (compareOp .GtE) oGe := by
  intro pins s σ H x y v u Q I rx ry h
  obtain ⟨α, st, a, b, S, ra, rb, h⟩ := h
  unfold oGe at h
  split at h
  · have e1 := ra.int_of; have e2 := rb.int_of; subst e1; subst e2
    exact op_ge pins s σ H _ _ v u Q I rx ry ⟨_, _, rfl, rfl, Fin.here h S (.bl _)⟩
  · exact h.elim
/-- tuples of ints, in their order -/
def intsOf : List D → Option (List Int)
  | [] => some []
  | .int i :: r => (intsOf r).map (i :: ·)
  | _ :: _ => none
theorem intsOf_map : ∀ {ds : List D} {ns : List Int}, intsOf ds = some ns → ds = ns.map D.int
  | [], ns, h => by simp [intsOf] at h; subst h; rfl
  | d :: r, ns, h => by
    cases d <;> simp [intsOf] at h
    obtain ⟨ms, h1, h2⟩ := h
    subst h2
    rw [intsOf_map h1]; rfl
@[simp] theorem intsOf_ints : ∀ ns : List Int, intsOf (ns.map D.int) = some ns
  | [] => rfl
  | n :: ns => by simp [intsOf, intsOf_ints ns]
def oLtT : O2 := fun a b st => match a, b with
  | .int i, .int j => .ok (.bl (decide (i < j))) st
  | .tup xs, .tup ys => match intsOf xs, intsOf ys with
    | some ns, some ms => .ok (.bl (HT.lexLt ns ms)) st
    | _, _ => .no
  | _, _ => .no
theorem od_ltT (hu : X.A.units < cLine) : OD2 X (compareOp .Lt) oLtT := by
  intro pins s σ H x y v u Q I rx ry h
  obtain ⟨α, st, a, b, S, ra, rb, h⟩ := h
  unfold oLtT at h
  split at h
  · have e1 := ra.int_of; have e2 := rb.int_of; subst e1; subst e2
    exact op_lt pins s σ H _ _ v u Q I rx ry ⟨_, _, rfl, rfl, Fin.here h S (.bl _)⟩
  · obtain ⟨p, vs, rfl, t1, r1⟩ := ra.tup_of
    obtain ⟨q, ws, rfl, t2, r2⟩ := rb.tup_of
    split at h
    · rename_i ns ms e1 e2
      rw [intsOf_map e1] at r1
      rw [intsOf_map e2] at r2
      rw [r1.toInts] at t1
      rw [r2.toInts] at t2
      exact op_ltT hu pins s σ H _ _ v u Q I rx ry ⟨_, _, ns, ms, rfl, rfl, t1, t2, Fin.here h S (.bl _)⟩
    · exact h.elim
  · exact h.elim

/-! ### == of data -/
mutual
def pd (rd : Nat → Option PyData) : D → Option PyData
  | .non => some .none
  | .bl b => some (.bool b)
  | .int i => some (.int i)
  | .str x => some (.str x)
  | .tup ds => (pds rd ds).map .tuple
  | .ref r => rd r
  | .fn _ => none
  | .ty _ => none
  | .nam _ => none
def pds (rd : Nat → Option PyData) : List D → Option (List PyData)
  | [] => some []
  | d :: ds => match pd rd d, pds rd ds with
    | some p, some ps => some (p :: ps)
    | _, _ => none
end
def rdP (st : Sto) : Nat → Nat → Option PyData
  | 0, _ => none
  | n + 1, r => match rdL st r with
    | some ds => (pds (rdP st n) ds).map .list
    | none => none
def toP (st : Sto) (d : D) : Option PyData := pd (rdP st 30) d
section
variable {K : PySem.W.Frag} {α : List Addr} {H : Hp} {st : Sto}
mutual
theorem dp_of {rd : Nat → Option PyData} (hr : ∀ r p v, rd r = some p → RD K α H (.ref r) v → Dp K H v p) : ∀ (d : D) (p : PyData) (v : V), pd rd d = some p → RD K α H d v → Dp K H v p
  | .non, p, v, h, r => by cases h; cases r; exact .non
  | .bl b, p, v, h, r => by cases h; cases r; exact .bl b
  | .int i, p, v, h, r => by cases h; cases r; exact .int i
  | .str x, p, v, h, r => by cases h; cases r; exact .str x
  | .ref n, p, v, h, r => hr n p v h r
  | .fn _, p, v, h, r => by cases h
  | .ty _, p, v, h, r => by cases h
  | .nam _, p, v, h, r => by cases h
  | .tup ds, p, v, h, r => by
    obtain ⟨a, vs, rfl, t1, r1⟩ := r.tup_of
    unfold pd at h
    cases e : pds rd ds with
    | none => rw [e] at h; cases h
    | some ps =>
      rw [e] at h
      cases h
      exact .tup t1 (dps_of hr ds ps vs e r1)
theorem dps_of {rd : Nat → Option PyData} (hr : ∀ r p v, rd r = some p → RD K α H (.ref r) v → Dp K H v p) : ∀ (ds : List D) (ps : List PyData) (vs : List V), pds rd ds = some ps → RDs K α H ds vs → DpAll K H vs ps
  | [], ps, vs, h, r => by cases h; cases r; exact .nil
  | d :: ds, ps, vs, h, r => by
    cases r with
    | cons r1 r2 =>
      unfold pds at h
      split at h
      · rename_i p qs e1 e2
        cases h
        exact .cons (dp_of hr d p _ e1 r1) (dps_of hr ds qs _ e2 r2)
      · cases h
end
theorem dp_ref (S : SR K α st H) : ∀ (n r : Nat) (p : PyData) (v : V), rdP st n r = some p → RD K α H (.ref r) v → Dp K H v p
  | 0, r, p, v, h, _ => by cases h
  | n + 1, r, p, v, h, q => by
    obtain ⟨a, rfl, ea⟩ := q.ref_of
    unfold rdP at h
    split at h
    · rename_i ds e
      obtain ⟨vs, h1, h2⟩ := S.l e ea
      cases e2 : pds (rdP st n) ds with
      | none => rw [e2] at h; cases h
      | some ps =>
        rw [e2] at h
        cases h
        exact .lst h1 (dps_of (fun r p v h q => dp_ref S n r p v h q) ds ps vs e2 h2)
    · cases h
theorem dp_toP (S : SR K α st H) {d : D} {p : PyData} {v : V} (h : toP st d = some p) (r : RD K α H d v) : Dp K H v p := dp_of (fun r p v h q => dp_ref S 30 r p v h q) d p v h r
end
def oEq : O2 := fun a b st => match toP st a, toP st b with
  | some p, some q => if SeqAt.shaped p = true ∧ SeqAt.shaped q = true then .ok (.bl (PyData.eqv p q)) st else .no
  | _, _ => .no
def oNe : O2 := fun a b st => match toP st a, toP st b with
  | some p, some q => if SeqAt.shaped p = true ∧ SeqAt.shaped q = true then .ok (.bl (!PyData.eqv p q)) st else .no
  | _, _ => .no
theorem od_eq (hu : X.A.units + 64 < cLine) : OD2 X (compareOp .Eq) oEq := by
  intro pins s σ H x y v u Q I rx ry h
  obtain ⟨α, st, a, b, S, ra, rb, h⟩ := h
  unfold oEq at h
  split at h
  · rename_i p q e1 e2
    split at h
    · rename_i hs
      exact op_eqD hu pins s σ H _ _ v u Q I rx ry ⟨p, q, dp_toP S e1 ra, dp_toP S e2 rb, hs.1, hs.2, Fin.here h S (.bl _)⟩
    · exact h.elim
  · exact h.elim
theorem od_ne (hu : X.A.units + 64 < cLine) : OD2 X (compareOp .NotEq) oNe := by
  intro pins s σ H x y v u Q I rx ry h
  obtain ⟨α, st, a, b, S, ra, rb, h⟩ := h
  unfold oNe at h
  split at h
  · rename_i p q e1 e2
    split at h
    · rename_i hs
      exact op_neD hu pins s σ H _ _ v u Q I rx ry ⟨p, q, dp_toP S e1 ra, dp_toP S e2 rb, hs.1, hs.2, Fin.here h S (.bl _)⟩
    · exact h.elim
  · exact h.elim

/-! ### is -/
def isNon : D → Bool
  | .non => true
  | _ => false
theorem RD.nonB {K : PySem.W.Frag} {α : List Addr} {H : Hp} {d : D} {v : V} (h : RD K α H d v) : decide (v = V.non) = isNon d := by cases h <;> simp [isNon]
def oIs : O2 := fun a b st => match a, b with
  | .ty m, .ty n => .ok (.bl (decide (m = n))) st
  | .bl i, .bl j => .ok (.bl (decide (i = j))) st
  | a, .non => .ok (.bl (isNon a)) st
  | _, _ => .no
def oIsNot : O2 := fun a b st => match a, b with
  | .ty m, .ty n => .ok (.bl (!decide (m = n))) st
  | .bl i, .bl j => .ok (.bl (!decide (i = j))) st
  | a, .non => .ok (.bl (!isNon a)) st
  | _, _ => .no
theorem od_is : OD2 X (compareOp .Is) oIs := by
  intro pins s σ H x y v u Q I rx ry h
  obtain ⟨α, st, a, b, S, ra, rb, h⟩ := h
  unfold oIs at h
  split at h
  · have e1 := ra.ty_of; have e2 := rb.ty_of; subst e1; subst e2
    exact op_isTy pins s σ H _ _ v u Q I rx ry ⟨_, _, rfl, rfl, Fin.here h S (.bl _)⟩
  · have e1 := ra.bl_of; have e2 := rb.bl_of; subst e1; subst e2
    exact op_is_bl pins s σ H _ _ v u Q I rx ry ⟨_, _, rfl, rfl, Fin.here h S (.bl _)⟩
  · have e2 := rb.non_of; subst e2
    exact op_isN pins s σ H _ _ v u Q I rx ry ⟨rfl, by rw [ra.nonB]; exact Fin.here h S (.bl _)⟩
  · exact h.elim
theorem od_isnot : OD2 X (compareOp .IsNot) oIsNot := by
  intro pins s σ H x y v u Q I rx ry h
  obtain ⟨α, st, a, b, S, ra, rb, h⟩ := h
  unfold oIsNot at h
  split at h
  · have e1 := ra.ty_of; have e2 := rb.ty_of; subst e1; subst e2
    exact op_isNotTy pins s σ H _ _ v u Q I rx ry ⟨_, _, rfl, rfl, Fin.here h S (.bl _)⟩
  · have e1 := ra.bl_of; have e2 := rb.bl_of; subst e1; subst e2
    exact op_isnot_bl pins s σ H _ _ v u Q I rx ry ⟨_, _, rfl, rfl, Fin.here h S (.bl _)⟩
  · have e2 := rb.non_of; subst e2
    exact op_notN pins s σ H _ _ v u Q I rx ry ⟨rfl, by rw [ra.nonB]; exact Fin.here h S (.bl _)⟩
  · exact h.elim

/-! ### items and slices -/
def oIx : O2 := fun a b st => match a, b with
  | .tup xs, .int i => match atI xs i with
    | some d => .ok d st
    | none => .no
  | .ref r, .int i => match rdL st r with
    | some xs => match atI xs i with
      | some d => .ok d st
      | none => .no
    | none => .no
  | _, _ => .no
theorem RDs.atI {K : PySem.W.Frag} {α : List Addr} {H : Hp} {ds : List D} {vs : List V} {i : Int} {d : D} (h : RDs K α H ds vs) (e : L2.atI ds i = some d) : ∃ v, L2.atI vs i = some v ∧ RD K α H d v := by
  unfold L2.atI at e ⊢
  rw [← h.len]
  cases q : ixN ds.length i with
  | none => rw [q] at e; cases e
  | some j =>
    rw [q] at e
    exact h.getD (i := j) e
theorem ix_d : IxR X (rD2 X.K oIx) := by
  intro value slice pins s σ H x y v u Q I rx ry h hsl
  obtain ⟨α, st, a, b, S, ra, rb, h⟩ := h
  unfold oIx at h
  split at h
  · obtain ⟨p, vs, rfl, t1, r1⟩ := ra.tup_of
    have e2 := rb.int_of; subst e2
    split at h
    · rename_i d e
      obtain ⟨w, h1, h2⟩ := r1.atI e
      exact ix_tup value slice pins s σ H _ _ v u Q I rx ry ⟨p, vs, _, w, rfl, rfl, t1, h1, Fin.here h S h2⟩ hsl
    · exact h.elim
  · obtain ⟨p, rfl, a1⟩ := ra.ref_of
    have e2 := rb.int_of; subst e2
    split at h
    · rename_i xs e1
      obtain ⟨vs, h0, r1⟩ := S.l e1 a1
      split at h
      · rename_i d e
        obtain ⟨w, h1, h2⟩ := r1.atI e
        exact ix_list value slice pins s σ H _ _ v u Q I rx ry ⟨p, vs, _, w, rfl, rfl, h0, h1, Fin.here h S h2⟩ hsl
      · exact h.elim
    · exact h.elim
  · exact h.elim
theorem de_ix {W : WX} {a b : Expr} {ma mb : En → Sto → R D} {pos : Pos} (ha : DE X W a ma) (hb : DE X W b mb) (hs : PlainIx b) : DE X W (.Subscript a b pos) (m2 oIx ma mb) := PE.weak (pe_ix ix_d ha hb hs) fun _ _ _ => two_of
end
end DL
set_option Elab.async false
set_option linter.all false
set_option maxRecDepth 100000
namespace DL
open PySem PySem.Spec PyProof.Rows L2
section
variable {X : Cx} {W : WX}
/-! ### slices -/
abbrev O3 := D → Option Int → Option Int → Sto → R D
def cutD (xs : List D) (lo hi : Option Int) : List D := (xs.drop (HT.sIx xs.length 0 lo)).take (HT.sIx xs.length xs.length hi - HT.sIx xs.length 0 lo)
theorem RDs.cut {K : PySem.W.Frag} {α : List Addr} {H : Hp} {ds : List D} {vs : List V} (h : RDs K α H ds vs) (lo hi : Option Int) : RDs K α H (cutD ds lo hi) (cutV vs lo hi) := by
  unfold cutD cutV
  rw [h.len]
  exact (h.drop _).take _
def oSl : O3 := fun a lo hi st => match a with
  | .tup xs => .ok (.tup (cutD xs lo hi)) st
  | .ref r => match rdL st r with
    | some xs => .ok (.ref st.length) (st ++ [.lst (cutD xs lo hi)])
    | none => .no
  | _ => .no
def rD3 (K : PySem.W.Frag) (f : O3) : V → Option Int → Option Int → Hp → VK → Prop := fun x lo hi H Q => ∃ α st a, SR K α st H ∧ RD K α H a x ∧ Rw (f a lo hi st) fun d st' => ∀ α' H' v, α <+: α' → Keep H H' → SR K α' st' H' → RD K α' H' d v → Q v H'
theorem cutD_whole {xs : List D} {lo hi : Option Int} (h : HT.sIx xs.length 0 lo = 0 ∧ HT.sIx xs.length xs.length hi = xs.length) : cutD xs lo hi = xs := by
  unfold cutD
  rw [h.1, h.2]
  simp
theorem sl_d : SlR X (rD3 X.K oSl) := by
  intro pins s σ H x v vl vu lo hi sl Q I rx hs pl pu h
  obtain ⟨α, st, a, S, ra, h⟩ := h
  unfold oSl at h
  split at h
  · obtain ⟨p, vs, rfl, t1, r1⟩ := ra.tup_of
    have l1 := r1.len
    refine sl_tupA pins s σ H _ v vl vu lo hi sl Q I rx hs pl pu ⟨p, vs, rfl, t1, fun e => ?_, fun _ q hq => Fin.tup h S (r1.cut lo hi) hq⟩
    rw [← l1] at e
    rw [cutD_whole e] at h
    exact Fin.here h S (.tup t1 r1)
  · obtain ⟨p, rfl, a1⟩ := ra.ref_of
    split at h
    · rename_i xs e1
      obtain ⟨vs, h0, r1⟩ := S.l e1 a1
      exact sl_list pins s σ H _ v vl vu lo hi sl Q I rx hs pl pu ⟨p, vs, rfl, h0, fun q hq => Fin.new h S (r1.cut lo hi) hq⟩
    · exact h.elim
  · exact h.elim
/-- a part of a slice -/
def tP (K : PySem.W.Frag) (W : WX) (m : En → Sto → R (Option Int)) : TO := fun σ H Q => ∃ α env st, ER K α env σ H ∧ SR K α st H ∧ Go K W α H σ (m env st) fun o _ _ H' => Q o H'
abbrev DP (X : Cx) (W : WX) (e : Option Expr) (m : En → Sto → R (Option Int)) : Prop := PO X e (tP X.K W m)
def pNone (env : En) (st : Sto) : R (Option Int) := .ok none st
def pSome (ma : En → Sto → R D) (env : En) (st : Sto) : R (Option Int) := (ma env st).bind fun x st1 => match x with
  | .int i => .ok (some i) st1
  | _ => .no
theorem PO.weak {X : Cx} {e : Option Expr} {t t' : TO} (h : PO X e t) (f : ∀ σ H Q, t' σ H Q → t σ H Q) : PO X e t' := ⟨fun pins s σ H Q I hw => h.run pins s σ H Q I (f σ H Q hw)⟩
theorem dp_none : DP X W none pNone := by
  refine PO.weak po_none fun σ H Q h => ?_
  obtain ⟨α, env, st, hE, hS, h⟩ := h
  exact h.here hS
theorem dp_some {a : Expr} {ma : En → Sto → R D} (ha : DE X W a ma) : DP X W (some a) (pSome ma) := by
  refine PO.weak (po_some ha) fun σ H Q h => ?_
  obtain ⟨α, env, st, hE, hS, h⟩ := h
  refine ⟨α, env, st, hE, hS, h.bind.mono fun x st1 α1 H1 p1 k1 s1 h1 v rv => ?_⟩
  split at h1
  · exact ⟨_, rv.int_of, h1.here s1⟩
  · exact h1.elim
def mSl (ma : En → Sto → R D) (pl ph : En → Sto → R (Option Int)) (env : En) (st : Sto) : R D := (ma env st).bind fun x st1 => (pl env st1).bind fun lo st2 => (ph env st2).bind fun hi st3 => noEx (oSl x lo hi st3)
theorem de_sl {a : Expr} {ma : En → Sto → R D} {lo hi : Option Expr} {pl ph : En → Sto → R (Option Int)} {p2 pos : Pos} (ha : DE X W a ma) (hl : DP X W lo pl) (hh : DP X W hi ph) : DE X W (.Subscript a (.Slice lo hi none p2) pos) (mSl ma pl ph) := by
  refine PE.weak (pe_slice sl_d ha hl hh) fun σ H Q h => ?_
  obtain ⟨α, env, st, hE, hS, h⟩ := h
  refine ⟨α, env, st, hE, hS, h.bind.mono fun x st1 α1 H1 p1 k1 s1 h1 v rv => ?_⟩
  refine ⟨α1, env, st1, hE.mono p1 k1, s1, h1.bind.mono fun l st2 α2 H2 p2 k2 s2 h2 => ?_⟩
  refine ⟨α2, env, st2, (hE.mono p1 k1).mono p2 k2, s2, h2.bind.mono fun u st3 α3 H3 p3 k3 s3 h3 => ?_⟩
  exact ⟨α3, st3, x, s3, (rv.mono p2 k2).mono p3 k3, h3.rw.mono fun d st4 q α' H' w p k s rw => q α' H' p k s w rw⟩

/-! ### built-ins -/
def bLen : List D → Sto → R D := fun ds st => match ds with
  | [.tup xs] => .ok (.int xs.length) st
  | [.ref r] => match rdL st r with
    | some xs => .ok (.int xs.length) st
    | none => .no
  | _ => .no
theorem RDs.one {K : PySem.W.Frag} {α : List Addr} {H : Hp} {d : D} {vs : List V} (h : RDs K α H [d] vs) : ∃ v, vs = [v] ∧ RD K α H d v := by
  cases h with
  | cons a b => cases b; exact ⟨_, rfl, a⟩
theorem RDs.two {K : PySem.W.Frag} {α : List Addr} {H : Hp} {d e : D} {vs : List V} (h : RDs K α H [d, e] vs) : ∃ v u, vs = [v, u] ∧ RD K α H d v ∧ RD K α H e u := by
  cases h with
  | cons a b => obtain ⟨u, rfl, r⟩ := b.one; exact ⟨_, _, rfl, a, r⟩
theorem cd_len : CDs X (.builtin "len") bLen := by
  intro pins s σ H vs us Q I rv h
  obtain ⟨α, st, ds, S, rd, h⟩ := h
  unfold bLen at h
  split at h
  · obtain ⟨v, rfl, r⟩ := rd.one
    obtain ⟨p, ws, rfl, t1, r1⟩ := r.tup_of
    exact call_len_seq pins s σ H _ us Q I rv ⟨p, ws, rfl, .inr t1, by rw [← r1.len]; exact Fin.here h S (.int _)⟩
  · obtain ⟨v, rfl, r⟩ := rd.one
    obtain ⟨p, rfl, a1⟩ := r.ref_of
    split at h
    · rename_i xs e1
      obtain ⟨ws, h0, r1⟩ := S.l e1 a1
      exact call_len_seq pins s σ H _ us Q I rv ⟨p, ws, rfl, .inl h0, by rw [← r1.len]; exact Fin.here h S (.int _)⟩
    · exact h.elim
  · exact h.elim
/-- the kind of a thing -/
def kindD (st : Sto) : D → Option String
  | .non => some "NoneType"
  | .bl _ => some "bool"
  | .int _ => some "int"
  | .str _ => some "str"
  | .tup _ => some "tuple"
  | .ref r => match rdL st r with
    | some _ => some "list"
    | none => none
  | .fn _ => none
  | .ty _ => none
  | .nam _ => none
def bType : List D → Sto → R D := fun ds st => match ds with
  | [d] => match kindD st d with
    | some n => .ok (.ty n) st
    | none => .no
  | _ => .no
theorem kind_is {pins : List (Addr × Obj)} {s : Shared} {σ : L2.St} {H : Hp} {α : List Addr} {st : Sto} {d : D} {v : V} {u : Value} {n : String} (I : Inv X pins σ H s) (S : SR X.K α st H) (r : RD X.K α H d v) (ru : RelV v u) (e : kindD st d = some n) : s.TypeIs u n := by
  cases d with
  | non => cases r; cases e; cases ru; rfl
  | bl b => cases r; cases e; cases ru; rfl
  | int i => cases r; cases e; obtain ⟨t, rfl⟩ := ru; rfl
  | str x => cases r; cases e; obtain ⟨t, rfl⟩ := ru; rfl
  | tup xs =>
    cases e
    obtain ⟨p, ws, rfl, t1, r1⟩ := r.tup_of
    cases ru
    obtain ⟨its, _, ⟨o, h1, h2, _⟩, _⟩ := I.tuple t1
    exact ⟨o, h1, h2⟩
  | ref q =>
    obtain ⟨p, rfl, a1⟩ := r.ref_of
    cases ru
    have e' : (match rdL st q with
      | some _ => some "list"
      | none => none) = some n := e
    split at e'
    · rename_i xs e1
      cases e'
      obtain ⟨ws, h0, r1⟩ := S.l e1 a1
      obtain ⟨its, _, ⟨o, _, h1, h2, _⟩, _⟩ := I.list h0
      exact ⟨o, h1, h2⟩
    · cases e'
  | fn a => cases e
  | ty m => cases e
  | nam x => cases e
theorem cd_type : CDs X (.type "type") bType := by
  intro pins s σ H vs us Q I rv h
  obtain ⟨α, st, ds, S, rd, h⟩ := h
  unfold bType at h
  split at h
  · rename_i d
    split at h
    · rename_i n e
      obtain ⟨v, rfl, r⟩ := rd.one
      obtain ⟨u, rfl, ru⟩ := vals1 rv
      have hn : n = "NoneType" ∨ n = "bool" ∨ n = "int" ∨ n = "str" ∨ n = "tuple" ∨ n = "list" := by
        cases d <;> simp [kindD] at e <;> first | (subst e; simp) | skip
        rename_i q
        revert e
        cases rdL st q <;> simp
        intro e; subst e; simp
      have fin : EP X pins σ Q (.type n) s := ⟨.ty n, H, I, rfl, Fin.here h S (.ty n)⟩
      have ty := kind_is I S r ru e
      rcases hn with rfl | rfl | rfl | rfl | rfl | rfl <;> exact call_type_of ty (by decide +kernel) fin
    · exact h.elim
  · exact h.elim
def bAbs : List D → Sto → R D := fun ds st => match ds with
  | [.int i] => .ok (.int (if i < 0 then -i else i)) st
  | _ => .no
theorem cd_abs : CDs X (.builtin "abs") bAbs := by
  intro pins s σ H vs us Q I rv h
  obtain ⟨α, st, ds, S, rd, h⟩ := h
  unfold bAbs at h
  split at h
  · obtain ⟨v, rfl, r⟩ := rd.one
    have e := r.int_of; subst e
    exact call_abs pins s σ H _ us Q I rv ⟨_, rfl, Fin.here h S (.int _)⟩
  · exact h.elim
def bInt : List D → Sto → R D := fun ds st => match ds with
  | [.int i] => .ok (.int i) st
  | [.bl b] => .ok (.int (if b then 1 else 0)) st
  | _ => .no
theorem cd_int : CDs X (.type "int") bInt := by
  intro pins s σ H vs us Q I rv h
  obtain ⟨α, st, ds, S, rd, h⟩ := h
  unfold bInt at h
  split at h
  · obtain ⟨v, rfl, r⟩ := rd.one
    have e := r.int_of; subst e
    exact call_int1 pins s σ H _ us Q I rv (.inl ⟨_, rfl, Fin.here h S (.int _)⟩)
  · obtain ⟨v, rfl, r⟩ := rd.one
    have e := r.bl_of; subst e
    exact call_int1 pins s σ H _ us Q I rv (.inr ⟨_, rfl, Fin.here h S (.int _)⟩)
  · exact h.elim
def bMax2 : List D → Sto → R D := fun ds st => match ds with
  | [.int i, .int j] => .ok (.int (if j > i then j else i)) st
  | _ => .no
def bMin2 : List D → Sto → R D := fun ds st => match ds with
  | [.int i, .int j] => .ok (.int (if j < i then j else i)) st
  | _ => .no
theorem cd_max2 (hc : X.calm = true) : CDs X (.builtin "max") bMax2 := by
  intro pins s σ H vs us Q I rv h
  obtain ⟨α, st, ds, S, rd, h⟩ := h
  unfold bMax2 at h
  split at h
  · obtain ⟨v, u, rfl, r, r'⟩ := rd.two
    have e := r.int_of; subst e
    have e := r'.int_of; subst e
    exact call_max2 hc pins s σ H _ us Q I rv ⟨_, _, rfl, Fin.here h S (.int _)⟩
  · exact h.elim
theorem cd_min2 (hc : X.calm = true) : CDs X (.builtin "min") bMin2 := by
  intro pins s σ H vs us Q I rv h
  obtain ⟨α, st, ds, S, rd, h⟩ := h
  unfold bMin2 at h
  split at h
  · obtain ⟨v, u, rfl, r, r'⟩ := rd.two
    have e := r.int_of; subst e
    have e := r'.int_of; subst e
    exact call_min2 hc pins s σ H _ us Q I rv ⟨_, _, rfl, Fin.here h S (.int _)⟩
  · exact h.elim
/-- the items of a list or a tuple -/
def itemsD (st : Sto) : D → Option (List D)
  | .tup xs => some xs
  | .ref r => rdL st r
  | _ => none
def bTuple : List D → Sto → R D := fun ds st => match ds with
  | [d] => match itemsD st d with
    | some xs => .ok (.tup xs) st
    | none => .no
  | _ => .no
def bList : List D → Sto → R D := fun ds st => match ds with
  | [d] => match itemsD st d with
    | some xs => .ok (.ref st.length) (st ++ [.lst xs])
    | none => .no
  | _ => .no
theorem items_of {K : PySem.W.Frag} {α : List Addr} {H : Hp} {st : Sto} {d : D} {v : V} {xs : List D} (S : SR K α st H) (r : RD K α H d v) (e : itemsD st d = some xs) :
    ∃ p vs, v = .ref p ∧ RDs K α H xs vs ∧ (SqL K H p vs ∨ (SqT K H p vs ∧ d = .tup xs)) := by
  cases d with
  | tup ys =>
    cases e
    obtain ⟨p, ws, rfl, t1, r1⟩ := r.tup_of
    exact ⟨p, ws, rfl, r1, .inr ⟨t1, rfl⟩⟩
  | ref q =>
    obtain ⟨p, rfl, a1⟩ := r.ref_of
    obtain ⟨ws, h0, r1⟩ := S.l e a1
    exact ⟨p, ws, rfl, r1, .inl h0⟩
  | _ => cases e
theorem cd_tuple : CDs X (.type "tuple") bTuple := by
  intro pins s σ H vs us Q I rv h
  obtain ⟨α, st, ds, S, rd, h⟩ := h
  unfold bTuple at h
  split at h
  · split at h
    · rename_i xs e
      obtain ⟨v, rfl, r⟩ := rd.one
      obtain ⟨p, ws, rfl, r1, hq⟩ := items_of S r e
      refine call_tuple_of pins s σ H _ us Q I rv ⟨p, ws, rfl, ?_⟩
      rcases hq with hq | ⟨hq, rfl⟩
      · exact .inl ⟨hq, fun l hl => Fin.tup h S r1 hl⟩
      · exact .inr ⟨hq, Fin.here h S r⟩
    · exact h.elim
  · exact h.elim
theorem cd_list : CDs X (.type "list") bList := by
  intro pins s σ H vs us Q I rv h
  obtain ⟨α, st, ds, S, rd, h⟩ := h
  unfold bList at h
  split at h
  · split at h
    · rename_i xs e
      obtain ⟨v, rfl, r⟩ := rd.one
      obtain ⟨p, ws, rfl, r1, hq⟩ := items_of S r e
      refine call_list_of pins s σ H _ us Q I rv ⟨p, ws, rfl, ?_, fun l hl => Fin.new h S r1 hl⟩
      rcases hq with hq | ⟨hq, _⟩
      · exact .inl hq
      · exact .inr hq
    · exact h.elim
  · exact h.elim
/-- bools of a list -/
def blsOf : List D → Option (List Bool)
  | [] => some []
  | .bl i :: r => (blsOf r).map (i :: ·)
  | _ :: _ => none
theorem blsOf_map : ∀ {ds : List D} {ns : List Bool}, blsOf ds = some ns → ds = ns.map D.bl
  | [], ns, h => by simp [blsOf] at h; subst h; rfl
  | d :: r, ns, h => by
    cases d <;> simp [blsOf] at h
    obtain ⟨ms, h1, h2⟩ := h
    subst h2
    rw [blsOf_map h1]; rfl
@[simp] theorem blsOf_bls : ∀ ns : List Bool, blsOf (ns.map D.bl) = some ns
  | [] => rfl
  | n :: ns => by simp [blsOf, blsOf_bls ns]
def bAll : List D → Sto → R D := fun ds st => match ds with
  | [.ref r] => match (rdL st r).bind blsOf with
    | some bs => .ok (.bl (bs.all id)) st
    | none => .no
  | _ => .no
def bAny : List D → Sto → R D := fun ds st => match ds with
  | [.ref r] => match (rdL st r).bind blsOf with
    | some bs => .ok (.bl (bs.any id)) st
    | none => .no
  | _ => .no
def bSum : List D → Sto → R D := fun ds st => match ds with
  | [.ref r] => match (rdL st r).bind intsOf with
    | some ns => .ok (.int ns.sum) st
    | none => .no
  | _ => .no
theorem cd_all (hc : X.calm = true) : CDs X (.builtin "all") bAll := by
  intro pins s σ H vs us Q I rv h
  obtain ⟨α, st, ds, S, rd, h⟩ := h
  unfold bAll at h
  split at h
  · split at h
    · rename_i bs e
      obtain ⟨xs, e1, e2⟩ := Option.bind_eq_some_iff.mp e
      obtain ⟨v, rfl, r⟩ := rd.one
      obtain ⟨p, rfl, a1⟩ := r.ref_of
      obtain ⟨ws, h0, r1⟩ := S.l e1 a1
      rw [blsOf_map e2] at r1
      rw [r1.toBls] at h0
      exact cr_all hc pins s σ H _ us Q I rv ⟨p, bs, rfl, h0, Fin.here h S (.bl _)⟩
    · exact h.elim
  · exact h.elim
theorem cd_any (hc : X.calm = true) : CDs X (.builtin "any") bAny := by
  intro pins s σ H vs us Q I rv h
  obtain ⟨α, st, ds, S, rd, h⟩ := h
  unfold bAny at h
  split at h
  · split at h
    · rename_i bs e
      obtain ⟨xs, e1, e2⟩ := Option.bind_eq_some_iff.mp e
      obtain ⟨v, rfl, r⟩ := rd.one
      obtain ⟨p, rfl, a1⟩ := r.ref_of
      obtain ⟨ws, h0, r1⟩ := S.l e1 a1
      rw [blsOf_map e2] at r1
      rw [r1.toBls] at h0
      exact cr_any hc pins s σ H _ us Q I rv ⟨p, bs, rfl, h0, Fin.here h S (.bl _)⟩
    · exact h.elim
  · exact h.elim
theorem cd_sum (hc : X.calm = true) : CDs X (.builtin "sum") bSum := by
  intro pins s σ H vs us Q I rv h
  obtain ⟨α, st, ds, S, rd, h⟩ := h
  unfold bSum at h
  split at h
  · split at h
    · rename_i bs e
      obtain ⟨xs, e1, e2⟩ := Option.bind_eq_some_iff.mp e
      obtain ⟨v, rfl, r⟩ := rd.one
      obtain ⟨p, rfl, a1⟩ := r.ref_of
      obtain ⟨ws, h0, r1⟩ := S.l e1 a1
      rw [intsOf_map e2] at r1
      rw [r1.toInts] at h0
      exact cr_sum hc pins s σ H _ us Q I rv ⟨p, bs, rfl, h0, Fin.here h S (.int _)⟩
    · exact h.elim
  · exact h.elim
end
end DL
set_option Elab.async false
set_option linter.all false
set_option maxRecDepth 100000
namespace DL
open PySem PySem.Spec PyProof.Rows L2

/-! ### statements -/
inductive RS where
  | nx (env : En) (st : Sto) | rt (d : D) (st : Sto) | bk (env : En) (st : Sto) | ct (env : En) (st : Sto) | ex (x : Ex) (env : En) (st : Sto) | no
def R.toS {β : Type} (r : R β) (env : En) (k : β → Sto → RS) : RS := match r with
  | .ok b st => k b st
  | .ex x st => .ex x env st
  | .no => .no
def GoS (K : PySem.W.Frag) (W : WX) (α : List Addr) (H : Hp) (Dn : Ends) : RS → Prop
  | .nx env st => ∀ α' σ' H', α <+: α' → Keep H H' → SR K α' st H' → ER K α' env σ' H' → Dn.nx σ' H'
  | .rt d st => ∀ α' H' v, α <+: α' → Keep H H' → SR K α' st H' → RD K α' H' d v → Dn.rt v H'
  | .bk env st => ∀ α' σ' H', α <+: α' → Keep H H' → SR K α' st H' → ER K α' env σ' H' → Dn.bk σ' H'
  | .ct env st => ∀ α' σ' H', α <+: α' → Keep H H' → SR K α' st H' → ER K α' env σ' H' → Dn.ct σ' H'
  | .ex x env st => ∀ α' σ' H' c dx, α <+: α' → Keep H H' → SR K α' st H' → ER K α' env σ' H' → RX K α' H' x c dx → W c dx σ' H'
  | .no => False
def tS (K : PySem.W.Frag) (W : WX) (m : En → Sto → RS) : TS := fun Dn σ H => ∃ α env st, ER K α env σ H ∧ SR K α st H ∧ GoS K W α H Dn (m env st)
abbrev DS (X : Cx) (W : WX) (s : Stmt) (m : En → Sto → RS) : Prop := PS X s (tS X.K W m)
abbrev DSs (X : Cx) (W : WX) (s : List Stmt) (m : En → Sto → RS) : Prop := PSs X s (tS X.K W m)
section
variable {K : PySem.W.Frag} {W : WX} {α : List Addr} {H : Hp} {σ : L2.St} {Dn : Ends}
theorem GoS.toGo {β : Type} {r : R β} {env : En} {k : β → Sto → RS} (h : GoS K W α H Dn (r.toS env k)) (e : ER K α env σ H) : Go K W α H σ r fun b st' α' H' => GoS K W α' H' Dn (k b st') := by
  cases r with
  | ok b st =>
    intro α' H' p q s
    have h' : GoS K W α H Dn (k b st) := h
    revert h'
    cases k b st with
    | nx env st => exact fun h a b c d e => h a b c (p.trans d) (q.trans e)
    | rt d st => exact fun h a b c d e => h a b c (p.trans d) (q.trans e)
    | bk env st => exact fun h a b c d e => h a b c (p.trans d) (q.trans e)
    | ct env st => exact fun h a b c d e => h a b c (p.trans d) (q.trans e)
    | ex x env st => exact fun h a b c x y d e => h a b c x y (p.trans d) (q.trans e)
    | no => exact fun h => h
  | ex x st => exact fun α' H' c dx p q s rx => h α' σ H' c dx p q s (e.mono p q) rx
  | no => exact h
/-- from further on -/
theorem GoS.on {r : RS} {α' : List Addr} {H' : Hp} (h : GoS K W α H Dn r) (p : α <+: α') (q : Keep H H') : GoS K W α' H' Dn r := by
  cases r with
  | nx env st => exact fun a b c d e => h a b c (p.trans d) (q.trans e)
  | rt d st => exact fun a b c d e => h a b c (p.trans d) (q.trans e)
  | bk env st => exact fun a b c d e => h a b c (p.trans d) (q.trans e)
  | ct env st => exact fun a b c d e => h a b c (p.trans d) (q.trans e)
  | ex x env st => exact fun a b c x y d e => h a b c x y (p.trans d) (q.trans e)
  | no => exact h
theorem Go.on {β : Type} {r : R β} {F : β → Sto → List Addr → Hp → Prop} {α' : List Addr} {H' : Hp} (h : Go K W α H σ r F) (p : α <+: α') (q : Keep H H') : Go K W α' H' σ r F := by
  cases r with
  | ok b st => exact fun a b d e => h a b (p.trans d) (q.trans e)
  | ex x st => exact fun a b x y d e => h a b x y (p.trans d) (q.trans e)
  | no => exact h
def RS.seq (r : RS) (k : En → Sto → RS) : RS := match r with
  | .nx env st => k env st
  | r => r
theorem GoS.seq {r : RS} {k : En → Sto → RS} (h : GoS K W α H Dn (r.seq k)) : GoS K W α H { Dn with nx := tS K W k Dn } r := by
  cases r with
  | nx env st =>
    intro α' σ' H' p q s e
    have h' : GoS K W α H Dn (k env st) := h
    exact ⟨α', env, st, e, s, h'.on p q⟩
  | rt d st => exact h
  | bk env st => exact h
  | ct env st => exact h
  | ex x env st => exact h
  | no => exact h
end

/-! ### targets -/
abbrev GT := D → En → Sto → Option (En × Sto)
def tG (K : PySem.W.Frag) (vs : List Nat) (g : GT) : TG := fun v σ H Q => ∃ α env st d, ER K α env σ H ∧ SR K α st H ∧ RD K α H d v ∧ match g d env st with
  | some (env', st') => ∀ α' σ' H', α <+: α' → Keep H H' → SR K α' st' H' → ER K α' env' σ' H' → (∀ ws : List Nat, (∀ i ∈ vs, i ∈ ws) → wipe σ' ws = wipe σ ws) → Q σ' H'
  | none => False
def tGs (K : PySem.W.Frag) (vs : List Nat) (g : List D → En → Sto → Option (En × Sto)) : TGs := fun us σ H Q => ∃ α env st ds, ER K α env σ H ∧ SR K α st H ∧ RDs K α H ds us ∧ match g ds env st with
  | some (env', st') => ∀ α' σ' H', α <+: α' → Keep H H' → SR K α' st' H' → ER K α' env' σ' H' → (∀ ws : List Nat, (∀ i ∈ vs, i ∈ ws) → wipe σ' ws = wipe σ ws) → Q σ' H'
  | none => False
abbrev DG (X : Cx) (e : Expr) (vs : List Nat) (g : GT) : Prop := PG X e (tG X.K vs g)
abbrev DGs (X : Cx) (es : List Expr) (vs : List Nat) (g : List D → En → Sto → Option (En × Sto)) : Prop := PGs X es (tGs X.K vs g)
theorem PG.weak {X : Cx} {e : Expr} {t t' : TG} (h : PG X e t) (f : ∀ v σ H Q, t' v σ H Q → t v σ H Q) : PG X e t' := ⟨fun pins s σ H v u Q I r hw => h.run pins s σ H v u Q I r (f v σ H Q hw)⟩
theorem PGs.weak {X : Cx} {e : List Expr} {t t' : TGs} (h : PGs X e t) (f : ∀ v σ H Q, t' v σ H Q → t v σ H Q) : PGs X e t' := ⟨fun pins s σ H v u Q I r hw => h.run pins s σ H v u Q I r (f v σ H Q hw)⟩
theorem wipe_set {σ : L2.St} {i : Nat} {x : Option V} : ∀ {ws : List Nat}, i ∈ ws → wipe (σ.set i x) ws = wipe σ ws
  | [], h => by cases h
  | w :: ws, h => by
    unfold wipe
    by_cases e : i ∈ ws
    · rw [wipe_set e]
    · have ew : i = w := by
        rcases List.mem_cons.mp h with h | h
        · exact h
        · exact absurd h e
      subst ew
      have : ∀ (l : List Nat), i ∉ l → wipe (σ.set i x) l = (wipe σ l).set i x := by
        intro l
        induction l with
        | nil => intro _; rfl
        | cons y l ih =>
          intro hn
          unfold wipe
          rw [ih (fun z => hn (List.mem_cons_of_mem _ z)), List.set_comm _ _ (fun z => hn (by rw [z]; exact List.mem_cons_self))]
      rw [this ws e, List.set_set]
theorem ER.set {K : PySem.W.Frag} {α : List Addr} {env : En} {σ : L2.St} {H : Hp} {i : Nat} {d : D} {v : V} (h : ER K α env σ H) (r : RD K α H d v) : ER K α (env.set i (some d)) (σ.set i (some v)) H := by
  refine ⟨by simp [h.1], fun j d' e => ?_⟩
  by_cases hj : i = j
  · subst hj
    by_cases hl : i < env.length
    · rw [List.getElem?_set_self hl] at e
      cases e
      exact ⟨v, List.getElem?_set_self (by rw [← h.1]; exact hl), r⟩
    · rw [List.getElem?_eq_none (by simpa using hl)] at e
      cases e
  · rw [List.getElem?_set_ne hj] at e ⊢
    exact h.2 j d' e
def gN (i : Nat) : GT := fun d env st => some (env.set i (some d), st)
section
variable {X : Cx} {W : WX} {pos : Pos}
theorem dg_name {i : Nat} {x : Str} (hN : X.N.Nodup) (hi : X.N[i]? = some x) (hx : Loc X.env.scope x) (hf : X.fn x = true ∨ X.env.scope.names.lookup x = some .local := by first | exact .inl rfl | exact .inr rfl | assumption) : DG X (.Name x pos) [i] (gN i) := by
  refine PG.weak (pg_name hN hi hx hf) fun v σ H Q h => ?_
  obtain ⟨α, env, st, d, hE, hS, r, h⟩ := h
  exact h α _ H (List.prefix_refl _) (Keep.refl _) hS (hE.set r) fun ws hw => wipe_set (hw i List.mem_cons_self)
def gsNil : List D → En → Sto → Option (En × Sto) := fun ds env st => match ds with
  | [] => some (env, st)
  | _ => none
def gsCons (g : GT) (gs : List D → En → Sto → Option (En × Sto)) : List D → En → Sto → Option (En × Sto) := fun ds env st => match ds with
  | d :: r => match g d env st with
    | some (env', st') => gs r env' st'
    | none => none
  | [] => none
theorem dgs_nil : DGs X [] [] gsNil := by
  refine PGs.weak pgs_nil fun v σ H Q h => ?_
  obtain ⟨α, env, st, ds, hE, hS, r, h⟩ := h
  unfold gsNil at h
  cases r with
  | nil => exact ⟨rfl, h α σ H (List.prefix_refl _) (Keep.refl _) hS hE fun _ _ => rfl⟩
  | cons a b => exact h.elim
theorem dgs_cons {e : Expr} {es : List Expr} {vs ws : List Nat} {g : GT} {gs : List D → En → Sto → Option (En × Sto)} (h1 : DG X e vs g) (h2 : DGs X es ws gs) (hs : (assignEach (e :: es) X.env).map (·.2) = assign e X.env :: (assignEach es X.env).map (·.2) := by rfl) :
    DGs X (e :: es) (vs ++ ws) (gsCons g gs) := by
  refine PGs.weak (pgs_cons h1 h2 hs) fun us σ H Q h => ?_
  obtain ⟨α, env, st, ds, hE, hS, r, h⟩ := h
  unfold gsCons at h
  cases r with
  | nil => exact h.elim
  | cons a b =>
    rename_i d u ds us
    refine ⟨u, us, rfl, α, env, st, d, hE, hS, a, ?_⟩
    have hh : (match (match g d env st with
      | some (env', st') => gs ds env' st'
      | none => none) with
      | some (env', st') => ∀ α' σ' H', α <+: α' → Keep H H' → SR X.K α' st' H' → ER X.K α' env' σ' H' → (∀ zs : List Nat, (∀ i ∈ vs ++ ws, i ∈ zs) → wipe σ' zs = wipe σ zs) → Q σ' H'
      | none => False) := h
    clear h
    show match g d env st with
      | some (env', st') => _
      | none => False
    cases q : g d env st with
    | none => rw [q] at hh; exact hh.elim
    | some p =>
      obtain ⟨env1, st1⟩ := p
      rw [q] at hh
      have h := hh
      clear hh
      intro α1 σ1 H1 p1 k1 s1 e1 w1
      refine ⟨α1, env1, st1, ds, e1, s1, b.mono p1 k1, ?_⟩
      revert h
      show (match gs ds env1 st1 with | some (env', st') => _ | none => False) → _
      cases gs ds env1 st1 with
      | none => exact fun h => h
      | some p2 =>
        exact fun h α' σ' H' p k s e w => h α' σ' H' (p1.trans p) (k1.trans k) s e fun zs hz => (w zs fun i hi => hz i (List.mem_append_right _ hi)).trans (w1 zs fun i hi => hz i (List.mem_append_left _ hi))
def gTup (gs : List D → En → Sto → Option (En × Sto)) (n : Nat) : GT := fun d env st => match d with
  | .tup xs => if xs.length = n then gs xs env st else none
  | _ => none
theorem dg_tup {es : List Expr} {k : Nat} {vs : List Nat} {gs : List D → En → Sto → Option (En × Sto)} {n : Nat} (hc : X.calm = true) (h : DGs X es vs gs)
    (hn : (assignEach es X.env).length = n := by rfl) (hst : (assignEach es X.env).findIdx? (·.1) = none := by rfl) : DG X (.Tuple es k pos) vs (gTup gs n) := by
  refine PG.weak (pg_tup hc h hn hst) fun v σ H Q h => ?_
  obtain ⟨α, env, st, d, hE, hS, r, h⟩ := h
  unfold gTup at h
  cases d with
  | tup xs =>
    obtain ⟨a, us, rfl, t1, r1⟩ := r.tup_of
    by_cases hl : xs.length = n
    · simp only [hl, if_true] at h
      exact ⟨a, us, rfl, t1, by rw [← r1.len]; exact hl, α, env, st, xs, hE, hS, r1, h⟩
    · simp only [hl, if_false] at h
  | _ => exact h.elim
def gSet (mo mi : En → Sto → R D) : GT := fun d env st => match mo env st with
  | .ok (.ref r) st1 => match mi env st1 with
    | .ok (.int k) st2 => match rdW st2 r with
      | some xs => match ixN xs.length k with
        | some j => some (env, st2.set r (.lst (xs.set j d)))
        | none => none
      | none => none
    | _ => none
  | _ => none
theorem dg_set {o i : Expr} {mo mi : En → Sto → R D} (ho : DE X W o mo) (hi : DE X W i mi)
    (ha : ∀ v, assign (.Subscript o i pos) X.env v = (do
      let ov ← holding [v] (eval o X.env)
      let iv ← holding [v, ov] (eval i X.env)
      standAt pos
      holding [v, ov, iv] (setItem ov iv v)
      release [v, ov, iv] []) := by intro _; rfl) : DG X (.Subscript o i pos) [] (gSet mo mi) := by
  refine PG.weak (pg_sub ho hi set_list ha) fun v σ H Q h => ?_
  obtain ⟨α, env, st, d, hE, hS, r, h⟩ := h
  unfold gSet at h
  refine ⟨α, env, st, hE, hS, ?_⟩
  cases q1 : mo env st with
  | no => rw [q1] at h; exact h.elim
  | ex x st1 => rw [q1] at h; exact h.elim
  | ok o1 st1 =>
    rw [q1] at h
    try dsimp only at h
    cases o1 with
    | ref n =>
      try dsimp only at h
      intro α1 H1 p1 k1 s1 w rw1
      refine ⟨α1, env, st1, hE.mono p1 k1, s1, ?_⟩
      cases q2 : mi env st1 with
      | no => rw [q2] at h; try dsimp only at h
      | ex x st1 => rw [q2] at h; try dsimp only at h
      | ok o2 st2 =>
        rw [q2] at h
        try dsimp only at h
        cases o2 with
        | int kk =>
          try dsimp only at h
          intro α2 H2 p2 k2 s2 w2 rw2
          cases q3 : rdW st2 n with
          | none => rw [q3] at h; try dsimp only at h
          | some xs =>
            rw [q3] at h
            try dsimp only at h
            cases q4 : ixN xs.length kk with
            | none => simp only [q4] at h
            | some j =>
              simp only [q4] at h
              obtain ⟨a, rfl, a1⟩ := (rw1.mono p2 k2).ref_of
              have e2 := rw2.int_of; subst e2
              obtain ⟨c1, us, hu, ru⟩ := s2.w q3 a1
              have rd := (r.mono p1 k1).mono p2 k2
              have rr := ru.set rd j
              refine ⟨a, us, kk, j, rfl, rfl, hu, by rw [← ru.len]; exact q4, ?_⟩
              have kk2 : Keep H2 (upd H2 a (.lst (us.set j v))) := Keep.lst hu
              exact h α2 σ _ (p1.trans p2) ((k1.trans k2).trans kk2) (s2.put c1 a1 rr) (((hE.mono p1 k1).mono p2 k2).mono (List.prefix_refl _) kk2) fun _ _ => rfl
        | _ => exact h.elim
    | _ => exact h.elim

/-! ### small statements, blocks -/
def sNil (env : En) (st : Sto) : RS := .nx env st
def sSeq (a b : En → Sto → RS) (env : En) (st : Sto) : RS := (a env st).seq b
variable {s : Stmt} {rest : List Stmt} {ms mr : En → Sto → RS} {e : Expr} {me : En → Sto → R D}
theorem dss_nil : DSs X W [] sNil := by
  refine PSs.weak pss_nil fun Dn σ H h => ?_
  obtain ⟨α, env, st, hE, hS, h⟩ := h
  exact h α σ H (List.prefix_refl _) (Keep.refl _) hS hE
theorem dss_cons (h1 : DS X W s ms) (h2 : DSs X W rest mr) : DSs X W (s :: rest) (sSeq ms mr) := by
  refine PSs.weak (pss_cons h1 h2) fun Dn σ H h => ?_
  obtain ⟨α, env, st, hE, hS, h⟩ := h
  exact ⟨α, env, st, hE, hS, GoS.seq h⟩
theorem dss_one (h1 : DS X W s ms) : DSs X W [s] ms := pss_one h1
def sNo (_ : En) (_ : Sto) : RS := .no
theorem ds_never : DS X W s sNo := PS.weak ps_never fun _ _ _ ⟨_, _, _, _, _, h⟩ => h.elim
theorem dss_never : DSs X W rest sNo := PSs.weak pss_never fun _ _ _ ⟨_, _, _, _, _, h⟩ => h.elim
theorem ds_pass : DS X W (.Pass pos) sNil := by
  refine PS.weak ps_pass fun Dn σ H h => ?_
  obtain ⟨α, env, st, hE, hS, h⟩ := h
  exact h α σ H (List.prefix_refl _) (Keep.refl _) hS hE
def sBreak (env : En) (st : Sto) : RS := .bk env st
theorem ds_break : DS X W (.Break pos) sBreak := by
  refine PS.weak ps_break fun Dn σ H h => ?_
  obtain ⟨α, env, st, hE, hS, h⟩ := h
  exact h α σ H (List.prefix_refl _) (Keep.refl _) hS hE
theorem ds_doc {x : Str} {j : Nat} {pos' : Pos} : DS X W (.Expr (.Constant (.str x) j pos) pos') sNil := by
  refine PS.weak ps_doc fun Dn σ H h => ?_
  obtain ⟨α, env, st, hE, hS, h⟩ := h
  exact h α σ H (List.prefix_refl _) (Keep.refl _) hS hE
def sExpr (m : En → Sto → R D) (env : En) (st : Sto) : RS := (m env st).toS env fun _ st1 => .nx env st1
theorem ds_expr (he : DE X W e me) (hs : swapsWith e none pos.line X.env = pure false := by rfl) : DS X W (.Expr e pos) (sExpr me) := by
  refine PS.weak (ps_expr he hs) fun Dn σ H h => ?_
  obtain ⟨α, env, st, hE, hS, h⟩ := h
  refine ⟨α, env, st, hE, hS, (h.toGo hE).mono fun d st1 α1 H1 p1 k1 s1 h1 v rv => ?_⟩
  exact h1 α1 σ H1 (List.prefix_refl _) (Keep.refl _) s1 (hE.mono p1 k1)
def sRet (m : En → Sto → R D) (env : En) (st : Sto) : RS := (m env st).toS env fun d st1 => .rt d st1
theorem ds_ret (he : DE X W e me) : DS X W (.Return (some e) pos) (sRet me) := by
  refine PS.weak (ps_ret he) fun Dn σ H h => ?_
  obtain ⟨α, env, st, hE, hS, h⟩ := h
  refine ⟨α, env, st, hE, hS, (h.toGo hE).mono fun d st1 α1 H1 p1 k1 s1 h1 v rv => ?_⟩
  exact h1 α1 H1 v (List.prefix_refl _) (Keep.refl _) s1 rv
def sRetN (env : En) (st : Sto) : RS := .rt .non st
theorem ds_retN : DS X W (.Return none pos) sRetN := by
  refine PS.weak ps_retN fun Dn σ H h => ?_
  obtain ⟨α, env, st, hE, hS, h⟩ := h
  exact h α H .non (List.prefix_refl _) (Keep.refl _) hS .non
def sIf (mc : En → Sto → R Bool) (a b : En → Sto → RS) (env : En) (st : Sto) : RS := (mc env st).toS env fun x st1 => if x = true then a env st1 else b env st1
theorem ds_if {c : Expr} {a b : List Stmt} {mc : En → Sto → R Bool} {ma mb : En → Sto → RS} (hc : DT X W c mc) (ha : DSs X W a ma) (hb : DSs X W b mb) : DS X W (.If c a b pos) (sIf mc ma mb) := by
  refine PS.weak (ps_if hc ha hb) fun Dn σ H h => ?_
  obtain ⟨α, env, st, hE, hS, h⟩ := h
  refine ⟨α, env, st, hE, hS, (h.toGo hE).mono fun x st1 α1 H1 p1 k1 s1 h1 => ?_⟩
  cases x with
  | true => rw [if_pos rfl] at h1 ⊢; exact ⟨α1, env, st1, hE.mono p1 k1, s1, h1⟩
  | false => rw [if_neg Bool.false_ne_true] at h1 ⊢; exact ⟨α1, env, st1, hE.mono p1 k1, s1, h1⟩
def sAsg (m : En → Sto → R D) (g : GT) (env : En) (st : Sto) : RS := (m env st).toS env fun d st1 => match g d env st1 with
  | some (env', st') => .nx env' st'
  | none => .no
theorem asg_of {K : PySem.W.Frag} {m : En → Sto → R D} {g : GT} {vs : List Nat} {Dn : Ends} {σ : L2.St} {H : Hp} (h : tS K W (sAsg m g) Dn σ H) : tAsg (tE K W m) (tG K vs g) Dn σ H := by
  obtain ⟨α, env, st, hE, hS, h⟩ := h
  refine ⟨α, env, st, hE, hS, (h.toGo hE).mono fun d st1 α1 H1 p1 k1 s1 h1 v rv => ?_⟩
  refine ⟨α1, env, st1, d, hE.mono p1 k1, s1, rv, ?_⟩
  revert h1
  cases g d env st1 with
  | none => exact fun h => h
  | some p => exact fun h1 α' σ' H' p k s e _ => h1 α' σ' H' p k s e
theorem ds_asg {tg : Expr} {vs : List Nat} {g : GT} (he : DE X W e me) (hg : DG X tg vs g) (hs : swapsWithSole [tg] e pos.line X.env = pure false := by rfl) (hw : swappedStores [tg] e X.env = pure none := by rfl)
    (h1 : (assignEach [tg] X.env).map (·.2) = [assign tg X.env] := by rfl) : DS X W (.Assign [tg] e pos) (sAsg me g) := PS.weak (ps_asg he hg hs hw h1) fun _ _ _ => asg_of
theorem ds_set {i : Nat} {x : Str} {pos' : Pos} (hN : X.N.Nodup) (hi : X.N[i]? = some x) (hx : Loc X.env.scope x) (he : DE X W e me) (hs : swapsWith e (some (.Name x pos')) pos.line X.env = pure false := by rfl) (hf : X.fn x = true ∨ X.env.scope.names.lookup x = some .local := by first | exact .inl rfl | exact .inr rfl | assumption) :
    DS X W (.Assign [.Name x pos'] e pos) (sAsg me (gN i)) := by
  refine PS.weak (ps_set hN hi hx he hs hf) fun Dn σ H h => ?_
  obtain ⟨α, env, st, hE, hS, h⟩ := h
  refine ⟨α, env, st, hE, hS, (h.toGo hE).mono fun d st1 α1 H1 p1 k1 s1 h1 v rv => ?_⟩
  exact h1 α1 _ H1 (List.prefix_refl _) (Keep.refl _) s1 ((hE.mono p1 k1).set rv)
/-- a, b = x, y -/
def sPar (i j : Nat) (mr : En → Sto → R (List D)) (env : En) (st : Sto) : RS := (mr env st).toS env fun ds st1 => match ds with
  | [d, d'] => .nx ((env.set i (some d)).set j (some d')) st1
  | _ => .no
theorem ds_par {i j : Nat} {x y : Str} {a b : Expr} {mr : En → Sto → R (List D)} {px py pt : Pos} {kt k2 : Nat} {pt2 : Pos} (hc : X.calm = true) (hN : X.N.Nodup) (hi : X.N[i]? = some x) (hj : X.N[j]? = some y) (hij : i ≠ j)
    (hx : X.env.scope.names.lookup x = some .local) (hy : X.env.scope.names.lookup y = some .local) (ha : DA X W [a, b] mr)
    (hw : swappedStores [.Tuple [.Name x px, .Name y py] kt pt] (.Tuple [a, b] k2 pt2) X.env = pure (some [x, y]))
    (hs : swapsWithSole [.Tuple [.Name x px, .Name y py] kt pt] (.Tuple [a, b] k2 pt2) pos.line X.env = pure false := by rfl) :
    DS X W (.Assign [.Tuple [.Name x px, .Name y py] kt pt] (.Tuple [a, b] k2 pt2) pos) (sPar i j mr) := by
  refine PS.weak (ps_par hc hN hi hj hij hx hy ha hw hs) fun Dn σ H h => ?_
  obtain ⟨α, env, st, hE, hS, h⟩ := h
  refine ⟨α, env, st, hE, hS, (h.toGo hE).mono fun ds st1 α1 H1 p1 k1 s1 h1 vs rv => ?_⟩
  split at h1
  · obtain ⟨v, u, rfl, r1, r2⟩ := rv.two
    exact ⟨v, u, rfl, h1 α1 _ H1 (List.prefix_refl _) (Keep.refl _) s1 (((hE.mono p1 k1).set r1).set r2)⟩
  · exact h1.elim
/-- x op= e -/
def sAug (i : Nat) (m : En → Sto → R D) (f : O2) (env : En) (st : Sto) : RS := match env[i]? with
  | some (some x) => (m env st).toS env fun y st1 => (noEx (f x y st1)).toS env fun z st2 => .nx (env.set i (some z)) st2
  | _ => .no
theorem ds_aug {i : Nat} {x : Str} {op : Operator} {f : O2} {pos' : Pos} (hN : X.N.Nodup) (hi : X.N[i]? = some x) (hx : Loc X.env.scope x) (he : DE X W e me) (ho : PIp X op (rD2 X.K f)) (hf : X.fn x = true ∨ X.env.scope.names.lookup x = some .local := by first | exact .inl rfl | exact .inr rfl | assumption) :
    DS X W (.AugAssign (.Name x pos') op e pos) (sAug i me f) := by
  refine PS.weak (ps_aug hN hi hx he ho hf) fun Dn σ H h => ?_
  obtain ⟨α, env, st, hE, hS, h⟩ := h
  unfold sAug at h
  split at h
  · rename_i x0 e0
    obtain ⟨v0, g1, g2⟩ := hE.2 i x0 e0
    refine ⟨v0, g1, α, env, st, hE, hS, (h.toGo hE).mono fun d st1 α1 H1 p1 k1 s1 h1 v rv => ?_⟩
    refine ⟨α1, st1, x0, d, s1, g2.mono p1 k1, rv, (h1.toGo (hE.mono p1 k1)).rw.mono fun z st2 q α2 H2 w p2 k2 s2 rw => ?_⟩
    exact q α2 H2 p2 k2 s2 α2 _ H2 (List.prefix_refl _) (Keep.refl _) s2 (((hE.mono p1 k1).mono p2 k2).set rw)
  · exact h.elim
end
end DL
set_option Elab.async false
set_option linter.all false
set_option maxRecDepth 100000
namespace DL
open PySem PySem.Spec PyProof.Rows L2

/-! ### what is walked -/
/-- the store still has these items at the number -/
def gOk (ds : List D) (g : Option Nat) (st : Sto) : Prop := match g with
  | none => True
  | some r => rdL st r = some ds
structure WalkD (K : PySem.W.Frag) (J : It) (α : List Addr) (H : Hp) (ds : List D) (g : Option Nat) : Prop where
  ex : ∃ (G : Hp → Prop) (Y : Nat → Hp → V → Hp → Prop), Walk J ds.length G Y ∧
    (∀ α' st' H', α <+: α' → Keep H H' → SR K α' st' H' → gOk ds g st' → G H') ∧
    (∀ i H1 x H2 α' st', α <+: α' → Keep H H1 → SR K α' st' H1 → gOk ds g st' → i < ds.length → Y i H1 x H2 → Keep H1 H2 ∧ SR K α' st' H2 ∧ ∃ d, ds[i]? = some d ∧ RD K α' H2 d x)
abbrev MI := En → Sto → R (List D × Option Nat)
def tI (K : PySem.W.Frag) (W : WX) (m : MI) : TI := fun σ H Rr => ∃ α env st, ER K α env σ H ∧ SR K α st H ∧ Go K W α H σ (m env st) fun p st' α' H' => ∀ J, WalkD K J α' H' p.1 p.2 → Rr J H'
abbrev DI (X : Cx) (W : WX) (tg iter : Expr) (m : MI) : Prop := PI X tg iter (tI X.K W m)
theorem PI.weak {X : Cx} {tg e : Expr} {t t' : TI} (h : PI X tg e t) (f : ∀ σ H Rr, t' σ H Rr → t σ H Rr) : PI X tg e t' := ⟨fun pins s σ H Rr I hw => h.run pins s σ H Rr I (f σ H Rr hw)⟩
theorem PI.either {X : Cx} {tg e : Expr} {t t' : TI} (h : PI X tg e t) (h' : PI X tg e t') : PI X tg e (fun σ H Rr => t σ H Rr ∨ t' σ H Rr) := ⟨fun pins s σ H Rr I hw => hw.elim (h.run pins s σ H Rr I) (h'.run pins s σ H Rr I)⟩
section
variable {X : Cx} {W : WX} {pos : Pos} {e : Expr} {me : En → Sto → R D} {tg : Expr}
/-- over a list or a tuple -/
def iVal (m : En → Sto → R D) : MI := fun env st => (m env st).bind fun d st1 => match d with
  | .tup xs => .ok (xs, none) st1
  | .ref r => match rdL st1 r with
    | some xs => .ok (xs, some r) st1
    | none => .no
  | _ => .no
theorem walkD_list {K : PySem.W.Frag} {α : List Addr} {H : Hp} {st : Sto} {r : Nat} {a : Addr} {xs : List D} {vs : List V} (ea : α[r]? = some a) (hl : xs.length = vs.length) (h0 : SqL K H a vs) (hr : RDs K α H xs vs) (S : SR K α st H) (e1 : rdL st r = some xs) : WalkD K (Itl K a) α H xs (some r) := by
  refine ⟨fun H' => ∃ ws, SqL K H' a ws ∧ ws.length = xs.length, fun i H1 x H2 => H2 = H1 ∧ ∀ ws, SqL K H1 a ws → ws[i]? = some x, ⟨fun i H' hi q => ?_, fun H' q => ?_, fun i H1 x H2 hi q y => y⟩, fun α' st' H' p k s g => ?_, fun i H1 x H2 α' st' p k s g hi y => ?_⟩
  · obtain ⟨ws, q1, q2⟩ := q
    exact ⟨ws, ws[i]'(by omega), q1, by simp⟩
  · obtain ⟨ws, q1, q2⟩ := q
    exact ⟨ws, q1, by omega⟩
  · obtain ⟨ws, q1, q2⟩ := s.l g (get_pre p ea)
    exact ⟨ws, q1, q2.len.symm⟩
  · obtain ⟨rfl, y⟩ := y
    obtain ⟨ws, q1, q2⟩ := s.l g (get_pre p ea)
    obtain ⟨d, g1, g2⟩ := q2.get (y ws q1)
    exact ⟨Keep.refl _, s, d, g1, g2⟩
theorem walkD_tup {K : PySem.W.Frag} {α : List Addr} {H : Hp} {a : Addr} {xs : List D} {vs : List V} (h0 : SqT K H a vs) (hr : RDs K α H xs vs) : WalkD K (Itt K a) α H xs none := by
  refine ⟨fun H' => SqT K H' a vs, fun i H1 x H2 => H2 = H1 ∧ vs[i]? = some x, ⟨fun i H' hi q => ?_, fun H' q => ?_, fun i H1 x H2 hi q y => ?_⟩, fun α' st' H' p k s g => k.sqT h0, fun i H1 x H2 α' st' p k s g hi y => ?_⟩
  · have hl := hr.len
    exact ⟨vs, vs[i]'(by omega), q, by simp⟩
  · exact ⟨vs, q, by rw [hr.len]; exact Nat.le_refl _⟩
  · exact ⟨y.1, y.2 vs q⟩
  · obtain ⟨rfl, y⟩ := y
    obtain ⟨d, g1, g2⟩ := hr.get y
    exact ⟨Keep.refl _, s, d, g1, g2.mono p k⟩
theorem di_val (he : DE X W e me) : DI X W tg e (iVal me) := by
  refine PI.weak (PI.either (pi_list he) (pi_tup he)) fun σ H Rr h => ?_
  obtain ⟨α, env, st, hE, hS, h⟩ := h
  unfold iVal at h
  cases q : me env st with
  | no => rw [q] at h; exact h.elim
  | ex x st1 =>
    refine .inl ⟨α, env, st, hE, hS, ?_⟩
    rw [q] at h ⊢
    exact h
  | ok d st1 =>
    have h' := h.bind
    clear h
    have key : Go X.K W α H σ (me env st) fun b st α' H' => Go X.K W α' H' σ (match b with
      | .tup xs => .ok (xs, none) st
      | .ref r => match rdL st r with
        | some xs => .ok (xs, some r) st
        | none => .no
      | _ => .no) fun p st' α' H' => ∀ J, WalkD X.K J α' H' p.1 p.2 → Rr J H' := h'
    cases d with
    | tup xs =>
      refine .inr ⟨α, env, st, hE, hS, ?_⟩
      rw [q] at key ⊢
      intro α1 H1 p1 k1 s1 v rv
      obtain ⟨a, vs, rfl, t1, r1⟩ := rv.tup_of
      exact ⟨a, rfl, ⟨vs, t1⟩, (key α1 H1 p1 k1 s1).here s1 _ (walkD_tup t1 r1)⟩
    | ref r =>
      refine .inl ⟨α, env, st, hE, hS, ?_⟩
      rw [q] at key ⊢
      intro α1 H1 p1 k1 s1 v rv
      obtain ⟨a, rfl, ea⟩ := rv.ref_of
      have kk := key α1 H1 p1 k1 s1
      dsimp only at kk
      cases q2 : rdL st1 r with
      | none => rw [q2] at kk; exact kk.elim
      | some xs =>
        rw [q2] at kk
        obtain ⟨vs, h0, hr⟩ := s1.l q2 ea
        exact ⟨a, rfl, ⟨vs, h0⟩, kk.here s1 _ (walkD_list ea hr.len h0 hr s1 q2)⟩
    | _ =>
      refine .inl ⟨α, env, st, hE, hS, ?_⟩
      rw [q] at key ⊢
      exact fun α1 H1 p1 k1 s1 v rv => (key α1 H1 p1 k1 s1).elim
def rngD (lo : Int) (n : Nat) : List D := (List.range n).map fun i => D.int (lo + (i : Nat))
theorem walkD_range {K : PySem.W.Frag} {α : List Addr} {H : Hp} {lo : Int} {n : Nat} : WalkD K (Itr lo n) α H (rngD lo n) none := by
  have hl : (rngD lo n).length = n := by simp [rngD]
  refine ⟨fun _ => True, fun i H1 x H2 => H2 = H1 ∧ x = .int (lo + (i : Nat)), ⟨fun i H' hi _ => by rw [hl] at hi; exact hi, fun H' _ => by rw [hl]; exact Nat.le_refl _, fun i H1 x H2 hi _ y => y⟩, fun _ _ _ _ _ _ _ => trivial, fun i H1 x H2 α' st' p k s g hi y => ?_⟩
  obtain ⟨rfl, rfl⟩ := y
  rw [hl] at hi
  exact ⟨Keep.refl _, s, .int (lo + (i : Nat)), by simp [rngD, hi], .int _⟩
def Mid (i : Int) : Prop := -(2 ^ 62) ≤ i ∧ i < 2 ^ 62
noncomputable instance (i : Int) : Decidable (Mid i) := Classical.propDecidable _
noncomputable def iRng1 (mr : En → Sto → R (List D)) : MI := fun env st => (mr env st).bind fun ds st1 => match ds with
  | [.int j] => if Mid j then .ok (rngD 0 j.toNat, none) st1 else .no
  | _ => .no
noncomputable def iRng2 (mr : En → Sto → R (List D)) : MI := fun env st => (mr env st).bind fun ds st1 => match ds with
  | [.int i, .int j] => if Mid i ∧ Mid j then .ok (rngD i (j - i).toNat, none) st1 else .no
  | _ => .no
theorem di_rng1 {a : Expr} {mr : En → Sto → R (List D)} {p : Pos} (hg : Gl X "range") (hm : X.mg "range" = none) (ha : DA X W [a] mr) (hs : starEach [a] X.env = [(false, eval a X.env)] := by rfl) : DI X W tg (.Call (.Name "range" p) [a] [] pos) (iRng1 mr) := by
  refine PI.weak (pi_range1 hg hm ha hs) fun σ H Rr h => ?_
  obtain ⟨α, env, st, hE, hS, h⟩ := h
  refine ⟨α, env, st, hE, hS, h.bind.mono fun ds st1 α1 H1 p1 k1 s1 h1 vs rvs => ?_⟩
  split at h1
  · split at h1
    · rename_i hm
      obtain ⟨v, rfl, r⟩ := rvs.one
      exact ⟨_, by rw [r.int_of], hm.1, hm.2, h1.here s1 _ walkD_range⟩
    · exact h1.elim
  · exact h1.elim
theorem di_rng2 {a b : Expr} {mr : En → Sto → R (List D)} {p : Pos} (hg : Gl X "range") (hm : X.mg "range" = none) (ha : DA X W [a, b] mr) (hs : starEach [a, b] X.env = [(false, eval a X.env), (false, eval b X.env)] := by rfl) (hs2 : starEach [b] X.env = [(false, eval b X.env)] := by rfl) :
    DI X W tg (.Call (.Name "range" p) [a, b] [] pos) (iRng2 mr) := by
  refine PI.weak (pi_range2 hg hm ha hs hs2) fun σ H Rr h => ?_
  obtain ⟨α, env, st, hE, hS, h⟩ := h
  refine ⟨α, env, st, hE, hS, h.bind.mono fun ds st1 α1 H1 p1 k1 s1 h1 vs rvs => ?_⟩
  split at h1
  · split at h1
    · rename_i hm
      obtain ⟨v, u, rfl, r, r'⟩ := rvs.two
      exact ⟨_, _, by rw [r.int_of, r'.int_of], ⟨hm.1.1, hm.1.2, hm.2.1, hm.2.2⟩, h1.here s1 _ walkD_range⟩
    · exact h1.elim
  · exact h1.elim

/-! ### for -/
open Classical in
noncomputable def loopS (ds0 : List D) (gd : Option Nat) (g : GT) (mb : En → Sto → RS) : List D → En → Sto → RS
  | [], env, st => if gOk ds0 gd st then .nx env st else .no
  | d :: r, env, st => if gOk ds0 gd st then (match g d env st with
      | none => .no
      | some (env1, st1) => match mb env1 st1 with
        | .nx env2 st2 => loopS ds0 gd g mb r env2 st2
        | .ct env2 st2 => loopS ds0 gd g mb r env2 st2
        | .bk env2 st2 => .nx env2 st2
        | .rt d st => .rt d st
        | .ex x env st => .ex x env st
        | .no => .no) else .no
noncomputable def sFor (mi : MI) (g : GT) (mb : En → Sto → RS) (env : En) (st : Sto) : RS := (mi env st).toS env fun p st1 => loopS p.1 p.2 g mb p.1 env st1
theorem ds_for {iter : Expr} {body : List Stmt} {mi : MI} {g : GT} {vs : List Nat} {mb : En → Sto → RS} (hp : PassesOwn (model X.prog X.w) X.A X.env X.xe) (hc : X.calm = true) (hi : DI X W tg iter mi) (hg : DG X tg vs g) (hb : DSs X W body mb)
    (hs : ∀ x, foldedSetIterable iter X.env x = pure x := by intro _; rfl) : DS X W (.For tg iter body [] pos) (sFor mi g mb) := by
  refine PS.weak (ps_for hp hc hi hg hb hs) fun Dn σ H h => ?_
  obtain ⟨α, env, st, hE, hS, h⟩ := h
  refine ⟨α, env, st, hE, hS, (h.toGo hE).mono fun p st1 α1 H1 p1 k1 s1 h1 J hJ => ?_⟩
  obtain ⟨ds, gd⟩ := p
  obtain ⟨G, Y, wk, hG, hY⟩ := hJ.ex
  have h1' : GoS X.K W α1 H1 Dn (loopS ds gd g mb ds env st1) := h1
  refine for_it wk (fun i σ H => ∃ α' env' st', α1 <+: α' ∧ Keep H1 H ∧ SR X.K α' st' H ∧ ER X.K α' env' σ H ∧ GoS X.K W α' H Dn (loopS ds gd g mb (ds.drop i) env' st'))
    ⟨α1, env, st1, List.prefix_refl _, Keep.refl _, s1, hE.mono p1 k1, h1'⟩ (fun i σ H hi hP => ?_) (fun i x σ H2 H3 hi hP y => ?_) (fun σ H hP => ?_)
  · obtain ⟨α', env', st', p2, k2, s2, e2, q⟩ := hP
    refine hG α' st' H p2 k2 s2 ?_
    cases hd : ds.drop i with
    | nil =>
      rw [hd] at q
      unfold loopS at q
      split at q
      · assumption
      · exact q.elim
    | cons d r =>
      rw [hd] at q
      unfold loopS at q
      split at q
      · assumption
      · exact q.elim
  · obtain ⟨α', env', st', p2, k2, s2, e2, q⟩ := hP
    have hd : ds.drop i = ds[i] :: ds.drop (i + 1) := List.drop_eq_getElem_cons hi
    rw [hd] at q
    unfold loopS at q
    split at q
    · rename_i gg
      obtain ⟨k3, s3, d, g1, g2⟩ := hY i H2 x H3 α' st' p2 k2 s2 gg hi y
      have ed : d = ds[i] := by
        rw [List.getElem?_eq_getElem hi] at g1
        exact (Option.some.inj g1).symm
      subst ed
      refine ⟨α', env', st', ds[i], e2.mono (List.prefix_refl _) k3, s3, g2, ?_⟩
      revert q
      cases hgd : g ds[i] env' st' with
      | none => exact fun q => q.elim
      | some pq =>
        obtain ⟨env1, st2⟩ := pq
        intro q α2 σ2 H4 p4 k4 s4 e4 _
        refine ⟨α2, env1, st2, e4, s4, ?_⟩
        dsimp only at q
        have again : ∀ env2 st3, GoS X.K W α' H2 Dn (loopS ds gd g mb (ds.drop (i + 1)) env2 st3) → ∀ α5 σ5 H5, α2 <+: α5 → Keep H4 H5 → SR X.K α5 st3 H5 → ER X.K α5 env2 σ5 H5 →
            ∃ α' env' st', α1 <+: α' ∧ Keep H1 H5 ∧ SR X.K α' st' H5 ∧ ER X.K α' env' σ5 H5 ∧ GoS X.K W α' H5 Dn (loopS ds gd g mb (ds.drop (i + 1)) env' st') := fun env2 st3 q α5 σ5 H5 p5 k5 s5 e5 =>
          ⟨α5, env2, st3, (p2.trans p4).trans p5, ((k2.trans k3).trans k4).trans k5, s5, e5, q.on (p4.trans p5) ((k3.trans k4).trans k5)⟩
        cases hm : mb env1 st2 with
        | nx env2 st3 => rw [hm] at q; exact again env2 st3 q
        | ct env2 st3 => rw [hm] at q; exact again env2 st3 q
        | bk env2 st3 => rw [hm] at q; exact fun a b c d e => q a b c (p4.trans d) ((k3.trans k4).trans e)
        | rt d st3 => rw [hm] at q; exact fun a b c d e => q a b c (p4.trans d) ((k3.trans k4).trans e)
        | ex x2 env2 st3 => rw [hm] at q; exact fun a b c x y d e => q a b c x y (p4.trans d) ((k3.trans k4).trans e)
        | no => rw [hm] at q; exact q
    · exact q.elim
  · obtain ⟨α', env', st', p2, k2, s2, e2, q⟩ := hP
    rw [List.drop_length] at q
    unfold loopS at q
    split at q
    · exact q α' σ H (List.prefix_refl _) (Keep.refl _) s2 e2
    · exact q.elim

/-! ### while -/
def loopW (mc : En → Sto → R Bool) (mb : En → Sto → RS) : Nat → En → Sto → RS
  | 0, _, _ => .no
  | n + 1, env, st => (mc env st).toS env fun b st1 => if b = true then (match mb env st1 with
      | .nx env2 st2 => loopW mc mb n env2 st2
      | .ct env2 st2 => loopW mc mb n env2 st2
      | .bk env2 st2 => .nx env2 st2
      | .rt d st => .rt d st
      | .ex x env st => .ex x env st
      | .no => .no) else .nx env st1
theorem ds_while {c : Expr} {body : List Stmt} {mc : En → Sto → R Bool} {mb : En → Sto → RS} (N : Nat) (hp : PassesOwn (model X.prog X.w) X.A X.env X.xe) (hc : DT X W c mc) (hb : DSs X W body mb) : DS X W (.While c body [] pos) (loopW mc mb N) := by
  refine PS.weak (ps_while hp hc hb) fun Dn σ H h => ?_
  obtain ⟨α, env, st, hE, hS, h⟩ := h
  refine ⟨fun m σ H' => ∃ α' env' st', ER X.K α' env' σ H' ∧ SR X.K α' st' H' ∧ GoS X.K W α' H' Dn (loopW mc mb m env' st'), ⟨N, α, env, st, hE, hS, h⟩, fun m σ H ⟨α, env, st, hE, hS, h⟩ => ?_⟩
  cases m with
  | zero => exact h.elim
  | succ m =>
    refine ⟨α, env, st, hE, hS, (h.toGo hE).mono fun b st1 α1 H1 p1 k1 s1 h1 => ?_⟩
    cases b with
    | false =>
      rw [if_neg Bool.false_ne_true] at h1 ⊢
      exact h1 α1 σ H1 (List.prefix_refl _) (Keep.refl _) s1 (hE.mono p1 k1)
    | true =>
      rw [if_pos rfl] at h1 ⊢
      refine ⟨fun σ' H' => ∃ α' env' st', ER X.K α' env' σ' H' ∧ SR X.K α' st' H' ∧ GoS X.K W α' H' Dn (loopW mc mb m env' st'), fun σ' H' n => ⟨m, Nat.lt_succ_self m, n⟩, α1, env, st1, hE.mono p1 k1, s1, ?_⟩
      revert h1
      cases hm : mb env st1 with
      | nx env2 st3 => exact fun q α5 σ5 H5 p5 k5 s5 e5 => ⟨α5, env2, st3, e5, s5, q.on p5 k5⟩
      | ct env2 st3 => exact fun q α5 σ5 H5 p5 k5 s5 e5 => ⟨α5, env2, st3, e5, s5, q.on p5 k5⟩
      | bk env2 st3 => exact fun q => q
      | rt d st3 => exact fun q => q
      | ex x2 env2 st3 => exact fun q => q
      | no => exact fun q => q

/-! ### comprehensions -/
def wipeE (env : En) : List Nat → En
  | [] => env
  | v :: vs => (wipeE env vs).set v none
theorem wipeE_len (env : En) : ∀ vs : List Nat, (wipeE env vs).length = env.length
  | [] => rfl
  | v :: vs => by unfold wipeE; rw [List.length_set, wipeE_len env vs]
theorem ER.wiped {K : PySem.W.Frag} {α : List Addr} {env : En} {σ : L2.St} {H : Hp} (h : ER K α env σ H) : ∀ vs : List Nat, ER K α (wipeE env vs) (wipe σ vs) H
  | [] => h
  | v :: vs => by
    have ih := ER.wiped h vs
    refine ⟨by unfold wipeE L2.wipe; rw [List.length_set, List.length_set]; exact ih.1, fun j d e => ?_⟩
    unfold wipeE at e
    unfold L2.wipe
    by_cases hj : v = j
    · subst hj
      by_cases hl : v < (wipeE env vs).length
      · rw [List.getElem?_set_self hl] at e; cases e
      · rw [List.getElem?_eq_none (by simpa using hl)] at e; cases e
    · rw [List.getElem?_set_ne hj] at e ⊢
      exact ih.2 j d e
open Classical in
noncomputable def loopC (ds0 : List D) (gd : Option Nat) (g : GT) (mt : En → Sto → R Bool) (me : En → Sto → R D) (env0 : En) (r0 : Nat) : List D → Sto → R D
  | [], st => if gOk ds0 gd st then .ok (.ref r0) st else .no
  | d :: r, st => if gOk ds0 gd st then (match g d env0 st with
      | none => .no
      | some (env1, st1) => match mt env1 st1 with
        | .ok true st2 => (match me env1 st2 with
          | .ok y st3 => (match rdW st3 r0 with
            | some acc => if acc.length < sizeLine then loopC ds0 gd g mt me env0 r0 r (st3.set r0 (.lst (acc ++ [y]))) else .no
            | none => .no)
          | _ => .no)
        | .ok false st2 => loopC ds0 gd g mt me env0 r0 r st2
        | _ => .no) else .no
noncomputable def mLc (mi : MI) (g : GT) (mt : En → Sto → R Bool) (me : En → Sto → R D) (vs : List Nat) (env : En) (st : Sto) : R D := (mi env st).bind fun p st1 => loopC p.1 p.2 g mt me (wipeE env vs) st1.length p.1 (st1 ++ [.lst []])
/-- a clause's tests -/
abbrev DTs (X : Cx) (W : WX) (ifs : List Expr) (m : En → Sto → R Bool) : Prop := PTs X ifs (tT X.K W m)
def mYes (_ : En) (st : Sto) : R Bool := .ok true st
theorem dts_nil : DTs X W [] mYes := ⟨fun pins s σ H Q I h => pts_nil.run pins s σ H Q I (by
  obtain ⟨α, env, st, hE, hS, h⟩ := h
  exact h.here hS)⟩
theorem dts_one {c : Expr} {mc : En → Sto → R Bool} (h : DT X W c mc) : DTs X W [c] mc := pts_one h
abbrev W0 : WX := fun _ _ _ _ => False
theorem lc_of {K : PySem.W.Frag} {mi : MI} {g : GT} {ts vs : List Nat} {mt : En → Sto → R Bool} {me : En → Sto → R D} {σ : L2.St} {H : Hp} {Q : VK} (hv : ∀ i ∈ ts, i ∈ vs) (h : tE K W (mLc mi g mt me vs) σ H Q) :
    tLc (tI K W mi) (tG K ts g) (tT K W0 mt) (tE K W0 me) vs σ H Q := by
  obtain ⟨α, env, st, hE, hS, h⟩ := h
  refine ⟨α, env, st, hE, hS, h.bind.mono fun p st1 α1 H1 p1 k1 s1 h1 J hJ D hD => ?_⟩
  obtain ⟨ds, gd⟩ := p
  obtain ⟨G, Y, wk, hG, hY⟩ := hJ.ex
  have kD : Keep H1 (upd H1 D (.lst [])) := Keep.fresh hD
  have sD : SR K (α1 ++ [D]) (st1 ++ [.lst []]) (upd H1 D (.lst [])) := s1.push hD .nil
  have pD : α1 <+: α1 ++ [D] := List.prefix_append _ _
  have aD : (α1 ++ [D])[st1.length]? = some D := by rw [← s1.len, List.getElem?_concat_length]
  have h1' : Go K W α1 H1 σ (loopC ds gd g mt me (wipeE env vs) st1.length ds (st1 ++ [.lst []])) fun d _ α' H' => ∀ v, RD K α' H' d v → Q v H' := h1
  have hE1 := (hE.mono p1 k1).wiped vs
  refine lc_it wk (fun i H => ∃ α' st', α1 ++ [D] <+: α' ∧ Keep H1 H ∧ SR K α' st' H ∧ Go K W α' H σ (loopC ds gd g mt me (wipeE env vs) st1.length (ds.drop i) st') fun d _ α' H' => ∀ v, RD K α' H' d v → Q v H')
    ⟨_, _, List.prefix_refl _, kD, sD, h1'.on pD kD⟩ (fun i H hi hP => ?_) (fun i x H2 H3 hi hP y => ?_) (fun H hP => ?_)
  · obtain ⟨α', st', p2, k2, s2, q⟩ := hP
    refine hG α' st' H (pD.trans p2) k2 s2 ?_
    cases hd : ds.drop i with
    | nil =>
      rw [hd] at q
      unfold loopC at q
      split at q
      · assumption
      · exact q.elim
    | cons d r =>
      rw [hd] at q
      unfold loopC at q
      split at q
      · assumption
      · exact q.elim
  · obtain ⟨α', st', p2, k2, s2, q⟩ := hP
    have hd : ds.drop i = ds[i] :: ds.drop (i + 1) := List.drop_eq_getElem_cons hi
    rw [hd] at q
    unfold loopC at q
    split at q
    · rename_i gg
      obtain ⟨k3, s3, d, g1, g2⟩ := hY i H2 x H3 α' st' (pD.trans p2) k2 s2 gg hi y
      have ed : d = ds[i] := by
        rw [List.getElem?_eq_getElem hi] at g1
        exact (Option.some.inj g1).symm
      subst ed
      have kk : Keep H1 H3 := k2.trans k3
      refine ⟨α', wipeE env vs, st', ds[i], hE1.mono (pD.trans p2) kk, s3, g2, ?_⟩
      revert q
      cases hgd : g ds[i] (wipeE env vs) st' with
      | none => exact fun q => q.elim
      | some pq =>
        obtain ⟨env1, st2⟩ := pq
        intro q α2 σ2 H4 p4 k4 s4 e4 w4
        refine ⟨?_, ?_⟩
        · have := w4 vs hv
          rw [this]
          have ww : ∀ (l : List Nat) (m : List Nat), (∀ i ∈ l, i ∈ m) → wipe (wipe σ m) l = wipe σ m := by
            intro l
            induction l with
            | nil => intro m _; rfl
            | cons y l ih =>
              intro m hm
              show (wipe (wipe σ m) l).set y none = wipe σ m
              rw [ih m fun i hi => hm i (List.mem_cons_of_mem _ hi)]
              have hy : y ∈ m := hm y List.mem_cons_self
              have : ∀ (m : List Nat), y ∈ m → (wipe σ m)[y]? = some none ∨ (wipe σ m).length ≤ y := by
                intro m
                induction m with
                | nil => intro h; cases h
                | cons z m ih2 =>
                  intro h
                  show ((wipe σ m).set z none)[y]? = _ ∨ ((wipe σ m).set z none).length ≤ y
                  by_cases hz : z = y
                  · subst hz
                    by_cases hl : z < (wipe σ m).length
                    · exact .inl (List.getElem?_set_self hl)
                    · exact .inr (by simpa using hl)
                  · rw [List.getElem?_set_ne hz, List.length_set]
                    rcases List.mem_cons.mp h with h | h
                    · exact absurd h.symm hz
                    · exact ih2 h
              rcases this m hy with h | h
              · exact List.ext_getElem? fun j => by
                  by_cases hj : y = j
                  · subst hj
                    rw [h, List.getElem?_set_self (List.getElem?_eq_some_iff.mp h).1]
                  · rw [List.getElem?_set_ne hj]
              · exact List.set_eq_of_length_le h
          exact ww vs vs fun _ h => h
        · refine ⟨α2, env1, st2, e4, s4, ?_⟩
          dsimp only at q
          revert q
          cases hmt : mt env1 st2 with
          | no => exact fun q => q
          | ex x3 st3 => exact fun q => q.elim
          | ok b st3 =>
            cases b with
            | false =>
              intro q α5 H5 p5 k5 s5
              dsimp only
              rw [if_neg Bool.false_ne_true]
              exact ⟨α5, st3, (p2.trans p4).trans p5, (kk.trans k4).trans k5, s5, Go.on q (p4.trans p5) ((k3.trans k4).trans k5)⟩
            | true =>
              intro q α5 H5 p5 k5 s5
              dsimp only
              rw [if_pos rfl]
              refine ⟨α5, env1, st3, e4.mono p5 k5, s5, ?_⟩
              dsimp only at q
              revert q
              cases hme : me env1 st3 with
              | no => exact fun q => q
              | ex x3 st3 => exact fun q => q.elim
              | ok yv st4 =>
                intro q α6 H6 p6 k6 s6 v rv
                dsimp only at q
                revert q
                cases hw : rdW st4 st1.length with
                | none => exact fun q => q.elim
                | some acc =>
                  intro q
                  dsimp only at q
                  split at q
                  · rename_i hz
                    have a6 : α6[st1.length]? = some D := get_pre (((p2.trans p4).trans p5).trans p6) aD
                    obtain ⟨c1, us, hu, ru⟩ := s6.w hw a6
                    have kl : Keep H6 (upd H6 D (.lst (us ++ [v]))) := Keep.lst hu
                    have rr : RDs K α6 H6 (acc ++ [yv]) (us ++ [v]) := ru.app (.cons rv .nil)
                    refine ⟨us, hu, by rw [← ru.len]; exact hz, α6, _, ((p2.trans p4).trans p5).trans p6, (((kk.trans k4).trans k5).trans k6).trans kl, s6.put c1 a6 rr, Go.on q ((p4.trans p5).trans p6) ((((k3.trans k4).trans k5).trans k6).trans kl)⟩
                  · exact q.elim
    · exact q.elim
  · obtain ⟨α', st', p2, k2, s2, q⟩ := hP
    rw [List.drop_length] at q
    unfold loopC at q
    split at q
    · exact Go.here q s2 _ (.ref (get_pre p2 aD))
    · exact q.elim
theorem de_lc {elt iter : Expr} {ifs : List Expr} {scope : Scope} {own : List (Str × Nat)} {mi : MI} {g : GT} {ts : List Nat} {mt : En → Sto → R Bool} {me : En → Sto → R D} (hc : X.calm = true) (hN : X.N.Nodup) (hi : DI X W tg iter mi) (ok : BlkOk X.N X.env.scope scope own)
    (hv : ∀ i ∈ ts, i ∈ own.map (·.2))
    (hg : ∀ (s : Shared) (H : Hp) (C : Addr) (cl : List (Str × Addr)) (fp : List Addr), DG (X.blk s H scope (compEnvC scope cl C X.env) fp) tg ts g) (ht : ∀ (s : Shared) (H : Hp) (C : Addr) (cl : List (Str × Addr)) (fp : List Addr), DTs (X.blk s H scope (compEnvC scope cl C X.env) fp) W0 ifs mt)
    (he : ∀ (s : Shared) (H : Hp) (C : Addr) (cl : List (Str × Addr)) (fp : List Addr), DE (X.blk s H scope (compEnvC scope cl C X.env) fp) W0 elt me) (hs : ∀ x, foldedSetIterable iter X.env x = pure x := by intro _; rfl) :
    DE X W (.ListComp elt [⟨tg, iter, ifs, 0⟩] scope pos) (mLc mi g mt me (own.map (·.2))) := PE.weak (pe_lc hc hN hi ok hg ht he hs) fun _ _ _ => lc_of hv
theorem ds_setLc {i : Nat} {y : Str} {py : Pos} {elt iter : Expr} {ifs : List Expr} {scope : Scope} {own : List (Str × Nat)} {spos : Pos} {mi : MI} {g : GT} {ts : List Nat} {mt : En → Sto → R Bool} {me : En → Sto → R D} (hc : X.calm = true) (hN : X.N.Nodup) (hy : X.N[i]? = some y) (hyl : X.env.scope.names.lookup y = some .local)
    (hsw : swapsWith (.ListComp elt [⟨tg, iter, ifs, 0⟩] scope pos) (some (.Name y py)) spos.line X.env = pure true) (hi : DI X W tg iter mi) (ok : BlkOk X.N X.env.scope scope own) (hv : ∀ i ∈ ts, i ∈ own.map (·.2))
    (hg : ∀ (s : Shared) (H : Hp) (C : Addr) (cl : List (Str × Addr)) (fp : List Addr), DG (X.blk s H scope (compEnvC scope cl C X.env) fp) tg ts g) (ht : ∀ (s : Shared) (H : Hp) (C : Addr) (cl : List (Str × Addr)) (fp : List Addr), DTs (X.blk s H scope (compEnvC scope cl C X.env) fp) W0 ifs mt)
    (he : ∀ (s : Shared) (H : Hp) (C : Addr) (cl : List (Str × Addr)) (fp : List Addr), DE (X.blk s H scope (compEnvC scope cl C X.env) fp) W0 elt me) (hs : ∀ x, foldedSetIterable iter X.env x = pure x := by intro _; rfl) :
    DS X W (.Assign [.Name y py] (.ListComp elt [⟨tg, iter, ifs, 0⟩] scope pos) spos) (sAsg (mLc mi g mt me (own.map (·.2))) (gN i)) := by
  refine PS.weak (ps_setLc (wi := tI X.K W mi) (g := tG X.K ts g) (tt := tT X.K W0 mt) (te := tE X.K W0 me) hc hN hy hyl hsw hi ok hg ht he hs) fun Dn σ H h => ?_
  obtain ⟨α, env, st, hE, hS, h⟩ := h
  refine lc_of hv ⟨α, env, st, hE, hS, (h.toGo hE).mono fun d st1 α1 H1 p1 k1 s1 h1 v rv => ?_⟩
  exact h1 α1 _ H1 (List.prefix_refl _) (Keep.refl _) s1 ((hE.mono p1 k1).set rv)
end
end DL
set_option Elab.async false
set_option linter.all false
set_option maxRecDepth 100000
namespace DL
open PySem PySem.Spec PyProof.Rows L2

/-! ### defs -/
/-- room for k calls, and nothing is being shown -/
structure RG (k : Nat) (A : Around) : Prop where
  r : Room k A
  g : A.guards = some []
theorem RG.mono {j k : Nat} {A : Around} (h : RG k A) (le : j ≤ k) : RG j A := ⟨h.r.mono le, h.g⟩
/-- what a def does, by data -/
def GoC (K : PySem.W.Frag) (α : List Addr) (H : Hp) (Q : VK) (E : XK) : R D → Prop
  | .ok d st => ∀ α' H' v, α <+: α' → Keep H H' → SR K α' st H' → RD K α' H' d v → Q v H'
  | .ex x st => ∀ α' H' c dx, α <+: α' → Keep H H' → SR K α' st H' → RX K α' H' x c dx → E c dx H'
  | .no => False
def spD (K : PySem.W.Frag) (n : Nat) (f : List D → Sto → R D) : Sp := fun vs H Q E => vs.length = n ∧ ∃ α st ds, SR K α st H ∧ RDs K α H ds vs ∧ GoC K α H Q E (f ds st)
/-- a def keeps its promise, where nothing is being shown -/
structure FnG (P : Program) (w : World) (K : PySem.W.Frag) (mg : Str → Option Value) (base : Heap) (k : Nat) (f : Addr) (fd : FuncData) (ps : List Str) (sp : Sp) : Prop where
  len : ∀ vs H Q E, sp vs H Q E → vs.length = ps.length
  run : ∀ (A : Around) (outer : List Env) (s : Shared) (H : Hp) (args : Args) (us : List Value) (vs : List V) (Q : VK) (E : XK), RG k A → Env0 P w K mg base A outer s H → BindsTo s fd args (ps.zip us) → Vals vs us → sp vs H Q E →
    codeAny (model P w) A (.call (.ref f) args) (CR (L2.CX P w) outer P w H s Q E) s
theorem FnG.mono {P : Program} {w : World} {K : PySem.W.Frag} {mg : Str → Option Value} {base : Heap} {j k : Nat} {f : Addr} {fd : FuncData} {ps : List Str} {sp : Sp} (F : FnG P w K mg base j f fd ps sp) (h : j ≤ k) : FnG P w K mg base k f fd ps sp :=
  ⟨F.len, fun A outer s H args us vs Q E hr => F.run A outer s H args us vs Q E (hr.mono h)⟩

section
variable {X : Cx} {W : WX} {pos : Pos} {k : Nat} {f : Addr} {fd : FuncData} {ps : List Str}
theorem run_fnG {sp : Sp} {E : XK} {pins : List (Addr × Obj)} {σ : L2.St} {H : Hp} {s : Shared} {Q : VK} {us : List Value} {vs : List V} (F : FnG X.prog X.w X.K X.mg X.base k f fd ps sp) (hr : RG k X.A) (hb : Binds X.K fd ps []) (hx : PassesAt (L2.CX X.prog X.w) X σ E)
    (I : Inv X pins σ H s) (r : Vals vs us) (h : sp vs H Q E) : wpAny (model X.prog X.w) X.A (call (.ref f) us) (EP X pins σ Q) X.xe s := by
  have len1 : us.length = ps.length := (r.length.symm).trans (F.len _ _ _ _ h)
  have bnd := hb s us I.kIn (by rw [List.append_nil]; exact len1)
  rw [List.append_nil] at bnd
  have go := F.run X.A X.stack s H ⟨us, []⟩ us vs Q E hr I.env0 bnd r h
  refine wpAny_call (codeAny_mono go fun res s' q => ?_)
  match res, q with
  | .error e, q => exact hx pins H s e s' I q
  | .ok (.ret u), q => exact I.after q
  | .ok .next, q => exact q.elim
  | .ok .brk, q => exact q.elim
  | .ok .cont, q => exact q.elim
def mCall (g : List D → Sto → R D) (mr : En → Sto → R (List D)) (env : En) (st : Sto) : R D := (mr env st).bind fun ds st1 => g ds st1
theorem GoC.of_go {K : PySem.W.Frag} {α : List Addr} {H : Hp} {σ : L2.St} {r : R D} {Q : VK} (h : Go K W α H σ r fun d _ α' H' => ∀ v, RD K α' H' d v → Q v H') : GoC K α H Q (WE W σ) r := by
  cases r with
  | ok d st => exact fun α' H' v p q s rv => h α' H' p q s v rv
  | ex x st => exact h
  | no => exact h
/-- how many arguments come -/
def AL (n : Nat) (mr : En → Sto → R (List D)) : Prop := ∀ env st ds s, mr env st = .ok ds s → ds.length = n
theorem al_nil : AL 0 aNil := fun env st ds s h => by cases h; rfl
theorem al_cons {n : Nat} {ma : En → Sto → R D} {mr : En → Sto → R (List D)} (h : AL n mr) : AL (n + 1) (aCons ma mr) := fun env st ds s e => by
  unfold aCons at e
  revert e
  cases ma env st with
  | ok x st1 =>
    show (mr env st1).bind _ = _ → _
    cases q : mr env st1 with
    | ok xs st2 =>
      intro e
      cases e
      rw [List.length_cons, h _ _ _ _ q]
    | ex x st1 => exact fun e => nomatch e
    | no => exact fun e => nomatch e
  | ex x st1 => exact fun e => nomatch e
  | no => exact fun e => nomatch e
/-- f(e, ..) -/
theorem de_call {x : Str} {p : Pos} {e : Expr} {es : List Expr} {n : Nat} {g : List D → Sto → R D} {mr : En → Sto → R (List D)} (F : FnG X.prog X.w X.K X.mg X.base k f fd ps (spD X.K n g)) (hr : RG k X.A) (hg : Gl X x) (hm : X.mg x = some (.ref f)) (hk : PySem.W.keepIn X.K (.ref f) = true) (hb : Binds X.K fd ps []) (tk : Takes X W)
    (ha : DA X W (e :: es) mr) (hn : (e :: es).length = n) (hl : AL n mr) (hdb : (x == ("__debug__" : Str)) = false := by decide) (he : starEach (e :: es) X.env = (false, eval e X.env) :: starEach es X.env := by rfl) (hpl : (backTo pos (starEach es X.env)).any (·.1) = false := by rfl) :
    DE X W (.Call (.Name x p) (e :: es) [] pos) (mCall g mr) := by
  refine ⟨fun pins s σ H Q I h => ?_⟩
  obtain ⟨α, env, st, hE, hS, h⟩ := h
  refine wpAny_Call_Name_kw (ld_glob I hg hm ?_ hdb)
  refine PySem.W.callWith_K (h₀ := X.base) I.ok.mod.kin hk (thn (ha.run pos pins s σ H (fun vs H1 => ∃ α1 ds st1, SR X.K α1 st1 H1 ∧ RDs X.K α1 H1 ds vs ∧ ds.length = n ∧ GoC X.K α1 H1 Q (WE W σ) (g ds st1)) I ⟨α, env, st, hE, hS, ?_⟩) fun us s1 h1 => ?_) he hpl
  · have hlen := hl env st
    have key := h.bind
    revert hlen key
    cases mr env st with
    | ok ds st1 => exact fun hlen key α1 H1 p1 k1 s1 vs rvs => ⟨α1, ds, st1, s1, rvs, hlen _ _ rfl, .of_go (key α1 H1 p1 k1 s1)⟩
    | ex x st1 => exact fun _ key => key
    | no => exact fun _ key => key
  · obtain ⟨vs, H1, I1, rv, α1, ds, st1, s1, rd, hlen, q⟩ := h1
    exact ⟨I1.kIn, run_fnG F hr hb (passAt tk σ) I1 rv ⟨by rw [← rd.len]; exact hlen, α1, st1, ds, s1, rd, q⟩⟩
theorem de_call0 {x : Str} {p : Pos} {g : List D → Sto → R D} (F : FnG X.prog X.w X.K X.mg X.base k f fd ps (spD X.K 0 g)) (hr : RG k X.A) (hg : Gl X x) (hm : X.mg x = some (.ref f)) (hk : PySem.W.keepIn X.K (.ref f) = true) (hb : Binds X.K fd ps []) (tk : Takes X W)
    (hdb : (x == ("__debug__" : Str)) = false := by decide) : DE X W (.Call (.Name x p) [] [] pos) (mCall g aNil) := by
  refine ⟨fun pins s σ H Q I h => ?_⟩
  obtain ⟨α, env, st, hE, hS, h⟩ := h
  refine wpAny_Call_Name_kw (ld_glob I hg hm ?_ hdb)
  refine PySem.W.callWith_K0 I.kIn hk (run_fnG (us := []) F hr hb (passAt tk σ) I .nil ⟨rfl, α, st, [], hS, .nil, ?_⟩)
  exact .of_go h
end

/-! ### a def by its body -/
def mDef (n : Nat) (body : En → Sto → RS) (ds : List D) (st : Sto) : R D := match body (ds.map some ++ List.replicate (n - ds.length) none) st with
  | .nx _ st' => .ok .non st'
  | .rt d st' => .ok d st'
  | .ex x _ st' => .ex x st'
  | _ => .no
theorem ER.begun {K : PySem.W.Frag} {α : List Addr} {H : Hp} {ds : List D} {vs : List V} {N : List Str} (r : RDs K α H ds vs) : ER K α (ds.map some ++ List.replicate (N.length - ds.length) none) (start N vs) H := by
  have hl := r.len
  refine ⟨by unfold L2.start; simp [hl], fun i d e => ?_⟩
  have hi : i < ds.length := by
    by_cases hi : i < ds.length
    · exact hi
    · rw [List.getElem?_append_right (by simpa using hi), List.getElem?_replicate] at e
      split at e <;> cases e
  rw [List.getElem?_append_left (by simpa using hi), List.getElem?_map] at e
  have e' : ds[i]? = some d := by
    cases q : ds[i]? with
    | none => rw [q] at e; cases e
    | some d' => rw [q] at e; cases e; rfl
  obtain ⟨v, g1, g2⟩ := r.getD e'
  refine ⟨v, ?_, g2⟩
  unfold L2.start
  rw [List.getElem?_append_left (by simpa [← hl] using hi), List.getElem?_map, g1]
  rfl
section
variable {P : Program} {w : World} {K : PySem.W.Frag} {mg : Str → Option Value} {base : Heap}
/-- a context in which the body of a def runs -/
abbrev bodyX (P : Program) (w : World) (K : PySem.W.Frag) (mg : Str → Option Value) (base : Heap) (N : List Str) (qual : Str) (st : Stmt) (f : Addr) (cdv : Value) (A : Around) (outer : List Env) (s : Shared) (H : Hp) (E : XK) : Cx :=
  cxOf (L2.CX P w) P w K mg base N qual (defScope st) f cdv A outer s H E
/-- THE RULE for a def -/
theorem fn_d {x qual : Str} {st : Stmt} {f : Addr} {fd : FuncData} {N ps : List Str} {k n : Nat} {body : En → Sto → RS} (F : Fun K x qual st f fd) (S : FnScope N ps (defScope st)) (hn : n = ps.length)
    (hbody : ∀ (cdv : Value) (A : Around) (outer : List Env) (s : Shared) (H : Hp) (E : XK), RG k (A.deeper (envOfC qual (defScope st) s.heap.objs.size f cdv)) → Takes (bodyX P w K mg base N qual st f cdv A outer s H E) (fun c d _ H => E c d H) → PassesOwn (model P w) (A.deeper (envOfC qual (defScope st) s.heap.objs.size f cdv)) (envOfC qual (defScope st) s.heap.objs.size f cdv) (bodyX P w K mg base N qual st f cdv A outer s H E).xe →
      DSs (bodyX P w K mg base N qual st f cdv A outer s H E) (fun c d _ H => E c d H) (defBody st) body) : FnG P w K mg base (k + 1) f fd ps (spD K n (mDef N.length body)) := by
  subst hn
  obtain ⟨oc, od, kV, doc, pm, an, cdv, ct, osl, rfl, lk, hcd⟩ := F.ex
  refine ⟨fun vs H Q E h => h.1, fun A outer s H args us vs Q E hr e0 hb rv hsp => ?_⟩
  obtain ⟨hl, α, st0, ds, hS, rd, hq⟩ := hsp
  have inK : K.In s.heap := e0.mod.kin.keeps fun b o e => (e0.bs b o e).1
  have nol : s.heap.NoLimit := e0.mod.nolimit.keeps fun b o e => (e0.bs b o e).1
  refine codeAny_call_function hr.r.depth (inK _ _ lk) rfl S.co S.gen rfl (PySem.W.codeRec_of inK hcd) (hb _ _ _ _ ?_)
  refine wpAny_newFunctionEnv_cells S.kind (fun y hy => ?_) fun env he s1 hx => ?_
  · obtain ⟨nm, vv⟩ := y
    have mem := (List.of_mem_zip hy).1
    exact (S.par nm mem).elim .inl fun c => .inr ⟨c, PySem.W.cellsFrom_some _ _ _ (.inl c)⟩
  · subst he
    refine ⟨nol.keeps hx.toInCall.keep, codeAny_func ?_⟩
    have rg : RG k (A.deeper (envOfC qual (defScope st) s.heap.objs.size f cdv)) := ⟨hr.r.deeper _, hr.g⟩
    have tk : Takes (bodyX P w K mg base N qual st f cdv A outer s H E) (fun c d _ H => E c d H) := takes_of rfl rfl rfl rfl
    have ht := hbody cdv A outer s H E rg tk (passes_of rfl)
    have inv0 : Inv (bodyX P w K mg base N qual st f cdv A outer s H E) [] (start N vs) H s1 := inv_start S hr.r.hd e0 hl rv hx
    have done : ∀ {σ' : L2.St} {H' : Hp} {v : V} {u : Value} {s' : Shared}, Inv (bodyX P w K mg base N qual st f cdv A outer s H E) [] σ' H' s' → RelV v u → Q v H' → CE outer P w H s Q u s' :=
      fun {σ' H' v u s'} J rv q => ⟨v, H', J.os, J.bare, J.base, J.hok, rv, q⟩
    refine wpAny_mono (ht.run [] s1 (start N vs) H { nx := fun _ H' => Q .non H', rt := Q } inv0 ⟨α, ds.map some ++ List.replicate (N.length - ds.length) none, st0, ER.begun rd, hS, ?_⟩) (fun fl s' hs => ?_) fun e s' hs => hs
    · unfold mDef at hq
      revert hq
      cases body (ds.map some ++ List.replicate (N.length - ds.length) none) st0 with
      | nx env1 st1 => exact fun hq α' σ' H' p q s e => hq α' H' .non p q s .non
      | rt d st1 => exact fun hq => hq
      | bk env1 st1 => exact fun hq => hq.elim
      | ct env1 st1 => exact fun hq => hq.elim
      | ex x1 env1 st1 => exact fun hq α' σ' H' c dx p q s e rx => hq α' H' c dx p q s rx
      | no => exact fun hq => hq
    · match fl, hs with
      | .ret u, ⟨v, σ', H', J, rv, q⟩ => exact done J rv q
      | .next, ⟨σ', H', J, q⟩ => exact done (v := V.non) (u := Value.none) J rfl q
      | .brk, ⟨_, _, _, q⟩ => exact q.elim
      | .cont, ⟨_, _, _, q⟩ => exact q.elim
end
end DL
set_option Elab.async false
set_option linter.all false
set_option maxRecDepth 100000
namespace DL
open PySem PySem.Spec PyProof.Rows L2
section
variable {X : Cx} {W : WX} {pos : Pos}
/-! ### methods of lists -/
abbrev OM := D → List D → Sto → R D
def rDm (K : PySem.W.Frag) (f : OM) : V → List V → Hp → VK → Prop := fun x xs H Q => ∃ α st a ds, SR K α st H ∧ RD K α H a x ∧ RDs K α H ds xs ∧ Rw (f a ds st) fun d st' => Fin K α H Q d st'
def mMeth (f : OM) (mo : En → Sto → R D) (mr : En → Sto → R (List D)) (env : En) (st : Sto) : R D := (mo env st).bind fun o st1 => match o with
  | .ref r => match rdL st1 r with
    | some _ => (mr env st1).bind fun ds st2 => noEx (f (.ref r) ds st2)
    | none => .no
  | _ => .no
variable {o e : Expr} {es : List Expr} {mo : En → Sto → R D} {mr : En → Sto → R (List D)} {name : Str} {apos cpos : Pos} {id : String}
theorem de_meth {f : OM} (pa : PlainAttrs "list") (slot : Slot "list" name id) (hty : typeOf (.builtin id) = pure (.type "method_descriptor")) (hm : MtR X id (rDm X.K f)) (ho : DE X W o mo) (ha : DA X W (e :: es) mr)
    (hbase : attributeBase o name X.env (eval o X.env) = eval o X.env := by rfl)
    (hfew : ((backTo cpos (starEach (e :: es) X.env)).all (fun x => !x.1) && (backToKw cpos (keywordEach [] X.env)).all (fun x => x.1.isSome)
      && decide ((e :: es).length + ([] : List Keyword).length + (if ([] : List Keyword).isEmpty then 0 else 1) < 30)) = true := by rfl)
    (hline : (apos.endLine == cpos.line) = true := by rfl) (hs : starEach (e :: es) X.env = (false, eval e X.env) :: starEach es X.env := by rfl) (hplain : (backTo cpos (starEach es X.env)).any (·.1) = false := by rfl) :
    DE X W (.Call (.Attribute o name apos) (e :: es) [] cpos) (mMeth f mo mr) := by
  refine PE.weak (pe_bm pa slot hty hm ho ha hbase hfew hline hs hplain) fun σ H Q h => ?_
  obtain ⟨α, env, st, hE, hS, h⟩ := h
  refine ⟨α, env, st, hE, hS, h.bind.mono fun x st1 α1 H1 p1 k1 s1 h1 v rv => ?_⟩
  split at h1
  · rename_i r
    obtain ⟨a, rfl, ea⟩ := rv.ref_of
    split at h1
    · rename_i xs e1
      obtain ⟨vs, h0, r1⟩ := s1.l e1 ea
      refine ⟨.inl ⟨rfl, vs, h0⟩, α1, env, st1, hE.mono p1 k1, s1, h1.bind.mono fun ds st2 α2 H2 p2 k2 s2 h2 ws rws => ?_⟩
      exact ⟨α2, st2, .ref r, ds, s2, rv.mono p2 k2, rws, h2.rw.mono fun d st3 q α' H' w p k s rw => q α' H' p k s w rw⟩
    · exact h1.elim
  · exact h1.elim
def fAppend : OM := fun o ds st => match o, ds with
  | .ref r, [d] => match rdW st r with
    | some xs => if xs.length < sizeLine then .ok .non (st.set r (.lst (xs ++ [d]))) else .no
    | none => .no
  | _, _ => .no
theorem md_append : MtR X "list.append" (rDm X.K fAppend) := by
  intro pins s σ H x xs v us Q I rx rv h
  obtain ⟨α, st, a, ds, S, ra, rd, h⟩ := h
  unfold fAppend at h
  split at h
  · obtain ⟨p, rfl, ea⟩ := ra.ref_of
    obtain ⟨w, rfl, rw'⟩ := rd.one
    split at h
    · rename_i ys e1
      obtain ⟨c1, ws, hw, rr⟩ := S.w e1 ea
      split at h
      · rename_i hz
        exact mt_append pins s σ H _ _ v us Q I rx rv ⟨p, ws, w, rfl, rfl, hw, by rw [← rr.len]; exact hz, Fin.put h S c1 ea hw (rr.app (.cons rw' .nil)) .non⟩
      · exact h.elim
    · exact h.elim
  · exact h.elim
def fExtend : OM := fun o ds st => match o, ds with
  | .ref r, [.ref q] => match rdW st r, rdW st q with
    | some xs, some ys => if xs.length + ys.length ≤ sizeLine then .ok .non (st.set r (.lst (xs ++ ys))) else .no
    | _, _ => .no
  | _, _ => .no
theorem md_extend : MtR X "list.extend" (rDm X.K fExtend) := by
  intro pins s σ H x xs v us Q I rx rv h
  obtain ⟨α, st, a, ds, S, ra, rd, h⟩ := h
  unfold fExtend at h
  split at h
  · obtain ⟨p, rfl, ea⟩ := ra.ref_of
    obtain ⟨w, rfl, rw'⟩ := rd.one
    obtain ⟨q, rfl, eb⟩ := rw'.ref_of
    split at h
    · rename_i ys zs e1 e2
      obtain ⟨c1, ws, hw, rr⟩ := S.w e1 ea
      obtain ⟨c2, us2, hu, rr2⟩ := S.w e2 eb
      split at h
      · rename_i hz
        have l1 := rr.len
        have l2 := rr2.len
        exact mt_extend pins s σ H _ _ v us Q I rx rv ⟨p, q, ws, us2, rfl, rfl, hw, hu, by omega, Fin.put h S c1 ea hw (rr.app rr2) .non⟩
      · exact h.elim
    · exact h.elim
  · exact h.elim
def fPop : OM := fun o ds st => match o, ds with
  | .ref r, [.int i] => match rdW st r with
    | some xs => if -(2 ^ 63) ≤ i ∧ i < 2 ^ 63 then (match seqIndex? i xs.length with
      | some k => match xs[k]? with
        | some d => .ok d (st.set r (.lst (xs.eraseIdx k)))
        | none => .no
      | none => .no) else .no
    | none => .no
  | _, _ => .no
theorem md_pop : MtR X "list.pop" (rDm X.K fPop) := by
  intro pins s σ H x xs v us Q I rx rv h
  obtain ⟨α, st, a, ds, S, ra, rd, h⟩ := h
  unfold fPop at h
  split at h
  · obtain ⟨p, rfl, ea⟩ := ra.ref_of
    obtain ⟨w, rfl, rw'⟩ := rd.one
    have e2 := rw'.int_of; subst e2
    split at h
    · rename_i ys e1
      obtain ⟨c1, ws, hw, rr⟩ := S.w e1 ea
      split at h
      · rename_i hz
        split at h
        · rename_i k ek
          split at h
          · rename_i d ed
            obtain ⟨u, hu, ru⟩ := rr.getD ed
            exact mt_popAt pins s σ H _ _ v us Q I rx rv ⟨p, ws, _, k, u, rfl, rfl, hw, hz.1, hz.2, by rw [← rr.len]; exact ek, hu, Fin.put h S c1 ea hw (rr.erase k) ru⟩
          · exact h.elim
        · exact h.elim
      · exact h.elim
    · exact h.elim
  · exact h.elim
theorem de_append (ho : DE X W o mo) (ha : DA X W (e :: es) mr)
    (hbase : attributeBase o "append" X.env (eval o X.env) = eval o X.env := by rfl)
    (hfew : ((backTo cpos (starEach (e :: es) X.env)).all (fun x => !x.1) && (backToKw cpos (keywordEach [] X.env)).all (fun x => x.1.isSome)
      && decide ((e :: es).length + ([] : List Keyword).length + (if ([] : List Keyword).isEmpty then 0 else 1) < 30)) = true := by rfl)
    (hline : (apos.endLine == cpos.line) = true := by rfl) (hs : starEach (e :: es) X.env = (false, eval e X.env) :: starEach es X.env := by rfl) (hplain : (backTo cpos (starEach es X.env)).any (·.1) = false := by rfl) :
    DE X W (.Call (.Attribute o "append" apos) (e :: es) [] cpos) (mMeth fAppend mo mr) := de_meth PySem.F.plainAttrs_list PySem.F.slot_list_append PySem.F.type_list_append md_append ho ha hbase hfew hline hs hplain
theorem de_extend (ho : DE X W o mo) (ha : DA X W (e :: es) mr)
    (hbase : attributeBase o "extend" X.env (eval o X.env) = eval o X.env := by rfl)
    (hfew : ((backTo cpos (starEach (e :: es) X.env)).all (fun x => !x.1) && (backToKw cpos (keywordEach [] X.env)).all (fun x => x.1.isSome)
      && decide ((e :: es).length + ([] : List Keyword).length + (if ([] : List Keyword).isEmpty then 0 else 1) < 30)) = true := by rfl)
    (hline : (apos.endLine == cpos.line) = true := by rfl) (hs : starEach (e :: es) X.env = (false, eval e X.env) :: starEach es X.env := by rfl) (hplain : (backTo cpos (starEach es X.env)).any (·.1) = false := by rfl) :
    DE X W (.Call (.Attribute o "extend" apos) (e :: es) [] cpos) (mMeth fExtend mo mr) := de_meth PySem.F.plainAttrs_list PySem.F.slot_list_extend PySem.F.type_list_extend md_extend ho ha hbase hfew hline hs hplain
theorem de_pop (ho : DE X W o mo) (ha : DA X W (e :: es) mr)
    (hbase : attributeBase o "pop" X.env (eval o X.env) = eval o X.env := by rfl)
    (hfew : ((backTo cpos (starEach (e :: es) X.env)).all (fun x => !x.1) && (backToKw cpos (keywordEach [] X.env)).all (fun x => x.1.isSome)
      && decide ((e :: es).length + ([] : List Keyword).length + (if ([] : List Keyword).isEmpty then 0 else 1) < 30)) = true := by rfl)
    (hline : (apos.endLine == cpos.line) = true := by rfl) (hs : starEach (e :: es) X.env = (false, eval e X.env) :: starEach es X.env := by rfl) (hplain : (backTo cpos (starEach es X.env)).any (·.1) = false := by rfl) :
    DE X W (.Call (.Attribute o "pop" apos) (e :: es) [] cpos) (mMeth fPop mo mr) := de_meth PySem.F.plainAttrs_list PySem.F.slot_list_pop PySem.F.type_list_pop md_pop ho ha hbase hfew hline hs hplain

/-! ### in -/
def oIn : O2 := fun a b st => match toP st a, toP st b with
  | some p, some (.tuple qs) => if SeqAt.shaped p = true ∧ PyData.canLayAll0 qs = true then .ok (.bl (qs.any fun z => PyData.eqv z p)) st else .no
  | some p, some (.list qs) => if SeqAt.shaped p = true ∧ PyData.canLayAll0 qs = true then .ok (.bl (qs.any fun z => PyData.eqv z p)) st else .no
  | _, _ => .no
def oNotIn : O2 := fun a b st => match toP st a, toP st b with
  | some p, some (.tuple qs) => if SeqAt.shaped p = true ∧ PyData.canLayAll0 qs = true then .ok (.bl (!qs.any fun z => PyData.eqv z p)) st else .no
  | some p, some (.list qs) => if SeqAt.shaped p = true ∧ PyData.canLayAll0 qs = true then .ok (.bl (!qs.any fun z => PyData.eqv z p)) st else .no
  | _, _ => .no
theorem in_room {A : Around} {p : PyData} {qs : List PyData} (hs : SeqAt.shaped p = true) (hu : A.units + 66 < cLine) : A.units + 1 + min (PyData.depthAll qs) p.depth < cLine := by
  have h1 := SeqAt.depth_of_shaped hs
  have h2 : min (PyData.depthAll qs) p.depth ≤ p.depth := Nat.min_le_right _ _
  omega
theorem od_in (hu : X.A.units + 66 < cLine) : OD2 X (compareOp .In) oIn := by
  intro pins s σ H x y v u Q I rx ry h
  obtain ⟨α, st, a, b, S, ra, rb, h⟩ := h
  unfold oIn at h
  split at h
  · rename_i p qs e1 e2
    split at h
    · rename_i hs
      obtain ⟨as, r1⟩ := Dp.reads I p x v (dp_toP S e1 ra) rx
      obtain ⟨bs, r2⟩ := Dp.reads I (.tuple qs) y u (dp_toP S e2 rb) ry
      exact SeqAt.in_tuple_reads r2 r1 hs.2 (SeqAt.canLay_of_shaped hs.1) (in_room hs.1 hu) ⟨.bl _, H, I, rfl, Fin.here h S (.bl _)⟩
    · exact h.elim
  · rename_i p qs e1 e2
    split at h
    · rename_i hs
      obtain ⟨as, r1⟩ := Dp.reads I p x v (dp_toP S e1 ra) rx
      obtain ⟨bs, r2⟩ := Dp.reads I (.list qs) y u (dp_toP S e2 rb) ry
      exact SeqAt.in_list_reads r2 r1 hs.2 (SeqAt.canLay_of_shaped hs.1) (in_room hs.1 hu) ⟨.bl _, H, I, rfl, Fin.here h S (.bl _)⟩
    · exact h.elim
  · exact h.elim
theorem od_notin (hu : X.A.units + 66 < cLine) : OD2 X (compareOp .NotIn) oNotIn := by
  intro pins s σ H x y v u Q I rx ry h
  obtain ⟨α, st, a, b, S, ra, rb, h⟩ := h
  unfold oNotIn at h
  split at h
  · rename_i p qs e1 e2
    split at h
    · rename_i hs
      obtain ⟨as, r1⟩ := Dp.reads I p x v (dp_toP S e1 ra) rx
      obtain ⟨bs, r2⟩ := Dp.reads I (.tuple qs) y u (dp_toP S e2 rb) ry
      exact SeqAt.notIn_tuple_reads r2 r1 hs.2 (SeqAt.canLay_of_shaped hs.1) (in_room hs.1 hu) ⟨.bl _, H, I, rfl, Fin.here h S (.bl _)⟩
    · exact h.elim
  · rename_i p qs e1 e2
    split at h
    · rename_i hs
      obtain ⟨as, r1⟩ := Dp.reads I p x v (dp_toP S e1 ra) rx
      obtain ⟨bs, r2⟩ := Dp.reads I (.list qs) y u (dp_toP S e2 rb) ry
      exact SeqAt.notIn_list_reads r2 r1 hs.2 (SeqAt.canLay_of_shaped hs.1) (in_room hs.1 hu) ⟨.bl _, H, I, rfl, Fin.here h S (.bl _)⟩
    · exact h.elim
  · exact h.elim

/-! ### max, min of a list of ints -/
def maxI : List Int → Option Int
  | [] => none
  | x :: r => some (r.foldl max x)
def minI : List Int → Option Int
  | [] => none
  | x :: r => some (r.foldl min x)
theorem foldl_max_spec : ∀ (r : List Int) (x : Int), (r.foldl max x = x ∨ r.foldl max x ∈ r) ∧ x ≤ r.foldl max x ∧ ∀ y ∈ r, y ≤ r.foldl max x
  | [], x => by simp
  | z :: r, x => by
    obtain ⟨h1, h2, h3⟩ := foldl_max_spec r (max x z)
    simp only [List.foldl_cons, List.mem_cons]
    refine ⟨?_, by omega, fun y hy => ?_⟩
    · rcases h1 with h1 | h1
      · rw [h1]; omega
      · exact .inr (.inr h1)
    · rcases hy with rfl | hy
      · omega
      · exact h3 y hy
theorem foldl_min_spec : ∀ (r : List Int) (x : Int), (r.foldl min x = x ∨ r.foldl min x ∈ r) ∧ r.foldl min x ≤ x ∧ ∀ y ∈ r, r.foldl min x ≤ y
  | [], x => by simp
  | z :: r, x => by
    obtain ⟨h1, h2, h3⟩ := foldl_min_spec r (min x z)
    simp only [List.foldl_cons, List.mem_cons]
    refine ⟨?_, by omega, fun y hy => ?_⟩
    · rcases h1 with h1 | h1
      · rw [h1]; omega
      · exact .inr (.inr h1)
    · rcases hy with rfl | hy
      · omega
      · exact h3 y hy
theorem maxI_spec {ns : List Int} {m : Int} (h : maxI ns = some m) : m ∈ ns ∧ ∀ y ∈ ns, y ≤ m := by
  cases ns with
  | nil => cases h
  | cons x r =>
    cases h
    obtain ⟨h1, h2, h3⟩ := foldl_max_spec r x
    exact ⟨by simp only [List.mem_cons]; exact h1, by simp only [List.mem_cons]; rintro y (rfl | hy); exact h2; exact h3 y hy⟩
theorem minI_spec {ns : List Int} {m : Int} (h : minI ns = some m) : m ∈ ns ∧ ∀ y ∈ ns, m ≤ y := by
  cases ns with
  | nil => cases h
  | cons x r =>
    cases h
    obtain ⟨h1, h2, h3⟩ := foldl_min_spec r x
    exact ⟨by simp only [List.mem_cons]; exact h1, by simp only [List.mem_cons]; rintro y (rfl | hy); exact h2; exact h3 y hy⟩
def bMax1 : List D → Sto → R D := fun ds st => match ds with
  | [.ref r] => match ((rdL st r).bind intsOf).bind maxI with
    | some m => .ok (.int m) st
    | none => .no
  | _ => .no
def bMin1 : List D → Sto → R D := fun ds st => match ds with
  | [.ref r] => match ((rdL st r).bind intsOf).bind minI with
    | some m => .ok (.int m) st
    | none => .no
  | _ => .no
theorem cd_max1 (hc : X.calm = true) : CDs X (.builtin "max") bMax1 := by
  intro pins s σ H vs us Q I rv h
  obtain ⟨α, st, ds, S, rd, h⟩ := h
  unfold bMax1 at h
  split at h
  · split at h
    · rename_i m e
      obtain ⟨ns, e0, e3⟩ := Option.bind_eq_some_iff.mp e
      obtain ⟨xs, e1, e2⟩ := Option.bind_eq_some_iff.mp e0
      obtain ⟨v, rfl, r⟩ := rd.one
      obtain ⟨p, rfl, a1⟩ := r.ref_of
      obtain ⟨ws, h0, r1⟩ := S.l e1 a1
      rw [intsOf_map e2] at r1
      rw [r1.toInts] at h0
      obtain ⟨g1, g2⟩ := maxI_spec e3
      refine cr_max hc pins s σ H _ us Q I rv ⟨p, ns, rfl, h0, List.length_pos_of_mem g1, fun m' k1 k2 => ?_⟩
      have em : m' = m := by have := g2 m' k1; have := k2 m g1; omega
      subst em
      exact Fin.here h S (.int _)
    · exact h.elim
  · exact h.elim
theorem cd_min1 (hc : X.calm = true) : CDs X (.builtin "min") bMin1 := by
  intro pins s σ H vs us Q I rv h
  obtain ⟨α, st, ds, S, rd, h⟩ := h
  unfold bMin1 at h
  split at h
  · split at h
    · rename_i m e
      obtain ⟨ns, e0, e3⟩ := Option.bind_eq_some_iff.mp e
      obtain ⟨xs, e1, e2⟩ := Option.bind_eq_some_iff.mp e0
      obtain ⟨v, rfl, r⟩ := rd.one
      obtain ⟨p, rfl, a1⟩ := r.ref_of
      obtain ⟨ws, h0, r1⟩ := S.l e1 a1
      rw [intsOf_map e2] at r1
      rw [r1.toInts] at h0
      obtain ⟨g1, g2⟩ := minI_spec e3
      refine cr_min hc pins s σ H _ us Q I rv ⟨p, ns, rfl, h0, List.length_pos_of_mem g1, fun m' k1 k2 => ?_⟩
      have em : m' = m := by have := g2 m' k1; have := k2 m g1; omega
      subst em
      exact Fin.here h S (.int _)
    · exact h.elim
  · exact h.elim

/-! ### sorted, of ints and of pairs of ints -/
def insI (x : Int) : List Int → List Int
  | [] => [x]
  | y :: r => if x ≤ y then x :: y :: r else y :: insI x r
def sortI : List Int → List Int
  | [] => []
  | x :: r => insI x (sortI r)
theorem insI_perm (x : Int) : ∀ l : List Int, (insI x l).Perm (x :: l)
  | [] => List.Perm.refl _
  | y :: r => by
    unfold insI
    split
    · exact List.Perm.refl _
    · exact ((insI_perm x r).cons y).trans (List.Perm.swap x y r)
theorem sortI_perm : ∀ l : List Int, (sortI l).Perm l
  | [] => List.Perm.refl _
  | x :: r => (insI_perm x _).trans ((sortI_perm r).cons x)
theorem insI_sorted (x : Int) : ∀ l : List Int, l.Pairwise (· ≤ ·) → (insI x l).Pairwise (· ≤ ·)
  | [], _ => by simp [insI]
  | y :: r, h => by
    unfold insI
    have h1 := List.pairwise_cons.mp h
    split
    · rename_i hxy
      refine List.pairwise_cons.mpr ⟨fun z hz => ?_, h⟩
      rcases List.mem_cons.mp hz with rfl | hz
      · exact hxy
      · have := h1.1 z hz; omega
    · rename_i hxy
      refine List.pairwise_cons.mpr ⟨fun z hz => ?_, insI_sorted x r h1.2⟩
      have hz' := (insI_perm x r).mem_iff.mp hz
      rcases List.mem_cons.mp hz' with rfl | hz'
      · omega
      · exact h1.1 z hz'
theorem sortI_sorted : ∀ l : List Int, (sortI l).Pairwise (· ≤ ·)
  | [] => .nil
  | x :: r => insI_sorted x _ (sortI_sorted r)
theorem sorted_uniq : ∀ {l m : List Int}, l.Pairwise (· ≤ ·) → m.Pairwise (· ≤ ·) → l.Perm m → l = m
  | [], m, _, _, h => by simp [List.Perm.eq_nil h.symm]
  | x :: l, [], _, _, h => by simp at h
  | x :: l, y :: m, hl, hm, h => by
    have h1 := List.pairwise_cons.mp hl
    have h2 := List.pairwise_cons.mp hm
    have e : x = y := by
      have a : x ∈ y :: m := h.mem_iff.mp List.mem_cons_self
      have b : y ∈ x :: l := h.mem_iff.mpr List.mem_cons_self
      rcases List.mem_cons.mp a with a | a
      · exact a
      · rcases List.mem_cons.mp b with b | b
        · exact b.symm
        · have := h1.1 y b; have := h2.1 x a; omega
    subst e
    rw [sorted_uniq h1.2 h2.2 h.cons_inv]
def bSortedI : List D → Sto → R D := fun ds st => match ds with
  | [.ref r] => match (rdL st r).bind intsOf with
    | some ns => .ok (.ref st.length) (st ++ [.lst ((sortI ns).map D.int)])
    | none => .no
  | _ => .no
theorem cd_sortedI : CDs X (.builtin "sorted") bSortedI := by
  intro pins s σ H vs us Q I rv h
  obtain ⟨α, st, ds, S, rd, h⟩ := h
  unfold bSortedI at h
  split at h
  · split at h
    · rename_i ns e
      obtain ⟨xs, e1, e2⟩ := Option.bind_eq_some_iff.mp e
      obtain ⟨v, rfl, r⟩ := rd.one
      obtain ⟨p, rfl, a1⟩ := r.ref_of
      obtain ⟨ws, h0, r1⟩ := S.l e1 a1
      rw [intsOf_map e2] at r1
      rw [r1.toInts] at h0
      refine cr_sortedI pins s σ H _ us Q I rv ⟨p, ns, rfl, h0, fun ns' q k1 k2 hq => ?_⟩
      have en : ns' = sortI ns := sorted_uniq k2 (sortI_sorted ns) (k1.trans (sortI_perm ns).symm)
      subst en
      exact Fin.new h S (RDs.ints _) hq
    · exact h.elim
  · exact h.elim

/-! ### repr -/
def bRepr : List D → Sto → R D := fun ds st => match ds with
  | [.int i] => if i.natAbs.log2 < 1920 then .ok (.str (toString i)) st else .no
  | [.tup xs] => match toP st (.tup xs) with
    | some p => if SeqAt.shaped p = true ∧ p.showable = true ∧ p.shown.length ≤ sizeLine then .ok (.str p.shown) st else .no
    | none => .no
  | [.ref r] => match toP st (.ref r) with
    | some p => if SeqAt.shaped p = true ∧ p.showable = true ∧ p.shown.length ≤ sizeLine then .ok (.str p.shown) st else .no
    | none => .no
  | _ => .no
mutual
theorem noDict_of : ∀ (d : PyData), d.canLay0 = true → d.hasDict = false
  | .none, _ => by simp only [PyData.hasDict]
  | .bool _, _ => by simp only [PyData.hasDict]
  | .int _, _ => by simp only [PyData.hasDict]
  | .str _, _ => by simp only [PyData.hasDict]
  | .list xs, h => by simp only [PyData.hasDict]; exact noDicts_of xs (by simpa only [PyData.canLay0] using h)
  | .tuple xs, h => by simp only [PyData.hasDict]; exact noDicts_of xs (by simpa only [PyData.canLay0] using h)
  | .dict _, h => by simp [PyData.canLay0] at h
theorem noDicts_of : ∀ (ds : List PyData), PyData.canLayAll0 ds = true → PyData.hasDictAll ds = false
  | [], _ => by simp only [PyData.hasDictAll]
  | d :: ds, h => by
    simp only [PyData.canLayAll0, Bool.and_eq_true] at h
    simp only [PyData.hasDictAll, noDict_of d h.1, noDicts_of ds h.2, Bool.or_self]
end
theorem cd_repr (hg : X.A.guards = some []) (hu : X.A.units + 66 < cLine) : CDs X (.builtin "repr") bRepr := by
  intro pins s σ H vs us Q I rv h
  obtain ⟨α, st, ds, S, rd, h⟩ := h
  have main : ∀ (a : Addr) (d : D) (p : PyData) (v : V), v = .ref a → RD X.K α H d v → toP st d = some p → SeqAt.shaped p = true → p.showable = true → p.shown.length ≤ sizeLine → Vals [v] us → Fin X.K α H Q (.str p.shown) st → wpAny (model X.prog X.w) X.A (call (.builtin "repr") us) (EP X pins σ Q) X.xe s := by
    intro a d p v ev r e hs1 hs2 hs3 rv fin
    subst ev
    obtain ⟨u, rfl, ru⟩ := vals1 rv
    obtain ⟨as, r1⟩ := Dp.reads I p _ u (dp_toP S e r) ru
    cases ru
    have hd := SeqAt.depth_of_shaped hs1
    exact repr_of_reads' r1 hs2 (PyData.noDict_hsm (noDict_of p (SeqAt.canLay_of_shaped hs1))) hg (by omega) (fun _ _ e => e) (fun h' u tk hk => ⟨.str p.shown, H, I.kept hk, ⟨_, rfl⟩, Fin.here fin S (.str _)⟩) hs3
  unfold bRepr at h
  split at h
  · split at h
    · rename_i hz
      obtain ⟨v, rfl, r⟩ := rd.one
      have e := r.int_of; subst e
      exact SkE.call_repr_int pins s σ H _ us Q I rv ⟨_, rfl, hz, Fin.here h S (.str _)⟩
    · exact h.elim
  · split at h
    · rename_i p e
      split at h
      · rename_i hs
        obtain ⟨v, rfl, r⟩ := rd.one
        obtain ⟨a, _, ev, _, _⟩ := r.tup_of
        exact main a _ p v ev r e hs.1 hs.2.1 hs.2.2 rv h
      · exact h.elim
    · exact h.elim
  · split at h
    · rename_i p e
      split at h
      · rename_i hs
        obtain ⟨v, rfl, r⟩ := rd.one
        obtain ⟨a, ev, _⟩ := r.ref_of
        exact main a _ p v ev r e hs.1 hs.2.1 hs.2.2 rv h
      · exact h.elim
    · exact h.elim
  · exact h.elim

/-! ### tuple(range(..)), list(range(..)) -/
noncomputable def mTupRg (mr : En → Sto → R D) (env : En) (st : Sto) : R D := (mr env st).bind fun d st1 => match d with
  | .int n => if Mid n ∧ n.toNat ≤ 2 ^ 24 then .ok (.tup (rngD 0 n.toNat)) st1 else .no
  | _ => .no
noncomputable def mLstRg (mr : En → Sto → R D) (env : En) (st : Sto) : R D := (mr env st).bind fun d st1 => match d with
  | .int n => if Mid n ∧ n.toNat ≤ 2 ^ 24 then .ok (.ref st1.length) (st1 ++ [.lst (rngD 0 n.toNat)]) else .no
  | _ => .no
theorem rds_rg {K : PySem.W.Frag} {α : List Addr} {H : Hp} {n : Int} : RDs K α H (rngD 0 n.toNat) (rgV 0 n) := by
  have : ∀ (l : List Nat), RDs K α H (l.map fun i => D.int ((0 : Int) + (i : Nat))) (l.map fun i => V.int ((0 : Int) + (i : Nat))) := by
    intro l
    induction l with
    | nil => exact .nil
    | cons x l ih => exact .cons (.int _) ih
  have e : (n - 0).toNat = n.toNat := by omega
  unfold rngD rgV
  rw [e]
  exact this _
theorem de_tupRg {a : Expr} {ma : En → Sto → R D} {p p2 pos2 : Pos} (hc : X.calm = true) (hg : Gl X "tuple") (hm : X.mg "tuple" = none) (hg2 : Gl X "range") (hm2 : X.mg "range" = none) (ha : DE X W a ma)
    (na : starEach [a] X.env = (false, eval a X.env) :: starEach [] X.env := by rfl) (na2 : starEach [.Call (.Name "range" p2) [a] [] pos2] X.env = (false, eval (.Call (.Name "range" p2) [a] [] pos2) X.env) :: starEach [] X.env := by rfl) :
    DE X W (.Call (.Name "tuple" p) [.Call (.Name "range" p2) [a] [] pos2] [] pos) (mTupRg ma) := by
  refine PE.weak (pe_tupRg hc hg hm (prg_1 hg2 hm2 ha na) na2) fun σ H Q h => ?_
  obtain ⟨α, env, st, hE, hS, h⟩ := h
  refine ⟨α, env, st, hE, hS, h.bind.mono fun x st1 α1 H1 p1 k1 s1 h1 v rv => ?_⟩
  split at h1
  · split at h1
    · rename_i n hn
      refine ⟨n, rv.int_of, ⟨by decide, by decide, hn.1.1, hn.1.2, by have := hn.2; omega⟩, fun q hq => ?_⟩
      exact h1.at (List.prefix_refl _) (Keep.fresh hq) (s1.fresh hq) _ (.tup (SqT.of upd_same) rds_rg)
    · exact h1.elim
  · exact h1.elim
theorem de_lstRg {a : Expr} {ma : En → Sto → R D} {p p2 pos2 : Pos} (hc : X.calm = true) (hg : Gl X "list") (hm : X.mg "list" = none) (hg2 : Gl X "range") (hm2 : X.mg "range" = none) (ha : DE X W a ma)
    (na : starEach [a] X.env = (false, eval a X.env) :: starEach [] X.env := by rfl) (na2 : starEach [.Call (.Name "range" p2) [a] [] pos2] X.env = (false, eval (.Call (.Name "range" p2) [a] [] pos2) X.env) :: starEach [] X.env := by rfl) :
    DE X W (.Call (.Name "list" p) [.Call (.Name "range" p2) [a] [] pos2] [] pos) (mLstRg ma) := by
  refine PE.weak (pe_listRg hc hg hm (prg_1 hg2 hm2 ha na) na2) fun σ H Q h => ?_
  obtain ⟨α, env, st, hE, hS, h⟩ := h
  refine ⟨α, env, st, hE, hS, h.bind.mono fun x st1 α1 H1 p1 k1 s1 h1 v rv => ?_⟩
  split at h1
  · split at h1
    · rename_i n hn
      refine ⟨n, rv.int_of, ⟨by decide, by decide, hn.1.1, hn.1.2, by have := hn.2; omega⟩, fun q hq => ?_⟩
      refine h1.at (List.prefix_append _ [q]) (Keep.fresh hq) (s1.push hq rds_rg) _ (.ref ?_)
      rw [← s1.len, List.getElem?_concat_length]
    · exact h1.elim
  · exact h1.elim

/-! ### a def by its name -/
structure DefOk (P : Program) (w : World) (K : PySem.W.Frag) (mg : Str → Option Value) (base : Heap) (x : Str) (n k : Nat) (g : List D → Sto → R D) : Prop where
  ex : ∃ (f : Addr) (fd : FuncData) (ps : List Str), FnG P w K mg base k f fd ps (spD K n g) ∧ mg x = some (.ref f) ∧ PySem.W.keepIn K (.ref f) = true ∧ Binds K fd ps []
theorem de_f {x : Str} {p : Pos} {n j k : Nat} {g : List D → Sto → R D} (h : DefOk X.prog X.w X.K X.mg X.base x n j g) (hr : RG k X.A) (hle : j ≤ k) (hg : Gl X x) (tk : Takes X W) (ha : DA X W (e :: es) mr) (hn : (e :: es).length = n) (hl : AL n mr)
    (hdb : (x == ("__debug__" : Str)) = false := by decide) (he : starEach (e :: es) X.env = (false, eval e X.env) :: starEach es X.env := by rfl) (hpl : (backTo pos (starEach es X.env)).any (·.1) = false := by rfl) :
    DE X W (.Call (.Name x p) (e :: es) [] pos) (mCall g mr) := by
  obtain ⟨f, fd, ps, F, hm, hk, hb⟩ := h.ex
  exact de_call F (hr.mono hle) hg hm hk hb tk ha hn hl hdb he hpl
/-- how a def of the text stands behind the top -/
structure TopFn (K : PySem.W.Frag) (mg : Str → Option Value) (x : Str) (st : Stmt) (ps : List Str) : Prop where
  ex : ∃ (f : Addr) (fd : FuncData), Fun K x x st f fd ∧ mg x = some (.ref f) ∧ Binds K fd ps []
theorem fnG_no {P : Program} {w : World} {K : PySem.W.Frag} {mg : Str → Option Value} {base : Heap} {k n : Nat} {f : Addr} {fd : FuncData} {ps : List Str} (hn : ps.length = n) : FnG P w K mg base k f fd ps (spD K n fun _ _ => .no) :=
  ⟨fun vs H Q E h => h.1.trans hn.symm, fun A outer s H args us vs Q E hr e0 hb rv hsp => by
    obtain ⟨_, _, _, _, _, _, h⟩ := hsp
    exact h.elim⟩
theorem def_ok {P : Program} {w : World} {K : PySem.W.Frag} {mg : Str → Option Value} {base : Heap} {x : Str} {st : Stmt} {N ps : List Str} {k n : Nat} {body : En → Sto → RS} (T : TopFn K mg x st ps) (S : FnScope N ps (defScope st)) (hn : n = ps.length)
    (hbody : ∀ (f : Addr) (cdv : Value) (A : Around) (outer : List Env) (s : Shared) (H : Hp) (E : XK), RG k (A.deeper (envOfC x (defScope st) s.heap.objs.size f cdv)) → Takes (bodyX P w K mg base N x st f cdv A outer s H E) (fun c d _ H => E c d H) → PassesOwn (model P w) (A.deeper (envOfC x (defScope st) s.heap.objs.size f cdv)) (envOfC x (defScope st) s.heap.objs.size f cdv) (bodyX P w K mg base N x st f cdv A outer s H E).xe →
      DSs (bodyX P w K mg base N x st f cdv A outer s H E) (fun c d _ H => E c d H) (defBody st) body) : DefOk P w K mg base x n (k + 1) (mDef N.length body) := by
  obtain ⟨f, fd, F, hm, hb⟩ := T.ex
  exact ⟨f, fd, ps, fn_d F S hn fun cdv A outer s H E => hbody f cdv A outer s H E, hm, F.kp, hb⟩
/-- a def that calls itself: to a depth -/
theorem def_rec {P : Program} {w : World} {K : PySem.W.Frag} {mg : Str → Option Value} {base : Heap} {x : Str} {st : Stmt} {N ps : List Str} {k n : Nat} {g : Nat → List D → Sto → R D} {body : (List D → Sto → R D) → En → Sto → RS} (T : TopFn K mg x st ps) (S : FnScope N ps (defScope st)) (hn : n = ps.length)
    (g0 : g 0 = fun _ _ => .no) (gs : ∀ d, g (d + 1) = mDef N.length (body (g d)))
    (hbody : ∀ d, DefOk P w K mg base x n (k + d) (g d) → ∀ (f : Addr) (cdv : Value) (A : Around) (outer : List Env) (s : Shared) (H : Hp) (E : XK), RG (k + d) (A.deeper (envOfC x (defScope st) s.heap.objs.size f cdv)) → Takes (bodyX P w K mg base N x st f cdv A outer s H E) (fun c d _ H => E c d H) → PassesOwn (model P w) (A.deeper (envOfC x (defScope st) s.heap.objs.size f cdv)) (envOfC x (defScope st) s.heap.objs.size f cdv) (bodyX P w K mg base N x st f cdv A outer s H E).xe →
      DSs (bodyX P w K mg base N x st f cdv A outer s H E) (fun c d _ H => E c d H) (defBody st) (body (g d))) : ∀ d, DefOk P w K mg base x n (k + d) (g d) := by
  obtain ⟨f, fd, F, hm, hb⟩ := id T.ex
  intro d
  induction d with
  | zero => rw [g0]; exact ⟨f, fd, ps, fnG_no hn.symm, hm, F.kp, hb⟩
  | succ d ih =>
    rw [gs]
    exact def_ok T S hn (hbody d ih)
/-- an int of the module -/
theorem de_globI {x : Str} {i : Int} {p : Pos} (hg : Gl X x) (h : ∃ t, X.mg x = some (.int i t)) (hd : (x == ("__debug__" : Str)) = false := by decide) : DE X W (.Name x p) (mC (.int i)) := by
  obtain ⟨t, hm⟩ := h
  exact de_glob (v := .int i) hg hm ⟨t, rfl⟩ (fun _ _ => .int i) hd
/-- a tuple of the module -/
theorem de_globD {x : Str} {d : D} {p : Pos} (hg : Gl X x) (h : ∃ a, X.mg x = some (.ref a) ∧ ∀ α H, RD X.K α H d (.ref a)) (hd : (x == ("__debug__" : Str)) = false := by decide) : DE X W (.Name x p) (mC d) := by
  obtain ⟨a, hm, hr⟩ := h
  exact de_glob (v := .ref a) hg hm rfl hr hd
/-- x += y, ints -/
def oAddI : O2 := fun a b st => match a, b with
  | .int i, .int j => .ok (.int (i + j)) st
  | _, _ => .no
theorem pd_add : PIp X .Add (rD2 X.K oAddI) := by
  intro pins s σ H x y v u Q I rx ry h
  obtain ⟨α, st, a, b, S, ra, rb, h⟩ := h
  unfold oAddI at h
  split at h
  · have e1 := ra.int_of; have e2 := rb.int_of; subst e1; subst e2
    exact ip_add pins s σ H _ _ v u Q I rx ry ⟨_, _, rfl, rfl, Fin.here h S (.int _)⟩
  · exact h.elim
end
end DL
set_option Elab.async false
set_option linter.all false
set_option maxRecDepth 100000
namespace DL
open PySem PySem.Spec PyProof.Rows L2
theorem RG.u66 {k : Nat} {A : Around} (h : RG k A) : A.units + 66 < cLine := by have := h.r.un; omega

/-! ### sorted, pairs of ints -/
def mkP (p : Int × Int) : D := .tup [.int p.1, .int p.2]
def pairsOf : List D → Option (List (Int × Int))
  | [] => some []
  | .tup [.int i, .int j] :: r => (pairsOf r).map ((i, j) :: ·)
  | _ :: _ => none
theorem pairsOf_map : ∀ {ds : List D} {ps : List (Int × Int)}, pairsOf ds = some ps → ds = ps.map mkP
  | [], ps, h => by simp [pairsOf] at h; subst h; rfl
  | d :: r, ps, h => by
    unfold pairsOf at h
    split at h
    · rename_i e; cases e
    · rename_i i j r' e
      cases e
      cases q : pairsOf r with
      | none => rw [q] at h; cases h
      | some ms =>
        rw [q] at h
        cases h
        rw [pairsOf_map q]; rfl
    · cases h
@[simp] theorem pairsOf_pairs : ∀ ps : List (Int × Int), pairsOf (ps.map mkP) = some ps
  | [] => rfl
  | p :: ps => by simp [pairsOf, mkP, pairsOf_pairs ps] <;> (show (pairsOf (ps.map mkP)).map _ = _; rw [pairsOf_pairs ps]; rfl)
def leP (p q : Int × Int) : Bool := p.1 < q.1 || (p.1 == q.1 && p.2 ≤ q.2)
theorem leP_iff {p q : Int × Int} : leP p q = true ↔ p.1 < q.1 ∨ (p.1 = q.1 ∧ p.2 ≤ q.2) := by simp [leP]
def insP (x : Int × Int) : List (Int × Int) → List (Int × Int)
  | [] => [x]
  | y :: r => if leP x y = true then x :: y :: r else y :: insP x r
def sortP : List (Int × Int) → List (Int × Int)
  | [] => []
  | x :: r => insP x (sortP r)
abbrev SortedP (l : List (Int × Int)) : Prop := l.Pairwise fun x y => leP x y = true
theorem insP_perm (x : Int × Int) : ∀ l, (insP x l).Perm (x :: l)
  | [] => List.Perm.refl _
  | y :: r => by
    unfold insP
    split
    · exact List.Perm.refl _
    · exact ((insP_perm x r).cons y).trans (List.Perm.swap x y r)
theorem sortP_perm : ∀ l, (sortP l).Perm l
  | [] => List.Perm.refl _
  | x :: r => (insP_perm x _).trans ((sortP_perm r).cons x)
theorem leP_total {x y : Int × Int} (h : ¬ leP x y = true) : leP y x = true := by rw [leP_iff] at h ⊢; omega
theorem leP_trans {x y z : Int × Int} (h : leP x y = true) (h2 : leP y z = true) : leP x z = true := by rw [leP_iff] at *; omega
theorem leP_anti {x y : Int × Int} (h : leP x y = true) (h2 : leP y x = true) : x = y := by
  rw [leP_iff] at *
  exact Prod.ext (by omega) (by omega)
theorem insP_sorted (x : Int × Int) : ∀ l, SortedP l → SortedP (insP x l)
  | [], _ => by simp [insP]
  | y :: r, h => by
    unfold insP
    have h1 := List.pairwise_cons.mp h
    split
    · rename_i hxy
      refine List.pairwise_cons.mpr ⟨fun z hz => ?_, h⟩
      rcases List.mem_cons.mp hz with rfl | hz
      · exact hxy
      · exact leP_trans hxy (h1.1 z hz)
    · rename_i hxy
      refine List.pairwise_cons.mpr ⟨fun z hz => ?_, insP_sorted x r h1.2⟩
      rcases List.mem_cons.mp ((insP_perm x r).mem_iff.mp hz) with rfl | hz'
      · exact leP_total hxy
      · exact h1.1 z hz'
theorem sortP_sorted : ∀ l, SortedP (sortP l)
  | [] => .nil
  | x :: r => insP_sorted x _ (sortP_sorted r)
theorem sortedP_uniq : ∀ {l m : List (Int × Int)}, SortedP l → SortedP m → l.Perm m → l = m
  | [], m, _, _, h => by simp [List.Perm.eq_nil h.symm]
  | x :: l, [], _, _, h => by simp at h
  | x :: l, y :: m, hl, hm, h => by
    have h1 := List.pairwise_cons.mp hl
    have h2 := List.pairwise_cons.mp hm
    have e : x = y := by
      have a : x ∈ y :: m := h.mem_iff.mp List.mem_cons_self
      have b : y ∈ x :: l := h.mem_iff.mpr List.mem_cons_self
      rcases List.mem_cons.mp a with a | a
      · exact a
      · rcases List.mem_cons.mp b with b | b
        · exact b.symm
        · exact leP_anti (h1.1 y b) (h2.1 x a)
    subst e
    rw [sortedP_uniq h1.2 h2.2 h.cons_inv]
/-- the pair that stands at a value -/
def kH (h : Heap) (v : Value) : Int × Int := match v with
  | .ref a => match h.get? a with
    | some o => match o.data with
      | .seq items _ => match items.toList with
        | [.int i _, .int j _] => (i, j)
        | _ => (0, 0)
      | _ => (0, 0)
    | none => (0, 0)
  | _ => (0, 0)
/-! ### sorted of a tuple -/
section
open SrtO Srt
variable {prog : Program} {w : World} {A : Around} {E : Value → Shared → Prop} {s : Shared}
theorem collect_tup {l : Addr} {o : Obj} {n : Nat} {vs : List Value} {Q : List Value → Shared → Prop} (ho : s.heap.get? l = some o) (hc : o.cls = .type "tuple") (hd : o.data = .seq vs.toArray n) (hsz : vs.length ≤ sizeLine)
    (h : Q vs { s with heap := (s.heap.push (seqObj "list" #[] 0)).update s.heap.objs.size (Obj.mapSeq (· ++ vs.toArray)) }) : wpAny (model prog w) A (collect (.ref l)) Q E s := by
  have ho' : (s.heap.push (seqObj "list" #[] 0)).get? l = some o := Heap.get?_push_of_some _ ho
  have hn : (s.heap.push (seqObj "list" #[] 0)).get? s.heap.objs.size = some (seqObj "list" #[] 0) := Heap.get?_push_size _ rfl
  have ev : ((#[] : Array Value) ++ vs.toArray).toList = vs := by simp
  unfold collect
  refine wpAny_bind (wpAny_runValue (codeAny_builtin entry_proto_collect' ?_))
  show wpAny _ _ (do again (.builtin "list.__iadd__" ⟨[← newList [], .ref l], []⟩)) _ _ s
  refine wpAny_bind (wpAny_newList (wpAny_pure ⟨Code.quiet_builtin _ (by decide +kernel), codeAny_builtin entry_list_iadd' ?_⟩))
  show wpAny _ _ (Builtin.List.listExtendWith (.ref s.heap.objs.size) (.ref l) (.ref s.heap.objs.size)) _ _ { s with heap := s.heap.push (seqObj "list" #[] 0) }
  unfold Builtin.List.listExtendWith
  refine wpAny_bind (wpAny_typeOf (T := "tuple") ⟨o, ho', hc⟩ ?_)
  have ht : (Value.type "tuple" == Value.type "tuple") = true := by rfl
  rw [if_pos (by rw [ht]; simp)]
  refine wpAny_bind (listItems_at ho' hd ?_)
  refine wpAny_bind (listItems_at hn rfl ?_)
  rw [if_neg (by simp)]
  refine wpAny_bind (listUpdate_at hn rfl ?_ (Nat.zero_le _) (by show (#[] ++ vs.toArray).size ≤ sizeLine + 1; simp only [Array.size_append, List.size_toArray, List.length_nil]; omega))
  refine wpAny_pure ?_
  show wpAny (model prog w) A (do
      let o ← load s.heap.objs.size
      match o.data with
      | .seq xs _ => pure xs.toList
      | _ => unsupported "internal:collect") Q E { s with heap := (s.heap.push (seqObj "list" #[] 0)).update s.heap.objs.size (Obj.mapSeq (· ++ vs.toArray)) }
  refine wpAny_bind (wpAny_load (get?_update_seq hn _) ?_)
  show wpAny _ _ (pure ((#[] : Array Value) ++ vs.toArray).toList) Q E _
  rw [ev]
  exact wpAny_pure h
theorem sorted_ordT {l : Addr} {o : Obj} {n : Nat} {vs : List Value} {ltv : Value → Value → Bool} {Q : Value → Shared → Prop} (O : Swo ltv) (ho : s.heap.get? l = some o) (hc : o.cls = .type "tuple") (hd : o.data = .seq vs.toArray n) (hz : vs.length ≤ sizeLine)
    (hS : 2 ≤ vs.length → ∀ (h₁ : Heap) (a : Addr), h₁.get? a = some (seqObj "list" vs.toArray 0) → (∀ b o, s.heap.get? b = some o → b ≠ a ∧ h₁.get? b = some o) → SortableO prog w A.in1.in1 { s with heap := h₁ } a vs ltv)
    (h : ∀ out : List Value, Srtd ltv out → Stb ltv out vs → Q (.ref (s.heap.objs.size + 1)) { s with heap := sortedAll s.heap vs out.toArray }) :
    wpAny (model prog w) A (call (.builtin "sorted") [.ref l]) Q E s := by
  have hsz : ((s.heap.push (seqObj "list" #[] 0)).update s.heap.objs.size (Obj.mapSeq (· ++ vs.toArray))).objs.size = s.heap.objs.size + 1 := by
    rw [Heap.size_update, size_push']
  have hoL : (((s.heap.push (seqObj "list" #[] 0)).update s.heap.objs.size (Obj.mapSeq (· ++ vs.toArray))).push (seqObj "list" vs.toArray 0)).get? (s.heap.objs.size + 1) = some (seqObj "list" vs.toArray 0) := by
    rw [← hsz]; exact Heap.get?_push_size _ rfl
  refine Calls.call_function_entry kind_sorted plain_sorted entry_sorted (args_sorted1 _) ?_
  unfold Builtin.«sorted»
  refine wpAny_bind (m := checkCount "sorted" 1 1 _) (wpAny_pure ?_)
  refine wpAny_bind (collect_tup ho hc hd hz (wpAny_bind (wpAny_newList ?_ hz)))
  show wpAny _ _ _ _ _ { s with heap := ((s.heap.push (seqObj "list" #[] 0)).update s.heap.objs.size (Obj.mapSeq (· ++ vs.toArray))).push (seqObj "list" vs.toArray 0) }
  rw [hsz]
  refine wpAny_bind (wpAny_holding (wpAny_call_entry slot_list_sort ⟨_, hoL, rfl⟩ entry_list_sort (list_sort_ord O hoL hz (fun h2 => hS h2 _ _ hoL fun b o q => ?_) fun out hs hb => ⟨_, rfl, wpAny_pure ⟨_, rfl, h out hs hb⟩⟩) (args_list_sort _)))
  have hlt : b < s.heap.objs.size := Heap.lt_size q
  refine ⟨Nat.ne_of_lt (Nat.lt_succ_of_lt hlt), Heap.get?_push_of_some _ ?_⟩
  rw [Heap.get?_update_ne _ _ _ _ (Nat.ne_of_lt hlt)]
  exact Heap.get?_push_of_some _ q
theorem sorted_pairsT {l : Addr} {o : Obj} {n : Nat} {vs : List Value} {k : Value → Int × Int} {Q : Value → Shared → Prop} (ho : s.heap.get? l = some o) (hc : o.cls = .type "tuple") (hd : o.data = .seq vs.toArray n) (hz : vs.length ≤ sizeLine) (hp : ∀ v ∈ vs, IsPair s.heap v (k v).1 (k v).2)
    (h : ∀ (h' : Heap) (d : Addr) (out : List Value), Srtd (fun v u => lexB (k v) (k u)) out → Stb (fun v u => lexB (k v) (k u)) out vs → (∀ b o, s.heap.get? b = some o → h'.get? b = some o) → s.heap.objs.size ≤ d → (∃ n, h'.get? d = some (seqObj "list" out.toArray n)) → Q (.ref d) { s with heap := h' }) :
    wpAny (model prog w) A (call (.builtin "sorted") [.ref l]) Q E s := by
  refine sorted_ordT (swo_lex k) ho hc hd hz (fun h2 h₁ a ha kk => pairs_sortableO (s := { s with heap := h₁ }) (by omega) (fun v hm => (hp v hm).keeps fun b o e _ => (kk b o e).2) fun o e c => ?_) fun out hs hb => h _ _ out hs hb (fun b o e => sortedAll_old e) (Nat.le_succ _) (sortedAll_at s.heap vs out.toArray)
  have e' : some o = some (seqObj "list" vs.toArray 0) := e.symm.trans ha
  cases e'
  exact absurd (Value.type.inj c) (by decide)
end
section
variable {X : Cx}
theorem pairs_run {pins : List (Addr × Obj)} {s : Shared} {σ : L2.St} {H : Hp} {α : List Addr} (I : Inv X pins σ H s) : ∀ (ps : List (Int × Int)) (vs : List V) (us : List Value), RDs X.K α H (ps.map mkP) vs → Vals vs us →
    us.map (kH s.heap) = ps ∧ ∀ u ∈ us, ∃ p, u = Value.ref p ∧ RD X.K α H (mkP (kH s.heap u)) (.ref p) ∧ Srt.IsPair s.heap u (kH s.heap u).1 (kH s.heap u).2
  | [], vs, us, r, rv => by cases r; cases rv; exact ⟨rfl, fun u hu => by cases hu⟩
  | p :: ps, vs, us, r, rv => by
    obtain ⟨a, b⟩ := p
    cases r with
    | cons r1 r2 =>
      cases rv with
      | cons q1 q2 =>
        obtain ⟨h1, h2⟩ := pairs_run I ps _ _ r2 q2
        obtain ⟨ad, ws, rfl, t1, rr⟩ := RD.tup_of (xs := [.int a, .int b]) r1
        cases q1
        have ew : ws = [V.int a, V.int b] := RDs.toInts (ns := [a, b]) rr
        subst ew
        obtain ⟨its, ri, ⟨o, ho, hc, n, hd⟩, _⟩ := I.tuple t1
        obtain ⟨u1, u2, rfl, k1, k2⟩ := vals2 ri
        obtain ⟨t1', rfl⟩ := k1
        obtain ⟨t2', rfl⟩ := k2
        have e : kH s.heap (Value.ref ad) = (a, b) := by
          unfold kH
          simp only [ho, hd]
        refine ⟨by rw [List.map_cons, e, h1], fun u hu => ?_⟩
        rcases List.mem_cons.mp hu with rfl | hu
        · exact ⟨ad, rfl, by rw [e]; exact r1, by rw [e]; exact ⟨ad, o, t1', t2', n, rfl, ho, hc, hd⟩⟩
        · exact h2 u hu
theorem rds_back {K : PySem.W.Frag} {α : List Addr} {H : Hp} {k : Value → Int × Int} : ∀ (us : List Value), (∀ u ∈ us, ∃ p, u = Value.ref p ∧ RD K α H (mkP (k u)) (.ref p)) → RDs K α H ((us.map k).map mkP) (us.map backV)
  | [], _ => .nil
  | u :: us, h => by
    obtain ⟨p, rfl, r⟩ := h u List.mem_cons_self
    exact .cons r (rds_back us fun y hy => h y (List.mem_cons_of_mem _ hy))
def bSorted : List D → Sto → R D := fun ds st => match ds with
  | [.ref r] => match rdL st r with
    | some xs => match intsOf xs with
      | some ns => .ok (.ref st.length) (st ++ [.lst ((sortI ns).map D.int)])
      | none => match pairsOf xs with
        | some ps => .ok (.ref st.length) (st ++ [.lst ((sortP ps).map mkP)])
        | none => .no
    | none => .no
  | [.tup xs] => match intsOf xs with
    | some ns => .ok (.ref st.length) (st ++ [.lst ((sortI ns).map D.int)])
    | none => match pairsOf xs with
      | some ps => .ok (.ref st.length) (st ++ [.lst ((sortP ps).map mkP)])
      | none => .no
  | _ => .no
theorem cd_sortedP {pins : List (Addr × Obj)} {s : Shared} {σ : L2.St} {H : Hp} {us : List Value} {Q : VK} {α : List Addr} {st : Sto} {a : Addr} {ws : List V} {ps : List (Int × Int)} (I : Inv X pins σ H s) (S : SR X.K α st H) (rv : Vals [V.ref a] us) (h0 : SqL X.K H a ws)
    (r1 : RDs X.K α H (ps.map mkP) ws) (h : Fin X.K α H Q (.ref st.length) (st ++ [.lst ((sortP ps).map mkP)])) : wpAny (model X.prog X.w) X.A (call (.builtin "sorted") us) (EP X pins σ Q) X.xe s := by
  obtain ⟨u, rfl, ru⟩ := vals1 rv
  cases ru
  obtain ⟨its, ri, hl, hz⟩ := I.list h0
  obtain ⟨g1, g2⟩ := pairs_run I ps ws its r1 ri
  refine SrtO.sorted_pairsO (k := kH s.heap) hl.isList (by rw [← ri.length]; exact hz) (fun v hv => let ⟨_, _, _, q⟩ := g2 v hv; q) fun h' d out h1 h2 kp hd hn => ?_
  have mem : ∀ v ∈ out, v ∈ its := fun v hv => h2.perm.mem_iff.mp hv
  have e : out.map (kH s.heap) = sortP ps := by
    refine sortedP_uniq ?_ (sortP_sorted ps) ?_
    · refine List.pairwise_map.mpr (h1.imp fun {x y} hxy => ?_)
      have := SrtO.lexB_no.mp hxy
      rw [leP_iff]
      omega
    · refine ((h2.perm.map _).trans ?_).trans (sortP_perm ps).symm
      rw [g1]
  have rb : RDs X.K α H ((sortP ps).map mkP) (out.map backV) := by
    rw [← e]
    exact rds_back out fun v hv => let ⟨p, e1, e2, _⟩ := g2 v (mem v hv); ⟨p, e1, e2⟩
  obtain ⟨n, hn⟩ := hn
  have hrefs : ∀ v ∈ out, ∃ b, v = Value.ref b := fun v hv => let ⟨p, e1, _⟩ := g2 v (mem v hv); ⟨p, e1⟩
  refine ⟨.ref d, upd H d (.lst (out.map backV)), I.laid (t' := s.toks) kp hd (show ObjOk X.prog X.w _ _ _ (.lst (out.map backV)) from ⟨?_, out, n, vals_back hrefs, hn⟩), rfl, Fin.new h S rb (I.hok.fresh hd)⟩
  rw [List.length_map, h2.len, ← ri.length]
  exact hz
theorem cd_sortedT {pins : List (Addr × Obj)} {s : Shared} {σ : L2.St} {H : Hp} {us : List Value} {Q : VK} {α : List Addr} {st : Sto} {a : Addr} {ws : List V} {ps : List (Int × Int)} (I : Inv X pins σ H s) (S : SR X.K α st H) (rv : Vals [V.ref a] us) (h0 : SqT X.K H a ws)
    (r1 : RDs X.K α H (ps.map mkP) ws) (h : Fin X.K α H Q (.ref st.length) (st ++ [.lst ((sortP ps).map mkP)])) : wpAny (model X.prog X.w) X.A (call (.builtin "sorted") us) (EP X pins σ Q) X.xe s := by
  obtain ⟨u, rfl, ru⟩ := vals1 rv
  cases ru
  obtain ⟨its, ri, ⟨o, ho, hc, n0, hd0⟩, hz⟩ := I.tuple h0
  obtain ⟨g1, g2⟩ := pairs_run I ps ws its r1 ri
  refine sorted_pairsT (k := kH s.heap) ho hc hd0 (by rw [← ri.length]; exact hz) (fun v hv => let ⟨_, _, _, q⟩ := g2 v hv; q) fun h' d out h1 h2 kp hd hn => ?_
  have mem : ∀ v ∈ out, v ∈ its := fun v hv => h2.perm.mem_iff.mp hv
  have e : out.map (kH s.heap) = sortP ps := by
    refine sortedP_uniq ?_ (sortP_sorted ps) ?_
    · refine List.pairwise_map.mpr (h1.imp fun {x y} hxy => ?_)
      have := SrtO.lexB_no.mp hxy
      rw [leP_iff]
      omega
    · refine ((h2.perm.map _).trans ?_).trans (sortP_perm ps).symm
      rw [g1]
  have rb : RDs X.K α H ((sortP ps).map mkP) (out.map backV) := by
    rw [← e]
    exact rds_back out fun v hv => let ⟨p, e1, e2, _⟩ := g2 v (mem v hv); ⟨p, e1, e2⟩
  obtain ⟨n, hn⟩ := hn
  have hrefs : ∀ v ∈ out, ∃ b, v = Value.ref b := fun v hv => let ⟨p, e1, _⟩ := g2 v (mem v hv); ⟨p, e1⟩
  refine ⟨.ref d, upd H d (.lst (out.map backV)), I.laid (t' := s.toks) kp hd (show ObjOk X.prog X.w _ _ _ (.lst (out.map backV)) from ⟨?_, out, n, vals_back hrefs, hn⟩), rfl, Fin.new h S rb (I.hok.fresh hd)⟩
  rw [List.length_map, h2.len, ← ri.length]
  exact hz
theorem cd_sortedTI {pins : List (Addr × Obj)} {s : Shared} {σ : L2.St} {H : Hp} {us : List Value} {Q : VK} {α : List Addr} {st : Sto} {a : Addr} {ns : List Int} (I : Inv X pins σ H s) (S : SR X.K α st H) (rv : Vals [V.ref a] us) (h0 : SqT X.K H a (ns.map V.int))
    (h : Fin X.K α H Q (.ref st.length) (st ++ [.lst ((sortI ns).map D.int)])) : wpAny (model X.prog X.w) X.A (call (.builtin "sorted") us) (EP X pins σ Q) X.xe s := by
  obtain ⟨u, rfl, ru⟩ := vals1 rv
  cases ru
  obtain ⟨its, ri, ⟨o, ho, hc, n0, hd0⟩, hz⟩ := I.tuple h0
  have hi := ri.ints
  refine sorted_ordT SrtO.swo_int ho hc hd0 (by rw [← ri.length]; exact hz) (fun h2 h₁ a' _ _ => SrtO.ints_sortable hi h2) fun out h1 h2 => ?_
  obtain ⟨k1, k2, k3⟩ := SrtO.ints_out hi h1 h2
  have en : out.map SrtO.iv = sortI ns := sorted_uniq k3 (sortI_sorted ns) (k2.trans (sortI_perm ns).symm)
  rw [en] at k1
  obtain ⟨ep, he'⟩ := PyProof.Rows.sortedAll_at s.heap its out.toArray
  have hlen : ((sortI ns).map V.int).length ≤ sizeLine := by
    rw [List.length_map, (sortI_perm ns).length_eq]
    rw [List.length_map] at hz
    exact hz
  exact ⟨.ref _, upd H (s.heap.objs.size + 1) (.lst ((sortI ns).map V.int)), I.laid (t' := s.toks) (fun _ _ => PyProof.Rows.sortedAll_old) (Nat.le_succ _) ⟨hlen, out, ep, vals_of_ints k1, he'⟩, rfl, Fin.new h S (RDs.ints _) (I.hok.fresh (Nat.le_succ _))⟩
theorem cd_sorted : CDs X (.builtin "sorted") bSorted := by
  intro pins s σ H vs us Q I rv h
  obtain ⟨α, st, ds, S, rd, h⟩ := h
  unfold bSorted at h
  split at h
  · rename_i q
    split at h
    · rename_i xs e1
      obtain ⟨v, rfl, r⟩ := rd.one
      obtain ⟨p, rfl, a1⟩ := r.ref_of
      obtain ⟨ws, h0, r1⟩ := S.l e1 a1
      split at h
      · rename_i ns e2
        refine cd_sortedI pins s σ H _ us Q I rv ⟨α, st, [.ref q], S, rd, ?_⟩
        unfold bSortedI
        simp only [e1, e2, Option.bind_some]
        exact h
      · split at h
        · rename_i ps e3
          rw [pairsOf_map e3] at r1
          exact cd_sortedP I S rv h0 r1 h
        · exact h.elim
    · exact h.elim
  · split at h
    · rename_i ns e2
      obtain ⟨v, rfl, r⟩ := rd.one
      obtain ⟨p, ws, rfl, t1, r1⟩ := r.tup_of
      rw [intsOf_map e2] at r1
      rw [r1.toInts] at t1
      exact cd_sortedTI I S rv t1 h
    · split at h
      · rename_i ps e3
        obtain ⟨v, rfl, r⟩ := rd.one
        obtain ⟨p, ws, rfl, t1, r1⟩ := r.tup_of
        rw [pairsOf_map e3] at r1
        exact cd_sortedT I S rv t1 r1 h
      · exact h.elim
  · exact h.elim
end
end DL
set_option Elab.async false
set_option linter.all false
set_option maxRecDepth 100000
namespace DL
open PySem PySem.Spec PyProof.Rows L2

/-! ### the law's end -/
/-- what the law's def is asked for: a script that is only read -/
def spLaw (K : PySem.W.Frag) (f : List D → Sto → R D) : Sp := spD K 1 f
theorem script_sp {K : PySem.W.Frag} {f : List D → Sto → R D} {H : Hp} {a : Addr} {ns : List Int} (hO : Only H) (hS : SqL K H a (ns.map V.int)) (hf : ∃ st', f [.ref 0] [.fro (ns.map D.int)] = .ok (.bl true) st') : spLaw K f [.ref a] H (fun v _ => v = .bl true) fun _ _ _ => False := by
  obtain ⟨st', e⟩ := hf
  have hl : Locked K H a (ns.map V.int) := by
    rcases hS with (h | ⟨o, h⟩) | h
    · rcases hO a with q | ⟨o, xs, q⟩
      · rw [q] at h; cases h
      · rw [q] at h; cases h
    · exact .inl ⟨o, h⟩
    · exact .inr fun H' => .inr h
  refine ⟨rfl, [a], [.fro (ns.map D.int)], [.ref 0], ⟨rfl, fun i c hc => ?_, fun i j xs ys b h1 => ?_⟩, .cons (.ref rfl) .nil, ?_⟩
  · cases i with
    | zero => cases hc; exact ⟨a, rfl, _, hl, RDs.ints ns⟩
    | succ i => simp at hc
  · cases i with
    | zero => cases h1
    | succ i => simp at h1
  · rw [e]
    exact fun α' H' v _ _ _ r => r.bl_of
/-- the call of the law over the heap that the top left -/
theorem law_run {P : Program} {w : World} {K : PySem.W.Frag} {mg mb : Str → Option Value} {k : Nat} {fa a : Addr} {fd : FuncData} {x : Str} {sp : Sp} {s1 : Shared} {vs : List Value} {ns : List Int}
    (inK : K.In s1.heap) (gl : s1.heap.Ns mainGlobals mg) (bl : s1.heap.Ns builtinsNs mb) (bb : ∀ x : Str, x ≠ "__name__" → mb x = bootBuiltins x) (nol : s1.heap.NoLimit) (gens : s1.gens = #[])
    (ha : s1.heap.get? a = some { cls := .type "list", data := .seq vs.toArray }) (hi : IntsAre vs ns) (hz : ns.length ≤ sizeLine) (hr : Room k callerA)
    (F : ∀ base : Heap, K.In base → base.Ns mainGlobals mg → FnG P w K mg base k fa fd [x] sp) (hbind : ∀ (s : Shared) (u : Value), BindsTo s fd ⟨[u], []⟩ [(x, u)])
    (hsp : ∀ H : Hp, Only H → SqL K H a (ns.map V.int) → sp [.ref a] H (fun v _ => v = .bl true) fun _ _ _ => False) :
    codeAny (model P w) callerA (.call (.ref fa) ⟨[.ref a], []⟩) (fun r s' => r = .ok (.ret (.bool true)) ∧ OldK s1.heap s'.heap ∧ s'.os = s1.os ∧ AllBare s'.gens) s1 := by
  have rv : Vals (ns.map V.int) vs := vals_ints hi
  have go : ∀ H : Hp, Only H → SqL K H a (ns.map V.int) → HOk P w H s1.heap → (∀ b, H b ≠ none → b = a ∧ K.lookup a = none) →
      codeAny (model P w) callerA (.call (.ref fa) ⟨[.ref a], []⟩) (fun r s' => r = .ok (.ret (.bool true)) ∧ OldK s1.heap s'.heap ∧ s'.os = s1.os ∧ AllBare s'.gens) s1 := by
    intro H only sq hok near
    have free : ∀ {b : Addr} {o : Obj}, s1.heap.get? b = some o → (∀ z n, o.data ≠ .seq z n) → H b = none := by
      intro b o e d
      by_cases q : H b = none
      · exact q
      · obtain ⟨rfl, _⟩ := near b q
        rw [ha] at e
        cases e
        exact absurd rfl (d _ _)
    have ns_of : ∀ {b : Addr} {m : Str → Option Value}, s1.heap.Ns b m → (hidT s1.heap H).Ns b m := by
      intro b m hm
      obtain ⟨o, es, ep, e, d, r⟩ := hm
      exact ⟨o, es, ep, hidT_get e (free e fun z n q => by rw [d] at q; cases q), d, r⟩
    have kb : K.In (hidT s1.heap H) := fun b o e => by
      refine hidT_get (inK b o e) ?_
      by_cases q : H b = none
      · exact q
      · obtain ⟨rfl, z⟩ := near b q
        rw [z] at e
        cases e
    obtain ⟨mc, l1, l2⟩ := nol
    have md : Mod K mg (hidT s1.heap H) := ⟨kb, ns_of gl, ⟨mb, ns_of bl, bb⟩, ⟨mc, ns_of l1, l2⟩⟩
    have env : Env0 P w K mg (hidT s1.heap H) callerA [] s1 H := ⟨rfl, md, fun b o e => of_hidT e, Nat.le_of_eq (hidT_size _ _), trivial, fun b hb => (by cases hb), hok, .of_eq gens⟩
    have run := (F _ kb (ns_of gl)).run callerA [] s1 H ⟨[.ref a], []⟩ [.ref a] [.ref a] _ _ ⟨hr, rfl⟩ env (hbind s1 (.ref a)) (.cons rfl .nil) (hsp H only sq)
    refine codeAny_mono run fun r s' h => ?_
    match r, h with
    | .error e, h =>
      obtain ⟨_, _, _, _, _, _, _, _, _, _, _, _, z⟩ := h
      exact z.elim
    | .ok .next, h => exact h.elim
    | .ok .brk, h => exact h.elim
    | .ok .cont, h => exact h.elim
    | .ok (.ret u), ⟨v, H', os, bare, un, hok', rel, q⟩ =>
      subst q
      cases rel
      refine ⟨rfl, OldK.of_keep fun b o e => ?_, os, bare⟩
      rcases only b with z | ⟨ob, xs, z⟩
      · exact un.keep b o e z (fun z => by cases z) (by simp)
      · have h1 : s1.heap.get? b = some ob := (hok b _ z).1
        have h2 : s'.heap.get? b = some ob := (hok' b _ (un.frzs b ob _ z)).1
        rw [e] at h1
        cases h1
        exact h2
  by_cases hk : K.lookup a = none
  · let H : Hp := fun b => if b = a then some (.frz { cls := .type "list", data := .seq vs.toArray } (.lst (ns.map V.int))) else none
    have at_ : H a = some (.frz { cls := .type "list", data := .seq vs.toArray } (.lst (ns.map V.int))) := if_pos rfl
    refine go H (fun b => ?_) (.inl (.inr ⟨_, at_⟩)) (fun b u z => ?_) (fun b z => ⟨?_, hk⟩)
    · by_cases e : b = a
      · subst e; exact .inr ⟨_, _, at_⟩
      · exact .inl (if_neg e)
    · by_cases e : b = a
      · subst e
        rw [at_] at z
        cases z
        exact ⟨ha, by rw [List.length_map]; exact hz, vs, _, rv, ha⟩
      · rw [show H b = none from if_neg e] at z
        cases z
    · by_cases e : b = a
      · exact e
      · exact absurd (show H b = none from if_neg e) z
  · obtain ⟨o, ho⟩ := Option.ne_none_iff_exists'.mp hk
    have e := inK a o ho
    rw [ha] at e
    cases e
    refine go (fun _ => none) (fun _ => .inl rfl) (.inr ⟨_, vs.toArray, _, ho, rfl, rfl, rfl, by rw [List.size_toArray, hi.length]; exact hz, by simpa using rv⟩) (fun b u z => by cases z) fun b z => absurd rfl z
/-- the goal behind the head -/
theorem walk_d {l : PySem.W.OpenLaw} {n k : Nat} {q : Program} {loose : List Str} {XP : (Str → Option Value) → Heap → Prop} {YP : World → Heap → Prop} {d : DefRec} {K : Params → PySem.W.Frag} {x : Str} {f : List D → Sto → R D}
    (hn : l.most = some n) (hn2 : n ≤ sizeLine) (hdf : d.params.defaults = []) (hr : Room k callerA) (hY : ∀ (w : World) (h : Heap), YP w h → (K w.params).In h)
    (F : ∀ (w : World) (mg : Str → Option Value) (fa : Addr) (h : Heap), (K w.params).In h → h.Ns mainGlobals mg → mg d.name = some (.ref fa) →
      ∃ fd : FuncData, (∀ (s : Shared) (u : Value), BindsTo s fd ⟨[u], []⟩ [(x, u)]) ∧ ∀ base : Heap, (K w.params).In base → base.Ns mainGlobals mg → FnG l.prog w (K w.params) mg base k fa fd [x] (spLaw (K w.params) f))
    (main : ∀ ns : List Int, ns.length ≤ n → ∃ st', f [.ref 0] [.fro (ns.map D.int)] = .ok (.bl true) st') : PySem.W.WalkO q loose XP YP l.row.toRowW d [] (fun f vs => PySem.call f vs) := by
  refine Att.attach_call hn hdf fun w _ s1 mg mb fa o pm cd doc a vs ns G Y _ _ _ hmg hobj hints hlen hg => ?_
  obtain ⟨fd, hb, hF⟩ := F w mg fa _ (hY w _ Y) G.T.g hmg
  exact law_run (hY w _ Y) G.T.g G.T.b G.T.builtins G.T.nolimit hg hobj hints (Nat.le_trans hlen hn2) hr hF hb fun H hO hS => script_sp hO hS (main ns hlen)
theorem topFn_of {K : PySem.W.Frag} {h : Heap} {mg : Str → Option Value} {x : Str} {st : Stmt} {ps : List Str} {f : Addr} {oc : Value} {od an : Option Addr} {sl : Array (Option Value)} {kV dc pm cd ct : Value} (X : K.In h) (G : h.Ns mainGlobals mg)
    (a : PySem.W.nsIn K mainGlobals x = some (some (.ref f))) (l : K.lookup f = some ⟨oc, od, .func (PySem.W.fnOf x x (defArgs st) (defBody st) (defScope st) .none kV dc pm an cd ct), sl⟩) (c : PySem.W.codeIn K cd x = true) (k : PySem.W.keepIn K (.ref f) = true)
    (b : ∀ (kV doc pm : Value) (an : Option Addr) (cdv ct : Value) (us : List Value), us.length = ps.length → bindArgs (PySem.W.fnOf x x (defArgs st) (defBody st) (defScope st) .none kV doc pm an cdv ct) ⟨us, []⟩ = pure (ps.zip us)) : TopFn K mg x st ps :=
  have F := fun_mk (st := st) l c k
  ⟨f, _, F, PySem.W.mg_of X G a, F.binds b⟩
abbrev TopFnX {K : PySem.W.Frag} {h : Heap} (_ : K.In h) (mg : Str → Option Value) (x : Str) (st : Stmt) (ps : List Str) : Prop := TopFn K mg x st ps
/-- the law's own def -/
theorem law_of {P : Program} {w : World} {K : PySem.W.Frag} {h : Heap} {mg : Str → Option Value} {x p : Str} {st : Stmt} {fa f : Addr} {k : Nat} {g : List D → Sto → R D} {oc : Value} {od an : Option Addr} {sl : Array (Option Value)} {kV dc pm cd ct : Value} (X : K.In h) (G : h.Ns mainGlobals mg) (hmg : mg x = some (.ref fa))
    (a : PySem.W.nsIn K mainGlobals x = some (some (.ref f))) (l : K.lookup f = some ⟨oc, od, .func (PySem.W.fnOf x x (defArgs st) (defBody st) (defScope st) .none kV dc pm an cd ct), sl⟩) (c : PySem.W.codeIn K cd x = true) (kp : PySem.W.keepIn K (.ref f) = true)
    (b : ∀ (kV dc pm : Value) (an : Option Addr) (cd ct : Value) (s : Shared) (u : Value), BindsTo s (PySem.W.fnOf x x (defArgs st) (defBody st) (defScope st) .none kV dc pm an cd ct) ⟨[u], []⟩ [(p, u)])
    (all : ∀ (base : Heap) (fd : FuncData), Fun K x x st fa fd → FnG P w K mg base k fa fd [p] (spLaw K g)) :
    ∃ fd : FuncData, (∀ (s : Shared) (u : Value), BindsTo s fd ⟨[u], []⟩ [(p, u)]) ∧ ∀ base : Heap, K.In base → base.Ns mainGlobals mg → FnG P w K mg base k fa fd [p] (spLaw K g) := by
  have e := hmg.symm.trans (PySem.W.mg_of X G a)
  cases e
  exact ⟨_, fun s u => b kV dc pm an cd ct s u, fun base _ _ => all base _ (fun_mk (st := st) l c kp)⟩
end DL
set_option Elab.async false
set_option linter.all false
set_option maxRecDepth 100000
/-! Constant tables with text keys, told by the name that holds them; a call of a local name that holds one of the text's defs. -/
namespace DL
open PySem PySem.Spec PyProof.Rows L2

/-- an entry of a table as it stands, and what it stands for -/
structure EntOk (K : PySem.W.Frag) (w : World) (e : DictEntry) (q : Str × D) : Prop where
  key : ∃ t, e.key = .str q.1 t
  hash : e.hash = PyData.keyHash w.params q.1
  val : ∃ v, RelV v e.val ∧ ∀ α H, RD K α H q.2 v
inductive EntsOk (K : PySem.W.Frag) (w : World) : List DictEntry → List (Str × D) → Prop where
  | nil : EntsOk K w [] []
  | cons {e : DictEntry} {q : Str × D} {es : List DictEntry} {qs : List (Str × D)} : EntOk K w e q → EntsOk K w es qs → EntsOk K w (e :: es) (q :: qs)
theorem EntsOk.lit {K : PySem.W.Frag} {w : World} : ∀ {es : List DictEntry} {qs : List (Str × D)}, EntsOk K w es qs → PySem.W.KeysLit w.params es
  | _, _, .nil => trivial
  | _, _, .cons h r => ⟨let ⟨t, e⟩ := h.key; ⟨_, t, e, h.hash⟩, r.lit⟩
theorem EntsOk.find {K : PySem.W.Frag} {w : World} (z : Str) : ∀ {es : List DictEntry} {qs : List (Str × D)}, EntsOk K w es qs →
    match qs.find? (fun q => q.1 == z), es.find? (·.key.isStr z) with
    | some q, some e => ∃ v, RelV v e.val ∧ ∀ α H, RD K α H q.2 v
    | none, none => True
    | _, _ => False
  | _, _, .nil => trivial
  | _, _, .cons (e := e) (q := q) h r => by
    obtain ⟨t, ek⟩ := h.key
    have c : e.key.isStr z = (q.1 == z) := by rw [ek]; rfl
    rw [List.find?_cons, List.find?_cons, c]
    cases b : q.1 == z with
    | true => exact h.val
    | false => exact r.find z
theorem EntsOk.noRef {K : PySem.W.Frag} {w : World} : ∀ {es : List DictEntry} {qs : List (Str × D)}, EntsOk K w es qs → es.any (·.refKey) = false
  | _, _, .nil => rfl
  | _, _, .cons h r => by
    obtain ⟨t, ek⟩ := h.key
    rw [List.any_cons, r.noRef]
    unfold DictEntry.refKey
    rw [ek]; rfl
/-- the table that stands at a name of the text -/
structure TabOk (K : PySem.W.Frag) (w : World) (x : Str) (qs : List (Str × D)) : Prop where
  ex : ∃ (d : Addr) (es : Array DictEntry) (n : Nat), PySem.W.nsIn K mainGlobals x = some (some (.ref d)) ∧ K.lookup d = some ⟨.type "dict", none, .dict es n, #[]⟩ ∧ (d == sysModules) = false ∧ EntsOk K w es.toList qs
def tabAt (qs : List (Str × D)) (z : Str) : Option D := (qs.find? fun q => q.1 == z).map (·.2)
theorem TabOk.at_ {K : PySem.W.Frag} {w : World} {x : Str} {qs : List (Str × D)} {α : List Addr} {H : Hp} {v : V} (h : TabOk K w x qs) (r : RD K α H (.nam x) v) :
    ∃ d es n, v = .ref d ∧ KDict K w d es n ∧ ∀ z, match tabAt qs z with
      | some dv => ∃ u v, PySem.W.nsIn K d z = some (some u) ∧ RelV v u ∧ ∀ α H, RD K α H dv v
      | none => PySem.W.nsIn K d z = some none := by
  obtain ⟨d, es, n, h1, h2, h3, h4⟩ := h.ex
  cases r with
  | nam h1' =>
    rw [h1] at h1'
    cases h1'
    refine ⟨d, es, n, rfl, ⟨h2, h4.lit, h3⟩, fun z => ?_⟩
    have f := h4.find z
    have nr := h4.noRef
    unfold tabAt PySem.W.nsIn
    rw [h2]
    cases qq : qs.find? (fun q => q.1 == z) with
    | none =>
      cases qe : es.toList.find? (·.key.isStr z) with
      | none => simp only [Option.map_none, nr, Bool.false_eq_true, if_false, qe]
      | some e => rw [qq, qe] at f; exact f.elim
    | some q =>
      cases qe : es.toList.find? (·.key.isStr z) with
      | none => rw [qq, qe] at f; exact f.elim
      | some e =>
        rw [qq, qe] at f
        obtain ⟨v, r1, r2⟩ := f
        exact ⟨e.val, v, by simp only [qe], r1, r2⟩
/-- tables by their names -/
abbrev Tabs := List (Str × List (Str × D))
structure TabsOk (K : PySem.W.Frag) (w : World) (T : Tabs) : Prop where
  all : ∀ p ∈ T, TabOk K w p.1 p.2
def tabOf (T : Tabs) (x : Str) : Option (List (Str × D)) := (T.find? fun q => q.1 == x).map (·.2)
theorem TabsOk.of {K : PySem.W.Frag} {w : World} {T : Tabs} (h : TabsOk K w T) {x : Str} {qs : List (Str × D)} (e : tabOf T x = some qs) : TabOk K w x qs := by
  unfold tabOf at e
  cases q : T.find? (fun q => q.1 == x) with
  | none => rw [q] at e; cases e
  | some p =>
    rw [q] at e
    cases e
    have e0 : (p.1 == x) = true := by simpa using List.find?_some q
    have e1 : p.1 = x := eq_of_beq e0
    rw [← e1]
    exact h.all p (List.mem_of_find?_eq_some q)
def oInT (T : Tabs) : O2 := fun a b st => match a, b with
  | .str z, .nam x => match tabOf T x with
    | some qs => .ok (.bl (tabAt qs z).isSome) st
    | none => .no
  | _, _ => .no
def oNotInT (T : Tabs) : O2 := fun a b st => match a, b with
  | .str z, .nam x => match tabOf T x with
    | some qs => .ok (.bl (!(tabAt qs z).isSome)) st
    | none => .no
  | _, _ => .no
def oIxT (T : Tabs) : O2 := fun a b st => match a, b with
  | .nam x, .str z => match tabOf T x with
    | some qs => match tabAt qs z with
      | some d => .ok d st
      | none => .no
    | none => .no
  | _, _ => .no
section
variable {X : Cx} {W : WX} {T : Tabs} {pos : Pos}
theorem od_inT (hT : TabsOk X.K X.w T) : OD2 X (compareOp .In) (oInT T) := by
  intro pins s σ H x y v u Q I rx ry h
  obtain ⟨α, st, a, b, S, ra, rb, h⟩ := h
  unfold oInT at h
  split at h
  · rename_i z n
    split at h
    · rename_i qs e
      have e1 := ra.str_of; subst e1
      obtain ⟨d, es, m, rfl, kd, at_⟩ := (hT.of e).at_ rb
      have := at_ z
      revert this h
      cases tabAt qs z with
      | none => exact fun h q => op_in_kd kd pins s σ H _ _ v u Q I rx ry ⟨z, none, rfl, rfl, q, Fin.here h S (.bl _)⟩
      | some dv => exact fun h ⟨u0, v0, q, _⟩ => op_in_kd kd pins s σ H _ _ v u Q I rx ry ⟨z, some u0, rfl, rfl, q, Fin.here h S (.bl _)⟩
    · exact h.elim
  · exact h.elim
theorem od_notinT (hT : TabsOk X.K X.w T) : OD2 X (compareOp .NotIn) (oNotInT T) := by
  intro pins s σ H x y v u Q I rx ry h
  obtain ⟨α, st, a, b, S, ra, rb, h⟩ := h
  unfold oNotInT at h
  split at h
  · rename_i z n
    split at h
    · rename_i qs e
      have e1 := ra.str_of; subst e1
      obtain ⟨d, es, m, rfl, kd, at_⟩ := (hT.of e).at_ rb
      have := at_ z
      revert this h
      cases tabAt qs z with
      | none => exact fun h q => op_notIn_kd kd pins s σ H _ _ v u Q I rx ry ⟨z, none, rfl, rfl, q, Fin.here h S (.bl _)⟩
      | some dv => exact fun h ⟨u0, v0, q, _⟩ => op_notIn_kd kd pins s σ H _ _ v u Q I rx ry ⟨z, some u0, rfl, rfl, q, Fin.here h S (.bl _)⟩
    · exact h.elim
  · exact h.elim
theorem ix_dT (hT : TabsOk X.K X.w T) : IxR X (rD2 X.K (oIxT T)) := by
  intro value slice pins s σ H x y v u Q I rx ry h hsl
  obtain ⟨α, st, a, b, S, ra, rb, h⟩ := h
  unfold oIxT at h
  split at h
  · rename_i n z
    split at h
    · rename_i qs e
      have e1 := rb.str_of; subst e1
      obtain ⟨d, es, m, rfl, kd, at_⟩ := (hT.of e).at_ ra
      have := at_ z
      revert this h
      cases tabAt qs z with
      | none => exact fun h _ => h.elim
      | some dv => exact fun h ⟨u0, v0, q, rv, rd⟩ => ix_kdict value slice pins s σ H _ _ v u Q I rx ry ⟨d, z, v0, rfl, rfl, ⟨es, m, u0, kd.at_, kd.lit, q, rv⟩, Fin.here h S (rd _ _)⟩ hsl
    · exact h.elim
  · exact h.elim
theorem de_ixT (hT : TabsOk X.K X.w T) {a b : Expr} {ma mb : En → Sto → R D} (ha : DE X W a ma) (hb : DE X W b mb) (hs : PlainIx b) : DE X W (.Subscript a b pos) (m2 (oIxT T) ma mb) := PE.weak (pe_ix (ix_dT hT) ha hb hs) fun _ _ _ => two_of
/-- a name of the text that holds a table or a def, as a value -/
theorem de_globN {x : Str} (hg : Gl X x) (h : ∃ a, X.mg x = some (.ref a) ∧ PySem.W.nsIn X.K mainGlobals x = some (some (.ref a))) (hd : (x == ("__debug__" : Str)) = false := by decide) : DE X W (.Name x pos) (mC (.nam x)) := by
  obtain ⟨a, hm, hn⟩ := h
  exact de_glob (v := .ref a) hg hm rfl (fun _ _ => .nam hn) hd
/-- defs by their names -/
abbrev Defs := List (Str × (List D → Sto → R D))
def defAt (F : Defs) (z : Str) : Option (List D → Sto → R D) := (F.find? fun q => q.1 == z).map (·.2)
/-- what a call of a local name may meet -/
structure CalOk (P : Program) (w : World) (K : PySem.W.Frag) (mg : Str → Option Value) (base : Heap) (k n : Nat) (x : Str) (g : List D → Sto → R D) : Prop where
  ex : ∃ (f : Addr) (fd : FuncData) (ps : List Str), PySem.W.nsIn K mainGlobals x = some (some (.ref f)) ∧ FnG P w K mg base k f fd ps (spD K n g) ∧ PySem.W.keepIn K (.ref f) = true ∧ Binds K fd ps []
noncomputable def mCallL (F : Defs) (i : Nat) (mr : En → Sto → R (List D)) (env : En) (st : Sto) : R D := match env[i]? with
  | some (some (.nam x)) => match defAt F x with
    | some g => mCall g mr env st
    | none => .no
  | _ => .no
theorem de_callL {F : Defs} {k n i : Nat} (hF : ∀ p ∈ F, CalOk X.prog X.w X.K X.mg X.base k n p.1 p.2) {x : Str} {p : Pos} {e : Expr} {es : List Expr} {mr : En → Sto → R (List D)} (hr : RG k X.A) (hN : X.N[i]? = some x) (hv : Vis X.env.scope x) (tk : Takes X W)
    (ha : DA X W (e :: es) mr) (hl : AL n mr) (hdb : (x == ("__debug__" : Str)) = false := by decide) (hcd : (x == ("__classdict__" : Str)) = false := by decide) (he : starEach (e :: es) X.env = (false, eval e X.env) :: starEach es X.env := by rfl) (hpl : (backTo pos (starEach es X.env)).any (·.1) = false := by rfl) :
    DE X W (.Call (.Name x p) (e :: es) [] pos) (mCallL F i mr) := by
  refine ⟨fun pins s σ H Q I h => ?_⟩
  obtain ⟨α, env, st, hE, hS, h⟩ := h
  unfold mCallL at h
  split at h
  · rename_i nm ev
    split at h
    · rename_i g eg
      have hmem : (nm, g) ∈ F := by
        unfold defAt at eg
        cases q : F.find? (fun q => q.1 == nm) with
        | none => rw [q] at eg; cases eg
        | some p =>
          rw [q] at eg
          cases eg
          have e0 : (p.1 == nm) = true := by simpa using List.find?_some q
          have e1 : p.1 = nm := eq_of_beq e0
          rw [← e1]
          exact List.mem_of_find?_eq_some q
      obtain ⟨f, fd, ps, hn, Fn, hk, hb⟩ := (hF _ hmem).ex
      obtain ⟨v0, g1, g2⟩ := hE.2 i _ ev
      have ev0 : v0 = .ref f := by
        cases g2 with
        | nam h1 => rw [hn] at h1; cases h1; rfl
      subst ev0
      refine wpAny_Call_Name_kw (thn ((pe_var (pos := p) hN hv hdb hcd).run pins s σ H (fun v H1 => v = .ref f ∧ H1 = H) I ⟨.ref f, g1, rfl, rfl⟩) fun u s1 ⟨v, H1, I1, r1, q1⟩ => ?_)
      obtain ⟨rfl, rfl⟩ := q1
      cases r1
      refine PySem.W.callWith_K (h₀ := X.base) I.ok.mod.kin hk (thn (ha.run pos pins s1 σ _ (fun vs H1 => ∃ α1 ds st1, SR X.K α1 st1 H1 ∧ RDs X.K α1 H1 ds vs ∧ ds.length = n ∧ GoC X.K α1 H1 Q (WE W σ) (g ds st1)) I1 ⟨α, env, st, hE, hS, ?_⟩) fun us s2 h1 => ?_) he hpl
      · have hlen := hl env st
        have key := Go.bind h
        revert hlen key
        cases mr env st with
        | ok ds st1 => exact fun hlen key α1 H1 p1 k1 s1 vs rvs => ⟨α1, ds, st1, s1, rvs, hlen _ _ rfl, .of_go (key α1 H1 p1 k1 s1)⟩
        | ex x st1 => exact fun _ key => key
        | no => exact fun _ key => key
      · obtain ⟨vs, H1, I2, rv, α1, ds, st1, s1', rd, hlen, q⟩ := h1
        exact ⟨I2.kIn, run_fnG Fn hr hb (passAt tk σ) I2 rv ⟨by rw [← rd.len]; exact hlen, α1, st1, ds, s1', rd, q⟩⟩
    · exact h.elim
  · exact h.elim
/-- a name that the text binds to an object, known to both looks -/
theorem named_of {K : PySem.W.Frag} {h : Heap} {mg : Str → Option Value} {x : Str} {a : Addr} (KX : K.In h) (G : h.Ns mainGlobals mg) (e : PySem.W.nsIn K mainGlobals x = some (some (.ref a))) : ∃ a, mg x = some (.ref a) ∧ PySem.W.nsIn K mainGlobals x = some (some (.ref a)) := ⟨a, PySem.W.mg_of KX G e, e⟩
theorem CalOk.of {P : Program} {w : World} {K : PySem.W.Frag} {mg : Str → Option Value} {base : Heap} {j k n : Nat} {x : Str} {g : List D → Sto → R D} (h : DefOk P w K mg base x n j g) (hle : j ≤ k) (hn : ∃ a, mg x = some (.ref a) ∧ PySem.W.nsIn K mainGlobals x = some (some (.ref a))) : CalOk P w K mg base k n x g := by
  obtain ⟨f, fd, ps, F, hm, hk, hb⟩ := h.ex
  obtain ⟨a, ha, e⟩ := hn
  rw [hm] at ha
  cases ha
  exact ⟨f, fd, ps, e, F.mono hle, hk, hb⟩
/-- all that a table's names may call -/
abbrev CalsOk (P : Program) (w : World) (K : PySem.W.Frag) (mg : Str → Option Value) (base : Heap) (k n : Nat) (F : Defs) : Prop := ∀ p ∈ F, CalOk P w K mg base k n p.1 p.2
theorem cals_nil {P : Program} {w : World} {K : PySem.W.Frag} {mg : Str → Option Value} {base : Heap} {k n : Nat} : CalsOk P w K mg base k n [] := fun p hp => by cases hp
theorem cals_cons {P : Program} {w : World} {K : PySem.W.Frag} {mg : Str → Option Value} {base : Heap} {k n : Nat} {x : Str} {g : List D → Sto → R D} {F : Defs} (h : CalOk P w K mg base k n x g) (r : CalsOk P w K mg base k n F) : CalsOk P w K mg base k n ((x, g) :: F) := fun p hp => by
  rcases List.mem_cons.mp hp with e | hp
  · subst e; exact h
  · exact r p hp
theorem de_fL {F : Defs} {j k n i : Nat} (hF : CalsOk X.prog X.w X.K X.mg X.base j n F) {x : Str} {p : Pos} {e : Expr} {es : List Expr} {mr : En → Sto → R (List D)} (hr : RG k X.A) (hle : j ≤ k) (hN : X.N[i]? = some x) (hv : Vis X.env.scope x) (tk : Takes X W)
    (ha : DA X W (e :: es) mr) (hl : AL n mr) (hdb : (x == ("__debug__" : Str)) = false := by decide) (hcd : (x == ("__classdict__" : Str)) = false := by decide) (he : starEach (e :: es) X.env = (false, eval e X.env) :: starEach es X.env := by rfl) (hpl : (backTo pos (starEach es X.env)).any (·.1) = false := by rfl) :
    DE X W (.Call (.Name x p) (e :: es) [] pos) (mCallL F i mr) := de_callL hF (hr.mono hle) hN hv tk ha hl hdb hcd he hpl
theorem tab_of {K : PySem.W.Frag} {w : World} {x : Str} {qs : List (Str × D)} {d : Addr} {es : Array DictEntry} {n : Nat} (e1 : PySem.W.nsIn K mainGlobals x = some (some (.ref d))) (e2 : K.lookup d = some ⟨.type "dict", none, .dict es n, #[]⟩) (e3 : (d == sysModules) = false) (e4 : EntsOk K w es.toList qs) : TabOk K w x qs := ⟨d, es, n, e1, e2, e3, e4⟩
theorem tabs_nil {K : PySem.W.Frag} {w : World} : TabsOk K w [] := ⟨fun p hp => by cases hp⟩
theorem tabs_cons {K : PySem.W.Frag} {w : World} {x : Str} {qs : List (Str × D)} {T : Tabs} (h : TabOk K w x qs) (r : TabsOk K w T) : TabsOk K w ((x, qs) :: T) := ⟨fun p hp => by
  rcases List.mem_cons.mp hp with e | hp
  · subst e; exact h
  · exact r.all p hp⟩
end
end DL
set_option Elab.async false
set_option linter.all false
set_option maxRecDepth 100000
/-! least and greatest of a tuple or a list of ints, with default= too. -/
namespace DL
open PySem PySem.Spec PyProof.Rows L2 PySem.W
theorem alike_ints' (ns : List Int) : AlikeAll (ns.map PyData.int) := by
  refine ⟨fun x hx y hy => ?_, fun x hx e => ?_⟩
  · obtain ⟨i, _, rfl⟩ := List.mem_map.mp hx
    obtain ⟨j, _, rfl⟩ := List.mem_map.mp hy
    rfl
  · obtain ⟨i, _, rfl⟩ := List.mem_map.mp hx
    cases e
theorem depth_ints' : ∀ ns : List Int, PyData.depthAll (ns.map PyData.int) = 0
  | [] => rfl
  | n :: ns => by simp [PyData.depthAll, PyData.depth, depth_ints' ns]
theorem reads_ints {h : Heap} : ∀ {ns : List Int} {its : List Value}, Vals (ns.map V.int) its → ∃ as, ReadsAll h its (ns.map PyData.int) as
  | [], its, r => by cases r; exact ⟨_, .nil⟩
  | n :: ns, its, r => by
    cases r with
    | cons a b =>
      obtain ⟨as, q⟩ := reads_ints (h := h) b
      obtain ⟨t, rfl⟩ := a
      exact ⟨_, .cons (.int n t) q⟩
theorem read_int {h : Heap} {v : Value} {m : Int} {bs : List Addr} (r : Reads h v (.int m) bs) : ∃ t, v = .int m t := by
  cases r
  exact ⟨_, rfl⟩
section
variable {X : Cx}
/-- ints that can be walked: a list's, a tuple's -/
def intsAt (st : Sto) : D → Option (List Int)
  | .tup xs => intsOf xs
  | .ref r => (rdL st r).bind intsOf
  | _ => none
def bMinA : List D → Sto → R D := fun ds st => match ds with
  | [d] => match (intsAt st d).bind minI with
    | some m => .ok (.int m) st
    | none => .no
  | _ => .no
def bMaxA : List D → Sto → R D := fun ds st => match ds with
  | [d] => match (intsAt st d).bind maxI with
    | some m => .ok (.int m) st
    | none => .no
  | _ => .no
theorem ints_at {pins : List (Addr × Obj)} {s : Shared} {σ : L2.St} {H : Hp} {α : List Addr} {st : Sto} {d : D} {v : V} {ns : List Int} (I : Inv X pins σ H s) (S : SR X.K α st H) (r : RD X.K α H d v) (e : intsAt st d = some ns) :
    ∃ p its, v = .ref p ∧ Vals (ns.map V.int) its ∧ (s.heap.IsList p its.toArray ∨ s.heap.IsTuple p its.toArray) := by
  cases d with
  | tup xs =>
    obtain ⟨p, ws, rfl, t1, r1⟩ := r.tup_of
    have e' : intsOf xs = some ns := e
    rw [intsOf_map e'] at r1
    rw [r1.toInts] at t1
    obtain ⟨its, rv, ⟨o, ho, hc, n, hd⟩, _⟩ := I.tuple t1
    exact ⟨p, its, rfl, rv, .inr ⟨o, ho, hc, n, hd⟩⟩
  | ref q =>
    obtain ⟨p, rfl, a1⟩ := r.ref_of
    obtain ⟨xs, e1, e2⟩ := Option.bind_eq_some_iff.mp (show (rdL st q).bind intsOf = some ns from e)
    obtain ⟨ws, h0, r1⟩ := S.l e1 a1
    rw [intsOf_map e2] at r1
    rw [r1.toInts] at h0
    obtain ⟨its, rv, hl, _⟩ := I.list h0
    exact ⟨p, its, rfl, rv, .inl hl.isList⟩
  | _ => cases e
theorem cd_minA (hc : X.calm = true) (hu : X.A.units + 66 < cLine) : CDs X (.builtin "min") bMinA := by
  intro pins s σ H vs us Q I rv h
  obtain ⟨α, st, ds, S, rd, h⟩ := h
  unfold bMinA at h
  split at h
  · split at h
    · rename_i m e
      obtain ⟨ns, e0, e3⟩ := Option.bind_eq_some_iff.mp e
      obtain ⟨v, rfl, r⟩ := rd.one
      obtain ⟨p, its, rfl, rvs, c⟩ := ints_at I S r e0
      rw [Vals.ref1 rv]
      cases ns with
      | nil => cases e3
      | cons a l =>
        have em : m = l.foldl min a := (Option.some.inj e3).symm
        obtain ⟨as, ra⟩ := reads_ints (h := s.heap) rvs
        have hd : X.A.units + 1 + PyData.depthAll (PyData.int a :: l.map PyData.int) < cLine := by
          have := depth_ints' (a :: l)
          rw [List.map_cons] at this
          rw [this]; omega
        have fin : ∀ (i : Nat) v h' tk bs, its.toArray[i]? = some v → Reads h' v (minD (.int a) (l.map .int)) bs → (∀ b o, s.heap.get? b = some o → h'.get? b = some o) → EP X pins σ Q v { s with heap := h', toks := tk } := by
          intro i v h' tk bs _ r hk
          rw [minD_ints] at r
          obtain ⟨t, rfl⟩ := read_int r
          rw [← em]
          exact ⟨.int m, H, I.kept hk, ⟨t, rfl⟩, Fin.here h S (.int _)⟩
        rcases c with c | c
        · exact min_list_data (I.ok.hd hc) c (by simpa using ra) (alike_ints' (a :: l)) hd fin
        · exact min_tuple_data (I.ok.hd hc) c (by simpa using ra) (alike_ints' (a :: l)) hd fin
    · exact h.elim
  · exact h.elim
theorem cd_maxA (hc : X.calm = true) (hu : X.A.units + 66 < cLine) : CDs X (.builtin "max") bMaxA := by
  intro pins s σ H vs us Q I rv h
  obtain ⟨α, st, ds, S, rd, h⟩ := h
  unfold bMaxA at h
  split at h
  · split at h
    · rename_i m e
      obtain ⟨ns, e0, e3⟩ := Option.bind_eq_some_iff.mp e
      obtain ⟨v, rfl, r⟩ := rd.one
      obtain ⟨p, its, rfl, rvs, c⟩ := ints_at I S r e0
      rw [Vals.ref1 rv]
      cases ns with
      | nil => cases e3
      | cons a l =>
        have em : m = l.foldl max a := (Option.some.inj e3).symm
        obtain ⟨as, ra⟩ := reads_ints (h := s.heap) rvs
        have hd : X.A.units + 1 + PyData.depthAll (PyData.int a :: l.map PyData.int) < cLine := by
          have := depth_ints' (a :: l)
          rw [List.map_cons] at this
          rw [this]; omega
        have fin : ∀ (i : Nat) v h' tk bs, its.toArray[i]? = some v → Reads h' v (maxD (.int a) (l.map .int)) bs → (∀ b o, s.heap.get? b = some o → h'.get? b = some o) → EP X pins σ Q v { s with heap := h', toks := tk } := by
          intro i v h' tk bs _ r hk
          rw [maxD_ints] at r
          obtain ⟨t, rfl⟩ := read_int r
          rw [← em]
          exact ⟨.int m, H, I.kept hk, ⟨t, rfl⟩, Fin.here h S (.int _)⟩
        rcases c with c | c
        · exact max_list_data (I.ok.hd hc) c (by simpa using ra) (alike_ints' (a :: l)) hd fin
        · exact max_tuple_data (I.ok.hd hc) c (by simpa using ra) (alike_ints' (a :: l)) hd fin
    · exact h.elim
  · exact h.elim
end
end DL
set_option Elab.async false
set_option linter.all false
set_option maxRecDepth 100000
/-! Calls of built-ins with keywords; least and greatest with default=. -/
namespace DL
open PySem PySem.Spec PyProof.Rows L2 PySem.W
section
variable {X : Cx} {W : WX} {pos : Pos} {e : Expr} {es : List Expr} {kws : List Keyword} {me : En → Sto → R D} {mr mk : En → Sto → R (List D)}
abbrev DK (X : Cx) (W : WX) (kws : List Keyword) (m : En → Sto → R (List D)) : Prop := PK X kws (tA X.K W m)
theorem PK.weak {kws : List Keyword} {t t' : TA} (h : PK X kws t) (f : ∀ σ H Q, t' σ H Q → t σ H Q) : PK X kws t' := ⟨fun pos pins s σ H Q I hw => h.run pos pins s σ H Q I (f σ H Q hw)⟩
theorem dk_nil : DK X W [] aNil := by
  refine PK.weak pk_nil fun σ H Q h => ?_
  obtain ⟨α, env, st, hE, hS, h⟩ := h
  exact h.here hS _ .nil
theorem dk_cons {nm : Option Str} {kpos : Pos} (ha : DE X W e me) (hr : DK X W kws mk) : DK X W (⟨nm, e, kpos⟩ :: kws) (aCons me mk) := by
  refine PK.weak (pk_cons ha hr) fun σ H Q h => ?_
  obtain ⟨α, env, st, hE, hS, h⟩ := h
  refine ⟨α, env, st, hE, hS, h.bind.mono fun x st1 α1 H1 p1 k1 s1 h1 v rv => ?_⟩
  refine ⟨α1, env, st1, hE.mono p1 k1, s1, h1.bind.mono fun xs st2 α2 H2 p2 k2 s2 h2 vs rvs => ?_⟩
  exact h2.here s2 _ (.cons (rv.mono p2 k2) rvs)
def rDsK (K : PySem.W.Frag) (f : List D → List D → Sto → R D) : List V → List V → Hp → VK → Prop := fun vs ws H Q => ∃ α st ds es, SR K α st H ∧ RDs K α H ds vs ∧ RDs K α H es ws ∧ Rw (f ds es st) fun d st' => Fin K α H Q d st'
def mFnK (f : List D → List D → Sto → R D) (mr mk : En → Sto → R (List D)) (env : En) (st : Sto) : R D := (mr env st).bind fun xs st1 => (mk env st1).bind fun zs st2 => noEx (f xs zs st2)
theorem fnK_of {K : PySem.W.Frag} {f : List D → List D → Sto → R D} {σ : L2.St} {H : Hp} {Q : VK} (h : tE K W (mFnK f mr mk) σ H Q) : tCKw (rDsK K f) (tA K W mr) (tA K W mk) σ H Q := by
  obtain ⟨α, env, st, hE, hS, h⟩ := h
  refine ⟨α, env, st, hE, hS, h.bind.mono fun xs st1 α1 H1 p1 k1 s1 h1 vs rvs => ?_⟩
  refine ⟨α1, env, st1, hE.mono p1 k1, s1, h1.bind.mono fun zs st2 α2 H2 p2 k2 s2 h2 ws rws => ?_⟩
  exact ⟨α2, st2, xs, zs, s2, rvs.mono p2 k2, rws, h2.rw.mono fun d st3 q α' H' w p k s rw => q α' H' p k s w rw⟩
theorem de_callK {x : Str} {id : String} {ks : List Str} {f : List D → List D → Sto → R D} {p : Pos} (hc : CallRK X (.builtin id) ks (rDsK X.K f)) (hg : Gl X x) (hm : X.mg x = none) (hv : bootBuiltins x = some (.builtin id)) (ha : DA X W (e :: es) mr) (hk : DK X W kws mk) (hn : x ≠ "__name__" := by decide) (hdb : (x == ("__debug__" : Str)) = false := by decide)
    (he : backTo pos (starEach (e :: es) X.env) = (false, eval e X.env) :: backTo pos (starEach es X.env) := by rfl) (hpl : (backTo pos (starEach (e :: es) X.env)).any (·.1) = false := by rfl)
    (hall : (backToKw pos (keywordEach kws X.env)).all (·.1.isSome) = true := by rfl) (hnone : (backToKw pos (keywordEach kws X.env)).any (·.1.isNone) = false := by rfl) (hks : (backToKw pos (keywordEach kws X.env)).filterMap (·.1) = ks := by rfl) :
    DE X W (.Call (.Name x p) (e :: es) kws pos) (mFnK f mr mk) := PE.weak (pe_callBK hc hg hm hv ha hk hn hdb he hpl hall hnone hks) fun _ _ _ => fnK_of
def bMinK : List D → List D → Sto → R D := fun ds es st => match ds, es with
  | [d], [z] => match intsAt st d with
    | some ns => match minI ns with
      | some m => .ok (.int m) st
      | none => .ok z st
    | none => .no
  | _, _ => .no
def bMaxK : List D → List D → Sto → R D := fun ds es st => match ds, es with
  | [d], [z] => match intsAt st d with
    | some ns => match maxI ns with
      | some m => .ok (.int m) st
      | none => .ok z st
    | none => .no
  | _, _ => .no
theorem cdk_min (hc : X.calm = true) (hu : X.A.units + 66 < cLine) : CallRK X (.builtin "min") [Str.ofString "default"] (rDsK X.K bMinK) := by
  intro pins s σ H xs zs us ws Q I rv rw' h
  obtain ⟨α, st, ds, es, S, rd, re, h⟩ := h
  unfold bMinK at h
  split at h
  · rename_i d z
    split at h
    · rename_i ns e0
      obtain ⟨v, rfl, r⟩ := rd.one
      obtain ⟨v2, rfl, r2⟩ := re.one
      obtain ⟨p, its, rfl, rvs, c⟩ := ints_at I S r e0
      rw [Vals.ref1 rv]
      obtain ⟨u2, rfl, ru2⟩ := vals1 rw'
      obtain ⟨as, ra⟩ := reads_ints (h := s.heap) rvs
      have hd : X.A.units + 1 + PyData.depthAll (ns.map PyData.int) < cLine := by rw [depth_ints']; omega
      have f0 : ns.map PyData.int = [] → ∀ h' tk, (∀ b o, s.heap.get? b = some o → h'.get? b = some o) → EP X pins σ Q u2 { s with heap := h', toks := tk } := by
        intro en h' tk hk
        have en' : ns = [] := by simpa using en
        subst en'
        exact ⟨v2, H, I.kept hk, ru2, Fin.here h S r2⟩
      have f1 : ∀ (y : PyData) (ys : List PyData) (i : Nat) v h' tk bs, ns.map PyData.int = y :: ys → its.toArray[i]? = some v → Reads h' v (minD y ys) bs → (∀ b o, s.heap.get? b = some o → h'.get? b = some o) → EP X pins σ Q v { s with heap := h', toks := tk } := by
        intro y ys i v h' tk bs en _ r hk
        cases ns with
        | nil => cases en
        | cons a l =>
          cases en
          rw [minD_ints] at r
          obtain ⟨t, rfl⟩ := read_int r
          exact ⟨.int _, H, I.kept hk, ⟨t, rfl⟩, Fin.here h S (.int _)⟩
      rcases c with c | c
      · exact min_list_default (I.ok.hd hc) c (by simpa using ra) (alike_ints' ns) hd f0 f1
      · exact min_tuple_default (I.ok.hd hc) c (by simpa using ra) (alike_ints' ns) hd f0 f1
    · exact h.elim
  · exact h.elim
theorem cdk_max (hc : X.calm = true) (hu : X.A.units + 66 < cLine) : CallRK X (.builtin "max") [Str.ofString "default"] (rDsK X.K bMaxK) := by
  intro pins s σ H xs zs us ws Q I rv rw' h
  obtain ⟨α, st, ds, es, S, rd, re, h⟩ := h
  unfold bMaxK at h
  split at h
  · rename_i d z
    split at h
    · rename_i ns e0
      obtain ⟨v, rfl, r⟩ := rd.one
      obtain ⟨v2, rfl, r2⟩ := re.one
      obtain ⟨p, its, rfl, rvs, c⟩ := ints_at I S r e0
      rw [Vals.ref1 rv]
      obtain ⟨u2, rfl, ru2⟩ := vals1 rw'
      obtain ⟨as, ra⟩ := reads_ints (h := s.heap) rvs
      have hd : X.A.units + 1 + PyData.depthAll (ns.map PyData.int) < cLine := by rw [depth_ints']; omega
      have f0 : ns.map PyData.int = [] → ∀ h' tk, (∀ b o, s.heap.get? b = some o → h'.get? b = some o) → EP X pins σ Q u2 { s with heap := h', toks := tk } := by
        intro en h' tk hk
        have en' : ns = [] := by simpa using en
        subst en'
        exact ⟨v2, H, I.kept hk, ru2, Fin.here h S r2⟩
      have f1 : ∀ (y : PyData) (ys : List PyData) (i : Nat) v h' tk bs, ns.map PyData.int = y :: ys → its.toArray[i]? = some v → Reads h' v (maxD y ys) bs → (∀ b o, s.heap.get? b = some o → h'.get? b = some o) → EP X pins σ Q v { s with heap := h', toks := tk } := by
        intro y ys i v h' tk bs en _ r hk
        cases ns with
        | nil => cases en
        | cons a l =>
          cases en
          rw [maxD_ints] at r
          obtain ⟨t, rfl⟩ := read_int r
          exact ⟨.int _, H, I.kept hk, ⟨t, rfl⟩, Fin.here h S (.int _)⟩
      rcases c with c | c
      · exact max_list_default (I.ok.hd hc) c (by simpa using ra) (alike_ints' ns) hd f0 f1
      · exact max_tuple_default (I.ok.hd hc) c (by simpa using ra) (alike_ints' ns) hd f0 f1
    · exact h.elim
  · exact h.elim
end
end DL
set_option Elab.async false
set_option linter.all false
set_option maxRecDepth 100000
/-! A call whose callee is told by an expression (an entry of a table). -/
namespace DL
open PySem PySem.Spec PyProof.Rows L2 PySem.W StX
noncomputable def mCallE (F : Defs) (mf : En → Sto → R D) (mr : En → Sto → R (List D)) (env : En) (st : Sto) : R D := (mf env st).bind fun d st1 => match d with
  | .nam x => match defAt F x with
    | some g => mCall g mr env st1
    | none => .no
  | _ => .no
theorem defAt_mem {F : Defs} {nm : Str} {g : List D → Sto → R D} (eg : defAt F nm = some g) : (nm, g) ∈ F := by
  unfold defAt at eg
  cases q : F.find? (fun q => q.1 == nm) with
  | none => rw [q] at eg; cases eg
  | some p =>
    rw [q] at eg
    cases eg
    have e0 : (p.1 == nm) = true := by simpa using List.find?_some q
    have e1 : p.1 = nm := eq_of_beq e0
    rw [← e1]
    exact List.mem_of_find?_eq_some q
section
variable {X : Cx} {W : WX} {pos : Pos}
theorem de_fE {F : Defs} {j k n : Nat} (hF : CalsOk X.prog X.w X.K X.mg X.base j n F) {fe e : Expr} {es : List Expr} {mf : En → Sto → R D} {mr : En → Sto → R (List D)} (hf : DE X W fe mf) (hr : RG k X.A) (hle : j ≤ k) (tk : Takes X W)
    (ha : DA X W (e :: es) mr) (hl : AL n mr)
    (ht : eval (.Call fe (e :: es) [] pos) X.env = (do callWith pos (← eval fe X.env) [] (backTo pos (starEach (e :: es) X.env)) (backToKw pos (keywordEach [] X.env))) := by rfl)
    (he : starEach (e :: es) X.env = (false, eval e X.env) :: starEach es X.env := by rfl) (hpl : (backTo pos (starEach es X.env)).any (·.1) = false := by rfl) :
    DE X W (.Call fe (e :: es) [] pos) (mCallE F mf mr) := by
  refine ⟨fun pins s σ H Q I h => ?_⟩
  obtain ⟨α, env, st, hE, hS, h⟩ := h
  refine Call_ (thn (hf.run pins s σ H (fun v H1 => ∃ (f : Addr) (fd : FuncData) (ps : List Str) (g : List D → Sto → R D) (α1 : List Addr) (st1 : Sto), v = .ref f ∧ FnG X.prog X.w X.K X.mg X.base j f fd ps (spD X.K n g) ∧ PySem.W.keepIn X.K (.ref f) = true ∧ Binds X.K fd ps [] ∧
    ER X.K α1 env σ H1 ∧ SR X.K α1 st1 H1 ∧ Go X.K W α1 H1 σ (mCall g mr env st1) fun d _ α' H' => ∀ v, RD X.K α' H' d v → Q v H') I ⟨α, env, st, hE, hS, ?_⟩) fun u s1 ⟨v, H1, I1, r1, f, fd, ps, g, α1, st1, ev, Fn, hk, hb, hE1, hS1, q⟩ => ?_) ht
  · refine h.bind.mono fun d st1 α1 H1 p1 k1 s1 h1 v rv => ?_
    split at h1
    · rename_i nm
      split at h1
      · rename_i g eg
        obtain ⟨f, fd, ps, hn, Fn, hk, hb⟩ := (hF _ (defAt_mem eg)).ex
        cases rv with
        | nam h2 =>
          rw [hn] at h2
          cases h2
          exact ⟨f, fd, ps, g, α1, st1, rfl, Fn, hk, hb, hE.mono p1 k1, s1, h1⟩
      · exact h1.elim
    · exact h1.elim
  · subst ev
    obtain rfl : u = Value.ref f := r1
    refine PySem.W.callWith_K (h₀ := X.base) I1.ok.mod.kin hk (thn (ha.run pos pins s1 σ H1 (fun vs H2 => ∃ α2 ds st2, SR X.K α2 st2 H2 ∧ RDs X.K α2 H2 ds vs ∧ ds.length = n ∧ GoC X.K α2 H2 Q (WE W σ) (g ds st2)) I1 ⟨α1, env, st1, hE1, hS1, ?_⟩) fun us s2 h1 => ?_) he hpl
    · have hlen := hl env st1
      have key := Go.bind q
      revert hlen key
      cases mr env st1 with
      | ok ds st2 => exact fun hlen key α2 H2 p2 k2 s2 vs rvs => ⟨α2, ds, st2, s2, rvs, hlen _ _ rfl, .of_go (key α2 H2 p2 k2 s2)⟩
      | ex x st2 => exact fun _ key => key
      | no => exact fun _ key => key
    · obtain ⟨vs, H2, I2, rv, α2, ds, st2, s2', rd, hlen, q2⟩ := h1
      exact ⟨I2.kIn, run_fnG Fn (hr.mono hle) hb (passAt tk σ) I2 rv ⟨by rw [← rd.len]; exact hlen, α2, st2, ds, s2', rd, q2⟩⟩
end
end DL
set_option Elab.async false
set_option linter.all false
set_option maxRecDepth 100000
/-! isinstance of data and a built-in type. -/
namespace DL
open PySem PySem.Spec PyProof.Rows L2
def kinds6 : List String := ["NoneType", "bool", "int", "str", "tuple", "list"]
def types5 : List String := ["int", "str", "tuple", "bool", "list"]
def isT (n T : String) : Option Bool := if n ∈ kinds6 ∧ T ∈ types5 then some (n == T || (n == "bool" && T == "int")) else none
theorem kit_one {K : PySem.W.Frag} {n T : String} {b : Bool} (h : isT n T = some b) : PySem.W.kitOne K (.type n) (.type T) = some b := by
  unfold isT at h
  split at h
  · rename_i q
    obtain ⟨q1, q2⟩ := q
    cases h
    simp only [kinds6, types5, List.mem_cons, List.not_mem_nil, or_false] at q1 q2
    rcases q1 with rfl | rfl | rfl | rfl | rfl | rfl <;> rcases q2 with rfl | rfl | rfl | rfl | rfl <;> rfl
  · cases h
theorem tyx_tup {K : PySem.W.Frag} {H : Hp} {a : Addr} {xs : List V} (h : SqT K H a xs) : TyX K H (.ref a) (.type "tuple") := by
  rcases h with (h | ⟨o, h⟩) | h
  · exact .base (.tup h)
  · exact .fTuple h
  · obtain ⟨o, _, _, h1, h2, _⟩ := h
    exact .kTuple h1 h2
theorem tyx_lst {K : PySem.W.Frag} {H : Hp} {a : Addr} {xs : List V} (h : SqL K H a xs) : TyX K H (.ref a) (.type "list") := by
  rcases h with (h | ⟨o, h⟩) | h
  · exact .base (.lst h)
  · exact .base (.frz h)
  · obtain ⟨o, _, _, h1, h2, _⟩ := h
    exact .kList h1 h2
def bIsInst : List D → Sto → R D := fun ds st => match ds with
  | [d, .ty T] => match (kindD st d).bind fun n => isT n T with
    | some b => .ok (.bl b) st
    | none => .no
  | _ => .no
section
variable {X : Cx}
theorem tyx_of {α : List Addr} {H : Hp} {st : Sto} {d : D} {v : V} {n : String} (S : SR X.K α st H) (r : RD X.K α H d v) (e : kindD st d = some n) : TyX X.K H v (.type n) := by
  cases d with
  | non => cases r; cases e; exact .base .non
  | bl b => cases r; cases e; exact .base (.bl b)
  | int i => cases r; cases e; exact .base (.int i)
  | str x => cases r; cases e; exact .base (.str x)
  | tup xs =>
    cases e
    obtain ⟨p, ws, rfl, t1, r1⟩ := r.tup_of
    exact tyx_tup t1
  | ref q =>
    obtain ⟨p, rfl, a1⟩ := r.ref_of
    have e' : (match rdL st q with
      | some _ => some "list"
      | none => none) = some n := e
    split at e'
    · rename_i xs e1
      cases e'
      obtain ⟨ws, h0, r1⟩ := S.l e1 a1
      exact tyx_lst h0
    · cases e'
  | _ => cases e
theorem cd_isinst : CDs X (.builtin "isinstance") bIsInst := by
  intro pins s σ H vs us Q I rv h
  obtain ⟨α, st, ds, S, rd, h⟩ := h
  unfold bIsInst at h
  split at h
  · rename_i d T
    split at h
    · rename_i b e
      obtain ⟨n, e1, e2⟩ := Option.bind_eq_some_iff.mp e
      cases rd with
      | cons r1 rr =>
        cases rr with
        | cons r2 r3 =>
          cases r3
          have et := r2.ty_of
          subst et
          exact call_isi pins s σ H _ us Q I rv ⟨_, _, .type n, .type T, b, rfl, .ty T, tyx_of S r1 e1, kit_one e2, Fin.here h S (.bl _)⟩
    · exact h.elim
  · exact h.elim
end
end DL
set_option Elab.async false
set_option linter.all false
set_option maxRecDepth 100000
/-! a, b, .. = a tuple or a list of that length; the names of a table in their order. -/
namespace DL
open PySem PySem.Spec PyProof.Rows L2
section
variable {X : Cx} {W : WX} {pos : Pos}
theorem PG.either {e : Expr} {t t' : TG} (h : PG X e t) (h' : PG X e t') : PG X e (fun v σ H Q => t v σ H Q ∨ t' v σ H Q) := ⟨fun pins s σ H v u Q I r hw => hw.elim (h.run pins s σ H v u Q I r) (h'.run pins s σ H v u Q I r)⟩
def gSeq (gs : List D → En → Sto → Option (En × Sto)) (n : Nat) : GT := fun d env st => match d with
  | .tup xs => if xs.length = n then gs xs env st else none
  | .ref r => match rdL st r with
    | some xs => if xs.length = n then gs xs env st else none
    | none => none
  | _ => none
theorem dg_seq {es : List Expr} {k : Nat} {vs : List Nat} {gs : List D → En → Sto → Option (En × Sto)} {n : Nat} (hc : X.calm = true) (h : DGs X es vs gs)
    (hn : (assignEach es X.env).length = n := by rfl) (hst : (assignEach es X.env).findIdx? (·.1) = none := by rfl) : DG X (.Tuple es k pos) vs (gSeq gs n) := by
  refine PG.weak (PG.either (pg_tup hc h hn hst) (pg_lst hc h hn hst)) fun v σ H Q h => ?_
  obtain ⟨α, env, st, d, hE, hS, r, h⟩ := h
  unfold gSeq at h
  cases d with
  | tup xs =>
    obtain ⟨a, us, rfl, t1, r1⟩ := r.tup_of
    by_cases hl : xs.length = n
    · simp only [hl, if_true] at h
      exact .inl ⟨a, us, rfl, t1, by rw [← r1.len]; exact hl, α, env, st, xs, hE, hS, r1, h⟩
    · simp only [hl, if_false] at h
  | ref q =>
    obtain ⟨p, rfl, a1⟩ := r.ref_of
    cases e1 : rdL st q with
    | none => simp only [e1] at h
    | some xs =>
      obtain ⟨us, h0, r1⟩ := hS.l e1 a1
      by_cases hl : xs.length = n
      · simp only [e1, hl, if_true] at h
        exact .inr ⟨p, us, rfl, h0, by rw [← r1.len]; exact hl, α, env, st, xs, hE, hS, r1, h⟩
      · simp only [e1, hl, if_false] at h
  | _ => exact h.elim
end
end DL
set_option Elab.async false
set_option linter.all false
set_option maxRecDepth 100000
/-! A constant tuple of the module, by what stands there. -/
namespace DL
open PySem PySem.Spec PyProof.Rows L2
theorem glob_tup_of {K : PySem.W.Frag} {h : Heap} {mg : Str → Option Value} {x : Str} {a : Addr} {dd : Option Addr} {its : Array Value} {n : Nat} {sl : Array (Option Value)} {ds : List D} (KX : K.In h) (G : h.Ns mainGlobals mg) (e1 : PySem.W.nsIn K mainGlobals x = some (some (.ref a)))
    (e2 : K.lookup a = some ⟨.type "tuple", dd, .seq its n, sl⟩) (e3 : its.size ≤ sizeLine) (e4 : ∃ vs, Vals vs its.toList ∧ ∀ α H, RDs K α H ds vs) : ∃ a, mg x = some (.ref a) ∧ ∀ α H, RD K α H (.tup ds) (.ref a) := by
  obtain ⟨vs, h1, h2⟩ := e4
  exact ⟨a, PySem.W.mg_of KX G e1, fun α H => .tup (.inr ⟨_, its, n, e2, rfl, rfl, e3, h1⟩) (h2 α H)⟩
end DL
set_option Elab.async false
set_option linter.all false
set_option maxRecDepth 100000
/-! Two targets; x *= y; xs[::-1]. -/
namespace DL
open PySem PySem.Spec PyProof.Rows L2
section
variable {X : Cx} {W : WX} {pos : Pos} {e : Expr} {me : En → Sto → R D}
/-- t1 = t2 = e -/
def sAsg2 (m : En → Sto → R D) (g1 g2 : GT) (env : En) (st : Sto) : RS := (m env st).toS env fun d st1 => match g1 d env st1 with
  | some (env1, st2) => match g2 d env1 st2 with
    | some (env2, st3) => .nx env2 st3
    | none => .no
  | none => .no
theorem ds_asg2 {t1 t2 : Expr} {v1 v2 : List Nat} {g1 g2 : GT} (he : DE X W e me) (h1 : DG X t1 v1 g1) (h2 : DG X t2 v2 g2) (ha : (assignEach [t1, t2] X.env).map (·.2) = [assign t1 X.env, assign t2 X.env] := by rfl) (hw : swappedStores [t1, t2] e X.env = pure none := by rfl) :
    DS X W (.Assign [t1, t2] e pos) (sAsg2 me g1 g2) := by
  refine PS.weak (ps_asg2 he h1 h2 ha hw) fun Dn σ H h => ?_
  obtain ⟨α, env, st, hE, hS, h⟩ := h
  refine ⟨α, env, st, hE, hS, (h.toGo hE).mono fun d st1 α1 H1 p1 k1 s1 h1 v rv => ?_⟩
  refine ⟨α1, env, st1, d, hE.mono p1 k1, s1, rv, ?_⟩
  revert h1
  cases g1 d env st1 with
  | none => exact fun h => h
  | some p =>
    intro h1 α2 σ2 H2 p2 k2 s2 e2 _
    refine ⟨α2, p.1, p.2, d, e2, s2, rv.mono p2 k2, ?_⟩
    revert h1
    dsimp only
    cases g2 d p.1 p.2 with
    | none => exact fun h => h
    | some q => exact fun h1 α' σ' H' p k s e _ => h1 α' σ' H' (p2.trans p) (k2.trans k) s e
/-- x *= y, ints -/
def oMulI : O2 := fun a b st => match a, b with
  | .int i, .int j => if Small i ∨ Small j then .ok (.int (i * j)) st else .no
  | _, _ => .no
theorem pd_mul : PIp X .Mult (rD2 X.K oMulI) := by
  intro pins s σ H x y v u Q I rx ry h
  obtain ⟨α, st, a, b, S, ra, rb, h⟩ := h
  unfold oMulI at h
  split at h
  · have e1 := ra.int_of; have e2 := rb.int_of; subst e1; subst e2
    split at h
    · rename_i i j hs
      obtain ⟨t, rfl⟩ := rx
      obtain ⟨t', rfl⟩ := ry
      exact imul_int ⟨.int _, H, I.tok _, ⟨_, rfl⟩, Fin.here h S (.int _)⟩ (CMul.ok (show CMul i j from hs))
    · exact h.elim
  · exact h.elim
/-- xs[::-1] -/
def mRev (ma : En → Sto → R D) (env : En) (st : Sto) : R D := (ma env st).bind fun x st1 => match x with
  | .ref r => match rdL st1 r with
    | some xs => .ok (.ref st1.length) (st1 ++ [.lst xs.reverse])
    | none => .no
  | _ => .no
theorem de_revL {a : Expr} {ma : En → Sto → R D} {k : Nat} {p1 p2 p3 : Pos} (ha : DE X W a ma) : DE X W (.Subscript a (.Slice none none (some (.UnaryOp .USub (.Constant (.int 1) k p1) p2)) p3) pos) (mRev ma) := by
  refine PE.weak (pe_revL ha) fun σ H Q h => ?_
  obtain ⟨α, env, st, hE, hS, h⟩ := h
  refine ⟨α, env, st, hE, hS, h.bind.mono fun x st1 α1 H1 p1 k1 s1 h1 v rv => ?_⟩
  split at h1
  · rename_i r
    obtain ⟨q, rfl, a1⟩ := rv.ref_of
    split at h1
    · rename_i xs e1
      obtain ⟨us, h0, r1⟩ := s1.l e1 a1
      exact ⟨q, us, rfl, h0, fun p hp => lst_end s1 r1.rev hp h1⟩
    · exact h1.elim
  · exact h1.elim
end
end DL
namespace DL
open PySem PySem.Spec PyProof.Rows L2
section
variable {X : Cx} {W : WX} {pos : Pos} {a b c d : Expr} {ma mb mc md : En → Sto → R D}
/-- a op b op' c op'' d, as a test -/
def tChain3 (r r' r'' : R2) (ta tb tc td : TE) : TE := fun σ H Q => ta σ H fun x G1 => tb σ G1 fun y G2 => r x y G2 fun z G3 => ∃ k, z = .bl k ∧
  (if k = true then tc σ G3 fun w' G4 => r' y w' G4 fun z2 G5 => ∃ k2, z2 = .bl k2 ∧ (if k2 = true then td σ G5 fun u' G6 => r'' w' u' G6 Q else Q (.bl false) G5) else Q (.bl false) G3)
theorem pt_chain3 {op op' op'' : CmpOp} {r r' r'' : R2} {ta tb tc td : TE} (ho : OpR X (compareOp op) r) (ho' : OpR X (compareOp op') r') (ho'' : OpR X (compareOp op'') r'') (ha : PE X a ta) (hb : PE X b tb) (hc : PE X c tc) (hd : PE X d td)
    (hm : lastMarks [op, op', op''] [b, c, d] = false := by with_unfolding_all rfl) : PT X (.Compare a [op, op', op''] [b, c, d] pos) (tTest (tChain3 r r' r'' ta tb tc td)) := by
  refine ⟨fun pins s σ H Q I h => ?_⟩
  refine isTrue_chain (thn (ha.run pins s σ H _ I h) fun v t1 ⟨x, G1, J1, j1, u1⟩ => test_link (thn (hb.run pins t1 σ G1 _ J1 u1) fun u t2 ⟨y, G2, J2, j2, w2⟩ =>
    thn (ho pins t2 σ G2 x y v u _ J2 j1 j2 w2) fun d t3 ⟨z, G3, J3, j3, k, e, w3⟩ => ?_)) hm
  subst e
  cases j3
  refine wpAny_truthy_bool ?_
  cases k with
  | false =>
    obtain ⟨k', e', q'⟩ := w3
    cases e'
    exact ite_ff ⟨G3, J3, q'⟩
  | true =>
    refine ite_tt (test_link (thn (hc.run pins t3 σ G3 _ J3 w3) fun w' t4 ⟨z', G4, J4, j4, w4⟩ => thn (ho' pins t4 σ G4 y z' u w' _ J4 j2 j4 w4) fun d' t5 ⟨z2, G5, J5, j5, k2, e2, w5⟩ => ?_))
    subst e2
    cases j5
    refine wpAny_truthy_bool ?_
    cases k2 with
    | false =>
      obtain ⟨k', e', q'⟩ := w5
      cases e'
      exact ite_ff ⟨G5, J5, q'⟩
    | true =>
      refine ite_tt (test_last (thn (hd.run pins t5 σ G5 _ J5 w5) fun w2 t6 ⟨z6, G6, J6, j6, w6⟩ => thn (ho'' pins t6 σ G6 z' z6 w' w2 _ J6 j4 j6 w6) fun d'' t7 ⟨z7, G7, J7, j7, k3, e3, w7⟩ => ?_))
      subst e3
      cases j7
      exact wpAny_truthy_bool ⟨G7, J7, w7⟩
def mChain3 (f g h : O2) (ma mb mc md : En → Sto → R D) (env : En) (st : Sto) : R D := (ma env st).bind fun x st1 => (mb env st1).bind fun y st2 => (noEx (f x y st2)).bind fun z st3 => match z with
  | .bl true => (mc env st3).bind fun w st4 => (noEx (g y w st4)).bind fun z st5 => match z with
    | .bl true => (md env st5).bind fun u st6 => noEx (h w u st6)
    | .bl false => .ok (.bl false) st5
    | _ => .no
  | .bl false => .ok (.bl false) st3
  | _ => .no
theorem dt_chain3 {op op' op'' : CmpOp} {f g k : O2} (ho : OD2 X (compareOp op) f) (ho' : OD2 X (compareOp op') g) (ho'' : OD2 X (compareOp op'') k) (ha : DE X W a ma) (hb : DE X W b mb) (hc : DE X W c mc) (hd : DE X W d md)
    (hm : lastMarks [op, op', op''] [b, c, d] = false := by with_unfolding_all rfl) : DT X W (.Compare a [op, op', op''] [b, c, d] pos) (mB (mChain3 f g k ma mb mc md)) := by
  refine PT.weak (pt_chain3 ho ho' ho'' ha hb hc hd hm) fun σ H Q h => ?_
  obtain ⟨α, env, st, hE, hS, h⟩ := b_of h
  refine ⟨α, env, st, hE, hS, h.bind.mono fun x st1 α1 H1 p1 k1 s1 h1 v rv => ?_⟩
  refine ⟨α1, env, st1, hE.mono p1 k1, s1, h1.bind.mono fun y st2 α2 H2 p2 k2 s2 h2 u ru => ?_⟩
  refine ⟨α2, st2, x, y, s2, rv.mono p2 k2, ru, h2.bind.rw.mono fun d st3 q α3 H3 w p3 k3 s3 rw => ?_⟩
  have q3 := q α3 H3 p3 k3 s3
  split at q3
  · refine ⟨true, rw.bl_of, ?_⟩
    rw [if_pos rfl]
    refine ⟨α3, env, st3, ((hE.mono p1 k1).mono p2 k2).mono p3 k3, s3, q3.bind.mono fun w' st4 α4 H4 p4 k4 s4 h4 v' rv' => ?_⟩
    refine ⟨α4, st4, y, w', s4, (ru.mono p3 k3).mono p4 k4, rv', h4.bind.rw.mono fun d5 st5 q5 α5 H5 w5 p5 k5 s5 rw5 => ?_⟩
    have q6 := q5 α5 H5 p5 k5 s5
    split at q6
    · refine ⟨true, rw5.bl_of, ?_⟩
      rw [if_pos rfl]
      refine ⟨α5, env, st5, ((((hE.mono p1 k1).mono p2 k2).mono p3 k3).mono p4 k4).mono p5 k5, s5, q6.bind.mono fun w7 st7 α7 H7 p7 k7 s7 h7 v7 rv7 => ?_⟩
      exact ⟨α7, st7, w', w7, s7, (rv'.mono p5 k5).mono p7 k7, rv7, h7.rw.mono fun d st8 q α' H' w p k s rw => q α' H' p k s w rw⟩
    · refine ⟨false, rw5.bl_of, ?_⟩
      rw [if_neg Bool.false_ne_true]
      exact q6.here s5 _ (.bl false)
    · exact q6.elim
  · refine ⟨false, rw.bl_of, ?_⟩
    rw [if_neg Bool.false_ne_true]
    exact q3.here s3 _ (.bl false)
  · exact q3.elim
end
end DL
set_option Elab.async false
set_option linter.all false
set_option maxRecDepth 100000
/-! enumerate over a tuple. -/
namespace DL
open PySem PySem.Spec PyProof.Rows L2
abbrev tupIt (a : Addr) : Obj := { cls := .type "tuple_iterator", data := .fields #[.ref a, .int 0 0] }
abbrev enumOb (it : Addr) : Obj := { cls := .type "enumerate", data := .fields #[.none, .bool false, .ref it, rawInt 0, .none, .none] }
theorem enum_new (a : Addr) (ys : Array Value) : Meets (Builtin.«enumerate.__new__» ⟨[.type "enumerate", .ref a], []⟩) fun _ R s => s.heap.IsTuple a ys ∧
    R (.ok (.ret (.ref (s.heap.push (tupIt a)).objs.size))) { s with heap := (s.heap.push (tupIt a)).push (enumOb s.heap.objs.size) } :=
  .of_wp fun pr wo Ar Rr st0 hh => by
    obtain ⟨h0, gs, dr, tk, os⟩ := st0
    obtain ⟨ht, hr⟩ := hh
    have sub0 := sub_enumerate
    have htup : Heap.IsTuple (Shared.heap ⟨h0, gs, dr, tk, os⟩) a ys := ht
    wp_walk using wpAny_pyIter_tuple htup
    refine wpAny_stack_any fun stk => wpAny_pure ?_
    split
    · rename_i c _ _ _ _ _
      cases (c == Value.type "enumerate") <;> (wp_walk using wpAny_pyIter_tuple htup; exact ⟨_, rfl, hr⟩)
    · wp_walk using wpAny_pyIter_tuple htup
      exact ⟨_, rfl, hr⟩
theorem enum_call {pr : Program} {wo : World} {Ar : Around} {Er : Value → Shared → Prop} {s : Shared} {a : Addr} {ys : Array Value} {Q : Value → Shared → Prop} (ht : s.heap.IsTuple a ys)
    (q : ∀ h1, IsEnum h1 (s.heap.objs.size + 1) s.heap.objs.size 0 .none → h1.IsTupleIter s.heap.objs.size a 0 → (∀ b o, s.heap.get? b = some o → h1.get? b = some o) → Q (.ref (s.heap.objs.size + 1)) { s with heap := h1 }) :
    wpAny (model pr wo) Ar (call (.type "enumerate") [.ref a]) Q Er s := by
  refine callType_new F.called_enumerate (by decide) (F.typeCall_enumerate_1 _) (F.newCall_enumerate_1 _) (fun ob => F.args_object_init_2 ob _) F.entry_enumerate_new (enum_new a ys) ⟨ht, ?_⟩
  have z1 : (s.heap.push (tupIt a)).objs.size = s.heap.objs.size + 1 := Heap.size_push ..
  show _ ∧ _
  rw [z1]
  have e1 : IsEnum ((s.heap.push (tupIt a)).push (enumOb s.heap.objs.size)) (s.heap.objs.size + 1) s.heap.objs.size 0 .none := by
    have := Heap.get?_push_size (s.heap.push (tupIt a)) (o := enumOb s.heap.objs.size) rfl
    rw [z1] at this
    exact this
  exact ⟨⟨_, e1, rfl⟩, q _ e1 ⟨_, Heap.get?_push_of_some _ (Heap.get?_push_size _ rfl), rfl, rfl⟩ fun b o x => Heap.get?_push_of_some _ (Heap.get?_push_of_some _ x)⟩
/-- the tuple at a, each item in a new pair with its number -/
def IteT (K : PySem.W.Frag) (a : Addr) : It where
  go := fun i H => ∃ (xs : List V) (x : V), SqT K H a xs ∧ xs[i]? = some x
  yld := fun i H v H' => ∃ T x, v = .ref T ∧ H T = none ∧ H' = upd H T (.tup [.int (i : Nat), x]) ∧ ∀ xs, SqT K H a xs → xs[i]? = some x
  stop := fun i H => ∃ xs : List V, SqT K H a xs ∧ xs.length ≤ i
theorem enum_apart {h : Heap} {e it a : Addr} {i : Int} {k : Nat} {old : Value} {ys : Array Value} (he : IsEnum h e it i old) (hi : h.IsTupleIter it a k) (ht : h.IsTuple a ys) : e ≠ it ∧ e ∉ [it, a] ∧ a ≠ it := by
  obtain ⟨o1, e1, c1, _⟩ := hi
  obtain ⟨o2, e2, c2, _⟩ := ht
  have n1 : e ≠ it := fun q => by
    subst q
    unfold IsEnum at he
    rw [he] at e1; cases e1; injection c1 with z; exact absurd z (by decide)
  have n2 : e ≠ a := fun q => by
    subst q
    unfold IsEnum at he
    rw [he] at e2; cases e2; injection c2 with z; exact absurd z (by decide)
  refine ⟨n1, by simp [n1, n2], fun q => ?_⟩
  subst q
  rw [e1] at e2; cases e2; rw [c1] at c2; injection c2 with z; exact absurd z (by decide)
theorem enum_turn {P : Program} {w : World} {K : PySem.W.Frag} {elts : List Expr} {kk : Nat} {tpos : Pos} (a e it : Addr) :
    Turn P w K (.Tuple elts kk tpos) (IteT K a) [e, it] e (fun i h => (∃ old, IsEnum h e it ((i : Nat) : Int) old) ∧ h.IsTupleIter it a i) where
  mem := by simp
  obj := fun i h st b hb => by
    obtain ⟨⟨old, he⟩, o, ho, hc, hd⟩ := st
    rcases List.mem_cons.mp hb with q | q
    · rw [q]; exact ⟨_, he, fun v z => nomatch z⟩
    · exact ⟨o, by rw [List.mem_singleton.mp q]; exact ho, fun v z => by rw [hd] at z; cases z⟩
  keep := fun i h h' st k => ⟨⟨st.1.choose, k e (by simp) _ st.1.choose_spec⟩, st.2.at fun o q => k it (by simp) o q⟩
  item := by
    intro X hP hw hK hc i pins s σ H E I hf st hg
    subst hP hw hK
    obtain ⟨⟨old, he⟩, hit⟩ := st
    obtain ⟨xs, x, hq, hx⟩ := hg
    obtain ⟨its, rv, p0, hz⟩ := I.tuple hq
    have p : s.heap.IsTuple a its.toArray := p0
    obtain ⟨u, hu, ru⟩ := rv.get hx
    obtain ⟨n1, n2, n3⟩ := enum_apart he hit p
    have hlt : i < its.toArray.size := by
      have := (List.getElem?_eq_some_iff.mp hu).1
      simpa using this
    have le : e < s.heap.objs.size := Heap.lt_size he
    have lit : it < s.heap.objs.size := by obtain ⟨_, q, _⟩ := hit; exact Heap.lt_size q
    refine wpAny_pyNext_enum_itemC (Draws.tuple (A := X.A.in1) (show X.A.in1.handled = none from I.ok.hd hc) it a n3 its.toArray) he ⟨hit, p⟩ hlt n1 n2 fun u' h' tk hu' ho st' hT hsz hk => ?_
    have eu : u' = u := by
      rw [List.getElem?_toArray, hu] at hu'
      exact (Option.some.inj hu').symm
    subst eu
    refine ⟨_, rfl, wpAny_letOwnedTupleGo_enum (s := { s with heap := h', toks := tk + 1 }) ho fun h2 he2 sb => ?_⟩
    have hT2 : h2.get? s.heap.objs.size = some { cls := .type "tuple", data := .seq #[.int i tk, u'] } := (sb.2 _ (Nat.ne_of_gt le)).trans hT
    have ob : ObjOk X.prog X.w (upd H s.heap.objs.size (.tup [.int (i : Nat), x])) h2 s.heap.objs.size (.tup [.int (i : Nat), x]) :=
      ⟨by show 2 ≤ sizeLine; decide, [.int i tk, u'], .cons ⟨_, rfl⟩ (.cons ru .nil), ⟨_, hT2, rfl, _, rfl⟩⟩
    have I2 : Inv X pins σ (upd H s.heap.objs.size (.tup [.int (i : Nat), x])) { s with heap := h2, toks := tk + 1 } :=
      I.turnedNew (ch := [e, it]) (fun b o nb q => (sb.2 b (fun z => nb (by simp [z]))).trans (hk b o (fun z => nb (by simp [z])) (fun z => nb (by simp [z])) q)) hf (Nat.le_refl _) ob
    refine ⟨.ref s.heap.objs.size, _, I2, rfl, ⟨_, x, rfl, I.hok.fresh (Nat.le_refl _), rfl, fun ys hy => by rw [I.tuple_inj hy hq]; exact hx⟩, ⟨⟨u', ?_⟩, st'.1.at fun o q => (sb.2 it (Ne.symm n1)).trans q⟩, fun b hb => ?_⟩
    · rw [show ((i + 1 : Nat) : Int) = (i : Int) + 1 by omega]
      exact he2
    · have lb : b < s.heap.objs.size := by
        rcases List.mem_cons.mp hb with z | z
        · rw [z]; exact le
        · rw [List.mem_singleton.mp z]; exact lit
      rw [upd_ne (Nat.ne_of_lt lb)]
      exact (hf b hb).1
  done := by
    intro X hP hw hK hc i pins s σ H E I hf st hg
    subst hP hw hK
    obtain ⟨⟨old, he⟩, hit⟩ := st
    obtain ⟨xs, hq, hx⟩ := hg
    obtain ⟨its, rv, p0, hz⟩ := I.tuple hq
    have p : s.heap.IsTuple a its.toArray := p0
    obtain ⟨n1, n2, n3⟩ := enum_apart he hit p
    obtain ⟨f0, f1, f2, f3, f4, f5⟩ := hf it (by simp)
    have hl := rv.length
    have hT : s.TypeIs (.ref e) "enumerate" := ⟨_, he, rfl⟩
    have hend : its.toArray[i]? = none := by simp; omega
    unfold pyNext
    refine wpAny_bind (wpAny_attempt (wpAny_callSpecial?_slot (name := Str.ofString "__next__") hT F.slot_enumerate_next (wpAny_call_entry F.slot_enumerate_next hT F.entry_enumerate_next ?_ (F.args_enumerate_next_1 _))))
    show wpAny _ _ (field (.ref e) 2 >>= _) _ _ _
    refine wpAny_bind (wpAny_field he rfl (x := .ref it) rfl (wpAny_bind (wpAny_nextOf_tuple_end (I.ok.hd hc) hit p hend fun h' x e1 e2 => ?_)))
    obtain ⟨o, ho, hcl⟩ := e2
    refine wpAny_bind (wpAny_isInstance (T := "StopIteration") (b := true) ⟨o, ho, hcl⟩ isSubtype_stop (wpAny_pure ⟨rfl, ?_⟩))
    exact I.turned (t' := s.toks) (fun b o hb q => e1 b o hb q) f0 f1 f3 f4 f5
  self := fun A i s Q E st h => let ⟨⟨_, he⟩, _⟩ := st; wpAny_pyIter_enum he h
def iEnumT (K : PySem.W.Frag) (ta : TA) : TI := fun σ H R => ta σ H fun vs H1 => ∃ a xs, vs = [.ref a] ∧ SqT K H1 a xs ∧ R (IteT K a) H1
theorem pi_enumT {X : Cx} {e : Expr} {ta : TA} {p pos tpos : Pos} {elts : List Expr} {kk : Nat} (hg : Gl X "enumerate") (hm : X.mg "enumerate" = none) (ha : PA X [e] ta) (hs : starEach [e] X.env = [(false, eval e X.env)] := by rfl) :
    PI X (.Tuple elts kk tpos) (.Call (.Name "enumerate" p) [e] [] pos) (iEnumT X.K ta) := by
  refine ⟨fun pins s σ H R I h => Call_ (ld_blt I hg hm boot_enumerate (PyProof.Rows.callWith_type1 (thn (ha.run pos pins s σ H _ I h) fun us t ⟨vs, H1, I1, rr, q1⟩ => ?_) hs rfl))⟩
  obtain ⟨a, xs, ex, hq, q⟩ := q1
  subst ex
  cases rr with
  | cons r r' =>
    cases r'
    cases r
    obtain ⟨its, rv, p', hz⟩ := I1.tuple hq
    refine enum_call (show t.heap.IsTuple a its.toArray from p') fun h1 he hit hk => wpAny_pyIter_enum he ?_
    have I2 : Inv X pins σ H1 { t with heap := h1 } := I1.kept (t' := t.toks) hk
    refine ⟨t.heap.objs.size + 1, [t.heap.objs.size + 1, t.heap.objs.size], _, _, H1, rfl, I2, enum_turn a (t.heap.objs.size + 1) t.heap.objs.size, ⟨⟨.none, he⟩, hit⟩, fun b hb => ?_, q⟩
    have le : t.heap.objs.size ≤ b := by
      rcases List.mem_cons.mp hb with z | z
      · rw [z]; exact Nat.le_add_right _ _
      · rw [List.mem_singleton.mp z]; exact Nat.le_refl _
    exact I1.fpOk le (I1.hok.fresh le)
section
variable {X : Cx} {W : WX} {pos : Pos}
def enumD (xs : List D) : List D := xs.zipIdx.map fun p => .tup [.int (p.2 : Nat), p.1]
@[simp] theorem enumD_len (xs : List D) : (enumD xs).length = xs.length := by simp [enumD]
theorem enumD_get {xs : List D} {i : Nat} {d : D} (h : xs[i]? = some d) : (enumD xs)[i]? = some (.tup [.int (i : Nat), d]) := by simp [enumD, h]
theorem walkD_enumT {K : PySem.W.Frag} {α : List Addr} {H : Hp} {a : Addr} {xs : List D} {vs : List V} (h0 : SqT K H a vs) (hr : RDs K α H xs vs) : WalkD K (IteT K a) α H (enumD xs) none := by
  refine ⟨fun H' => SqT K H' a vs, fun i H1 v H2 => ∃ T x, v = .ref T ∧ H1 T = none ∧ H2 = upd H1 T (.tup [.int (i : Nat), x]) ∧ vs[i]? = some x, ⟨fun i H' hi q => ?_, fun H' q => ?_, fun i H1 x H2 hi q y => ?_⟩, fun α' st' H' p k s g => k.sqT h0, fun i H1 x H2 α' st' p k s g hi y => ?_⟩
  · have hl := hr.len
    rw [enumD_len] at hi
    exact ⟨vs, vs[i]'(by omega), q, by simp⟩
  · exact ⟨vs, q, by rw [enumD_len, hr.len]; exact Nat.le_refl _⟩
  · obtain ⟨T, z, e1, e2, e3, e4⟩ := y
    exact ⟨T, z, e1, e2, e3, e4 vs q⟩
  · obtain ⟨T, z, rfl, e2, rfl, e4⟩ := y
    obtain ⟨d, g1, g2⟩ := hr.get e4
    exact ⟨Keep.fresh e2, s.fresh e2, _, enumD_get g1, .tup (SqT.of upd_same) (.cons (.int _) (.cons ((g2.mono p k).mono (List.prefix_refl _) (Keep.fresh e2)) .nil))⟩
def iEnumerate (mr : En → Sto → R (List D)) : MI := fun env st => (mr env st).bind fun ds st1 => match ds with
  | [.tup xs] => .ok (enumD xs, none) st1
  | _ => .no
theorem di_enumerate {a : Expr} {mr : En → Sto → R (List D)} {p tpos : Pos} {elts : List Expr} {kk : Nat} (hg : Gl X "enumerate") (hm : X.mg "enumerate" = none) (ha : DA X W [a] mr) (hs : starEach [a] X.env = [(false, eval a X.env)] := by rfl) :
    DI X W (.Tuple elts kk tpos) (.Call (.Name "enumerate" p) [a] [] pos) (iEnumerate mr) := by
  refine PI.weak (pi_enumT hg hm ha hs) fun σ H Rr h => ?_
  obtain ⟨α, env, st, hE, hS, h⟩ := h
  refine ⟨α, env, st, hE, hS, h.bind.mono fun ds st1 α1 H1 p1 k1 s1 h1 vs rvs => ?_⟩
  split at h1
  · obtain ⟨v, rfl, r⟩ := rvs.one
    obtain ⟨b, us, rfl, t1, r1⟩ := r.tup_of
    exact ⟨b, us, rfl, t1, h1.here s1 _ (walkD_enumT t1 r1)⟩
  · exact h1.elim
end
end DL
set_option Elab.async false
set_option linter.all false
set_option maxRecDepth 10000
/-! Reasoning about mirrors: stores that grow, pools, loops. -/
namespace DL
open PySem PySem.Spec PyProof.Rows L2

/-! ### stores -/
abbrev Gr (st st' : Sto) : Prop := st <+: st'
theorem Gr.len {st st' : Sto} (h : Gr st st') : st.length ≤ st'.length := h.length_le
theorem Gr.get {st st' : Sto} (h : Gr st st') {i : Nat} (hi : i < st.length) : st'[i]? = st[i]? := by
  obtain ⟨t, rfl⟩ := h
  exact List.getElem?_append_left hi
theorem rdL_of {st st' : Sto} {r : Nat} (h : st'[r]? = st[r]?) : rdL st' r = rdL st r := by unfold rdL; rw [h]
theorem rdW_of {st st' : Sto} {r : Nat} (h : st'[r]? = st[r]?) : rdW st' r = rdW st r := by unfold rdW; rw [h]
theorem rdL_lt {st : Sto} {r : Nat} {xs : List D} (h : rdL st r = some xs) : r < st.length := by
  unfold rdL at h
  by_cases q : r < st.length
  · exact q
  · rw [List.getElem?_eq_none (by omega)] at h; cases h
theorem rdW_lt {st : Sto} {r : Nat} {xs : List D} (h : rdW st r = some xs) : r < st.length := by
  unfold rdW at h
  by_cases q : r < st.length
  · exact q
  · rw [List.getElem?_eq_none (by omega)] at h; cases h
theorem rdL_gr {st st' : Sto} {r : Nat} {xs : List D} (h : Gr st st') (e : rdL st r = some xs) : rdL st' r = some xs := by rw [rdL_of (h.get (rdL_lt e))]; exact e
theorem rdW_gr {st st' : Sto} {r : Nat} {xs : List D} (h : Gr st st') (e : rdW st r = some xs) : rdW st' r = some xs := by rw [rdW_of (h.get (rdW_lt e))]; exact e
@[simp] theorem rdL_new (st : Sto) (xs : List D) : rdL (st ++ [.lst xs]) st.length = some xs := by simp [rdL]
@[simp] theorem rdW_new (st : Sto) (xs : List D) : rdW (st ++ [.lst xs]) st.length = some xs := by simp [rdW]
theorem rdL_newG (st g : Sto) (xs : List D) : rdL (st ++ .lst xs :: g) st.length = some xs := by simp [rdL]
theorem rdW_newG (st g : Sto) (xs : List D) : rdW (st ++ .lst xs :: g) st.length = some xs := by simp [rdW]
theorem rdW_iff {st : Sto} {r : Nat} {xs : List D} : rdW st r = some xs ↔ st[r]? = some (.lst xs) := by
  unfold rdW
  constructor
  · intro h; split at h
    · cases h; assumption
    · cases h
  · intro h; rw [h]
theorem rdL_W {st : Sto} {r : Nat} {xs : List D} (h : rdW st r = some xs) : rdL st r = some xs := by
  rw [rdW_iff] at h
  simp [rdL, h]

/-! ### pools -/
def IsPool (st : Sto) (r : Nat) : Prop := ∃ a b c : Int, st[r]? = some (.lst [.int a, .int b, .int c])
/-- nothing old has changed but the pool -/
structure Ev (r : Nat) (st st' : Sto) : Prop where
  len : st.length ≤ st'.length
  same : ∀ i, i < st.length → i ≠ r → st'[i]? = st[i]?
  pool : IsPool st' r
theorem IsPool.lt {st : Sto} {r : Nat} (h : IsPool st r) : r < st.length := by
  obtain ⟨a, b, c, h⟩ := h
  exact (List.getElem?_eq_some_iff.mp h).1
theorem Ev.refl {r : Nat} {st : Sto} (h : IsPool st r) : Ev r st st := ⟨Nat.le_refl _, fun _ _ _ => rfl, h⟩
theorem Ev.trans {r : Nat} {st st' st'' : Sto} (a : Ev r st st') (b : Ev r st' st'') : Ev r st st'' :=
  ⟨Nat.le_trans a.len b.len, fun i hi hr => (b.same i (Nat.lt_of_lt_of_le hi a.len) hr).trans (a.same i hi hr), b.pool⟩
theorem Ev.gr {r : Nat} {st st' : Sto} (h : IsPool st r) (g : Gr st st') : Ev r st st' := by
  refine ⟨g.len, fun i hi _ => g.get hi, ?_⟩
  obtain ⟨a, b, c, e⟩ := h
  exact ⟨a, b, c, by rw [g.get (List.getElem?_eq_some_iff.mp e).1]; exact e⟩
theorem Ev.rdL {r q : Nat} {st st' : Sto} {xs : List D} (h : Ev r st st') (e : rdL st q = some xs) (hn : q ≠ r) : rdL st' q = some xs := by rw [rdL_of (h.same q (rdL_lt e) hn)]; exact e
theorem Ev.rdW {r q : Nat} {st st' : Sto} {xs : List D} (h : Ev r st st') (e : rdW st q = some xs) (hn : q ≠ r) : rdW st' q = some xs := by rw [rdW_of (h.same q (rdW_lt e) hn)]; exact e
/-- a change beyond what stood -/
theorem Ev.beyond {r q : Nat} {st st' : Sto} {c : Cl} (h : Ev r st st') (hq : st.length ≤ q) (hr : r < st.length) : Ev r st (st'.set q c) := by
  refine ⟨by rw [List.length_set]; exact h.len, fun i hi hn => ?_, ?_⟩
  · rw [List.getElem?_set_ne (by omega)]
    exact h.same i hi hn
  · obtain ⟨a, b, c', e⟩ := h.pool
    exact ⟨a, b, c', by rw [List.getElem?_set_ne (by omega)]; exact e⟩
theorem Gr.beyond {q : Nat} {st st' : Sto} {c : Cl} (h : Gr st st') (hq : st.length ≤ q) : Gr st (st'.set q c) := by
  obtain ⟨t, rfl⟩ := h
  rw [List.set_append_right _ _ hq]
  exact List.prefix_append _ _

/-! ### loops -/
theorem loopS_ok {ds : List D} {gd : Option Nat} {g : GT} {mb : En → Sto → RS} {env : En} {st : Sto} (I : Nat → En → Sto → Prop) (h0 : I 0 env st) (hg : ∀ i env st, i ≤ ds.length → I i env st → gOk ds gd st)
    (hs : ∀ i env st, (hi : i < ds.length) → I i env st → ∃ env1 st1 env2 st2, g ds[i] env st = some (env1, st1) ∧ mb env1 st1 = .nx env2 st2 ∧ I (i + 1) env2 st2) :
    ∃ env' st', loopS ds gd g mb ds env st = .nx env' st' ∧ I ds.length env' st' := by
  have key : ∀ (n i : Nat) (env : En) (st : Sto), i + n = ds.length → I i env st → ∃ env' st', loopS ds gd g mb (ds.drop i) env st = .nx env' st' ∧ I ds.length env' st' := by
    intro n
    induction n with
    | zero =>
      intro i env st e hI
      have ei : i = ds.length := by omega
      subst ei
      rw [List.drop_length]
      unfold loopS
      rw [if_pos (hg _ _ _ (Nat.le_refl _) hI)]
      exact ⟨env, st, rfl, hI⟩
    | succ n ih =>
      intro i env st e hI
      have hi : i < ds.length := by omega
      rw [List.drop_eq_getElem_cons hi]
      unfold loopS
      rw [if_pos (hg _ _ _ (by omega) hI)]
      obtain ⟨env1, st1, env2, st2, e1, e2, hI2⟩ := hs i env st hi hI
      simp only [e1, e2]
      exact ih (i + 1) env2 st2 (by omega) hI2
  have := key ds.length 0 env st (by omega) h0
  rwa [List.drop_zero] at this
/-- a comprehension, any turns: what is kept is told by I over the turn, what was made, the store -/
theorem loopC_ok {ds : List D} {gd : Option Nat} {g : GT} {mt : En → Sto → R Bool} {me : En → Sto → R D} {env0 : En} {r0 : Nat} {st : Sto} (I : Nat → List D → Sto → Prop) (h0 : I 0 [] st) (hw : ∀ i acc st, I i acc st → rdW st r0 = some acc ∧ acc.length ≤ i) (hz : ds.length < sizeLine)
    (hg : ∀ i acc st, i ≤ ds.length → I i acc st → gOk ds gd st)
    (hs : ∀ i acc st, (hi : i < ds.length) → I i acc st → ∃ env1 st1, g ds[i] env0 st = some (env1, st1) ∧ ((∃ st2, mt env1 st1 = .ok false st2 ∧ I (i + 1) acc st2) ∨
      ∃ st2 y st3, mt env1 st1 = .ok true st2 ∧ me env1 st2 = .ok y st3 ∧ rdW st3 r0 = some acc ∧ I (i + 1) (acc ++ [y]) (st3.set r0 (.lst (acc ++ [y]))))) :
    ∃ acc st', loopC ds gd g mt me env0 r0 ds st = .ok (.ref r0) st' ∧ I ds.length acc st' := by
  have key : ∀ (n i : Nat) (acc : List D) (st : Sto), i + n = ds.length → I i acc st → ∃ acc st', loopC ds gd g mt me env0 r0 (ds.drop i) st = .ok (.ref r0) st' ∧ I ds.length acc st' := by
    intro n
    induction n with
    | zero =>
      intro i acc st e hI
      have ei : i = ds.length := by omega
      subst ei
      rw [List.drop_length]
      unfold loopC
      rw [if_pos (hg _ _ _ (Nat.le_refl _) hI)]
      exact ⟨acc, st, rfl, hI⟩
    | succ n ih =>
      intro i acc st e hI
      have hi : i < ds.length := by omega
      rw [List.drop_eq_getElem_cons hi]
      unfold loopC
      rw [if_pos (hg _ _ _ (by omega) hI)]
      obtain ⟨env1, st1, e1, h | h⟩ := hs i acc st hi hI
      · obtain ⟨st2, e2, hI2⟩ := h
        simp only [e1, e2]
        exact ih (i + 1) acc st2 (by omega) hI2
      · obtain ⟨st2, y, st3, e2, e3, e4, hI2⟩ := h
        have hl : acc.length < sizeLine := by have := (hw i acc st hI).2; omega
        simp only [e1, e2, e3, e4, if_pos hl]
        exact ih (i + 1) (acc ++ [y]) _ (by omega) hI2
  have := key ds.length 0 [] st (by omega) h0
  rwa [List.drop_zero] at this
theorem gOk_gr {ds : List D} {gd : Option Nat} {st st' : Sto} (h : gOk ds gd st) (g : Gr st st') : gOk ds gd st' := by
  cases gd with
  | none => trivial
  | some r => exact rdL_gr g h
/-- a comprehension that changes nothing -/
theorem mLc_pure {mi : MI} {g : GT} {mt : En → Sto → R Bool} {me : En → Sto → R D} {vs : List Nat} {env : En} {st st1 : Sto} {ds : List D} {gd : Option Nat} (p : D → Bool) (f : D → D) (hi : mi env st = .ok (ds, gd) st1) (hg : gOk ds gd st1) (hz : ds.length < sizeLine)
    (hs : ∀ d ∈ ds, ∀ st', Gr st1 st' → ∃ env1, g d (wipeE env vs) st' = some (env1, st') ∧ ∃ st2, mt env1 st' = .ok (p d) st2 ∧ Gr st' st2 ∧ (p d = true → ∃ st3, me env1 st2 = .ok (f d) st3 ∧ Gr st2 st3)) :
    ∃ st', mLc mi g mt me vs env st = .ok (.ref st1.length) st' ∧ Gr (st1 ++ [.lst ((ds.filter p).map f)]) st' := by
  have main := loopC_ok (ds := ds) (gd := gd) (g := g) (mt := mt) (me := me) (env0 := wipeE env vs) (r0 := st1.length) (st := st1 ++ [.lst []]) (fun i acc st => acc = ((ds.take i).filter p).map f ∧ ∃ t, st = st1 ++ .lst acc :: t)
    ⟨rfl, [], rfl⟩ (by
      rintro i acc st ⟨rfl, t, rfl⟩
      refine ⟨rdW_newG _ _ _, ?_⟩
      rw [List.length_map]
      exact Nat.le_trans (List.length_filter_le _ _) (by rw [List.length_take]; omega)) hz (by
      rintro i acc st hi ⟨rfl, t, rfl⟩
      exact gOk_gr hg ⟨_, rfl⟩) (by
      rintro i acc st hi ⟨rfl, t, rfl⟩
      have mem : ds[i] ∈ ds := List.getElem_mem hi
      have tk : ds.take (i + 1) = ds.take i ++ [ds[i]] := by rw [List.take_add_one, List.getElem?_eq_getElem hi]; rfl
      obtain ⟨env1, e1, st2, e2, ⟨t2, g2⟩, h3⟩ := hs ds[i] mem (st1 ++ .lst (((ds.take i).filter p).map f) :: t) ⟨_, rfl⟩
      subst g2
      refine ⟨env1, _, e1, ?_⟩
      cases hp : p ds[i] with
      | false =>
        refine .inl ⟨_, by rw [hp] at e2; exact e2, ?_, t ++ t2, by simp⟩
        rw [tk, List.filter_append, List.filter_cons_of_neg (by rw [hp]; decide)]
        simp
      | true =>
        obtain ⟨st3, e3, ⟨t3, g3⟩⟩ := h3 hp
        subst g3
        have tk2 : ((ds.take (i + 1)).filter p).map f = ((ds.take i).filter p).map f ++ [f ds[i]] := by
          rw [tk, List.filter_append, List.filter_cons_of_pos hp]
          simp
        refine .inr ⟨_, _, _, by rw [hp] at e2; exact e2, e3, ?_, tk2.symm, t ++ t2 ++ t3, ?_⟩
        · simp only [List.append_assoc, List.cons_append]
          exact rdW_newG _ _ _
        · simp only [List.append_assoc, List.cons_append]
          rw [List.set_append_right _ _ (Nat.le_refl _), Nat.sub_self, List.set_cons_zero])
  obtain ⟨acc, st', e, rfl, t, rfl⟩ := main
  refine ⟨_, by unfold mLc; rw [hi]; exact e, ?_⟩
  rw [List.take_length]
  exact ⟨t, by simp⟩
/-- a comprehension whose elements take from a pool -/
theorem mLc_pool {mi : MI} {g : GT} {me : En → Sto → R D} {vs : List Nat} {env : En} {st st1 : Sto} {ds : List D} {gd : Option Nat} {r : Nat} (P : Nat → D → Prop) (hi : mi env st = .ok (ds, gd) st1) (hg : gOk ds gd st1) (hgr : gd ≠ some r) (hz : ds.length < sizeLine) (hp : IsPool st1 r)
    (hs : ∀ i (hi : i < ds.length) st', Ev r st1 st' → ∃ env1, g ds[i] (wipeE env vs) st' = some (env1, st') ∧ ∃ y st3, me env1 st' = .ok y st3 ∧ Ev r st' st3 ∧ P i y) :
    ∃ ys st', mLc mi g mYes me vs env st = .ok (.ref st1.length) st' ∧ rdW st' st1.length = some ys ∧ ys.length = ds.length ∧ (∀ i y, ys[i]? = some y → P i y) ∧ Ev r st1 st' := by
  have hr := hp.lt
  have main := loopC_ok (ds := ds) (gd := gd) (g := g) (mt := mYes) (me := me) (env0 := wipeE env vs) (r0 := st1.length) (st := st1 ++ [.lst []]) (fun i acc st => rdW st st1.length = some acc ∧ acc.length = i ∧ (∀ j y, acc[j]? = some y → P j y) ∧ Ev r st1 st)
    ⟨rdW_new _ _, rfl, fun j y h => by simp at h, Ev.gr hp (List.prefix_append _ _)⟩ (fun i acc st h => ⟨h.1, by omega⟩) hz (by
      rintro i acc st hi ⟨h1, h2, h3, h4⟩
      cases gd with
      | none => trivial
      | some q => exact h4.rdL hg (fun e => hgr (by rw [e]))) (by
      rintro i acc st hi ⟨h1, h2, h3, h4⟩
      obtain ⟨env1, e1, y, st3, e2, e3, e4⟩ := hs i hi st h4
      have w3 : rdW st3 st1.length = some acc := e3.rdW h1 (by omega)
      refine ⟨env1, st, e1, .inr ⟨st, y, st3, rfl, e2, w3, ?_, by simp [h2], fun j z hj => ?_, (h4.trans e3).beyond (Nat.le_refl _) hr⟩⟩
      · rw [rdW_iff, List.getElem?_set_self (rdW_lt w3)]
      · by_cases hj2 : j < acc.length
        · rw [List.getElem?_append_left hj2] at hj
          exact h3 j z hj
        · have hl := (List.getElem?_eq_some_iff.mp hj).1
          have ej : j = acc.length := by simp at hl; omega
          subst ej
          rw [List.getElem?_concat_length] at hj
          cases hj
          rw [h2]
          exact e4)
  obtain ⟨acc, st', e, h⟩ := main
  exact ⟨acc, st', by unfold mLc; rw [hi]; exact e, h.1, h.2.1, h.2.2.1, h.2.2.2⟩
end DL
set_option Elab.async false
set_option linter.all false
set_option maxRecDepth 10000
/-! Ends of comprehensions, indices, equality of leaves: free of any program. -/
namespace DL
open PySem PySem.Spec PyProof.Rows L2
theorem ixN_at {n : Nat} {i : Nat} (h : i < n) : ixN n (i : Int) = some i := by
  unfold ixN
  rw [if_pos (Int.natCast_nonneg i), if_pos (by exact_mod_cast h)]
  simp
theorem atI_at {xs : List D} {i : Nat} {d : D} (h : xs[i]? = some d) : L2.atI xs (i : Int) = some d := L2.atI_nat h
@[simp] theorem atI0 (a : D) (r : List D) : L2.atI (a :: r) 0 = some a := L2.atI_nat (j := 0) rfl
@[simp] theorem atI1 (a b : D) (r : List D) : L2.atI (a :: b :: r) 1 = some b := L2.atI_nat (j := 1) rfl
@[simp] theorem atI2 (a b c : D) (r : List D) : L2.atI (a :: b :: c :: r) 2 = some c := L2.atI_nat (j := 2) rfl
@[simp] theorem ixN30 : ixN 3 0 = some 0 := rfl
@[simp] theorem ixN32 : ixN 3 2 = some 2 := rfl
theorem blsOf_all {ds : List D} (h : ∀ d ∈ ds, d = .bl true) : ∃ bs, blsOf ds = some bs ∧ bs.all id = true := by
  induction ds with
  | nil => exact ⟨[], rfl, rfl⟩
  | cons d r ih =>
    obtain ⟨bs, e, a⟩ := ih fun x hx => h x (List.mem_cons_of_mem _ hx)
    have := h d List.mem_cons_self
    subst this
    exact ⟨true :: bs, by simp [blsOf, e], by simp [a]⟩
theorem rdL_of_new {st st' : Sto} {xs : List D} (h : Gr (st ++ [.lst xs]) st') : rdL st' st.length = some xs := rdL_gr h (rdL_new _ _)
theorem all_true {mi : MI} {g : GT} {me : En → Sto → R D} {vs : List Nat} {env : En} {st st1 : Sto} {ds : List D} {gd : Option Nat} (hi : mi env st = .ok (ds, gd) st1) (hg : gOk ds gd st1) (hz : ds.length < sizeLine)
    (hs : ∀ d ∈ ds, ∀ st', Gr st1 st' → ∃ env1, g d (wipeE env vs) st' = some (env1, st') ∧ ∃ st3, me env1 st' = .ok (.bl true) st3 ∧ Gr st' st3) :
    ∃ st', mLc mi g mYes me vs env st = .ok (.ref st1.length) st' ∧ bAll [.ref st1.length] st' = .ok (.bl true) st' ∧ Gr st1 st' := by
  obtain ⟨st', e, h⟩ := mLc_pure (mt := mYes) (me := me) (vs := vs) (fun _ => true) (fun _ => .bl true) hi hg hz fun d hd st' g' => by
    obtain ⟨env1, e1, st3, e2, g3⟩ := hs d hd st' g'
    exact ⟨env1, e1, st', rfl, List.prefix_refl _, fun _ => ⟨st3, e2, g3⟩⟩
  have r := rdL_of_new h
  obtain ⟨bs, eb, ab⟩ := blsOf_all (ds := (ds.filter fun _ => true).map fun _ => D.bl true) (by intro d hd; obtain ⟨_, _, rfl⟩ := List.mem_map.mp hd; rfl)
  refine ⟨st', e, ?_, (List.prefix_append _ _).trans h⟩
  simp only [bAll, r, Option.bind_some, eb, ab]
@[simp] theorem oEq_int (a b : Int) (st : Sto) : oEq (.int a) (.int b) st = .ok (.bl (decide (a = b))) st := by
  have r4 : ∀ n : Int, toP st (.int n) = some (.int n) := fun n => rfl
  have r5 : PyData.eqv (.int a) (.int b) = decide (a = b) := by simp only [PyData.eqv]; rw [Bool.eq_iff_iff]; simp
  have r6 : ∀ n : Int, SeqAt.shaped (.int n) = true := fun n => by simp [SeqAt.shaped, PyData.canLay0, PyData.depth]
  simp [oEq, r4, r5, r6]
theorem rdW_set {st : Sto} {r : Nat} {xs ys : List D} (h : rdW st r = some xs) : rdW (st.set r (.lst ys)) r = some ys := by
  rw [rdW_iff, List.getElem?_set_self (rdW_lt h)]
theorem rdW_setne {st : Sto} {r q : Nat} {xs : List D} {c : Cl} (n : r ≠ q) (h : rdW st r = some xs) : rdW (st.set q c) r = some xs := by
  rw [rdW_iff, List.getElem?_set_ne (Ne.symm n)]
  exact rdW_iff.mp h
theorem rng_of {n : Nat} {d : D} (h : d ∈ rngD 0 n) : ∃ i : Nat, i < n ∧ d = .int (i : Nat) := by
  obtain ⟨i, hi, rfl⟩ := List.mem_map.mp h
  exact ⟨i, List.mem_range.mp hi, by rw [Int.zero_add]⟩
theorem iRng1_nat {mr : En → Sto → R (List D)} {env : En} {st st1 : Sto} {n : Nat} (e : mr env st = .ok [.int n] st1) (hm : Mid (n : Int)) : DL.iRng1 mr env st = .ok (rngD 0 n, none) st1 := by
  unfold DL.iRng1
  rw [e]
  simp only [R.bind]
  rw [if_pos hm, Int.toNat_natCast]
@[simp] theorem rngD_len (lo : Int) (n : Nat) : (rngD lo n).length = n := by simp [rngD]
theorem rngD_get {n i : Nat} (h : i < (rngD 0 n).length) : (rngD 0 n)[i] = .int (i : Nat) := by simp [rngD]
def isLeaf : D → Bool
  | .int _ => true
  | .non => true
  | .bl _ => true
  | _ => false
theorem leaf_pd {d : D} (h : isLeaf d = true) : ∃ p, (∀ rd, pd rd d = some p) ∧ p.canLay0 = true ∧ p.depth = 0 ∧ PyData.eqv p p = true := by
  cases d with
  | int i => exact ⟨.int i, fun _ => rfl, rfl, rfl, by simp [PyData.eqv]⟩
  | non => exact ⟨.none, fun _ => rfl, rfl, rfl, rfl⟩
  | bl b => exact ⟨.bool b, fun _ => rfl, rfl, rfl, by simp [PyData.eqv]⟩
  | _ => cases h
theorem leafs_pd : ∀ {ds : List D}, (∀ d ∈ ds, isLeaf d = true) → ∃ ps, (∀ rd, pds rd ds = some ps) ∧ PyData.canLayAll0 ps = true ∧ PyData.depthAll ps = 0 ∧ PyData.eqvAll ps ps = true
  | [], _ => ⟨[], fun _ => rfl, rfl, rfl, rfl⟩
  | d :: ds, h => by
    obtain ⟨p, a1, a2, a3, a4⟩ := leaf_pd (h d List.mem_cons_self)
    obtain ⟨ps, b1, b2, b3, b4⟩ := leafs_pd fun x hx => h x (List.mem_cons_of_mem _ hx)
    exact ⟨p :: ps, fun rd => by simp [pds, a1 rd, b1 rd], by simp [PyData.canLayAll0, a2, b2], by simp [PyData.depthAll, a3, b3], by simp [PyData.eqvAll, a4, b4]⟩
theorem oNe_leaf {d : D} (h : isLeaf d = true) (st : Sto) : oNe d d st = .ok (.bl false) st := by
  obtain ⟨p, a1, a2, a3, a4⟩ := leaf_pd h
  have r : SeqAt.shaped p = true := by simp [SeqAt.shaped, a2, a3]
  simp [oNe, toP, a1, r, a4]
theorem oNe_tup {ds : List D} (h : ∀ d ∈ ds, isLeaf d = true) (st : Sto) : oNe (.tup ds) (.tup ds) st = .ok (.bl false) st := by
  obtain ⟨p, a1, a2, a3, a4⟩ := leafs_pd h
  have r : SeqAt.shaped (.tuple p) = true := by simp [SeqAt.shaped, PyData.canLay0, PyData.depth, a2, a3]
  simp [oNe, toP, pd, a1, r, PyData.eqv, a4]
theorem toP_ref {ds : List D} (h : ∀ d ∈ ds, isLeaf d = true) : ∃ ps, (∀ st r, rdL st r = some ds → toP st (.ref r) = some (.list ps)) ∧ SeqAt.shaped (.list ps) = true ∧ PyData.eqvAll ps ps = true ∧ (ds = [] → ps = []) ∧ (ds ≠ [] → ps ≠ []) := by
  obtain ⟨p, a1, a2, a3, a4⟩ := leafs_pd h
  refine ⟨p, fun st r e => by simp [toP, pd, rdP, e, a1], by simp [SeqAt.shaped, PyData.canLay0, PyData.depth, a2, a3], a4, fun e => ?_, fun e q => ?_⟩
  · subst e; have := a1 fun _ => none; simp [pds] at this; exact this
  · subst q
    obtain ⟨d, r, rfl⟩ := List.exists_cons_of_ne_nil e
    have := a1 fun _ => none
    unfold pds at this
    split at this <;> cases this
theorem oNe_ref {ds : List D} {st : Sto} {a b : Nat} (h : ∀ d ∈ ds, isLeaf d = true) (ha : rdL st a = some ds) (hb : rdL st b = some ds) : oNe (.ref a) (.ref b) st = .ok (.bl false) st := by
  obtain ⟨p, a1, a2, a3, _⟩ := toP_ref h
  simp [oNe, a1 _ _ ha, a1 _ _ hb, a2, PyData.eqv, a3]
theorem oEq_nils {st : Sto} {a b : Nat} (ha : rdL st a = some []) (hb : rdL st b = some []) : oEq (.ref a) (.ref b) st = .ok (.bl true) st := by
  obtain ⟨p, a1, a2, a3, _⟩ := toP_ref (ds := []) (by simp)
  simp [oEq, a1 _ _ ha, a1 _ _ hb, a2, PyData.eqv, a3]
theorem oEq_nil {ds : List D} {st : Sto} {a b : Nat} (h : ∀ d ∈ ds, isLeaf d = true) (hn : ds ≠ []) (ha : rdL st a = some ds) (hb : rdL st b = some []) : oEq (.ref a) (.ref b) st = .ok (.bl false) st := by
  obtain ⟨p, a1, a2, a3, _, a5⟩ := toP_ref h
  obtain ⟨q, b1, b2, b3, b4, _⟩ := toP_ref (ds := []) (by simp)
  have := a5 hn
  have eq := b4 rfl
  subst eq
  obtain ⟨x, r, rfl⟩ := List.exists_cons_of_ne_nil this
  simp [oEq, a1 _ _ ha, b1 _ _ hb, a2, b2, PyData.eqv, PyData.eqvAll]
theorem oEq_pair (a b c d : Int) (st : Sto) : oEq (.tup [.int a, .int b]) (.tup [.int c, .int d]) st = .ok (.bl (decide (a = c ∧ b = d))) st := by
  have r4 : ∀ n m : Int, toP st (.tup [.int n, .int m]) = some (.tuple [.int n, .int m]) := fun n m => rfl
  have r5 : PyData.eqv (.tuple [.int a, .int b]) (.tuple [.int c, .int d]) = decide (a = c ∧ b = d) := by
    rw [Bool.eq_iff_iff]
    simp [PyData.eqv, PyData.eqvAll]
  have r6 : ∀ n m : Int, SeqAt.shaped (.tuple [.int n, .int m]) = true := fun n m => by
    simp [SeqAt.shaped, PyData.canLay0, PyData.canLayAll0, PyData.depth, PyData.depthAll]
  simp [oEq, r4, r5, r6]
theorem sFor_rng {mr : En → Sto → R (List D)} {g : GT} {mb : En → Sto → RS} {env env' : En} {st st1 st' : Sto} {n : Nat} (e : mr env st = .ok [.int n] st1) (hm : Mid (n : Int)) (h : loopS (rngD 0 n) none g mb (rngD 0 n) env st1 = .nx env' st') : sFor (DL.iRng1 mr) g mb env st = .nx env' st' := by
  unfold sFor
  rw [iRng1_nat e hm]
  exact h
theorem leaf_ints {xs : List Int} : ∀ d ∈ xs.map D.int, isLeaf d = true := fun d hd => by
  obtain ⟨x, _, rfl⟩ := List.mem_map.mp hd; rfl
def intD : D → Int
  | .int i => i
  | _ => 0
theorem ints_filter {p : Int → Bool} {q : D → Bool} {f : D → D} {g : Int → D} (xs : List Int) (hp : ∀ x, q (.int x) = p x) (hf : ∀ x, f (.int x) = g x) : ((xs.map D.int).filter q).map f = (xs.filter p).map g := by
  rw [List.filter_map, List.map_map]
  have e : (q ∘ D.int) = p := funext hp
  rw [e]
  exact List.map_congr_left fun x _ => hf x
/-- a comprehension over the neighbours of a seat -/
theorem over_row {xs : List Int} (hx : xs.length < 1000) {mi : MI} {i : Nat} {vs : List Nat} {me : En → Sto → R D} {env : En} (f : Int → D) {st st1 : Sto} (hi : mi env st = .ok (xs.map D.int, none) st1)
    (hs : ∀ y ∈ xs, ∀ st', Gr st1 st' → me ((wipeE env vs).set i (some (.int y))) st' = .ok (f y) st') :
    ∃ st', mLc mi (gN i) mYes me vs env st = .ok (.ref st1.length) st' ∧ Gr st1 st' ∧ rdW st' st1.length = some (xs.map f) := by
  have hz : (1000 : Nat) < sizeLine := by decide
  obtain ⟨st2, e2, g2⟩ := mLc_pure (mi := mi) (g := gN i) (mt := mYes) (me := me) (vs := vs) (env := env) (st := st) (st1 := st1) (ds := xs.map D.int) (gd := none) (fun d => true) (fun d => f (intD d)) hi trivial (by simp; omega) (by
    intro d hd st' g'
    obtain ⟨y, hy, rfl⟩ := List.mem_map.mp hd
    exact ⟨_, rfl, st', rfl, List.prefix_refl _, fun _ => ⟨st', hs y hy st' g', List.prefix_refl _⟩⟩)
  refine ⟨st2, e2, (List.prefix_append _ _).trans g2, ?_⟩
  rw [ints_filter (p := fun _ => true) (g := f) _ (fun _ => rfl) (fun _ => rfl), List.filter_eq_self.mpr (fun _ _ => rfl)] at g2
  exact rdW_gr g2 (rdW_new _ _)
theorem seq_assoc {a b c : En → Sto → RS} {env : En} {st : Sto} : sSeq a (sSeq b c) env st = sSeq (sSeq a b) c env st := by
  unfold sSeq
  cases a env st <;> rfl
theorem seq_nx {a b : En → Sto → RS} {env env' : En} {st st' : Sto} (h : a env st = .nx env' st') : sSeq a b env st = b env' st' := by
  unfold sSeq; rw [h]; rfl
end DL
set_option Elab.async false
set_option linter.all false
set_option maxRecDepth 10000
/-! Webs as such: ties, neighbours, steps. -/
namespace DL
structure Web where
  many : Nat
  ties : List (Int × Int)
abbrev ltP (p q : Int × Int) : Prop := p.1 < q.1 ∨ p.1 = q.1 ∧ p.2 < q.2
namespace Web
structure Ok (w : Web) : Prop where
  lo : 1 ≤ w.many
  hi : w.many ≤ 12
  tie : ∀ p ∈ w.ties, 0 ≤ p.1 ∧ p.1 < p.2 ∧ p.2 < (w.many : Int)
  rise : w.ties.Pairwise ltP
def d (w : Web) : D := .tup [.int w.many, .tup (w.ties.map mkP)]
def nbrs (w : Web) (s : Int) : List Int := ((w.ties.filter fun p => decide (p.2 = s)).map (·.1)) ++ ((w.ties.filter fun p => decide (p.1 = s)).map (·.2))
def adj (w : Web) (a b : Int) : Prop := (a, b) ∈ w.ties ∨ (b, a) ∈ w.ties
theorem adj.symm {w : Web} {a b : Int} (h : w.adj a b) : w.adj b a := Or.symm h
theorem mem_nbrs {w : Web} {a b : Int} : b ∈ w.nbrs a ↔ w.adj a b := by
  unfold nbrs adj
  rw [List.mem_append, List.mem_map, List.mem_map]
  constructor
  · rintro (⟨⟨x, y⟩, h, e⟩ | ⟨⟨x, y⟩, h, e⟩)
    · rw [List.mem_filter] at h; simp at h e; obtain ⟨h, h2⟩ := h; subst h2; subst e; exact .inr h
    · rw [List.mem_filter] at h; simp at h e; obtain ⟨h, h2⟩ := h; subst h2; subst e; exact .inl h
  · rintro (h | h)
    · exact .inr ⟨(a, b), by rw [List.mem_filter]; simp [h], rfl⟩
    · exact .inl ⟨(b, a), by rw [List.mem_filter]; simp [h], rfl⟩
theorem Ok.adj_rng {w : Web} (k : w.Ok) {a b : Int} (h : w.adj a b) : (0 ≤ a ∧ a < (w.many : Int)) ∧ (0 ≤ b ∧ b < (w.many : Int)) ∧ a ≠ b := by
  rcases h with h | h <;> have := k.tie _ h <;> simp at this <;> omega
theorem Ok.nodup {w : Web} (k : w.Ok) : w.ties.Nodup := k.rise.imp fun {p q} h e => by subst e; unfold ltP at h; omega
theorem Ok.nbrs_lt {w : Web} (k : w.Ok) (s : Int) : (w.nbrs s).Pairwise (· < ·) := by
  unfold nbrs
  rw [List.pairwise_append]
  refine ⟨?_, ?_, ?_⟩
  · rw [List.pairwise_map, List.pairwise_filter]
    refine k.rise.imp fun {p q} h a b => ?_
    simp at a b; unfold ltP at h; omega
  · rw [List.pairwise_map, List.pairwise_filter]
    refine k.rise.imp fun {p q} h a b => ?_
    simp at a b; unfold ltP at h; omega
  · intro a ha b hb
    rw [List.mem_map] at ha hb
    obtain ⟨p, hp, rfl⟩ := ha
    obtain ⟨q, hq, rfl⟩ := hb
    rw [List.mem_filter] at hp hq
    have := k.tie _ hp.1; have := k.tie _ hq.1
    simp at hp hq
    omega
def ball (w : Web) (S : Int → Prop) : Nat → Int → Prop
  | 0, s => S s
  | k + 1, s => w.ball S k s ∨ ∃ t, w.adj s t ∧ w.ball S k t
theorem ball_mono {w : Web} {S : Int → Prop} {s : Int} {j k : Nat} (h : j ≤ k) (b : w.ball S j s) : w.ball S k s := by
  induction k with
  | zero => rw [Nat.le_zero.mp h] at b; exact b
  | succ k ih =>
    by_cases q : j = k + 1
    · subst q; exact b
    · exact .inl (ih (by omega))
/-- the fewest steps -/
def IsDist (w : Web) (S : Int → Prop) (s : Int) : Option Nat → Prop
  | some k => w.ball S k s ∧ ∀ j, j < k → ¬ w.ball S j s
  | none => ∀ k, ¬ w.ball S k s
theorem least_of (p : Nat → Prop) : ∀ n, p n → ∃ k, p k ∧ ∀ j, j < k → ¬ p j := by
  intro n
  induction n using Nat.strongRecOn with
  | ind n ih =>
    intro h
    by_cases q : ∃ j, j < n ∧ p j
    · obtain ⟨j, hj, pj⟩ := q
      exact ih j hj pj
    · exact ⟨n, h, fun j hj pj => q ⟨j, hj, pj⟩⟩
theorem dist_ex (w : Web) (S : Int → Prop) (s : Int) : ∃ o, w.IsDist S s o := by
  by_cases h : ∃ k, w.ball S k s
  · obtain ⟨k, hk⟩ := h
    obtain ⟨j, h1, h2⟩ := least_of (fun n => w.ball S n s) k hk
    exact ⟨some j, h1, h2⟩
  · exact ⟨none, fun k hk => h ⟨k, hk⟩⟩
noncomputable def dist (w : Web) (S : Int → Prop) (s : Int) : Option Nat := Classical.choose (dist_ex w S s)
theorem dist_is (w : Web) (S : Int → Prop) (s : Int) : w.IsDist S s (w.dist S s) := Classical.choose_spec (dist_ex w S s)
theorem IsDist.uniq {w : Web} {S : Int → Prop} {s : Int} {o o' : Option Nat} (a : w.IsDist S s o) (b : w.IsDist S s o') : o = o' := by
  cases o with
  | none => cases o' with
    | none => rfl
    | some k => exact (a k b.1).elim
  | some j => cases o' with
    | none => exact (b j a.1).elim
    | some k =>
      rcases Nat.lt_trichotomy j k with h | h | h
      · exact (b.2 j h a.1).elim
      · rw [h]
      · exact (a.2 k h b.1).elim
theorem dist_eq {w : Web} {S : Int → Prop} {s : Int} {o : Option Nat} (a : w.IsDist S s o) : w.dist S s = o := (dist_is w S s).uniq a
theorem dist_congr {w v : Web} {S T : Int → Prop} {s t : Int} (h : ∀ k, w.ball S k s ↔ v.ball T k t) : w.dist S s = v.dist T t := by
  refine dist_eq ?_
  have := dist_is v T t
  revert this
  cases v.dist T t with
  | none => exact fun a k b => a k ((h k).mp b)
  | some k => exact fun a => ⟨(h k).mpr a.1, fun j hj b => a.2 j hj ((h j).mp b)⟩
theorem dist_none {w : Web} {S : Int → Prop} {s : Int} : w.dist S s = none ↔ ∀ k, ¬ w.ball S k s := by
  constructor
  · intro h; have := dist_is w S s; rw [h] at this; exact this
  · exact fun h => dist_eq (o := none) h
theorem dist_some {w : Web} {S : Int → Prop} {s : Int} {k : Nat} : w.dist S s = some k ↔ w.ball S k s ∧ ∀ j, j < k → ¬ w.ball S j s := by
  constructor
  · intro h; have := dist_is w S s; rw [h] at this; exact this
  · exact fun h => dist_eq (o := some k) h
theorem dist_of_ball {w : Web} {S : Int → Prop} {s : Int} {k : Nat} (h : w.ball S k s) : ∃ j, j ≤ k ∧ w.dist S s = some j := by
  obtain ⟨j, h1, h2⟩ := least_of (fun n => w.ball S n s) k h
  exact ⟨j, Nat.le_of_not_lt fun hk => h2 k hk h, dist_some.mpr ⟨h1, h2⟩⟩
theorem ball_of_dist {w : Web} {S : Int → Prop} {s : Int} {k : Nat} (h : w.dist S s = some k) : w.ball S k s := (dist_some.mp h).1
theorem dist_near {w : Web} {S : Int → Prop} {s t : Int} {k : Nat} (a : w.adj s t) (h : w.dist S t = some k) : ∃ j, j ≤ k + 1 ∧ w.dist S s = some j := dist_of_ball (.inr ⟨t, a, ball_of_dist h⟩)
theorem dist_next {w : Web} {S : Int → Prop} {s : Int} {k : Nat} (h : w.dist S s = some (k + 1)) : ∃ t, w.adj s t ∧ w.dist S t = some k := by
  obtain ⟨h1, h2⟩ := dist_some.mp h
  rcases h1 with h1 | ⟨t, a, b⟩
  · exact (h2 k (Nat.lt_succ_self k) h1).elim
  · refine ⟨t, a, dist_some.mpr ⟨b, fun j hj c => ?_⟩⟩
    exact h2 (j + 1) (by omega) (.inr ⟨t, a, c⟩)
theorem dist_zero {w : Web} {S : Int → Prop} {s : Int} : w.dist S s = some 0 ↔ S s := by
  rw [dist_some]
  exact ⟨fun h => h.1, fun h => ⟨h, fun j hj => absurd hj (Nat.not_lt_zero j)⟩⟩
theorem ball_rng {w : Web} (k : w.Ok) {S : Int → Prop} (hS : ∀ s, S s → 0 ≤ s ∧ s < (w.many : Int)) {s : Int} : ∀ {n}, w.ball S n s → 0 ≤ s ∧ s < (w.many : Int)
  | 0, h => hS s h
  | n + 1, h => by
    rcases h with h | ⟨t, a, _⟩
    · exact ball_rng k hS h
    · exact (k.adj_rng a).1
/-- more ties, no more steps -/
theorem ball_more {w v : Web} (h : ∀ a b, w.adj a b → v.adj a b) {S : Int → Prop} : ∀ {n s}, w.ball S n s → v.ball S n s
  | 0, s, b => b
  | n + 1, s, b => by
    rcases b with b | ⟨t, a, b⟩
    · exact .inl (ball_more h b)
    · exact .inr ⟨t, h _ _ a, ball_more h b⟩

/-! ### sorted pairs -/
theorem leP_lt {p q : Int × Int} (h : leP p q = true) (n : p ≠ q) : ltP p q := by
  unfold leP at h
  simp at h
  rcases h with h | ⟨h1, h2⟩
  · exact .inl h
  · refine .inr ⟨h1, ?_⟩
    have : p.2 ≠ q.2 := fun e => n (Prod.ext h1 e)
    omega
theorem sortP_rise {l : List (Int × Int)} (h : l.Nodup) : (sortP l).Pairwise ltP := by
  have n : (sortP l).Nodup := (sortP_perm l).nodup_iff.mpr h
  have s := sortP_sorted l
  exact (List.Pairwise.and s n).imp fun {p q} h => leP_lt h.1 h.2

/-! ### two webs beside one another -/
def put (w v : Web) : Web := ⟨w.many + v.many, w.ties ++ v.ties.map fun p : Int × Int => ((p.1 + (w.many : Int), p.2 + (w.many : Int)) : Int × Int)⟩
theorem put_ok {w v : Web} (hw : w.Ok) (hv : v.Ok) (h : w.many + v.many ≤ 12) : (w.put v).Ok := by
  refine ⟨by have := hw.lo; show 1 ≤ w.many + v.many; omega, h, ?_, ?_⟩
  · intro p hp
    show 0 ≤ p.1 ∧ p.1 < p.2 ∧ p.2 < ((w.many + v.many : Nat) : Int)
    rcases List.mem_append.mp hp with hp | hp
    · have := hw.tie p hp; omega
    · obtain ⟨q, hq, rfl⟩ := List.mem_map.mp hp
      have := hv.tie q hq
      simp only
      omega
  · refine List.pairwise_append.mpr ⟨hw.rise, ?_, ?_⟩
    · rw [List.pairwise_map]
      exact hv.rise.imp fun {p q} h => by unfold ltP at *; simp only; omega
    · intro p hp q hq
      obtain ⟨r, hr, rfl⟩ := List.mem_map.mp hq
      have := hw.tie p hp
      have := hv.tie r hr
      unfold ltP
      simp only
      omega
theorem put_adj {w v : Web} (hw : w.Ok) (hv : v.Ok) {a b : Int} : (w.put v).adj a b ↔ (a < w.many ∧ b < w.many ∧ w.adj a b) ∨ ((w.many : Int) ≤ a ∧ (w.many : Int) ≤ b ∧ v.adj (a - w.many) (b - w.many)) := by
  have key : ∀ a b : Int, (a, b) ∈ (w.put v).ties ↔ (a < w.many ∧ b < w.many ∧ (a, b) ∈ w.ties) ∨ ((w.many : Int) ≤ a ∧ (w.many : Int) ≤ b ∧ (a - w.many, b - w.many) ∈ v.ties) := by
    intro a b
    show (a, b) ∈ w.ties ++ _ ↔ _
    rw [List.mem_append, List.mem_map]
    constructor
    · rintro (h | ⟨q, hq, e⟩)
      · have := hw.tie _ h; simp at this; exact .inl ⟨by omega, by omega, h⟩
      · have := hv.tie _ hq
        simp at e
        refine .inr ⟨by omega, by omega, ?_⟩
        have e2 : (a - w.many, b - w.many) = q := Prod.ext (by simp; omega) (by simp; omega)
        rw [e2]; exact hq
    · rintro (⟨_, _, h⟩ | ⟨_, _, h⟩)
      · exact .inl h
      · exact .inr ⟨_, h, Prod.ext (by simp) (by simp)⟩
  unfold adj
  rw [key, key]
  constructor
  · rintro ((h | h) | (h | h))
    · exact .inl ⟨h.1, h.2.1, .inl h.2.2⟩
    · exact .inr ⟨h.1, h.2.1, .inl h.2.2⟩
    · exact .inl ⟨h.2.1, h.1, .inr h.2.2⟩
    · exact .inr ⟨h.2.1, h.1, .inr h.2.2⟩
  · rintro (⟨h1, h2, h | h⟩ | ⟨h1, h2, h | h⟩)
    · exact .inl (.inl ⟨h1, h2, h⟩)
    · exact .inr (.inl ⟨h2, h1, h⟩)
    · exact .inl (.inr ⟨h1, h2, h⟩)
    · exact .inr (.inr ⟨h2, h1, h⟩)
theorem put_ball1 {w v : Web} (hw : w.Ok) (hv : v.Ok) {x : Int} (hx : x < w.many) : ∀ {k s}, (w.put v).ball (· = x) k s ↔ s < w.many ∧ w.ball (· = x) k s
  | 0, s => ⟨fun h => ⟨by cases h; exact hx, h⟩, fun h => h.2⟩
  | k + 1, s => by
    constructor
    · rintro (h | ⟨t, a, h⟩)
      · exact ⟨(put_ball1 hw hv hx |>.mp h).1, .inl (put_ball1 hw hv hx |>.mp h).2⟩
      · have h' := put_ball1 hw hv hx |>.mp h
        rcases (put_adj hw hv).mp a with a | a
        · exact ⟨a.1, .inr ⟨t, a.2.2, h'.2⟩⟩
        · omega
    · rintro ⟨hs, h | ⟨t, a, h⟩⟩
      · exact .inl (put_ball1 hw hv hx |>.mpr ⟨hs, h⟩)
      · have r := hw.adj_rng a
        exact .inr ⟨t, (put_adj hw hv).mpr (.inl ⟨hs, r.2.1.2, a⟩), put_ball1 hw hv hx |>.mpr ⟨r.2.1.2, h⟩⟩
theorem put_ball2 {w v : Web} (hw : w.Ok) (hv : v.Ok) {x : Int} (hx : (w.many : Int) ≤ x) : ∀ {k s}, (w.put v).ball (· = x) k s ↔ (w.many : Int) ≤ s ∧ v.ball (· = x - w.many) k (s - w.many)
  | 0, s => ⟨fun h => ⟨by cases h; exact hx, by cases h; exact rfl⟩, fun h => by have h2 := h.2; change s - w.many = x - w.many at h2; show s = x; omega⟩
  | k + 1, s => by
    constructor
    · rintro (h | ⟨t, a, h⟩)
      · exact ⟨(put_ball2 hw hv hx |>.mp h).1, .inl (put_ball2 hw hv hx |>.mp h).2⟩
      · have h' := put_ball2 hw hv hx |>.mp h
        rcases (put_adj hw hv).mp a with a | a
        · omega
        · exact ⟨a.1, .inr ⟨t - w.many, a.2.2, h'.2⟩⟩
    · rintro ⟨hs, h | ⟨t, a, h⟩⟩
      · exact .inl (put_ball2 hw hv hx |>.mpr ⟨hs, h⟩)
      · have r := hv.adj_rng a
        have et : t + w.many - w.many = t := by omega
        exact .inr ⟨t + w.many, (put_adj hw hv).mpr (.inr ⟨hs, by omega, by rw [et]; exact a⟩), put_ball2 hw hv hx |>.mpr ⟨by omega, by rw [et]; exact h⟩⟩

/-! ### a tie more -/
def more (w : Web) (x y : Int) : Web := ⟨w.many, sortP (w.ties ++ [(x, y)])⟩
theorem more_adj {w : Web} {x y a b : Int} : (w.more x y).adj a b ↔ w.adj a b ∨ (a = x ∧ b = y) ∨ (a = y ∧ b = x) := by
  unfold adj
  show ((a, b) ∈ sortP _ ∨ (b, a) ∈ sortP _) ↔ _
  rw [(sortP_perm _).mem_iff, (sortP_perm _).mem_iff, List.mem_append, List.mem_append, List.mem_singleton, List.mem_singleton, Prod.mk.injEq, Prod.mk.injEq]
  constructor
  · rintro ((h | h) | (h | h))
    · exact .inl (.inl h)
    · exact .inr (.inl h)
    · exact .inl (.inr h)
    · exact .inr (.inr ⟨h.2, h.1⟩)
  · rintro ((h | h) | h | h)
    · exact .inl (.inl h)
    · exact .inr (.inl h)
    · exact .inl (.inr h)
    · exact .inr (.inr ⟨h.2, h.1⟩)
theorem more_ok {w : Web} (hw : w.Ok) {x y : Int} (hx : 0 ≤ x) (hxy : x < y) (hy : y < w.many) (hn : ¬ w.adj x y) : (w.more x y).Ok := by
  refine ⟨hw.lo, hw.hi, ?_, ?_⟩
  · intro p hp
    rcases List.mem_append.mp ((sortP_perm _).mem_iff.mp hp) with hp | hp
    · exact hw.tie p hp
    · rw [List.mem_singleton] at hp; subst hp; exact ⟨hx, hxy, hy⟩
  · refine sortP_rise (List.nodup_append.mpr ⟨hw.nodup, by simp, ?_⟩)
    intro p hp q hq e
    rw [List.mem_singleton] at hq
    subst hq; subst e
    exact hn (.inl hp)

/-! ### seats renamed -/
structure Nm (n : Nat) (f : Int → Int) : Prop where
  rng : ∀ i : Int, 0 ≤ i → i < n → 0 ≤ f i ∧ f i < n
  inj : ∀ i j : Int, 0 ≤ i → i < n → 0 ≤ j → j < n → f i = f j → i = j
  sur : ∀ j : Int, 0 ≤ j → j < n → ∃ i : Int, 0 ≤ i ∧ i < n ∧ f i = j
def ren (w : Web) (f : Int → Int) : Web := ⟨w.many, sortP (w.ties.map fun p => (min (f p.1) (f p.2), max (f p.1) (f p.2)))⟩
theorem ren_ok {w : Web} (hw : w.Ok) {f : Int → Int} (hf : Nm w.many f) : (w.ren f).Ok := by
  have ne : ∀ p ∈ w.ties, f p.1 ≠ f p.2 := fun p hp e => by
    have := hw.tie p hp
    have := hf.inj p.1 p.2 (by omega) (by omega) (by omega) (by omega) e
    omega
  refine ⟨hw.lo, hw.hi, ?_, ?_⟩
  · intro p hp
    obtain ⟨q, hq, rfl⟩ := List.mem_map.mp ((sortP_perm _).mem_iff.mp hp)
    have := hw.tie q hq
    have := hf.rng q.1 (by omega) (by omega)
    have := hf.rng q.2 (by omega) (by omega)
    have := ne q hq
    show 0 ≤ min _ _ ∧ min _ _ < max _ _ ∧ max _ _ < (w.many : Int)
    omega
  · refine sortP_rise ?_
    show List.Pairwise _ _
    rw [List.pairwise_map]
    refine (List.Pairwise.and_mem.mp hw.nodup).imp fun {p q} h e => ?_
    obtain ⟨hp, hq, n⟩ := h
    have tp := hw.tie p hp
    have tq := hw.tie q hq
    rw [Prod.mk.injEq] at e
    have c : (f p.1 = f q.1 ∧ f p.2 = f q.2) ∨ (f p.1 = f q.2 ∧ f p.2 = f q.1) := by omega
    rcases c with ⟨c1, c2⟩ | ⟨c1, c2⟩
    · exact n (Prod.ext (hf.inj _ _ (by omega) (by omega) (by omega) (by omega) c1) (hf.inj _ _ (by omega) (by omega) (by omega) (by omega) c2))
    · have := hf.inj _ _ (by omega) (by omega) (by omega) (by omega) c1
      have := hf.inj _ _ (by omega) (by omega) (by omega) (by omega) c2
      omega
theorem ren_adj {w : Web} (hw : w.Ok) {f : Int → Int} (hf : Nm w.many f) {a u : Int} (ha : 0 ≤ a) (ha2 : a < w.many) : (w.ren f).adj (f a) u ↔ ∃ b, w.adj a b ∧ u = f b := by
  unfold adj
  show ((f a, u) ∈ sortP _ ∨ (u, f a) ∈ sortP _) ↔ _
  rw [(sortP_perm _).mem_iff, (sortP_perm _).mem_iff, List.mem_map, List.mem_map]
  constructor
  · rintro (⟨q, hq, e⟩ | ⟨q, hq, e⟩)
    all_goals
      rw [Prod.mk.injEq] at e
      have tq := hw.tie q hq
      have c : (f a = f q.1 ∧ u = f q.2) ∨ (f a = f q.2 ∧ u = f q.1) := by omega
      rcases c with ⟨c1, c2⟩ | ⟨c1, c2⟩
      · have := hf.inj _ _ ha ha2 (by omega) (by omega) c1
        subst this
        exact ⟨q.2, .inl hq, c2⟩
      · have := hf.inj _ _ ha ha2 (by omega) (by omega) c1
        subst this
        exact ⟨q.1, .inr hq, c2⟩
  · rintro ⟨b, h | h, rfl⟩
    · have e : (f a, f b) = (min (f a) (f b), max (f a) (f b)) ∨ (f b, f a) = (min (f a) (f b), max (f a) (f b)) := by
        rw [Prod.mk.injEq, Prod.mk.injEq]; omega
      rcases e with e | e
      · exact .inl ⟨_, h, e.symm⟩
      · exact .inr ⟨_, h, e.symm⟩
    · have e : (f a, f b) = (min (f b) (f a), max (f b) (f a)) ∨ (f b, f a) = (min (f b) (f a), max (f b) (f a)) := by
        rw [Prod.mk.injEq, Prod.mk.injEq]; omega
      rcases e with e | e
      · exact .inl ⟨_, h, e.symm⟩
      · exact .inr ⟨_, h, e.symm⟩
theorem ren_ball {w : Web} (hw : w.Ok) {f : Int → Int} (hf : Nm w.many f) {x : Int} (hx : 0 ≤ x) (hx2 : x < w.many) : ∀ {k : Nat} {s : Int}, 0 ≤ s → s < w.many → ((w.ren f).ball (· = f x) k (f s) ↔ w.ball (· = x) k s)
  | 0, s, h1, h2 => ⟨fun h => hf.inj _ _ h1 h2 hx hx2 h, fun h => by cases h; exact rfl⟩
  | k + 1, s, h1, h2 => by
    constructor
    · rintro (h | ⟨t, a, h⟩)
      · exact .inl ((ren_ball hw hf hx hx2 h1 h2).mp h)
      · obtain ⟨b, ab, rfl⟩ := (ren_adj hw hf h1 h2).mp a
        have r := (hw.adj_rng ab).2.1
        exact .inr ⟨b, ab, (ren_ball hw hf hx hx2 r.1 r.2).mp h⟩
    · rintro (h | ⟨t, a, h⟩)
      · exact .inl ((ren_ball hw hf hx hx2 h1 h2).mpr h)
      · have r := (hw.adj_rng a).2.1
        exact .inr ⟨f t, (ren_adj hw hf h1 h2).mpr ⟨t, a, rfl⟩, (ren_ball hw hf hx hx2 r.1 r.2).mpr h⟩
theorem ren_dist {w : Web} (hw : w.Ok) {f : Int → Int} (hf : Nm w.many f) {x s : Int} (hx : 0 ≤ x) (hx2 : x < w.many) (h1 : 0 ≤ s) (h2 : s < w.many) : (w.ren f).dist (· = f x) (f s) = w.dist (· = x) s :=
  dist_congr fun _ => ren_ball hw hf hx hx2 h1 h2
/-- a rising row is the sorted one of what it holds -/
theorem sortI_of {l m : List Int} (hm : m.Pairwise (· < ·)) (hl : l.Nodup) (h : ∀ x, x ∈ l ↔ x ∈ m) : sortI l = m := by
  refine sorted_uniq (sortI_sorted l) (hm.imp Int.le_of_lt) ((sortI_perm l).trans ?_)
  exact (List.perm_ext_iff_of_nodup hl (hm.imp fun h e => by omega)).mpr h
theorem ren_nbrs {w : Web} (hw : w.Ok) {f : Int → Int} (hf : Nm w.many f) {s : Int} (h1 : 0 ≤ s) (h2 : s < w.many) : sortI ((w.nbrs s).map f) = (w.ren f).nbrs (f s) := by
  refine sortI_of ((ren_ok hw hf).nbrs_lt _) ?_ fun x => ?_
  · show List.Pairwise _ _
    rw [List.pairwise_map]
    refine (List.Pairwise.and_mem.mp (hw.nbrs_lt s)).imp fun {a b} h e => ?_
    have ra := (hw.adj_rng (mem_nbrs.mp h.1)).2.1
    have rb := (hw.adj_rng (mem_nbrs.mp h.2.1)).2.1
    have := hf.inj _ _ ra.1 ra.2 rb.1 rb.2 e
    omega
  · rw [mem_nbrs, ren_adj hw hf h1 h2, List.mem_map]
    exact ⟨fun ⟨b, hb, e⟩ => ⟨b, mem_nbrs.mp hb, e.symm⟩, fun ⟨b, hb, e⟩ => ⟨b, mem_nbrs.mpr hb, e.symm⟩⟩
end Web
end DL
set_option Elab.async false
set_option linter.all false
set_option maxRecDepth 10000
/-! Steps by a row of reached seats that grows as it is walked. -/
namespace DL
namespace Web
noncomputable def dn (w : Web) (S : Int → Prop) (x : Int) : Nat := (w.dist S x).getD 0
/-- what stands while a seat of the row is looked at: all ahead of it is closed -/
structure Bfs (w : Web) (S : Int → Prop) (R : List Int) (at' : Nat) (L : Int → Option Nat) : Prop where
  nd : R.Nodup
  rng : ∀ x : Int, x ∈ R → 0 ≤ x ∧ x < (w.many : Int)
  src : ∀ x, S x → x ∈ R
  val : ∀ x : Int, x ∈ R → ∃ k, w.dist S x = some k ∧ L x = some k
  out : ∀ x : Int, x ∉ R → L x = none
  mono : R.Pairwise fun a b => w.dn S a ≤ w.dn S b
  closed : ∀ (j : Nat) (x : Int), j < at' → R[j]? = some x → ∀ y, w.adj x y → y ∈ R
  far : ∀ u, R[at']? = some u → ∀ x ∈ R, w.dn S x ≤ w.dn S u + 1
variable {w : Web} {S : Int → Prop} {R : List Int} {at' : Nat} {L : Int → Option Nat}
theorem Bfs.idx (h : Bfs w S R at' L) {u t : Int} {i : Nat} (eu : R[at']? = some u) (et : R[i]? = some t) (lt : w.dn S t < w.dn S u) : i < at' := by
  by_cases q : i < at'
  · exact q
  · exfalso
    by_cases e : i = at'
    · subst e; rw [eu] at et; cases et; omega
    · obtain ⟨hi, ei⟩ := List.getElem?_eq_some_iff.mp et
      obtain ⟨ha, ea⟩ := List.getElem?_eq_some_iff.mp eu
      have := List.pairwise_iff_getElem.mp h.mono at' i ha hi (by omega)
      rw [ei, ea] at this
      omega
theorem Bfs.near (h : Bfs w S R at' L) {u : Int} {d : Nat} (eu : R[at']? = some u) (du : w.dist S u = some d) : ∀ {j : Nat} {x : Int}, w.dist S x = some j → j ≤ d → x ∈ R
  | 0, x, e, _ => h.src x (dist_zero.mp e)
  | j + 1, x, e, hj => by
    obtain ⟨t, a, et⟩ := dist_next e
    have mt := h.near eu du et (by omega)
    obtain ⟨i, hi, ei⟩ := List.mem_iff_getElem.mp mt
    have li : i < at' := h.idx eu (i := i) (t := t) (by rw [List.getElem?_eq_getElem hi, ei]) (by unfold dn; rw [et, du]; simp; omega)
    exact h.closed i t li (by rw [List.getElem?_eq_getElem hi, ei]) x a.symm
/-- one seat more -/
theorem Bfs.add (h : Bfs w S R at' L) (ok : w.Ok) {u y : Int} {d : Nat} (eu : R[at']? = some u) (du : w.dist S u = some d) (a : w.adj u y) (n : y ∉ R) : Bfs w S (R ++ [y]) at' (fun x => if x = y then some (d + 1) else L x) := by
  have dy : w.dist S y = some (d + 1) := by
    obtain ⟨j, hj, ej⟩ := dist_near a.symm du
    by_cases q : j = d + 1
    · rw [ej, q]
    · exact (n (h.near eu du ej (by omega))).elim
  obtain ⟨hu, eu'⟩ := List.getElem?_eq_some_iff.mp eu
  have eu2 : (R ++ [y])[at']? = some u := by rw [List.getElem?_append_left hu, eu]
  have fy : w.dn S y = d + 1 := by unfold dn; rw [dy]; rfl
  have fu : w.dn S u = d := by unfold dn; rw [du]; rfl
  refine ⟨List.nodup_append.mpr ⟨h.nd, by simp, fun x hx z hz e => ?_⟩, ?_, fun x hx => List.mem_append_left _ (h.src x hx), ?_, ?_, ?_, ?_, ?_⟩
  · rw [List.mem_singleton] at hz; subst hz; subst e; exact n hx
  · intro x hx
    rcases List.mem_append.mp hx with q | q
    · exact h.rng x q
    · rw [List.mem_singleton.mp q]; exact (ok.adj_rng a).2.1
  · intro x hx
    by_cases q : x = y
    · subst q; exact ⟨d + 1, dy, by simp⟩
    · rcases List.mem_append.mp hx with q2 | q2
      · obtain ⟨k, e1, e2⟩ := h.val x q2
        exact ⟨k, e1, by simp [q, e2]⟩
      · exact (q (List.mem_singleton.mp q2)).elim
  · intro x hx
    have q1 : x ∉ R := fun z => hx (List.mem_append_left _ z)
    have q2 : x ≠ y := fun z => hx (by rw [z]; simp)
    simp [q2, h.out x q1]
  · refine List.pairwise_append.mpr ⟨h.mono, List.pairwise_singleton _ _, fun x hx z hz => ?_⟩
    rw [List.mem_singleton.mp hz]
    have := h.far u eu x hx
    omega
  · intro j x hj ej z az
    rw [List.getElem?_append_left (by omega)] at ej
    exact List.mem_append_left _ (h.closed j x hj ej z az)
  · intro v ev x hx
    rw [eu2] at ev; cases ev
    rcases List.mem_append.mp hx with q | q
    · exact h.far u eu x q
    · rw [List.mem_singleton.mp q]; omega
theorem Bfs.step (h : Bfs w S R at' L) {u : Int} (eu : R[at']? = some u) (all : ∀ y, w.adj u y → y ∈ R) : Bfs w S R (at' + 1) L := by
  refine { h with closed := fun j x hj ej y a => ?_, far := fun v ev x hx => ?_ }
  · by_cases q : j = at'
    · subst q; rw [eu] at ej; cases ej; exact all y a
    · exact h.closed j x (by omega) ej y a
  · have f := h.far u eu x hx
    obtain ⟨h1, e1⟩ := List.getElem?_eq_some_iff.mp eu
    obtain ⟨h2, e2⟩ := List.getElem?_eq_some_iff.mp ev
    have := List.pairwise_iff_getElem.mp h.mono at' (at' + 1) h1 h2 (by omega)
    rw [e1, e2] at this
    omega
theorem Bfs.all (h : Bfs w S R at' L) (e : R.length ≤ at') : ∀ {j : Nat} {x : Int}, w.dist S x = some j → x ∈ R
  | 0, x, hx => h.src x (dist_zero.mp hx)
  | j + 1, x, hx => by
    obtain ⟨t, a, et⟩ := dist_next hx
    have mt := h.all e et
    obtain ⟨i, hi, ei⟩ := List.mem_iff_getElem.mp mt
    exact h.closed i t (by omega) (by rw [List.getElem?_eq_getElem hi, ei]) x a.symm
theorem full_row : ∀ {n : Nat} {R : List Int}, R.Nodup → (∀ x : Int, x ∈ R → 0 ≤ x ∧ x < (n : Int)) → n ≤ R.length → ∀ x : Int, 0 ≤ x → x < n → x ∈ R
  | 0, R, _, _, _, x, h0, h1 => by omega
  | n + 1, R, nd, rng, hl, x, h0, h1 => by
    by_cases q : (n : Int) ∈ R
    · by_cases e : x = n
      · rw [e]; exact q
      · have nd' := nd.erase (n : Int)
        have rng' : ∀ y : Int, y ∈ R.erase (n : Int) → 0 ≤ y ∧ y < (n : Int) := fun y hy => by
          have a := rng y (List.mem_of_mem_erase hy)
          have b : y ≠ (n : Int) := fun z => (List.Nodup.not_mem_erase nd) (by rw [z] at hy; exact hy)
          omega
        have hl' : n ≤ (R.erase (n : Int)).length := by rw [List.length_erase_of_mem q]; omega
        exact List.mem_of_mem_erase (full_row nd' rng' hl' x h0 (by omega))
    · exfalso
      have rng' : ∀ y : Int, y ∈ R → 0 ≤ y ∧ y < (n : Int) := fun y hy => by
        have a := rng y hy
        have b : y ≠ (n : Int) := fun z => q (by rw [z] at hy; exact hy)
        omega
      cases R with
      | nil => simp at hl
      | cons a r =>
        have nd2 := (List.nodup_cons.mp nd)
        have := full_row nd2.2 (fun y hy => rng' y (List.mem_cons_of_mem _ hy)) (by simp at hl; omega) a (rng' a List.mem_cons_self).1 (rng' a List.mem_cons_self).2
        exact nd2.1 this
/-- at the end all is told -/
theorem Bfs.done (h : Bfs w S R at' L) (e : R.length ≤ at' ∨ w.many ≤ R.length) {x : Int} (h0 : 0 ≤ x) (h1 : x < w.many) : L x = w.dist S x := by
  by_cases q : x ∈ R
  · obtain ⟨k, e1, e2⟩ := h.val x q
    rw [e1, e2]
  · rcases e with e | e
    · rw [h.out x q]
      cases d : w.dist S x with
      | none => rfl
      | some j => exact (q (h.all e d)).elim
    · exact (q (full_row h.nd h.rng e x h0 h1)).elim
theorem Bfs.begin (w : Web) {xs : List Int} (nd : xs.Nodup) (rng : ∀ x : Int, x ∈ xs → 0 ≤ x ∧ x < (w.many : Int)) : Bfs w (· ∈ xs) xs 0 (fun x => if x ∈ xs then some 0 else none) := by
  have dz : ∀ x : Int, x ∈ xs → w.dist (· ∈ xs) x = some 0 := fun x hx => dist_zero.mpr hx
  have fz : ∀ x : Int, x ∈ xs → w.dn (· ∈ xs) x = 0 := fun x hx => by unfold dn; rw [dz x hx]; rfl
  refine ⟨nd, rng, fun x hx => hx, fun x hx => ⟨0, dz x hx, by simp [hx]⟩, fun x hx => by simp [hx], ?_, fun j x hj => by omega, fun u eu x hx => by rw [fz x hx]; omega⟩
  exact List.Pairwise.imp_of_mem (fun {a b} ha hb _ => by rw [fz a ha]; omega) nd
end Web
end DL
set_option Elab.async false
set_option linter.all false
set_option maxRecDepth 10000
/-! Steps there and back, by a third seat, by relaxing along ties. -/
namespace DL
namespace Web
theorem ball_add {w : Web} {a c : Int} {k : Nat} (h : w.ball (· = a) k c) : ∀ {j : Nat} {b : Int}, w.ball (· = c) j b → w.ball (· = a) (k + j) b
  | 0, b, e => by cases e; exact h
  | j + 1, b, e => by
    rcases e with e | ⟨t, q, e⟩
    · exact .inl (ball_add h e)
    · exact .inr ⟨t, q, ball_add h e⟩
theorem ball_back {w : Web} {a : Int} : ∀ {k : Nat} {b : Int}, w.ball (· = a) k b → w.ball (· = b) k a
  | 0, b, e => by cases e; exact rfl
  | k + 1, b, e => by
    rcases e with e | ⟨t, q, e⟩
    · exact .inl (ball_back e)
    · have h1 : w.ball (· = b) 1 t := .inr ⟨b, q.symm, rfl⟩
      have := ball_add h1 (ball_back e)
      rw [Nat.add_comm] at this
      exact this
theorem dist_back (w : Web) (a b : Int) : w.dist (· = a) b = w.dist (· = b) a := dist_congr fun _ => ⟨ball_back, ball_back⟩
/-- steps as a number, 99 of none -/
def tv : Option Nat → Int
  | none => 99
  | some k => (k : Nat)
theorem tv_third {w : Web} {a b c : Int} (h : ∀ k, w.dist (· = a) b = some k → k ≤ 12) : tv (w.dist (· = a) b) ≤ tv (w.dist (· = a) c) + tv (w.dist (· = c) b) := by
  have le : tv (w.dist (· = a) b) ≤ 99 := by
    cases q : w.dist (· = a) b with
    | none => exact Int.le_refl _
    | some k => have := h k q; show ((k : Nat) : Int) ≤ 99; omega
  have pos : ∀ o : Option Nat, 0 ≤ tv o := fun o => by cases o with
    | none => decide
    | some k => exact Int.natCast_nonneg k
  cases e1 : w.dist (· = a) c with
  | none => have := pos (w.dist (· = c) b); show _ ≤ (99 : Int) + _; omega
  | some i =>
    cases e2 : w.dist (· = c) b with
    | none => show _ ≤ ((i : Nat) : Int) + 99; omega
    | some j =>
      obtain ⟨d, hd, e⟩ := dist_of_ball (ball_add (ball_of_dist e1) (ball_of_dist e2))
      rw [e]
      show ((d : Nat) : Int) ≤ ((i : Nat) : Int) + ((j : Nat) : Int)
      omega
/-! ### relaxing -/
def put1 (V : Int → Int) (a v : Int) : Int → Int := fun x => if x = a then v else V x
def stp (V : Int → Int) (a b : Int) : Int → Int := put1 V a (min (V a) (V b + 1))
def relax (V : Int → Int) (p : Int × Int) : Int → Int := stp (stp V p.1 p.2) p.2 p.1
def Lb (w : Web) (S : Int → Prop) (V : Int → Int) : Prop := ∀ s, (∀ d : Nat, w.dist S s = some d → (d : Int) ≤ V s) ∧ (w.dist S s = none → 99 ≤ V s)
def Ub (w : Web) (S : Int → Prop) (k : Nat) (V : Int → Int) : Prop := ∀ s j, w.dist S s = some j → j ≤ k → V s ≤ (j : Int)
theorem stp_le (V : Int → Int) (a b x : Int) : stp V a b x ≤ V x := by
  unfold stp put1
  split
  · rename_i h; subst h; omega
  · omega
theorem stp_at (V : Int → Int) (a b : Int) : stp V a b a ≤ V b + 1 := by
  unfold stp put1
  rw [if_pos rfl]; omega
theorem stp_lb {w : Web} {S : Int → Prop} {V : Int → Int} (h : Lb w S V) {a b : Int} (q : w.adj a b) : Lb w S (stp V a b) := by
  intro s
  unfold stp put1
  by_cases e : s = a
  · subst e
    rw [if_pos rfl]
    refine ⟨fun d hd => ?_, fun hn => ?_⟩
    · have h1 := (h s).1 d hd
      cases eb : w.dist S b with
      | none =>
        obtain ⟨j, _, e2⟩ := dist_near q.symm hd
        rw [eb] at e2; cases e2
      | some j =>
        have h2 := (h b).1 j eb
        obtain ⟨i, hi, e2⟩ := dist_near q eb
        rw [hd] at e2; cases e2
        omega
    · have h1 := (h s).2 hn
      cases eb : w.dist S b with
      | none => have := (h b).2 eb; omega
      | some j =>
        obtain ⟨i, _, e2⟩ := dist_near q eb
        rw [hn] at e2; cases e2
  · rw [if_neg e]; exact h s
theorem relax_le (V : Int → Int) (p : Int × Int) (x : Int) : relax V p x ≤ V x := Int.le_trans (stp_le _ _ _ _) (stp_le _ _ _ _)
theorem relax_lb {w : Web} {S : Int → Prop} {V : Int → Int} (h : Lb w S V) {p : Int × Int} (q : w.adj p.1 p.2) : Lb w S (relax V p) := stp_lb (stp_lb h q) q.symm
theorem relax_at (V : Int → Int) {p : Int × Int} (n : p.1 ≠ p.2) : relax V p p.1 ≤ V p.2 + 1 ∧ relax V p p.2 ≤ V p.1 + 1 := by
  refine ⟨Int.le_trans (stp_le _ _ _ _) (stp_at _ _ _), ?_⟩
  have h1 := stp_at (stp V p.1 p.2) p.2 p.1
  have h2 := stp_le V p.1 p.2 p.1
  unfold relax
  omega
theorem pass_le : ∀ (ts : List (Int × Int)) (V : Int → Int) (x : Int), ts.foldl relax V x ≤ V x
  | [], V, x => Int.le_refl _
  | p :: ts, V, x => Int.le_trans (pass_le ts (relax V p) x) (relax_le V p x)
theorem pass_lb {w : Web} {S : Int → Prop} : ∀ {ts : List (Int × Int)} {V : Int → Int}, Lb w S V → (∀ p ∈ ts, w.adj p.1 p.2) → Lb w S (ts.foldl relax V)
  | [], V, h, _ => h
  | p :: ts, V, h, q => pass_lb (ts := ts) (V := relax V p) (relax_lb h (q p List.mem_cons_self)) fun z hz => q z (List.mem_cons_of_mem _ hz)
theorem pass_at : ∀ {ts : List (Int × Int)} (V : Int → Int) {p : Int × Int}, p ∈ ts → p.1 ≠ p.2 → ts.foldl relax V p.1 ≤ V p.2 + 1 ∧ ts.foldl relax V p.2 ≤ V p.1 + 1
  | z :: ts, V, p, hp, n => by
    rcases List.mem_cons.mp hp with e | e
    · subst e
      have h1 := relax_at V n
      have h2 := pass_le ts (relax V p) p.1
      have h3 := pass_le ts (relax V p) p.2
      rw [List.foldl_cons]
      omega
    · have h1 := pass_at (relax V z) e n
      have h2 := relax_le V z p.1
      have h3 := relax_le V z p.2
      rw [List.foldl_cons]
      omega
theorem pass_ub {w : Web} (ok : w.Ok) {S : Int → Prop} {k : Nat} {V : Int → Int} (h : Ub w S k V) : Ub w S (k + 1) (w.ties.foldl relax V) := by
  intro s j e hj
  by_cases q : j ≤ k
  · exact Int.le_trans (pass_le _ _ _) (h s j e q)
  · have ej : j = k + 1 := by omega
    subst ej
    obtain ⟨t, a, et⟩ := dist_next e
    have ht := h t k et (Nat.le_refl _)
    rcases a with a | a
    · have := ok.tie _ a
      have := (pass_at V a (by simp at this ⊢; omega)).1
      simp at this
      push_cast
      omega
    · have := ok.tie _ a
      have := (pass_at V a (by simp at this ⊢; omega)).2
      simp at this
      push_cast
      omega
def passes (w : Web) (V : Int → Int) : Nat → Int → Int
  | 0 => V
  | k + 1 => w.ties.foldl relax (passes w V k)
theorem passes_ub {w : Web} (ok : w.Ok) {S : Int → Prop} {V : Int → Int} (h : Ub w S 0 V) : ∀ k, Ub w S k (passes w V k)
  | 0 => h
  | k + 1 => pass_ub ok (passes_ub ok h k)
theorem passes_lb {w : Web} {S : Int → Prop} {V : Int → Int} (h : Lb w S V) : ∀ k, Lb w S (passes w V k)
  | 0 => h
  | k + 1 => pass_lb (passes_lb h k) fun p hp => .inl hp
theorem passes_tv {w : Web} (ok : w.Ok) {S : Int → Prop} [DecidablePred S] (hd : ∀ s k, w.dist S s = some k → k ≤ w.many) (s : Int) : min 99 (passes w (fun x => if S x then 0 else 99) w.many s) = tv (w.dist S s) := by
  have hi := ok.hi
  have l0 : Lb w S (fun x => if S x then 0 else 99) := by
    intro x
    by_cases q : S x
    · have := (dist_zero (w := w)).mpr q
      refine ⟨fun d e => ?_, fun e => ?_⟩
      · rw [this] at e; cases e; simp [q]
      · rw [this] at e; cases e
    · refine ⟨fun d e => ?_, fun _ => by simp [q]⟩
      have := hd x d e
      simp [q]; omega
  have u0 : Ub w S 0 (fun x => if S x then 0 else 99) := by
    intro x j e hj
    have : j = 0 := by omega
    subst this
    have := dist_zero.mp e
    simp [this]
  have l := passes_lb l0 w.many s
  have u := passes_ub ok u0 w.many
  cases e : w.dist S s with
  | none => have := l.2 e; show _ = (99 : Int); omega
  | some k =>
    have h1 := l.1 k e
    have h2 := u s k e (hd s k e)
    have h3 := hd s k e
    show _ = ((k : Nat) : Int)
    omega
end Web
end DL
set_option Elab.async false
set_option linter.all false
set_option maxRecDepth 10000
/-! Texts of data: how long they are at most. -/
namespace DL
open PySem PySem.Spec PyProof.Rows L2
theorem piled_le {ts : List Str} {B : Nat} (h : ∀ t ∈ ts, t.length ≤ B) : (PySem.piled ts) ≤ ts.length * (B + 2) := by
  induction ts with
  | nil => simp [PySem.piled]
  | cons t r ih =>
    have h1 := h t List.mem_cons_self
    have h2 := ih fun x hx => h x (List.mem_cons_of_mem _ hx)
    rw [PySem.piled_cons, List.length_cons, Nat.add_mul]
    omega
theorem tupleText_le {ts : List Str} {B : Nat} (h : ∀ t ∈ ts, t.length ≤ B) : (PySem.tupleText ts).length ≤ ts.length * (B + 2) + 3 := by
  have h1 := piled_le h
  unfold PySem.tupleText
  rw [strLen_append, strLen_append]
  have e1 : ((("(" : String) : Str)).length = 1 := rfl
  have e3 : (((if ts.length == 1 then ",)" else ")" : String) : Str)).length ≤ 2 := by split <;> decide
  rw [e1]
  by_cases q : ts = []
  · subst q
    have : (Str.join ", " []).length = 0 := rfl
    omega
  · have := PySem.join_length_add ts q
    omega
theorem strOk_append {a b : Str} (h : PyData.strOk a = true) (h' : PyData.strOk b = true) : PyData.strOk (a ++ b) = true := by
  unfold PyData.strOk at *
  rw [PySem.Str.cps_append, Array.all_append, h, h']
  rfl
theorem strOk_join {sep : Str} (hs : PyData.strOk sep = true) : ∀ {ts : List Str}, (∀ t ∈ ts, PyData.strOk t = true) → PyData.strOk (Str.join sep ts) = true
  | [], _ => by show PyData.strOk Str.empty = true; decide +kernel
  | [x], h => h x List.mem_cons_self
  | x :: y :: r, h => by
    show PyData.strOk (x ++ sep ++ Str.join sep (y :: r)) = true
    exact strOk_append (strOk_append (h x List.mem_cons_self) hs) (strOk_join hs fun t ht => h t (List.mem_cons_of_mem _ ht))
theorem strOk_tupleText {ts : List Str} (h : ∀ t ∈ ts, PyData.strOk t = true) : PyData.strOk (PySem.tupleText ts) = true := by
  unfold PySem.tupleText
  refine strOk_append (strOk_append (by decide +kernel) (strOk_join (by decide +kernel) h)) ?_
  split <;> decide +kernel
end DL
set_option Elab.async false
set_option linter.all false
set_option maxRecDepth 10000
namespace DL
open PySem PySem.Spec PyProof.Rows L2
/-- x in a row of ints -/
theorem pds_ints (rd : Nat → Option PyData) : ∀ ys : List Int, pds rd (ys.map .int) = some (ys.map .int)
  | [] => rfl
  | y :: ys => by simp [pds, pd, pds_ints rd ys]
theorem lay_ints : ∀ ys : List Int, PyData.canLayAll0 (ys.map .int) = true
  | [] => rfl
  | y :: ys => by simp [PyData.canLayAll0, PyData.canLay0, lay_ints ys]
theorem oIn_ints (x : Int) (ys : List Int) (st : Sto) : oIn (.int x) (.tup (ys.map .int)) st = .ok (.bl (decide (x ∈ ys))) st := by
  have r4 : toP st (.int x) = some (.int x) := rfl
  have r5 : toP st (.tup (ys.map .int)) = some (.tuple (ys.map .int)) := by simp [toP, pd, pds_ints]
  have r6 : SeqAt.shaped (.int x) = true := by simp [SeqAt.shaped, PyData.canLay0, PyData.depth]
  have r7 : ((ys.map PyData.int).any fun z => PyData.eqv z (.int x)) = decide (x ∈ ys) := by
    rw [Bool.eq_iff_iff, List.any_eq_true, decide_eq_true_iff]
    constructor
    · rintro ⟨_, ha, e⟩
      obtain ⟨a, h, rfl⟩ := List.mem_map.mp ha
      simp [PyData.eqv] at e
      subst e
      exact h
    · intro h
      exact ⟨_, List.mem_map.mpr ⟨x, h, rfl⟩, by simp [PyData.eqv]⟩
  simp [oIn, r4, r5, r6, lay_ints, r7]
theorem pds_map {β : Type} (rd : Nat → Option PyData) {f : β → D} {g : β → PyData} : ∀ {xs : List β}, (∀ x ∈ xs, pd rd (f x) = some (g x)) → pds rd (xs.map f) = some (xs.map g)
  | [], _ => rfl
  | x :: xs, h => by
    have h1 := h x List.mem_cons_self
    have h2 := pds_map rd (xs := xs) fun y hy => h y (List.mem_cons_of_mem _ hy)
    simp [pds, h1, h2]
theorem shown_map {β : Type} {g : β → PyData} : ∀ {xs : List β}, PyData.shownAll (xs.map g) = xs.map fun x => (g x).shown
  | [] => rfl
  | x :: xs => by simp [PyData.shownAll, shown_map (xs := xs)]
theorem lay_map {β : Type} {g : β → PyData} : ∀ {xs : List β}, (∀ x ∈ xs, (g x).canLay0 = true) → PyData.canLayAll0 (xs.map g) = true
  | [], _ => rfl
  | x :: xs, h => by simp [PyData.canLayAll0, h x List.mem_cons_self, lay_map (xs := xs) fun y hy => h y (List.mem_cons_of_mem _ hy)]
theorem depth_map {β : Type} {g : β → PyData} {k : Nat} : ∀ {xs : List β}, (∀ x ∈ xs, (g x).depth ≤ k) → PyData.depthAll (xs.map g) ≤ k
  | [], _ => Nat.zero_le _
  | x :: xs, h => by
    have h1 := h x List.mem_cons_self
    have h2 := depth_map (xs := xs) fun y hy => h y (List.mem_cons_of_mem _ hy)
    simp only [List.map_cons, PyData.depthAll]
    omega
theorem showable_map {β : Type} {g : β → PyData} : ∀ {xs : List β}, (∀ x ∈ xs, (g x).showable = true) → PyData.showableAll (xs.map g) = true
  | [], _ => rfl
  | x :: xs, h => by simp [PyData.showableAll, h x List.mem_cons_self, showable_map (xs := xs) fun y hy => h y (List.mem_cons_of_mem _ hy)]
/-- a small number's text -/
theorem shown_ok {i : Int} (h0 : 0 ≤ i) (h1 : i < 100) : PyData.strOk (PyData.int i).shown = true := by
  obtain ⟨k, rfl⟩ : ∃ k : Nat, i = k := ⟨i.toNat, by omega⟩
  have hk : k < 100 := by omega
  have all : ∀ k : _root_.Fin 100, PyData.strOk (PyData.int ((k : Nat) : Int)).shown = true := by decide +kernel
  exact all ⟨k, hk⟩
theorem shown_small {i : Int} (h0 : 0 ≤ i) (h1 : i < 100) : (PyData.int i).shown.length ≤ 2 ∧ (PyData.int i).showable = true := by
  obtain ⟨k, rfl⟩ : ∃ k : Nat, i = k := ⟨i.toNat, by omega⟩
  have hk : k < 100 := by omega
  have all : ∀ k : _root_.Fin 100, (PyData.int ((k : Nat) : Int)).shown.length ≤ 2 ∧ (PyData.int ((k : Nat) : Int)).showable = true := by decide +kernel
  exact all ⟨k, hk⟩
end DL
set_option Elab.async false
set_option linter.all false
set_option maxRecDepth 10000
/-! Texts and equality of rows of leaves: small numbers, None, truths. -/
namespace DL
open PySem PySem.Spec PyProof.Rows L2
theorem textFrom_le : ∀ (ts : List Str) (k : Nat) (acc : Str), (PySem.textFrom k acc ts).length ≤ acc.length + PySem.piled ts
  | [], k, acc => by simp [PySem.textFrom, PySem.piled]
  | t :: r, k, acc => by
    have ih := textFrom_le r (k + 1) (acc ++ (if k > 0 then ", " else "" : String) ++ t)
    have e : (acc ++ (if k > 0 then ", " else "" : String) ++ t).length ≤ acc.length + 2 + t.length := by
      rw [strLen_append, strLen_append]
      have : (((if k > 0 then ", " else "" : String) : Str)).length ≤ 2 := by split <;> decide
      omega
    rw [PySem.piled_cons]
    show (PySem.textFrom (k + 1) _ r).length ≤ _
    omega
theorem listText_le {ts : List Str} {B : Nat} (h : ∀ t ∈ ts, t.length ≤ B) : (PySem.listText ts).length ≤ ts.length * (B + 2) + 2 := by
  have h1 := piled_le h
  have h2 := textFrom_le ts 0 "["
  unfold PySem.listText
  rw [strLen_append]
  have e1 : ((("[" : String) : Str)).length = 1 := rfl
  have e2 : ((("]" : String) : Str)).length = 1 := rfl
  rw [e1] at h2
  rw [e2]
  omega
theorem strOk_textFrom : ∀ {ts : List Str} (k : Nat) {acc : Str}, PyData.strOk acc = true → (∀ t ∈ ts, PyData.strOk t = true) → PyData.strOk (PySem.textFrom k acc ts) = true
  | [], k, acc, h, _ => h
  | t :: r, k, acc, h, ht => by
    show PyData.strOk (PySem.textFrom (k + 1) _ r) = true
    refine strOk_textFrom (k + 1) (strOk_append (strOk_append h ?_) (ht t List.mem_cons_self)) fun x hx => ht x (List.mem_cons_of_mem _ hx)
    split <;> decide +kernel
theorem strOk_listText {ts : List Str} (h : ∀ t ∈ ts, PyData.strOk t = true) : PyData.strOk (PySem.listText ts) = true := by
  unfold PySem.listText
  exact strOk_append (strOk_textFrom 0 (by decide +kernel) h) (by decide +kernel)
/-- a leaf with a short text -/
def SmLeaf : D → Prop
  | .int i => 0 ≤ i ∧ i < 100
  | .non => True
  | .bl _ => True
  | _ => False
def lpd : D → PyData
  | .int i => .int i
  | .bl b => .bool b
  | _ => .none
theorem smleaf_pd {d : D} (h : SmLeaf d) : (∀ rd, pd rd d = some (lpd d)) ∧ (lpd d).canLay0 = true ∧ (lpd d).depth = 0 ∧ (lpd d).showable = true ∧ (lpd d).shown.length ≤ 5 ∧ PyData.strOk (lpd d).shown = true ∧ isLeaf d = true := by
  cases d with
  | int i =>
    have := shown_small h.1 h.2
    exact ⟨fun _ => rfl, rfl, rfl, this.2, by show (PyData.int i).shown.length ≤ 5; omega, shown_ok h.1 h.2, rfl⟩
  | non => exact ⟨fun _ => rfl, rfl, rfl, rfl, by decide +kernel, by decide +kernel, rfl⟩
  | bl b => cases b <;> exact ⟨fun _ => rfl, rfl, rfl, rfl, by decide +kernel, by decide +kernel, rfl⟩
  | _ => cases h
theorem leafs_facts {ds : List D} (h : ∀ d ∈ ds, SmLeaf d) (hl : ds.length ≤ 1000) :
    (∀ rd, pds rd ds = some (ds.map lpd)) ∧ PyData.canLayAll0 (ds.map lpd) = true ∧ PyData.depthAll (ds.map lpd) ≤ 0 ∧ PyData.showableAll (ds.map lpd) = true ∧ (∀ t ∈ PyData.shownAll (ds.map lpd), t.length ≤ 5) ∧ (∀ t ∈ PyData.shownAll (ds.map lpd), PyData.strOk t = true) ∧ (PyData.shownAll (ds.map lpd)).length = ds.length := by
  refine ⟨fun rd => ?_, lay_map fun d hd => (smleaf_pd (h d hd)).2.1, depth_map fun d hd => by rw [(smleaf_pd (h d hd)).2.2.1]; exact Nat.le_refl _, showable_map fun d hd => (smleaf_pd (h d hd)).2.2.2.1, ?_, ?_, by rw [shown_map]; simp⟩
  · have := pds_map rd (f := fun d : D => d) (g := lpd) (xs := ds) fun d hd => (smleaf_pd (h d hd)).1 rd
    rw [List.map_id'] at this
    exact this
  · rw [shown_map]
    intro t ht
    obtain ⟨d, hd, rfl⟩ := List.mem_map.mp ht
    exact (smleaf_pd (h d hd)).2.2.2.2.1
  · rw [shown_map]
    intro t ht
    obtain ⟨d, hd, rfl⟩ := List.mem_map.mp ht
    exact (smleaf_pd (h d hd)).2.2.2.2.2.1
theorem repr_tup {ds : List D} (h : ∀ d ∈ ds, SmLeaf d) (hl : ds.length ≤ 1000) : ∃ x, PyData.strOk x = true ∧ ∀ st, bRepr [.tup ds] st = .ok (.str x) st := by
  obtain ⟨a1, a2, a3, a4, a5, a6, a7⟩ := leafs_facts h hl
  have hz : (10000 : Nat) ≤ sizeLine := by decide
  have sh : SeqAt.shaped (.tuple (ds.map lpd)) = true := by
    unfold SeqAt.shaped
    rw [Bool.and_eq_true, decide_eq_true_iff]
    exact ⟨by simp only [PyData.canLay0, a2], by simp only [PyData.depth]; omega⟩
  have len := tupleText_le a5
  rw [a7] at len
  have e3 : (PyData.tuple (ds.map lpd)).shown = PySem.tupleText (PyData.shownAll (ds.map lpd)) := by rw [PyData.shown]
  refine ⟨(PyData.tuple (ds.map lpd)).shown, by rw [e3]; exact strOk_tupleText a6, fun st => ?_⟩
  have e : toP st (.tup ds) = some (.tuple (ds.map lpd)) := by simp [toP, pd, a1]
  have s1 : (PyData.tuple (ds.map lpd)).showable = true := by rw [PyData.showable]; exact a4
  have s2 : (PyData.tuple (ds.map lpd)).shown.length ≤ sizeLine := by
    rw [e3]
    have : ds.length * (5 + 2) ≤ 1000 * (5 + 2) := Nat.mul_le_mul_right _ hl
    omega
  cases ds with
  | nil => simp only [bRepr, e, sh, s1, s2, and_self, if_true]
  | cons d ds => simp only [bRepr, e, sh, s1, s2, and_self, if_true]
theorem repr_ref {ds : List D} (h : ∀ d ∈ ds, SmLeaf d) (hl : ds.length ≤ 1000) : ∃ x, PyData.strOk x = true ∧ ∀ st r, rdL st r = some ds → bRepr [.ref r] st = .ok (.str x) st := by
  obtain ⟨a1, a2, a3, a4, a5, a6, a7⟩ := leafs_facts h hl
  have hz : (10000 : Nat) ≤ sizeLine := by decide
  have sh : SeqAt.shaped (.list (ds.map lpd)) = true := by
    unfold SeqAt.shaped
    rw [Bool.and_eq_true, decide_eq_true_iff]
    exact ⟨by simp only [PyData.canLay0, a2], by simp only [PyData.depth]; omega⟩
  have len := listText_le a5
  rw [a7] at len
  have e3 : (PyData.list (ds.map lpd)).shown = PySem.listText (PyData.shownAll (ds.map lpd)) := by rw [PyData.shown]
  refine ⟨(PyData.list (ds.map lpd)).shown, by rw [e3]; exact strOk_listText a6, fun st r hr => ?_⟩
  have e : toP st (.ref r) = some (.list (ds.map lpd)) := by simp [toP, pd, rdP, hr, a1]
  have s1 : (PyData.list (ds.map lpd)).showable = true := by rw [PyData.showable]; exact a4
  have s2 : (PyData.list (ds.map lpd)).shown.length ≤ sizeLine := by
    rw [e3]
    have : ds.length * (5 + 2) ≤ 1000 * (5 + 2) := Nat.mul_le_mul_right _ hl
    omega
  simp only [bRepr, e, sh, s1, s2, and_self, if_true]
theorem oNe_str {x : Str} (hx : PyData.strOk x = true) (st : Sto) : oNe (.str x) (.str x) st = .ok (.bl false) st := by
  have r4 : toP st (.str x) = some (.str x) := rfl
  have r5 : PyData.eqv (.str x) (.str x) = true := by simp [PyData.eqv]
  have r6 : SeqAt.shaped (.str x) = true := by simp [SeqAt.shaped, PyData.canLay0, PyData.depth, hx]
  simp [oNe, r4, r5, r6]
theorem oEq_tup {ds : List D} (h : ∀ d ∈ ds, isLeaf d = true) (st : Sto) : oEq (.tup ds) (.tup ds) st = .ok (.bl true) st := by
  obtain ⟨p, a1, a2, a3, a4⟩ := leafs_pd h
  have r : SeqAt.shaped (.tuple p) = true := by simp [SeqAt.shaped, PyData.canLay0, PyData.depth, a2, a3]
  simp [oEq, toP, pd, a1, r, PyData.eqv, a4]
theorem oEq_ref {ds : List D} {st : Sto} {a b : Nat} (h : ∀ d ∈ ds, isLeaf d = true) (ha : rdL st a = some ds) (hb : rdL st b = some ds) : oEq (.ref a) (.ref b) st = .ok (.bl true) st := by
  obtain ⟨p, a1, a2, a3, _⟩ := toP_ref h
  simp [oEq, a1 _ _ ha, a1 _ _ hb, a2, PyData.eqv, a3]
theorem minI_ex {xs : List Int} (h : xs ≠ []) : ∃ m, minI xs = some m := by
  cases xs with
  | nil => exact (h rfl).elim
  | cons x xs => exact ⟨_, rfl⟩
end DL
set_option Elab.async false
set_option linter.all false
set_option maxRecDepth 100000
set_option maxHeartbeats 2000000
namespace Pr
open PySem PySem.Spec PyProof.Rows L2 DL
def topS (i : Nat) : Stmt := PySem.Challenge.pw_comeright_k02_whole_steps.main.body.getD i (.Pass ⟨0, 0, 0, 0⟩)
abbrev d_TABS : Tabs := []
structure Txt (K : PySem.W.Frag) (w : World) (mg : Str → Option Value) : Prop where
  tabs : TabsOk K w d_TABS
  b_type : mg "type" = none
  b_tuple : mg "tuple" = none
  b_len : mg "len" = none
  b_int : mg "int" = none
  b_range : mg "range" = none
  b_list : mg "list" = none
  b_enumerate : mg "enumerate" = none
  b_abs : mg "abs" = none
  b_sorted : mg "sorted" = none
  b_min : mg "min" = none
  b_repr : mg "repr" = none
  b_max : mg "max" = none
  c_MOST_SEATS : ∃ t, mg "MOST_SEATS" = some (.int 12 t)
abbrev TxtX {K : PySem.W.Frag} {h : Heap} (_ : K.In h) (w : World) (mg : Str → Option Value) : Prop := Txt K w mg
section
variable {P : Program} {w : World} {K : PySem.W.Frag} {mg : Str → Option Value} {base : Heap}
/-! ### is_web -/
abbrev s_is_web : Stmt := topS 7
abbrev N_is_web : List Str := ["thing", "many", "ties", "low_ahead", "high_ahead", "tie", "low", "high"]
theorem S_is_web : FnScope N_is_web ["thing"] (defScope s_is_web) := ⟨rfl, rfl, rfl, by decide +kernel, rfl, by decide +kernel, by decide +kernel⟩
noncomputable abbrev L1_is_web : En → Sto → RS :=
 (sSeq (sIf (tmOr (mB (m2 oIsNot (mFn bType (aCons (mVar 5) aNil)) (mC (.ty "tuple")))) (mB (m2 oNe (mFn bLen (aCons (mVar 5) aNil)) (mC (.int 2)))))
  (sRet (mC (.bl false)))
  sNil)
 (sSeq (sAsg (mVar 5) (DL.gTup (gsCons (gN 6) (gsCons (gN 7) gsNil)) 2))
 (sSeq (sIf (tmOr (mB (m2 oIsNot (mFn bType (aCons (mVar 6) aNil)) (mC (.ty "int")))) (mB (m2 oIsNot (mFn bType (aCons (mVar 7) aNil)) (mC (.ty "int")))))
  (sRet (mC (.bl false)))
  sNil)
 (sIf (tmAnd (mB (m2 oEq (mVar 6) (mVar 3))) (mB (mChain oLtT oLtT (mVar 4) (mVar 7) (mVar 1))))
  (sAsg (mVar 7) (gN 4))
  (sIf (mB (mChain3 oLtT oLtT oLtT (mVar 3) (mVar 6) (mVar 7) (mVar 1)))
  (sSeq (sAsg (mVar 6) (gN 3))
 (sAsg (mVar 7) (gN 4)))
  (sRet (mC (.bl false))))))))
noncomputable def b_is_web : En → Sto → RS :=
 (sSeq (sIf (tmOr (mB (m2 oIsNot (mFn bType (aCons (mVar 0) aNil)) (mC (.ty "tuple")))) (mB (m2 oNe (mFn bLen (aCons (mVar 0) aNil)) (mC (.int 2)))))
  (sRet (mC (.bl false)))
  sNil)
 (sSeq (sAsg (mVar 0) (DL.gTup (gsCons (gN 1) (gsCons (gN 2) gsNil)) 2))
 (sSeq (sIf (tmOr (mB (m2 oIsNot (mFn bType (aCons (mVar 1) aNil)) (mC (.ty "int")))) (tmOr (tmNot (mB (mChain oLe oLe (mC (.int 1)) (mVar 1) (mC (.int 12))))) (mB (m2 oIsNot (mFn bType (aCons (mVar 2) aNil)) (mC (.ty "tuple"))))))
  (sRet (mC (.bl false)))
  sNil)
 (sSeq (sAsg2 (mC (.int 0)) (gN 3) (gN 4))
 (sSeq (sFor (iVal (mVar 2)) (gN 5)
  L1_is_web)
 (sRet (mC (.bl true))))))))
noncomputable def f_is_web : List D → Sto → R D := mDef 8 b_is_web
theorem ok_is_web (T : Txt K w mg) (Tf : TopFn K mg "is_web" s_is_web ["thing"])  : DefOk P w K mg base "is_web" 1 1 f_is_web := by
  have S := S_is_web
  refine def_ok (N := N_is_web) Tf S rfl (body := b_is_web) fun f cdv A outer s H E rg tk hp => ?_
  exact (dss_cons (ds_if (dt_w (dw_or (dt_cmp (od_isnot) (de_callTy cd_type (by rfl) T.b_type (by decide +kernel) (da_cons (de_var 0) da_nil)) (de_ty (by rfl) T.b_tuple (by decide +kernel)) (nomark _)) (dw_or1 (dt_cmp ((od_ne rg.r.units)) (de_callB cd_len (by rfl) T.b_len (by decide +kernel) (da_cons (de_var 0) da_nil)) de_int (nomark _)))))
  (dss_one (ds_ret de_bl))
  dss_nil)
 (dss_cons (ds_asg (vs := [1, 2]) (de_var 0) (dg_tup rfl (dgs_cons (dg_name (i := 1) S.nd rfl (by first | exact Or.inl rfl | exact Or.inr rfl)) (dgs_cons (dg_name (i := 2) S.nd rfl (by first | exact Or.inl rfl | exact Or.inr rfl)) dgs_nil))))
 (dss_cons (ds_if (dt_w (dw_or (dt_cmp (od_isnot) (de_callTy cd_type (by rfl) T.b_type (by decide +kernel) (da_cons (de_var 1) da_nil)) (de_ty (by rfl) T.b_int (by decide +kernel)) (nomark _)) (dw_or (dt_not (dt_chain (od_le) (od_le) de_int (de_var 1) (de_globI (by rfl) T.c_MOST_SEATS))) (dw_or1 (dt_cmp (od_isnot) (de_callTy cd_type (by rfl) T.b_type (by decide +kernel) (da_cons (de_var 2) da_nil)) (de_ty (by rfl) T.b_tuple (by decide +kernel)) (nomark _))))))
  (dss_one (ds_ret de_bl))
  dss_nil)
 (dss_cons (ds_asg2 (v1 := [3]) (v2 := [4]) de_int (dg_name (i := 3) S.nd rfl (by first | exact Or.inl rfl | exact Or.inr rfl)) (dg_name (i := 4) S.nd rfl (by first | exact Or.inl rfl | exact Or.inr rfl)))
 (dss_cons (ds_for (vs := [5]) hp rfl (di_val (de_var 2)) (dg_name (i := 5) S.nd rfl (by first | exact Or.inl rfl | exact Or.inr rfl))
  (dss_cons (ds_if (dt_w (dw_or (dt_cmp (od_isnot) (de_callTy cd_type (by rfl) T.b_type (by decide +kernel) (da_cons (de_var 5) da_nil)) (de_ty (by rfl) T.b_tuple (by decide +kernel)) (nomark _)) (dw_or1 (dt_cmp ((od_ne rg.r.units)) (de_callB cd_len (by rfl) T.b_len (by decide +kernel) (da_cons (de_var 5) da_nil)) de_int (nomark _)))))
  (dss_one (ds_ret de_bl))
  dss_nil)
 (dss_cons (ds_asg (vs := [6, 7]) (de_var 5) (dg_tup rfl (dgs_cons (dg_name (i := 6) S.nd rfl (by first | exact Or.inl rfl | exact Or.inr rfl)) (dgs_cons (dg_name (i := 7) S.nd rfl (by first | exact Or.inl rfl | exact Or.inr rfl)) dgs_nil))))
 (dss_cons (ds_if (dt_w (dw_or (dt_cmp (od_isnot) (de_callTy cd_type (by rfl) T.b_type (by decide +kernel) (da_cons (de_var 6) da_nil)) (de_ty (by rfl) T.b_int (by decide +kernel)) (nomark _)) (dw_or1 (dt_cmp (od_isnot) (de_callTy cd_type (by rfl) T.b_type (by decide +kernel) (da_cons (de_var 7) da_nil)) (de_ty (by rfl) T.b_int (by decide +kernel)) (nomark _)))))
  (dss_one (ds_ret de_bl))
  dss_nil)
 (dss_one (ds_if (dt_w (dw_and (dt_cmp ((od_eq rg.r.units)) (de_var 6) (de_var 3) (nomark _)) (dw_and1 (dt_chain (od_ltT rg.r.units0) (od_ltT rg.r.units0) (de_var 4) (de_var 7) (de_var 1)))))
  (dss_one (ds_set (i := 4) S.nd rfl (by first | exact Or.inl rfl | exact Or.inr rfl) (de_var 7)))
  (dss_one (ds_if (dt_chain3 (od_ltT rg.r.units0) (od_ltT rg.r.units0) (od_ltT rg.r.units0) (de_var 3) (de_var 6) (de_var 7) (de_var 1))
  (dss_cons (ds_set (i := 3) S.nd rfl (by first | exact Or.inl rfl | exact Or.inr rfl) (de_var 6))
 (dss_one (ds_set (i := 4) S.nd rfl (by first | exact Or.inl rfl | exact Or.inr rfl) (de_var 7))))
  (dss_one (ds_ret de_bl))))))))))
 (dss_one (ds_ret de_bl)))))))
/-! ### is_seats -/
abbrev s_is_seats : Stmt := topS 8
abbrev N_is_seats : List Str := ["web", "thing", "ahead", "seat"]
theorem S_is_seats : FnScope N_is_seats ["web", "thing"] (defScope s_is_seats) := ⟨rfl, rfl, rfl, by decide +kernel, rfl, by decide +kernel, by decide +kernel⟩
noncomputable abbrev L1_is_seats : En → Sto → RS :=
 (sSeq (sIf (tmOr (mB (m2 oIsNot (mFn bType (aCons (mVar 3) aNil)) (mC (.ty "int")))) (tmNot (mB (mChain oLtT oLtT (mVar 2) (mVar 3) (m2 oIx (mVar 0) (mC (.int 0)))))))
  (sRet (mC (.bl false)))
  sNil)
 (sAsg (mVar 3) (gN 2)))
noncomputable def b_is_seats : En → Sto → RS :=
 (sSeq (sIf (mB (m2 oIsNot (mFn bType (aCons (mVar 1) aNil)) (mC (.ty "tuple"))))
  (sRet (mC (.bl false)))
  sNil)
 (sSeq (sAsg (m1 oNeg (mC (.int 1))) (gN 2))
 (sSeq (sFor (iVal (mVar 1)) (gN 3)
  L1_is_seats)
 (sRet (mC (.bl true))))))
noncomputable def f_is_seats : List D → Sto → R D := mDef 4 b_is_seats
theorem ok_is_seats (T : Txt K w mg) (Tf : TopFn K mg "is_seats" s_is_seats ["web", "thing"])  : DefOk P w K mg base "is_seats" 2 1 f_is_seats := by
  have S := S_is_seats
  refine def_ok (N := N_is_seats) Tf S rfl (body := b_is_seats) fun f cdv A outer s H E rg tk hp => ?_
  exact (dss_cons (ds_if (dt_cmp (od_isnot) (de_callTy cd_type (by rfl) T.b_type (by decide +kernel) (da_cons (de_var 1) da_nil)) (de_ty (by rfl) T.b_tuple (by decide +kernel)) (nomark _))
  (dss_one (ds_ret de_bl))
  dss_nil)
 (dss_cons (ds_set (i := 2) S.nd rfl (by first | exact Or.inl rfl | exact Or.inr rfl) (de_un od_neg de_int))
 (dss_cons (ds_for (vs := [3]) hp rfl (di_val (de_var 1)) (dg_name (i := 3) S.nd rfl (by first | exact Or.inl rfl | exact Or.inr rfl))
  (dss_cons (ds_if (dt_w (dw_or (dt_cmp (od_isnot) (de_callTy cd_type (by rfl) T.b_type (by decide +kernel) (da_cons (de_var 3) da_nil)) (de_ty (by rfl) T.b_int (by decide +kernel)) (nomark _)) (dw_or1 (dt_not (dt_chain (od_ltT rg.r.units0) (od_ltT rg.r.units0) (de_var 2) (de_var 3) (de_ix (de_var 0) de_int (fun _ _ => rfl)))))))
  (dss_one (ds_ret de_bl))
  dss_nil)
 (dss_one (ds_set (i := 2) S.nd rfl (by first | exact Or.inl rfl | exact Or.inr rfl) (de_var 3)))))
 (dss_one (ds_ret de_bl)))))
/-! ### need_web -/
abbrev s_need_web : Stmt := topS 9
abbrev N_need_web : List Str := ["web"]
theorem S_need_web : FnScope N_need_web ["web"] (defScope s_need_web) := ⟨rfl, rfl, rfl, by decide +kernel, rfl, by decide +kernel, by decide +kernel⟩
noncomputable def b_need_web : En → Sto → RS :=
 (sIf (tmNot (mB (mCall f_is_web (aCons (mVar 0) aNil))))
  sNo
  sNil)
noncomputable def f_need_web : List D → Sto → R D := mDef 1 b_need_web
theorem ok_need_web (T : Txt K w mg) (Tf : TopFn K mg "need_web" s_need_web ["web"]) (h_is_web : DefOk P w K mg base "is_web" 1 1 f_is_web) : DefOk P w K mg base "need_web" 1 2 f_need_web := by
  have S := S_need_web
  refine def_ok (N := N_need_web) Tf S rfl (body := b_need_web) fun f cdv A outer s H E rg tk hp => ?_
  exact (dss_one (ds_if (dt_not (dt_val (de_f h_is_web rg (by omega) (by rfl) tk (da_cons (de_var 0) da_nil) rfl (al_cons al_nil))))
  (dss_one ds_never)
  dss_nil))
/-! ### need_seat -/
abbrev s_need_seat : Stmt := topS 10
abbrev N_need_seat : List Str := ["web", "seat"]
theorem S_need_seat : FnScope N_need_seat ["web", "seat"] (defScope s_need_seat) := ⟨rfl, rfl, rfl, by decide +kernel, rfl, by decide +kernel, by decide +kernel⟩
noncomputable def b_need_seat : En → Sto → RS :=
 (sIf (tmOr (mB (m2 oIsNot (mFn bType (aCons (mVar 1) aNil)) (mC (.ty "int")))) (tmNot (mB (mChain oLe oLtT (mC (.int 0)) (mVar 1) (m2 oIx (mVar 0) (mC (.int 0)))))))
  sNo
  sNil)
noncomputable def f_need_seat : List D → Sto → R D := mDef 2 b_need_seat
theorem ok_need_seat (T : Txt K w mg) (Tf : TopFn K mg "need_seat" s_need_seat ["web", "seat"])  : DefOk P w K mg base "need_seat" 2 1 f_need_seat := by
  have S := S_need_seat
  refine def_ok (N := N_need_seat) Tf S rfl (body := b_need_seat) fun f cdv A outer s H E rg tk hp => ?_
  exact (dss_one (ds_if (dt_w (dw_or (dt_cmp (od_isnot) (de_callTy cd_type (by rfl) T.b_type (by decide +kernel) (da_cons (de_var 1) da_nil)) (de_ty (by rfl) T.b_int (by decide +kernel)) (nomark _)) (dw_or1 (dt_not (dt_chain (od_le) (od_ltT rg.r.units0) de_int (de_var 1) (de_ix (de_var 0) de_int (fun _ _ => rfl)))))))
  (dss_one ds_never)
  dss_nil))
/-! ### need_seats -/
abbrev s_need_seats : Stmt := topS 11
abbrev N_need_seats : List Str := ["web", "seats"]
theorem S_need_seats : FnScope N_need_seats ["web", "seats"] (defScope s_need_seats) := ⟨rfl, rfl, rfl, by decide +kernel, rfl, by decide +kernel, by decide +kernel⟩
noncomputable def b_need_seats : En → Sto → RS :=
 (sIf (tmNot (mB (mCall f_is_seats (aCons (mVar 0) (aCons (mVar 1) aNil)))))
  sNo
  sNil)
noncomputable def f_need_seats : List D → Sto → R D := mDef 2 b_need_seats
theorem ok_need_seats (T : Txt K w mg) (Tf : TopFn K mg "need_seats" s_need_seats ["web", "seats"]) (h_is_seats : DefOk P w K mg base "is_seats" 2 1 f_is_seats) : DefOk P w K mg base "need_seats" 2 2 f_need_seats := by
  have S := S_need_seats
  refine def_ok (N := N_need_seats) Tf S rfl (body := b_need_seats) fun f cdv A outer s H E rg tk hp => ?_
  exact (dss_one (ds_if (dt_not (dt_val (de_f h_is_seats rg (by omega) (by rfl) tk (da_cons (de_var 0) (da_cons (de_var 1) da_nil)) rfl (al_cons (al_cons al_nil)))))
  (dss_one ds_never)
  dss_nil))
/-! ### beside -/
abbrev s_beside : Stmt := topS 12
abbrev N_beside : List Str := ["web", "seat", "low", "high"]
theorem S_beside : FnScope N_beside ["web", "seat"] (defScope s_beside) := ⟨rfl, rfl, rfl, by decide +kernel, rfl, by decide +kernel, by decide +kernel⟩
noncomputable abbrev C1_beside : En → Sto → R Bool :=
 (tmOr (mB (m2 oEq (mVar 2) (mVar 1))) (mB (m2 oEq (mVar 3) (mVar 1))))
noncomputable abbrev E1_beside : En → Sto → R D :=
 (m2 oSub (m2 oAdd (mVar 2) (mVar 3)) (mVar 1))
noncomputable def b_beside : En → Sto → RS :=
 (sRet (mFn bTuple (aCons (mLc (iVal (m2 oIx (mVar 0) (mC (.int 1)))) (DL.gTup (gsCons (gN 2) (gsCons (gN 3) gsNil)) 2) C1_beside E1_beside [2, 3]) aNil)))
noncomputable def f_beside : List D → Sto → R D := mDef 4 b_beside
theorem ok_beside (T : Txt K w mg) (Tf : TopFn K mg "beside" s_beside ["web", "seat"])  : DefOk P w K mg base "beside" 2 1 f_beside := by
  have S := S_beside
  refine def_ok (N := N_beside) Tf S rfl (body := b_beside) fun f cdv A outer s H E rg tk hp => ?_
  exact (dss_one (ds_ret (de_callTy cd_tuple (by rfl) T.b_tuple (by decide +kernel) (da_cons (de_lc rfl S.nd (di_val (de_ix (de_var 0) de_int (fun _ _ => rfl))) (blkOk_by (by kernel_rfl)) (own := [("low", 2), ("high", 3)]) (ts := [2, 3]) (by decide) (fun _ _ _ _ _ => (dg_tup rfl (dgs_cons (dg_name (i := 2) S.nd rfl (by first | exact Or.inl rfl | exact Or.inr rfl)) (dgs_cons (dg_name (i := 3) S.nd rfl (by first | exact Or.inl rfl | exact Or.inr rfl)) dgs_nil)))) (fun _ _ _ _ _ => (dts_one (dt_w (dw_or (dt_cmp ((od_eq rg.r.units)) (de_var 2) (de_var 1) (nomark _)) (dw_or1 (dt_cmp ((od_eq rg.r.units)) (de_var 3) (de_var 1) (nomark _))))))) (fun _ _ _ _ _ => (de_bin od_sub (de_bin od_add (de_var 2) (de_var 3)) (de_var 1)))) da_nil))))
/-! ### all_beside -/
abbrev s_all_beside : Stmt := topS 13
abbrev N_all_beside : List Str := ["web", "near", "_", "low", "high"]
theorem S_all_beside : FnScope N_all_beside ["web"] (defScope s_all_beside) := ⟨rfl, rfl, rfl, by decide +kernel, rfl, by decide +kernel, by decide +kernel⟩
noncomputable abbrev E1_all_beside : En → Sto → R D :=
 (mLst aNil)
noncomputable abbrev L1_all_beside : En → Sto → RS :=
 (sSeq (sExpr (mMeth fAppend (m2 oIx (mVar 1) (mVar 3)) (aCons (mVar 4) aNil)))
 (sExpr (mMeth fAppend (m2 oIx (mVar 1) (mVar 4)) (aCons (mVar 3) aNil))))
noncomputable def b_all_beside : En → Sto → RS :=
 (sSeq (sAsg (mLc (iRng1 (aCons (m2 oIx (mVar 0) (mC (.int 0))) aNil)) (gN 2) mYes E1_all_beside [2]) (gN 1))
 (sSeq (sFor (iVal (m2 oIx (mVar 0) (mC (.int 1)))) (DL.gTup (gsCons (gN 3) (gsCons (gN 4) gsNil)) 2)
  L1_all_beside)
 (sRet (mVar 1))))
noncomputable def f_all_beside : List D → Sto → R D := mDef 5 b_all_beside
theorem ok_all_beside (T : Txt K w mg) (Tf : TopFn K mg "all_beside" s_all_beside ["web"])  : DefOk P w K mg base "all_beside" 1 1 f_all_beside := by
  have S := S_all_beside
  refine def_ok (N := N_all_beside) Tf S rfl (body := b_all_beside) fun f cdv A outer s H E rg tk hp => ?_
  exact (dss_cons (by first | exact (ds_setLc (i := 1) rfl S.nd rfl rfl (sw_true rfl rfl rfl (by decide +kernel)) (di_rng1 (by rfl) T.b_range (da_cons (de_ix (de_var 0) de_int (fun _ _ => rfl)) da_nil)) (blkOk_by (by kernel_rfl)) (own := [("_", 2)]) (ts := [2]) (by decide) (fun _ _ _ _ _ => (dg_name (i := 2) S.nd rfl (by first | exact Or.inl rfl | exact Or.inr rfl))) (fun _ _ _ _ _ => dts_nil) (fun _ _ _ _ _ => (de_lst da_nil))) | exact (ds_set (i := 1) S.nd rfl (by first | exact Or.inl rfl | exact Or.inr rfl) (de_lc rfl S.nd (di_rng1 (by rfl) T.b_range (da_cons (de_ix (de_var 0) de_int (fun _ _ => rfl)) da_nil)) (blkOk_by (by kernel_rfl)) (own := [("_", 2)]) (ts := [2]) (by decide) (fun _ _ _ _ _ => (dg_name (i := 2) S.nd rfl (by first | exact Or.inl rfl | exact Or.inr rfl))) (fun _ _ _ _ _ => dts_nil) (fun _ _ _ _ _ => (de_lst da_nil)))))
 (dss_cons (ds_for (vs := [3, 4]) hp rfl (di_val (de_ix (de_var 0) de_int (fun _ _ => rfl))) (dg_tup rfl (dgs_cons (dg_name (i := 3) S.nd rfl (by first | exact Or.inl rfl | exact Or.inr rfl)) (dgs_cons (dg_name (i := 4) S.nd rfl (by first | exact Or.inl rfl | exact Or.inr rfl)) dgs_nil)))
  (dss_cons (ds_expr (de_append (de_ix (de_var 1) (de_var 3) (fun _ _ => rfl)) (da_cons (de_var 4) da_nil)))
 (dss_one (ds_expr (de_append (de_ix (de_var 1) (de_var 4) (fun _ _ => rfl)) (da_cons (de_var 3) da_nil))))))
 (dss_one (ds_ret (de_var 1)))))
/-! ### steps_from -/
abbrev s_steps_from : Stmt := topS 14
abbrev N_steps_from : List Str := ["web", "seats", "many", "told", "seat", "near", "reached", "at", "other"]
theorem S_steps_from : FnScope N_steps_from ["web", "seats"] (defScope s_steps_from) := ⟨rfl, rfl, rfl, by decide +kernel, rfl, by decide +kernel, by decide +kernel⟩
noncomputable abbrev L1_steps_from : En → Sto → RS :=
 (sAsg (mC (.int 0)) (gSet (mVar 3) (mVar 4)))
noncomputable abbrev L2_steps_from : En → Sto → RS :=
 (sIf (mB (m2 oIs (m2 oIx (mVar 3) (mVar 8)) (mC .non)))
  (sSeq (sAsg (m2 oAdd (m2 oIx (mVar 3) (mVar 4)) (mC (.int 1))) (gSet (mVar 3) (mVar 8)))
 (sExpr (mMeth fAppend (mVar 6) (aCons (mVar 8) aNil))))
  sNil)
noncomputable abbrev T1_steps_from : En → Sto → R Bool :=
 (mB (mChain oLtT oLtT (mVar 7) (mFn bLen (aCons (mVar 6) aNil)) (mVar 2)))
noncomputable abbrev L3_steps_from : En → Sto → RS :=
 (sSeq (sAsg (m2 oIx (mVar 6) (mVar 7)) (gN 4))
 (sSeq (sAug 7 (mC (.int 1)) oAddI)
 (sFor (iVal (m2 oIx (mVar 5) (mVar 4))) (gN 8)
  L2_steps_from)))
noncomputable def b_steps_from : En → Sto → RS :=
 (sSeq (sAsg (m2 oIx (mVar 0) (mC (.int 0))) (gN 2))
 (sSeq (sAsg (m2 oMul (mLst (aCons (mC .non) aNil)) (mVar 2)) (gN 3))
 (sSeq (sFor (iVal (mVar 1)) (gN 4)
  L1_steps_from)
 (sSeq (sIf (mB (m2 oEq (mFn bLen (aCons (m2 oIx (mVar 0) (mC (.int 1))) aNil)) (mC (.int 0))))
  (sRet (mFn bTuple (aCons (mVar 3) aNil)))
  sNil)
 (sSeq (sAsg (mCall f_all_beside (aCons (mVar 0) aNil)) (gN 5))
 (sSeq (sAsg (mFn bList (aCons (mVar 1) aNil)) (gN 6))
 (sSeq (sAsg (mC (.int 0)) (gN 7))
 (sSeq (loopW T1_steps_from
  L3_steps_from 1000)
 (sRet (mFn bTuple (aCons (mVar 3) aNil)))))))))))
noncomputable def f_steps_from : List D → Sto → R D := mDef 9 b_steps_from
theorem ok_steps_from (T : Txt K w mg) (Tf : TopFn K mg "steps_from" s_steps_from ["web", "seats"]) (h_all_beside : DefOk P w K mg base "all_beside" 1 1 f_all_beside) : DefOk P w K mg base "steps_from" 2 2 f_steps_from := by
  have S := S_steps_from
  refine def_ok (N := N_steps_from) Tf S rfl (body := b_steps_from) fun f cdv A outer s H E rg tk hp => ?_
  exact (dss_cons (ds_set (i := 2) S.nd rfl (by first | exact Or.inl rfl | exact Or.inr rfl) (de_ix (de_var 0) de_int (fun _ _ => rfl)))
 (dss_cons (ds_set (i := 3) S.nd rfl (by first | exact Or.inl rfl | exact Or.inr rfl) (de_bin od_mul (de_lst (da_cons de_non da_nil)) (de_var 2)))
 (dss_cons (ds_for (vs := [4]) hp rfl (di_val (de_var 1)) (dg_name (i := 4) S.nd rfl (by first | exact Or.inl rfl | exact Or.inr rfl))
  (dss_one (ds_asg (vs := []) de_int (dg_set (W := W0) (de_var 3) (de_var 4)))))
 (dss_cons (ds_if (dt_cmp ((od_eq rg.r.units)) (de_callB cd_len (by rfl) T.b_len (by decide +kernel) (da_cons (de_ix (de_var 0) de_int (fun _ _ => rfl)) da_nil)) de_int (nomark _))
  (dss_one (ds_ret (de_callTy cd_tuple (by rfl) T.b_tuple (by decide +kernel) (da_cons (de_var 3) da_nil))))
  dss_nil)
 (dss_cons (ds_set (i := 5) S.nd rfl (by first | exact Or.inl rfl | exact Or.inr rfl) (de_f h_all_beside rg (by omega) (by rfl) tk (da_cons (de_var 0) da_nil) rfl (al_cons al_nil)))
 (dss_cons (ds_set (i := 6) S.nd rfl (by first | exact Or.inl rfl | exact Or.inr rfl) (de_callTy cd_list (by rfl) T.b_list (by decide +kernel) (da_cons (de_var 1) da_nil)))
 (dss_cons (ds_set (i := 7) S.nd rfl (by first | exact Or.inl rfl | exact Or.inr rfl) de_int)
 (dss_cons (ds_while 1000 hp (dt_chain (od_ltT rg.r.units0) (od_ltT rg.r.units0) (de_var 7) (de_callB cd_len (by rfl) T.b_len (by decide +kernel) (da_cons (de_var 6) da_nil)) (de_var 2))
  (dss_cons (ds_set (i := 4) S.nd rfl (by first | exact Or.inl rfl | exact Or.inr rfl) (de_ix (de_var 6) (de_var 7) (fun _ _ => rfl)))
 (dss_cons (ds_aug (i := 7) S.nd rfl (by first | exact Or.inl rfl | exact Or.inr rfl) de_int pd_add)
 (dss_one (ds_for (vs := [8]) hp rfl (di_val (de_ix (de_var 5) (de_var 4) (fun _ _ => rfl))) (dg_name (i := 8) S.nd rfl (by first | exact Or.inl rfl | exact Or.inr rfl))
  (dss_one (ds_if (dt_cmp (od_is) (de_ix (de_var 3) (de_var 8) (fun _ _ => rfl)) de_non (nomark _))
  (dss_cons (ds_asg (vs := []) (de_bin od_add (de_ix (de_var 3) (de_var 4) (fun _ _ => rfl)) de_int) (dg_set (W := W0) (de_var 3) (de_var 8)))
 (dss_one (ds_expr (de_append (de_var 6) (da_cons (de_var 8) da_nil)))))
  dss_nil)))))))
 (dss_one (ds_ret (de_callTy cd_tuple (by rfl) T.b_tuple (by decide +kernel) (da_cons (de_var 3) da_nil))))))))))))
/-! ### neighbours -/
abbrev s_neighbours : Stmt := topS 15
abbrev N_neighbours : List Str := ["web", "seat"]
theorem S_neighbours : FnScope N_neighbours ["web", "seat"] (defScope s_neighbours) := ⟨rfl, rfl, rfl, by decide +kernel, rfl, by decide +kernel, by decide +kernel⟩
noncomputable def b_neighbours : En → Sto → RS :=
 (sSeq (sExpr (mCall f_need_web (aCons (mVar 0) aNil)))
 (sSeq (sExpr (mCall f_need_seat (aCons (mVar 0) (aCons (mVar 1) aNil))))
 (sRet (mCall f_beside (aCons (mVar 0) (aCons (mVar 1) aNil))))))
noncomputable def f_neighbours : List D → Sto → R D := mDef 2 b_neighbours
theorem ok_neighbours (T : Txt K w mg) (Tf : TopFn K mg "neighbours" s_neighbours ["web", "seat"]) (h_need_web : DefOk P w K mg base "need_web" 1 2 f_need_web) (h_need_seat : DefOk P w K mg base "need_seat" 2 1 f_need_seat) (h_beside : DefOk P w K mg base "beside" 2 1 f_beside) : DefOk P w K mg base "neighbours" 2 3 f_neighbours := by
  have S := S_neighbours
  refine def_ok (N := N_neighbours) Tf S rfl (body := b_neighbours) fun f cdv A outer s H E rg tk hp => ?_
  exact (dss_cons (ds_expr (de_f h_need_web rg (by omega) (by rfl) tk (da_cons (de_var 0) da_nil) rfl (al_cons al_nil)))
 (dss_cons (ds_expr (de_f h_need_seat rg (by omega) (by rfl) tk (da_cons (de_var 0) (da_cons (de_var 1) da_nil)) rfl (al_cons (al_cons al_nil))))
 (dss_one (ds_ret (de_f h_beside rg (by omega) (by rfl) tk (da_cons (de_var 0) (da_cons (de_var 1) da_nil)) rfl (al_cons (al_cons al_nil)))))))
/-! ### steps -/
abbrev s_steps : Stmt := topS 16
abbrev N_steps : List Str := ["web", "seat", "other"]
theorem S_steps : FnScope N_steps ["web", "seat", "other"] (defScope s_steps) := ⟨rfl, rfl, rfl, by decide +kernel, rfl, by decide +kernel, by decide +kernel⟩
noncomputable def b_steps : En → Sto → RS :=
 (sSeq (sExpr (mCall f_need_web (aCons (mVar 0) aNil)))
 (sSeq (sExpr (mCall f_need_seat (aCons (mVar 0) (aCons (mVar 1) aNil))))
 (sSeq (sExpr (mCall f_need_seat (aCons (mVar 0) (aCons (mVar 2) aNil))))
 (sRet (m2 oIx (mCall f_steps_from (aCons (mVar 0) (aCons (mTup (aCons (mVar 2) aNil)) aNil))) (mVar 1))))))
noncomputable def f_steps : List D → Sto → R D := mDef 3 b_steps
theorem ok_steps (T : Txt K w mg) (Tf : TopFn K mg "steps" s_steps ["web", "seat", "other"]) (h_need_web : DefOk P w K mg base "need_web" 1 2 f_need_web) (h_need_seat : DefOk P w K mg base "need_seat" 2 1 f_need_seat) (h_steps_from : DefOk P w K mg base "steps_from" 2 2 f_steps_from) : DefOk P w K mg base "steps" 3 3 f_steps := by
  have S := S_steps
  refine def_ok (N := N_steps) Tf S rfl (body := b_steps) fun f cdv A outer s H E rg tk hp => ?_
  exact (dss_cons (ds_expr (de_f h_need_web rg (by omega) (by rfl) tk (da_cons (de_var 0) da_nil) rfl (al_cons al_nil)))
 (dss_cons (ds_expr (de_f h_need_seat rg (by omega) (by rfl) tk (da_cons (de_var 0) (da_cons (de_var 1) da_nil)) rfl (al_cons (al_cons al_nil))))
 (dss_cons (ds_expr (de_f h_need_seat rg (by omega) (by rfl) tk (da_cons (de_var 0) (da_cons (de_var 2) da_nil)) rfl (al_cons (al_cons al_nil))))
 (dss_one (ds_ret (de_ix (de_f h_steps_from rg (by omega) (by rfl) tk (da_cons (de_var 0) (da_cons (de_tup (da_cons (de_var 2) da_nil)) da_nil)) rfl (al_cons (al_cons al_nil))) (de_var 1) (fun _ _ => rfl)))))))
/-! ### steps_to -/
abbrev s_steps_to : Stmt := topS 17
abbrev N_steps_to : List Str := ["web", "seats"]
theorem S_steps_to : FnScope N_steps_to ["web", "seats"] (defScope s_steps_to) := ⟨rfl, rfl, rfl, by decide +kernel, rfl, by decide +kernel, by decide +kernel⟩
noncomputable def b_steps_to : En → Sto → RS :=
 (sSeq (sExpr (mCall f_need_web (aCons (mVar 0) aNil)))
 (sSeq (sExpr (mCall f_need_seats (aCons (mVar 0) (aCons (mVar 1) aNil))))
 (sRet (mCall f_steps_from (aCons (mVar 0) (aCons (mVar 1) aNil))))))
noncomputable def f_steps_to : List D → Sto → R D := mDef 2 b_steps_to
theorem ok_steps_to (T : Txt K w mg) (Tf : TopFn K mg "steps_to" s_steps_to ["web", "seats"]) (h_need_web : DefOk P w K mg base "need_web" 1 2 f_need_web) (h_need_seats : DefOk P w K mg base "need_seats" 2 2 f_need_seats) (h_steps_from : DefOk P w K mg base "steps_from" 2 2 f_steps_from) : DefOk P w K mg base "steps_to" 2 3 f_steps_to := by
  have S := S_steps_to
  refine def_ok (N := N_steps_to) Tf S rfl (body := b_steps_to) fun f cdv A outer s H E rg tk hp => ?_
  exact (dss_cons (ds_expr (de_f h_need_web rg (by omega) (by rfl) tk (da_cons (de_var 0) da_nil) rfl (al_cons al_nil)))
 (dss_cons (ds_expr (de_f h_need_seats rg (by omega) (by rfl) tk (da_cons (de_var 0) (da_cons (de_var 1) da_nil)) rfl (al_cons (al_cons al_nil))))
 (dss_one (ds_ret (de_f h_steps_from rg (by omega) (by rfl) tk (da_cons (de_var 0) (da_cons (de_var 1) da_nil)) rfl (al_cons (al_cons al_nil)))))))
/-! ### within -/
abbrev s_within : Stmt := topS 18
abbrev N_within : List Str := ["web", "seat", "far", "told", "other", "away"]
theorem S_within : FnScope N_within ["web", "seat", "far"] (defScope s_within) := ⟨rfl, rfl, rfl, by decide +kernel, rfl, by decide +kernel, by decide +kernel⟩
noncomputable abbrev C1_within : En → Sto → R Bool :=
 (tmAnd (mB (m2 oIsNot (mVar 5) (mC .non))) (mB (m2 oLe (mVar 5) (mVar 2))))
noncomputable abbrev E1_within : En → Sto → R D :=
 (mVar 4)
noncomputable def b_within : En → Sto → RS :=
 (sSeq (sExpr (mCall f_need_web (aCons (mVar 0) aNil)))
 (sSeq (sExpr (mCall f_need_seat (aCons (mVar 0) (aCons (mVar 1) aNil))))
 (sSeq (sIf (tmOr (mB (m2 oIsNot (mFn bType (aCons (mVar 2) aNil)) (mC (.ty "int")))) (mB (m2 oLtT (mVar 2) (mC (.int 0)))))
  sNo
  sNil)
 (sSeq (sAsg (mCall f_steps_from (aCons (mVar 0) (aCons (mTup (aCons (mVar 1) aNil)) aNil))) (gN 3))
 (sRet (mFn bTuple (aCons (mLc (iEnumerate (aCons (mVar 3) aNil)) (DL.gTup (gsCons (gN 4) (gsCons (gN 5) gsNil)) 2) C1_within E1_within [4, 5]) aNil)))))))
noncomputable def f_within : List D → Sto → R D := mDef 6 b_within
theorem ok_within (T : Txt K w mg) (Tf : TopFn K mg "within" s_within ["web", "seat", "far"]) (h_need_web : DefOk P w K mg base "need_web" 1 2 f_need_web) (h_need_seat : DefOk P w K mg base "need_seat" 2 1 f_need_seat) (h_steps_from : DefOk P w K mg base "steps_from" 2 2 f_steps_from) : DefOk P w K mg base "within" 3 3 f_within := by
  have S := S_within
  refine def_ok (N := N_within) Tf S rfl (body := b_within) fun f cdv A outer s H E rg tk hp => ?_
  exact (dss_cons (ds_expr (de_f h_need_web rg (by omega) (by rfl) tk (da_cons (de_var 0) da_nil) rfl (al_cons al_nil)))
 (dss_cons (ds_expr (de_f h_need_seat rg (by omega) (by rfl) tk (da_cons (de_var 0) (da_cons (de_var 1) da_nil)) rfl (al_cons (al_cons al_nil))))
 (dss_cons (ds_if (dt_w (dw_or (dt_cmp (od_isnot) (de_callTy cd_type (by rfl) T.b_type (by decide +kernel) (da_cons (de_var 2) da_nil)) (de_ty (by rfl) T.b_int (by decide +kernel)) (nomark _)) (dw_or1 (dt_cmp (od_ltT rg.r.units0) (de_var 2) de_int (nomark _)))))
  (dss_one ds_never)
  dss_nil)
 (dss_cons (ds_set (i := 3) S.nd rfl (by first | exact Or.inl rfl | exact Or.inr rfl) (de_f h_steps_from rg (by omega) (by rfl) tk (da_cons (de_var 0) (da_cons (de_tup (da_cons (de_var 1) da_nil)) da_nil)) rfl (al_cons (al_cons al_nil))))
 (dss_one (ds_ret (de_callTy cd_tuple (by rfl) T.b_tuple (by decide +kernel) (da_cons (de_lc rfl S.nd (di_enumerate (by rfl) T.b_enumerate (da_cons (de_var 3) da_nil)) (blkOk_by (by kernel_rfl)) (own := [("other", 4), ("away", 5)]) (ts := [4, 5]) (by decide) (fun _ _ _ _ _ => (dg_tup rfl (dgs_cons (dg_name (i := 4) S.nd rfl (by first | exact Or.inl rfl | exact Or.inr rfl)) (dgs_cons (dg_name (i := 5) S.nd rfl (by first | exact Or.inl rfl | exact Or.inr rfl)) dgs_nil)))) (fun _ _ _ _ _ => (dts_one (dt_w (dw_and (dt_cmp (od_isnot) (de_var 5) de_non (nomark _)) (dw_and1 (dt_cmp (od_le) (de_var 5) (de_var 2) (nomark _))))))) (fun _ _ _ _ _ => (de_var 4))) da_nil))))))))
/-! ### _law_pool -/
abbrev s_law_pool : Stmt := topS 20
abbrev N_law_pool : List Str := ["cells", "k", "cell", "great", "mixed"]
theorem S_law_pool : FnScope N_law_pool ["cells", "k"] (defScope s_law_pool) := ⟨rfl, rfl, rfl, by decide +kernel, rfl, by decide +kernel, by decide +kernel⟩
noncomputable def b_law_pool : En → Sto → RS :=
 (sSeq (sAsg (mIf (mB (m2 oLtT (mVar 1) (mFn bLen (aCons (mVar 0) aNil)))) (m2 oIx (mVar 0) (mVar 1)) (mC (.int 0))) (gN 2))
 (sSeq (sAsg (mFn bAbs (aCons (mVar 2) aNil)) (gN 3))
 (sSeq (sAsg (m2 oMod (m2 oAdd (m2 oAdd (m2 oAdd (m2 oMul (m2 oMod (mVar 3) (mC (.int 2147483629))) (mC (.int 48271))) (m2 oMul (mC (.int 977)) (mVar 1))) (m2 oMul (mC (.int 2)) (mFn bInt (aCons (m2 oLtT (mVar 2) (mC (.int 0))) aNil)))) (mC (.int 5))) (mC (.int 2147483647))) (gN 4))
 (sRet (mLst (aCons (mIf (mB (m2 oGe (mVar 3) (m2 oPow (mC (.int 10)) (mC (.int 18))))) (m2 oSub (mVar 3) (m2 oPow (mC (.int 10)) (mC (.int 18)))) (mC (.int 0))) (aCons (mVar 4) (aCons (mC (.int 0)) aNil))))))))
noncomputable def f_law_pool : List D → Sto → R D := mDef 5 b_law_pool
theorem ok_law_pool (T : Txt K w mg) (Tf : TopFn K mg "_law_pool" s_law_pool ["cells", "k"])  : DefOk P w K mg base "_law_pool" 2 1 f_law_pool := by
  have S := S_law_pool
  refine def_ok (N := N_law_pool) Tf S rfl (body := b_law_pool) fun f cdv A outer s H E rg tk hp => ?_
  exact (dss_cons (ds_set (i := 2) S.nd rfl (by first | exact Or.inl rfl | exact Or.inr rfl) (de_if (dt_cmp (od_ltT rg.r.units0) (de_var 1) (de_callB cd_len (by rfl) T.b_len (by decide +kernel) (da_cons (de_var 0) da_nil)) (nomark _)) (de_ix (de_var 0) (de_var 1) (fun _ _ => rfl)) de_int))
 (dss_cons (ds_set (i := 3) S.nd rfl (by first | exact Or.inl rfl | exact Or.inr rfl) (de_callB cd_abs (by rfl) T.b_abs (by decide +kernel) (da_cons (de_var 2) da_nil)))
 (dss_cons (ds_set (i := 4) S.nd rfl (by first | exact Or.inl rfl | exact Or.inr rfl) (de_bin od_mod (de_bin od_add (de_bin od_add (de_bin od_add (de_bin od_mul (de_bin od_mod (de_var 3) de_int) de_int) (de_bin od_mul de_int (de_var 1))) (de_bin od_mul de_int (de_callTy cd_int (by rfl) T.b_int (by decide +kernel) (da_cons (de_cmp (od_ltT rg.r.units0) (de_var 2) de_int (nomark _)) da_nil)))) de_int) de_int))
 (dss_one (ds_ret (de_lst (da_cons (de_if (dt_cmp (od_ge) (de_var 3) (de_bin od_pow de_int de_int) (nomark _)) (de_bin od_sub (de_var 3) (de_bin od_pow de_int de_int)) de_int) (da_cons (de_var 4) (da_cons de_int da_nil)))))))))
/-! ### _law_take -/
abbrev s_law_take : Stmt := topS 21
abbrev N_law_take : List Str := ["pool", "many", "found", "one", "two"]
theorem S_law_take : FnScope N_law_take ["pool", "many"] (defScope s_law_take) := ⟨rfl, rfl, rfl, by decide +kernel, rfl, by decide +kernel, by decide +kernel⟩
noncomputable def b_law_take : En → Sto → RS :=
 (sSeq (sIf (mB (m2 oGt (m2 oIx (mVar 0) (mC (.int 0))) (mC (.int 0))))
  (sSeq (sAsg (m2 oMod (m2 oIx (mVar 0) (mC (.int 0))) (mVar 1)) (gN 2))
 (sSeq (sAsg (m2 oDiv (m2 oIx (mVar 0) (mC (.int 0))) (mVar 1)) (gSet (mVar 0) (mC (.int 0))))
 (sRet (mVar 2))))
  sNil)
 (sSeq (sAsg (m2 oAdd (m2 oIx (mVar 0) (mC (.int 2))) (mC (.int 1))) (gSet (mVar 0) (mC (.int 2))))
 (sSeq (sAsg (m2 oMod (m2 oAdd (m2 oIx (mVar 0) (mC (.int 1))) (m2 oMul (mC (.int 1000003)) (m2 oIx (mVar 0) (mC (.int 2))))) (mC (.int 2305843009213693951))) (gN 3))
 (sSeq (sAsg (m2 oMod (m2 oAdd (m2 oMul (m2 oMod (m2 oMul (mVar 3) (mVar 3)) (mC (.int 2305843009213693921))) (mVar 3)) (m2 oMul (mC (.int 8191)) (m2 oIx (mVar 0) (mC (.int 2))))) (mC (.int 2305843009213693907))) (gN 4))
 (sRet (m2 oMod (m2 oDiv (mVar 4) (mC (.int 4096))) (mVar 1)))))))
noncomputable def f_law_take : List D → Sto → R D := mDef 5 b_law_take
theorem ok_law_take (T : Txt K w mg) (Tf : TopFn K mg "_law_take" s_law_take ["pool", "many"])  : DefOk P w K mg base "_law_take" 2 1 f_law_take := by
  have S := S_law_take
  refine def_ok (N := N_law_take) Tf S rfl (body := b_law_take) fun f cdv A outer s H E rg tk hp => ?_
  exact (dss_cons (ds_if (dt_cmp (od_gt) (de_ix (de_var 0) de_int (fun _ _ => rfl)) de_int (nomark _))
  (dss_cons (ds_set (i := 2) S.nd rfl (by first | exact Or.inl rfl | exact Or.inr rfl) (de_bin od_mod (de_ix (de_var 0) de_int (fun _ _ => rfl)) (de_var 1)))
 (dss_cons (ds_asg (vs := []) (de_bin od_div (de_ix (de_var 0) de_int (fun _ _ => rfl)) (de_var 1)) (dg_set (W := W0) (de_var 0) de_int))
 (dss_one (ds_ret (de_var 2)))))
  dss_nil)
 (dss_cons (ds_asg (vs := []) (de_bin od_add (de_ix (de_var 0) de_int (fun _ _ => rfl)) de_int) (dg_set (W := W0) (de_var 0) de_int))
 (dss_cons (ds_set (i := 3) S.nd rfl (by first | exact Or.inl rfl | exact Or.inr rfl) (de_bin od_mod (de_bin od_add (de_ix (de_var 0) de_int (fun _ _ => rfl)) (de_bin od_mul de_int (de_ix (de_var 0) de_int (fun _ _ => rfl)))) de_int))
 (dss_cons (ds_set (i := 4) S.nd rfl (by first | exact Or.inl rfl | exact Or.inr rfl) (de_bin od_mod (de_bin od_add (de_bin od_mul (de_bin od_mod (de_bin od_mul (de_var 3) (de_var 3)) de_int) (de_var 3)) (de_bin od_mul de_int (de_ix (de_var 0) de_int (fun _ _ => rfl)))) de_int))
 (dss_one (ds_ret (de_bin od_mod (de_bin od_div (de_var 4) de_int) (de_var 1))))))))
/-! ### _law_any_web -/
abbrev s_law_any_web : Stmt := topS 22
abbrev N_law_any_web : List Str := ["pool", "most", "many", "way", "ties", "b", "a", "is_in"]
theorem S_law_any_web : FnScope N_law_any_web ["pool", "most"] (defScope s_law_any_web) := ⟨rfl, rfl, rfl, by decide +kernel, rfl, by decide +kernel, by decide +kernel⟩
noncomputable abbrev L1_law_any_web : En → Sto → RS :=
 (sSeq (sIf (mB (m2 oEq (mVar 3) (mC (.int 0))))
  (sAsg (m2 oEq (mVar 5) (m2 oAdd (mVar 6) (mC (.int 1)))) (gN 7))
  (sIf (mB (m2 oEq (mVar 3) (mC (.int 1))))
  (sAsg (mOr (m2 oEq (mVar 5) (m2 oAdd (mVar 6) (mC (.int 1)))) (m2 oEq (mTup (aCons (mVar 6) (aCons (mVar 5) aNil))) (mTup (aCons (mC (.int 0)) (aCons (m2 oSub (mVar 2) (mC (.int 1))) aNil))))) (gN 7))
  (sIf (mB (m2 oEq (mVar 3) (mC (.int 2))))
  (sAsg (m2 oEq (mVar 6) (mC (.int 0))) (gN 7))
  (sIf (mB (m2 oEq (mVar 3) (mC (.int 3))))
  (sAsg (mC (.bl true)) (gN 7))
  (sIf (mB (m2 oEq (mVar 3) (mC (.int 4))))
  (sAsg (mC (.bl false)) (gN 7))
  (sAsg (mOr (m2 oEq (mCall f_law_take (aCons (mVar 0) (aCons (mC (.int 3)) aNil))) (mC (.int 0))) (mAnd (m2 oEq (mVar 5) (m2 oAdd (mVar 6) (mC (.int 1)))) (m2 oEq (mVar 3) (mC (.int 5))))) (gN 7)))))))
 (sExpr (mMeth fExtend (mVar 4) (aCons (m2 oMul (mLst (aCons (mTup (aCons (mVar 6) (aCons (mVar 5) aNil))) aNil)) (mFn bInt (aCons (mVar 7) aNil))) aNil))))
noncomputable abbrev L2_law_any_web : En → Sto → RS :=
 (sFor (iRng1 (aCons (mVar 5) aNil)) (gN 6)
  L1_law_any_web)
noncomputable def b_law_any_web : En → Sto → RS :=
 (sSeq (sAsg (m2 oAdd (mC (.int 1)) (mCall f_law_take (aCons (mVar 0) (aCons (mVar 1) aNil)))) (gN 2))
 (sSeq (sAsg (mCall f_law_take (aCons (mVar 0) (aCons (mC (.int 8)) aNil))) (gN 3))
 (sSeq (sAsg (mLst aNil) (gN 4))
 (sSeq (sFor (iRng1 (aCons (mVar 2) aNil)) (gN 5)
  L2_law_any_web)
 (sRet (mTup (aCons (mVar 2) (aCons (mFn bTuple (aCons (mFn bSorted (aCons (mVar 4) aNil)) aNil)) aNil))))))))
noncomputable def f_law_any_web : List D → Sto → R D := mDef 8 b_law_any_web
theorem ok_law_any_web (T : Txt K w mg) (Tf : TopFn K mg "_law_any_web" s_law_any_web ["pool", "most"]) (h_law_take : DefOk P w K mg base "_law_take" 2 1 f_law_take) : DefOk P w K mg base "_law_any_web" 2 2 f_law_any_web := by
  have S := S_law_any_web
  refine def_ok (N := N_law_any_web) Tf S rfl (body := b_law_any_web) fun f cdv A outer s H E rg tk hp => ?_
  exact (dss_cons (ds_set (i := 2) S.nd rfl (by first | exact Or.inl rfl | exact Or.inr rfl) (de_bin od_add de_int (de_f h_law_take rg (by omega) (by rfl) tk (da_cons (de_var 0) (da_cons (de_var 1) da_nil)) rfl (al_cons (al_cons al_nil)))))
 (dss_cons (ds_set (i := 3) S.nd rfl (by first | exact Or.inl rfl | exact Or.inr rfl) (de_f h_law_take rg (by omega) (by rfl) tk (da_cons (de_var 0) (da_cons de_int da_nil)) rfl (al_cons (al_cons al_nil))))
 (dss_cons (ds_set (i := 4) S.nd rfl (by first | exact Or.inl rfl | exact Or.inr rfl) (de_lst da_nil))
 (dss_cons (ds_for (vs := [5]) hp rfl (di_rng1 (by rfl) T.b_range (da_cons (de_var 2) da_nil)) (dg_name (i := 5) S.nd rfl (by first | exact Or.inl rfl | exact Or.inr rfl))
  (dss_one (ds_for (vs := [6]) hp rfl (di_rng1 (by rfl) T.b_range (da_cons (de_var 5) da_nil)) (dg_name (i := 6) S.nd rfl (by first | exact Or.inl rfl | exact Or.inr rfl))
  (dss_cons (ds_if (dt_cmp ((od_eq rg.r.units)) (de_var 3) de_int (nomark _))
  (dss_one (ds_set (i := 7) S.nd rfl (by first | exact Or.inl rfl | exact Or.inr rfl) (de_cmp ((od_eq rg.r.units)) (de_var 5) (de_bin od_add (de_var 6) de_int) (nomark _))))
  (dss_one (ds_if (dt_cmp ((od_eq rg.r.units)) (de_var 3) de_int (nomark _))
  (dss_one (ds_set (i := 7) S.nd rfl (by first | exact Or.inl rfl | exact Or.inr rfl) (de_or (de_cmp ((od_eq rg.r.units)) (de_var 5) (de_bin od_add (de_var 6) de_int) (nomark _)) (de_one (de_cmp ((od_eq rg.r.units)) (de_tup (da_cons (de_var 6) (da_cons (de_var 5) da_nil))) (de_tup (da_cons de_int (da_cons (de_bin od_sub (de_var 2) de_int) da_nil))) (nomark _))))))
  (dss_one (ds_if (dt_cmp ((od_eq rg.r.units)) (de_var 3) de_int (nomark _))
  (dss_one (ds_set (i := 7) S.nd rfl (by first | exact Or.inl rfl | exact Or.inr rfl) (de_cmp ((od_eq rg.r.units)) (de_var 6) de_int (nomark _))))
  (dss_one (ds_if (dt_cmp ((od_eq rg.r.units)) (de_var 3) de_int (nomark _))
  (dss_one (ds_set (i := 7) S.nd rfl (by first | exact Or.inl rfl | exact Or.inr rfl) de_bl))
  (dss_one (ds_if (dt_cmp ((od_eq rg.r.units)) (de_var 3) de_int (nomark _))
  (dss_one (ds_set (i := 7) S.nd rfl (by first | exact Or.inl rfl | exact Or.inr rfl) de_bl))
  (dss_one (ds_set (i := 7) S.nd rfl (by first | exact Or.inl rfl | exact Or.inr rfl) (de_or (de_cmp ((od_eq rg.r.units)) (de_f h_law_take rg (by omega) (by rfl) tk (da_cons (de_var 0) (da_cons de_int da_nil)) rfl (al_cons (al_cons al_nil))) de_int (nomark _)) (de_one (de_and (de_cmp ((od_eq rg.r.units)) (de_var 5) (de_bin od_add (de_var 6) de_int) (nomark _)) (de_one (de_cmp ((od_eq rg.r.units)) (de_var 3) de_int (nomark _)))))))))))))))))
 (dss_one (ds_expr (de_extend (de_var 4) (da_cons (de_bin od_mul (de_lst (da_cons (de_tup (da_cons (de_var 6) (da_cons (de_var 5) da_nil))) da_nil)) (de_callTy cd_int (by rfl) T.b_int (by decide +kernel) (da_cons (de_var 7) da_nil))) da_nil))))))))
 (dss_one (ds_ret (de_tup (da_cons (de_var 2) (da_cons (de_callTy cd_tuple (by rfl) T.b_tuple (by decide +kernel) (da_cons (de_callB cd_sorted (by rfl) T.b_sorted (by decide +kernel) (da_cons (de_var 4) da_nil)) da_nil)) da_nil)))))))))
/-! ### _law_steps_to -/
abbrev s_law_steps_to : Stmt := topS 23
abbrev N_law_steps_to : List Str := ["web", "seats", "found", "seat", "turn", "a", "b", "number"]
theorem S_law_steps_to : FnScope N_law_steps_to ["web", "seats"] (defScope s_law_steps_to) := ⟨rfl, rfl, rfl, by decide +kernel, rfl, by decide +kernel, by decide +kernel⟩
noncomputable abbrev E1_law_steps_to : En → Sto → R D :=
 (mIf (mB (m2 oIn (mVar 3) (mVar 1))) (mC (.int 0)) (mC (.int 99)))
noncomputable abbrev L1_law_steps_to : En → Sto → RS :=
 (sSeq (sAsg (mFn bMin2 (aCons (m2 oIx (mVar 2) (mVar 5)) (aCons (m2 oAdd (m2 oIx (mVar 2) (mVar 6)) (mC (.int 1))) aNil))) (gSet (mVar 2) (mVar 5)))
 (sAsg (mFn bMin2 (aCons (m2 oIx (mVar 2) (mVar 6)) (aCons (m2 oAdd (m2 oIx (mVar 2) (mVar 5)) (mC (.int 1))) aNil))) (gSet (mVar 2) (mVar 6))))
noncomputable abbrev L2_law_steps_to : En → Sto → RS :=
 (sFor (iVal (m2 oIx (mVar 0) (mC (.int 1)))) (DL.gTup (gsCons (gN 5) (gsCons (gN 6) gsNil)) 2)
  L1_law_steps_to)
noncomputable abbrev E2_law_steps_to : En → Sto → R D :=
 (mFn bMin2 (aCons (mC (.int 99)) (aCons (mVar 7) aNil)))
noncomputable def b_law_steps_to : En → Sto → RS :=
 (sSeq (sAsg (mLc (iRng1 (aCons (m2 oIx (mVar 0) (mC (.int 0))) aNil)) (gN 3) mYes E1_law_steps_to [3]) (gN 2))
 (sSeq (sFor (iRng1 (aCons (m2 oIx (mVar 0) (mC (.int 0))) aNil)) (gN 4)
  L2_law_steps_to)
 (sRet (mLc (iVal (mVar 2)) (gN 7) mYes E2_law_steps_to [7]))))
noncomputable def f_law_steps_to : List D → Sto → R D := mDef 8 b_law_steps_to
theorem ok_law_steps_to (T : Txt K w mg) (Tf : TopFn K mg "_law_steps_to" s_law_steps_to ["web", "seats"])  : DefOk P w K mg base "_law_steps_to" 2 1 f_law_steps_to := by
  have S := S_law_steps_to
  refine def_ok (N := N_law_steps_to) Tf S rfl (body := b_law_steps_to) fun f cdv A outer s H E rg tk hp => ?_
  exact (dss_cons (by first | exact (ds_setLc (i := 2) rfl S.nd rfl rfl (sw_true rfl rfl rfl (by decide +kernel)) (di_rng1 (by rfl) T.b_range (da_cons (de_ix (de_var 0) de_int (fun _ _ => rfl)) da_nil)) (blkOk_by (by kernel_rfl)) (own := [("seat", 3)]) (ts := [3]) (by decide) (fun _ _ _ _ _ => (dg_name (i := 3) S.nd rfl (by first | exact Or.inl rfl | exact Or.inr rfl))) (fun _ _ _ _ _ => dts_nil) (fun _ _ _ _ _ => (de_if (dt_cmp ((od_in rg.u66)) (de_var 3) (de_var 1) (by with_unfolding_all rfl)) de_int de_int))) | exact (ds_set (i := 2) S.nd rfl (by first | exact Or.inl rfl | exact Or.inr rfl) (de_lc rfl S.nd (di_rng1 (by rfl) T.b_range (da_cons (de_ix (de_var 0) de_int (fun _ _ => rfl)) da_nil)) (blkOk_by (by kernel_rfl)) (own := [("seat", 3)]) (ts := [3]) (by decide) (fun _ _ _ _ _ => (dg_name (i := 3) S.nd rfl (by first | exact Or.inl rfl | exact Or.inr rfl))) (fun _ _ _ _ _ => dts_nil) (fun _ _ _ _ _ => (de_if (dt_cmp ((od_in rg.u66)) (de_var 3) (de_var 1) (by with_unfolding_all rfl)) de_int de_int)))))
 (dss_cons (ds_for (vs := [4]) hp rfl (di_rng1 (by rfl) T.b_range (da_cons (de_ix (de_var 0) de_int (fun _ _ => rfl)) da_nil)) (dg_name (i := 4) S.nd rfl (by first | exact Or.inl rfl | exact Or.inr rfl))
  (dss_one (ds_for (vs := [5, 6]) hp rfl (di_val (de_ix (de_var 0) de_int (fun _ _ => rfl))) (dg_tup rfl (dgs_cons (dg_name (i := 5) S.nd rfl (by first | exact Or.inl rfl | exact Or.inr rfl)) (dgs_cons (dg_name (i := 6) S.nd rfl (by first | exact Or.inl rfl | exact Or.inr rfl)) dgs_nil)))
  (dss_cons (ds_asg (vs := []) (de_callB (cd_min2 rfl) (by rfl) T.b_min (by decide +kernel) (da_cons (de_ix (de_var 2) (de_var 5) (fun _ _ => rfl)) (da_cons (de_bin od_add (de_ix (de_var 2) (de_var 6) (fun _ _ => rfl)) de_int) da_nil))) (dg_set (W := W0) (de_var 2) (de_var 5)))
 (dss_one (ds_asg (vs := []) (de_callB (cd_min2 rfl) (by rfl) T.b_min (by decide +kernel) (da_cons (de_ix (de_var 2) (de_var 6) (fun _ _ => rfl)) (da_cons (de_bin od_add (de_ix (de_var 2) (de_var 5) (fun _ _ => rfl)) de_int) da_nil))) (dg_set (W := W0) (de_var 2) (de_var 6))))))))
 (dss_one (ds_ret (de_lc rfl S.nd (di_val (de_var 2)) (blkOk_by (by kernel_rfl)) (own := [("number", 7)]) (ts := [7]) (by decide) (fun _ _ _ _ _ => (dg_name (i := 7) S.nd rfl (by first | exact Or.inl rfl | exact Or.inr rfl))) (fun _ _ _ _ _ => dts_nil) (fun _ _ _ _ _ => (de_callB (cd_min2 rfl) (by rfl) T.b_min (by decide +kernel) (da_cons de_int (da_cons (de_var 7) da_nil)))))))))
/-! ### _law_none_of -/
abbrev s_law_none_of : Stmt := topS 24
abbrev N_law_none_of : List Str := ["many"]
theorem S_law_none_of : FnScope N_law_none_of ["many"] (defScope s_law_none_of) := ⟨rfl, rfl, rfl, by decide +kernel, rfl, by decide +kernel, by decide +kernel⟩
noncomputable def b_law_none_of : En → Sto → RS :=
 (sRet (mIf (mB (m2 oEq (mVar 0) (mC (.int 99)))) (mC .non) (mVar 0)))
noncomputable def f_law_none_of : List D → Sto → R D := mDef 1 b_law_none_of
theorem ok_law_none_of (T : Txt K w mg) (Tf : TopFn K mg "_law_none_of" s_law_none_of ["many"])  : DefOk P w K mg base "_law_none_of" 1 1 f_law_none_of := by
  have S := S_law_none_of
  refine def_ok (N := N_law_none_of) Tf S rfl (body := b_law_none_of) fun f cdv A outer s H E rg tk hp => ?_
  exact (dss_one (ds_ret (de_if (dt_cmp ((od_eq rg.r.units)) (de_var 0) de_int (nomark _)) de_non (de_var 0))))
/-! ### _law_from_right -/
abbrev s_law_from_right : Stmt := topS 25
abbrev N_law_from_right : List Str := ["web", "seat", "table", "due", "many", "told", "other", "ways", "third", "far", "near", "one"]
theorem S_law_from_right : FnScope N_law_from_right ["web", "seat", "table"] (defScope s_law_from_right) := ⟨rfl, rfl, rfl, by decide +kernel, rfl, by decide +kernel, by decide +kernel⟩
noncomputable abbrev E1_law_from_right : En → Sto → R D :=
 (mCall f_law_none_of (aCons (mVar 4) aNil))
noncomputable abbrev E2_law_from_right : En → Sto → R D :=
 (mCall f_steps (aCons (mVar 0) (aCons (mVar 1) (aCons (mVar 6) aNil))))
noncomputable abbrev E3_law_from_right : En → Sto → R D :=
 (mCall f_steps (aCons (mVar 0) (aCons (mVar 6) (aCons (mVar 1) aNil))))
noncomputable abbrev E4_law_from_right : En → Sto → R D :=
 (m2 oAdd (m2 oIx (m2 oIx (mVar 2) (mVar 1)) (mVar 8)) (m2 oIx (m2 oIx (mVar 2) (mVar 8)) (mVar 6)))
noncomputable abbrev L1_law_from_right : En → Sto → RS :=
 (sSeq (sAsg (mLc (iRng1 (aCons (m2 oIx (mVar 0) (mC (.int 0))) aNil)) (gN 8) mYes E4_law_from_right [8]) (gN 7))
 (sIf (mB (m2 oGt (m2 oIx (m2 oIx (mVar 2) (mVar 1)) (mVar 6)) (mFn bMinA (aCons (mVar 7) aNil))))
  (sRet (mC (.bl false)))
  sNil))
noncomputable abbrev C1_law_from_right : En → Sto → R Bool :=
 (mB (m2 oLe (m2 oIx (m2 oIx (mVar 2) (mVar 1)) (mVar 6)) (mVar 9)))
noncomputable abbrev E5_law_from_right : En → Sto → R D :=
 (mVar 6)
noncomputable abbrev L2_law_from_right : En → Sto → RS :=
 (sSeq (sAsg (mFn bTuple (aCons (mLc (iRng1 (aCons (m2 oIx (mVar 0) (mC (.int 0))) aNil)) (gN 6) C1_law_from_right E5_law_from_right [6]) aNil)) (gN 10))
 (sIf (mB (m2 oNe (mFn bRepr (aCons (mCall f_within (aCons (mVar 0) (aCons (mVar 1) (aCons (mVar 9) aNil)))) aNil)) (mFn bRepr (aCons (mVar 10) aNil))))
  (sRet (mC (.bl false)))
  sNil))
noncomputable def b_law_from_right : En → Sto → RS :=
 (sSeq (sAsg (mLc (iVal (m2 oIx (mVar 2) (mVar 1))) (gN 4) mYes E1_law_from_right [4]) (gN 3))
 (sSeq (sAsg (mLc (iRng1 (aCons (m2 oIx (mVar 0) (mC (.int 0))) aNil)) (gN 6) mYes E2_law_from_right [6]) (gN 5))
 (sSeq (sIf (tmOr (mB (m2 oNe (mFn bRepr (aCons (mVar 5) aNil)) (mFn bRepr (aCons (mVar 3) aNil)))) (mB (m2 oNe (mLc (iRng1 (aCons (m2 oIx (mVar 0) (mC (.int 0))) aNil)) (gN 6) mYes E3_law_from_right [6]) (mVar 3))))
  (sRet (mC (.bl false)))
  sNil)
 (sSeq (sFor (iRng1 (aCons (m2 oIx (mVar 0) (mC (.int 0))) aNil)) (gN 6)
  L1_law_from_right)
 (sSeq (sFor (iRng1 (aCons (m2 oAdd (m2 oIx (mVar 0) (mC (.int 0))) (mC (.int 2))) aNil)) (gN 9)
  L2_law_from_right)
 (sSeq (sAsg (mFn bSorted (aCons (m2 oAdd (mTup (aCons (mVar 1) aNil)) (mCall f_neighbours (aCons (mVar 0) (aCons (mVar 1) aNil)))) aNil)) (gN 11))
 (sRet (mAnd (m2 oEq (mFn bList (aCons (mCall f_within (aCons (mVar 0) (aCons (mVar 1) (aCons (mC (.int 1)) aNil)))) aNil)) (mVar 11)) (m2 oEq (mCall f_within (aCons (mVar 0) (aCons (mVar 1) (aCons (m2 oPow (mC (.int 10)) (mC (.int 39))) aNil)))) (mCall f_within (aCons (mVar 0) (aCons (mVar 1) (aCons (mC (.int 12)) aNil)))))))))))))
noncomputable def f_law_from_right : List D → Sto → R D := mDef 12 b_law_from_right
theorem ok_law_from_right (T : Txt K w mg) (Tf : TopFn K mg "_law_from_right" s_law_from_right ["web", "seat", "table"]) (h_law_none_of : DefOk P w K mg base "_law_none_of" 1 1 f_law_none_of) (h_steps : DefOk P w K mg base "steps" 3 3 f_steps) (h_within : DefOk P w K mg base "within" 3 3 f_within) (h_neighbours : DefOk P w K mg base "neighbours" 2 3 f_neighbours) : DefOk P w K mg base "_law_from_right" 3 4 f_law_from_right := by
  have S := S_law_from_right
  refine def_ok (N := N_law_from_right) Tf S rfl (body := b_law_from_right) fun f cdv A outer s H E rg tk hp => ?_
  exact (dss_cons (by first | exact (ds_setLc (i := 3) rfl S.nd rfl rfl (sw_true rfl rfl rfl (by decide +kernel)) (di_val (de_ix (de_var 2) (de_var 1) (fun _ _ => rfl))) (blkOk_by (by kernel_rfl)) (own := [("many", 4)]) (ts := [4]) (by decide) (fun _ _ _ _ _ => (dg_name (i := 4) S.nd rfl (by first | exact Or.inl rfl | exact Or.inr rfl))) (fun _ _ _ _ _ => dts_nil) (fun _ _ _ _ _ => have tk := takes0; (de_f h_law_none_of rg (by omega) (by rfl) tk (da_cons (de_var 4) da_nil) rfl (al_cons al_nil)))) | exact (ds_set (i := 3) S.nd rfl (by first | exact Or.inl rfl | exact Or.inr rfl) (de_lc rfl S.nd (di_val (de_ix (de_var 2) (de_var 1) (fun _ _ => rfl))) (blkOk_by (by kernel_rfl)) (own := [("many", 4)]) (ts := [4]) (by decide) (fun _ _ _ _ _ => (dg_name (i := 4) S.nd rfl (by first | exact Or.inl rfl | exact Or.inr rfl))) (fun _ _ _ _ _ => dts_nil) (fun _ _ _ _ _ => have tk := takes0; (de_f h_law_none_of rg (by omega) (by rfl) tk (da_cons (de_var 4) da_nil) rfl (al_cons al_nil))))))
 (dss_cons (by first | exact (ds_setLc (i := 5) rfl S.nd rfl rfl (sw_true rfl rfl rfl (by decide +kernel)) (di_rng1 (by rfl) T.b_range (da_cons (de_ix (de_var 0) de_int (fun _ _ => rfl)) da_nil)) (blkOk_by (by kernel_rfl)) (own := [("other", 6)]) (ts := [6]) (by decide) (fun _ _ _ _ _ => (dg_name (i := 6) S.nd rfl (by first | exact Or.inl rfl | exact Or.inr rfl))) (fun _ _ _ _ _ => dts_nil) (fun _ _ _ _ _ => have tk := takes0; (de_f h_steps rg (by omega) (by rfl) tk (da_cons (de_var 0) (da_cons (de_var 1) (da_cons (de_var 6) da_nil))) rfl (al_cons (al_cons (al_cons al_nil)))))) | exact (ds_set (i := 5) S.nd rfl (by first | exact Or.inl rfl | exact Or.inr rfl) (de_lc rfl S.nd (di_rng1 (by rfl) T.b_range (da_cons (de_ix (de_var 0) de_int (fun _ _ => rfl)) da_nil)) (blkOk_by (by kernel_rfl)) (own := [("other", 6)]) (ts := [6]) (by decide) (fun _ _ _ _ _ => (dg_name (i := 6) S.nd rfl (by first | exact Or.inl rfl | exact Or.inr rfl))) (fun _ _ _ _ _ => dts_nil) (fun _ _ _ _ _ => have tk := takes0; (de_f h_steps rg (by omega) (by rfl) tk (da_cons (de_var 0) (da_cons (de_var 1) (da_cons (de_var 6) da_nil))) rfl (al_cons (al_cons (al_cons al_nil))))))))
 (dss_cons (ds_if (dt_w (dw_or (dt_cmp ((od_ne rg.r.units)) (de_callB (cd_repr rg.g rg.u66) (by rfl) T.b_repr (by decide +kernel) (da_cons (de_var 5) da_nil)) (de_callB (cd_repr rg.g rg.u66) (by rfl) T.b_repr (by decide +kernel) (da_cons (de_var 3) da_nil)) (nomark _)) (dw_or1 (dt_cmp ((od_ne rg.r.units)) (de_lc rfl S.nd (di_rng1 (by rfl) T.b_range (da_cons (de_ix (de_var 0) de_int (fun _ _ => rfl)) da_nil)) (blkOk_by (by kernel_rfl)) (own := [("other", 6)]) (ts := [6]) (by decide) (fun _ _ _ _ _ => (dg_name (i := 6) S.nd rfl (by first | exact Or.inl rfl | exact Or.inr rfl))) (fun _ _ _ _ _ => dts_nil) (fun _ _ _ _ _ => have tk := takes0; (de_f h_steps rg (by omega) (by rfl) tk (da_cons (de_var 0) (da_cons (de_var 6) (da_cons (de_var 1) da_nil))) rfl (al_cons (al_cons (al_cons al_nil)))))) (de_var 3) (nomark _)))))
  (dss_one (ds_ret de_bl))
  dss_nil)
 (dss_cons (ds_for (vs := [6]) hp rfl (di_rng1 (by rfl) T.b_range (da_cons (de_ix (de_var 0) de_int (fun _ _ => rfl)) da_nil)) (dg_name (i := 6) S.nd rfl (by first | exact Or.inl rfl | exact Or.inr rfl))
  (dss_cons (by first | exact (ds_setLc (i := 7) rfl S.nd rfl rfl (sw_true rfl rfl rfl (by decide +kernel)) (di_rng1 (by rfl) T.b_range (da_cons (de_ix (de_var 0) de_int (fun _ _ => rfl)) da_nil)) (blkOk_by (by kernel_rfl)) (own := [("third", 8)]) (ts := [8]) (by decide) (fun _ _ _ _ _ => (dg_name (i := 8) S.nd rfl (by first | exact Or.inl rfl | exact Or.inr rfl))) (fun _ _ _ _ _ => dts_nil) (fun _ _ _ _ _ => (de_bin od_add (de_ix (de_ix (de_var 2) (de_var 1) (fun _ _ => rfl)) (de_var 8) (fun _ _ => rfl)) (de_ix (de_ix (de_var 2) (de_var 8) (fun _ _ => rfl)) (de_var 6) (fun _ _ => rfl))))) | exact (ds_set (i := 7) S.nd rfl (by first | exact Or.inl rfl | exact Or.inr rfl) (de_lc rfl S.nd (di_rng1 (by rfl) T.b_range (da_cons (de_ix (de_var 0) de_int (fun _ _ => rfl)) da_nil)) (blkOk_by (by kernel_rfl)) (own := [("third", 8)]) (ts := [8]) (by decide) (fun _ _ _ _ _ => (dg_name (i := 8) S.nd rfl (by first | exact Or.inl rfl | exact Or.inr rfl))) (fun _ _ _ _ _ => dts_nil) (fun _ _ _ _ _ => (de_bin od_add (de_ix (de_ix (de_var 2) (de_var 1) (fun _ _ => rfl)) (de_var 8) (fun _ _ => rfl)) (de_ix (de_ix (de_var 2) (de_var 8) (fun _ _ => rfl)) (de_var 6) (fun _ _ => rfl)))))))
 (dss_one (ds_if (dt_cmp (od_gt) (de_ix (de_ix (de_var 2) (de_var 1) (fun _ _ => rfl)) (de_var 6) (fun _ _ => rfl)) (de_callB (cd_minA rfl rg.u66) (by rfl) T.b_min (by decide +kernel) (da_cons (de_var 7) da_nil)) (nomark _))
  (dss_one (ds_ret de_bl))
  dss_nil))))
 (dss_cons (ds_for (vs := [9]) hp rfl (di_rng1 (by rfl) T.b_range (da_cons (de_bin od_add (de_ix (de_var 0) de_int (fun _ _ => rfl)) de_int) da_nil)) (dg_name (i := 9) S.nd rfl (by first | exact Or.inl rfl | exact Or.inr rfl))
  (dss_cons (ds_set (i := 10) S.nd rfl (by first | exact Or.inl rfl | exact Or.inr rfl) (de_callTy cd_tuple (by rfl) T.b_tuple (by decide +kernel) (da_cons (de_lc rfl S.nd (di_rng1 (by rfl) T.b_range (da_cons (de_ix (de_var 0) de_int (fun _ _ => rfl)) da_nil)) (blkOk_by (by kernel_rfl)) (own := [("other", 6)]) (ts := [6]) (by decide) (fun _ _ _ _ _ => (dg_name (i := 6) S.nd rfl (by first | exact Or.inl rfl | exact Or.inr rfl))) (fun _ _ _ _ _ => (dts_one (dt_cmp (od_le) (de_ix (de_ix (de_var 2) (de_var 1) (fun _ _ => rfl)) (de_var 6) (fun _ _ => rfl)) (de_var 9) (nomark _)))) (fun _ _ _ _ _ => (de_var 6))) da_nil)))
 (dss_one (ds_if (dt_cmp ((od_ne rg.r.units)) (de_callB (cd_repr rg.g rg.u66) (by rfl) T.b_repr (by decide +kernel) (da_cons (de_f h_within rg (by omega) (by rfl) tk (da_cons (de_var 0) (da_cons (de_var 1) (da_cons (de_var 9) da_nil))) rfl (al_cons (al_cons (al_cons al_nil)))) da_nil)) (de_callB (cd_repr rg.g rg.u66) (by rfl) T.b_repr (by decide +kernel) (da_cons (de_var 10) da_nil)) (nomark _))
  (dss_one (ds_ret de_bl))
  dss_nil))))
 (dss_cons (ds_set (i := 11) S.nd rfl (by first | exact Or.inl rfl | exact Or.inr rfl) (de_callB cd_sorted (by rfl) T.b_sorted (by decide +kernel) (da_cons (de_bin od_add (de_tup (da_cons (de_var 1) da_nil)) (de_f h_neighbours rg (by omega) (by rfl) tk (da_cons (de_var 0) (da_cons (de_var 1) da_nil)) rfl (al_cons (al_cons al_nil)))) da_nil)))
 (dss_one (ds_ret (de_and (de_cmp ((od_eq rg.r.units)) (de_callTy cd_list (by rfl) T.b_list (by decide +kernel) (da_cons (de_f h_within rg (by omega) (by rfl) tk (da_cons (de_var 0) (da_cons (de_var 1) (da_cons de_int da_nil))) rfl (al_cons (al_cons (al_cons al_nil)))) da_nil)) (de_var 11) (nomark _)) (de_one (de_cmp ((od_eq rg.r.units)) (de_f h_within rg (by omega) (by rfl) tk (da_cons (de_var 0) (da_cons (de_var 1) (da_cons (de_bin od_pow de_int de_int) da_nil))) rfl (al_cons (al_cons (al_cons al_nil)))) (de_f h_within rg (by omega) (by rfl) tk (da_cons (de_var 0) (da_cons (de_var 1) (da_cons de_int da_nil))) rfl (al_cons (al_cons (al_cons al_nil)))) (nomark _))))))))))))
/-! ### law -/
abbrev s_law : Stmt := topS 26
abbrev N_law : List Str := ["script", "k", "pool", "web", "table", "seat", "some", "due", "other", "many"]
theorem S_law : FnScope N_law ["script"] (defScope s_law) := ⟨rfl, rfl, rfl, by decide +kernel, rfl, by decide +kernel, by decide +kernel⟩
noncomputable abbrev E1_law : En → Sto → R D :=
 (mCall f_law_steps_to (aCons (mVar 3) (aCons (mTup (aCons (mVar 5) aNil)) aNil)))
noncomputable abbrev L1_law : En → Sto → RS :=
 (sIf (tmNot (mB (mCall f_law_from_right (aCons (mVar 3) (aCons (mVar 5) (aCons (mVar 4) aNil))))))
  (sRet (mC (.bl false)))
  sNil)
noncomputable abbrev C1_law : En → Sto → R Bool :=
 (mB (m2 oEq (mCall f_law_take (aCons (mVar 2) (aCons (mC (.int 3)) aNil))) (mC (.int 0))))
noncomputable abbrev E2_law : En → Sto → R D :=
 (mVar 5)
noncomputable abbrev E3_law : En → Sto → R D :=
 (m2 oIx (m2 oIx (mVar 4) (mVar 5)) (mVar 8))
noncomputable abbrev E4_law : En → Sto → R D :=
 (mFn bMin1 (aCons (m2 oAdd (mLst (aCons (mC (.int 99)) aNil)) (mLc (iVal (mVar 6)) (gN 8) mYes E3_law [8])) aNil))
noncomputable abbrev E5_law : En → Sto → R D :=
 (mCall f_law_none_of (aCons (mVar 9) aNil))
noncomputable abbrev L2_law : En → Sto → RS :=
 (sSeq (sAsg (mCall f_law_pool (aCons (mVar 0) (aCons (mVar 1) aNil))) (gN 2))
 (sSeq (sAsg (mCall f_law_any_web (aCons (mVar 2) (aCons (mC (.int 12)) aNil))) (gN 3))
 (sSeq (sAsg (mLc (iRng1 (aCons (m2 oIx (mVar 3) (mC (.int 0))) aNil)) (gN 5) mYes E1_law [5]) (gN 4))
 (sSeq (sFor (iRng1 (aCons (m2 oIx (mVar 3) (mC (.int 0))) aNil)) (gN 5)
  L1_law)
 (sSeq (sAsg (mFn bTuple (aCons (mLc (iRng1 (aCons (m2 oIx (mVar 3) (mC (.int 0))) aNil)) (gN 5) C1_law E2_law [5]) aNil)) (gN 6))
 (sSeq (sAsg (mLc (iRng1 (aCons (m2 oIx (mVar 3) (mC (.int 0))) aNil)) (gN 5) mYes E4_law [5]) (gN 7))
 (sSeq (sIf (mB (m2 oNe (mFn bRepr (aCons (mCall f_steps_to (aCons (mVar 3) (aCons (mVar 6) aNil))) aNil)) (mFn bRepr (aCons (mFn bTuple (aCons (mLc (iVal (mVar 7)) (gN 9) mYes E5_law [9]) aNil)) aNil))))
  (sRet (mC (.bl false)))
  sNil)
 (sSeq (sIf (mB (m2 oNe (mFn bRepr (aCons (mCall f_steps_to (aCons (mVar 3) (aCons (mTup aNil) aNil))) aNil)) (mFn bRepr (aCons (m2 oMul (mTup (aCons (mC .non) aNil)) (m2 oIx (mVar 3) (mC (.int 0)))) aNil))))
  (sRet (mC (.bl false)))
  sNil)
 (sIf (mB (m2 oNe (mFn bRepr (aCons (mCall f_steps_to (aCons (mVar 3) (aCons (mTupRg (m2 oIx (mVar 3) (mC (.int 0)))) aNil))) aNil)) (mFn bRepr (aCons (m2 oMul (mTup (aCons (mC (.int 0)) aNil)) (m2 oIx (mVar 3) (mC (.int 0)))) aNil))))
  (sRet (mC (.bl false)))
  sNil)))))))))
noncomputable def b_law : En → Sto → RS :=
 (sSeq (sFor (iRng1 (aCons (mFn bMax2 (aCons (mC (.int 1)) (aCons (mFn bMin2 (aCons (mC (.int 8)) (aCons (mFn bLen (aCons (mVar 0) aNil)) aNil))) aNil))) aNil)) (gN 1)
  L2_law)
 (sRet (mC (.bl true))))
noncomputable def f_law : List D → Sto → R D := mDef 10 b_law
theorem okF_law {f : Addr} {fd : FuncData} (T : Txt K w mg) (Tf : Fun K "law" "law" s_law f fd) (h_law_pool : DefOk P w K mg base "_law_pool" 2 1 f_law_pool) (h_law_any_web : DefOk P w K mg base "_law_any_web" 2 2 f_law_any_web) (h_law_steps_to : DefOk P w K mg base "_law_steps_to" 2 1 f_law_steps_to) (h_law_from_right : DefOk P w K mg base "_law_from_right" 3 4 f_law_from_right) (h_law_take : DefOk P w K mg base "_law_take" 2 1 f_law_take) (h_steps_to : DefOk P w K mg base "steps_to" 2 3 f_steps_to) (h_law_none_of : DefOk P w K mg base "_law_none_of" 1 1 f_law_none_of) : FnG P w K mg base 5 f fd ["script"] (spD K 1 f_law) := by
  have S := S_law
  refine fn_d (N := N_law) (body := b_law) Tf S rfl fun cdv A outer s H E rg tk hp => ?_
  exact (dss_cons (ds_for (vs := [1]) hp rfl (di_rng1 (by rfl) T.b_range (da_cons (de_callB (cd_max2 rfl) (by rfl) T.b_max (by decide +kernel) (da_cons de_int (da_cons (de_callB (cd_min2 rfl) (by rfl) T.b_min (by decide +kernel) (da_cons de_int (da_cons (de_callB cd_len (by rfl) T.b_len (by decide +kernel) (da_cons (de_var 0) da_nil)) da_nil))) da_nil))) da_nil)) (dg_name (i := 1) S.nd rfl (by first | exact Or.inl rfl | exact Or.inr rfl))
  (dss_cons (ds_set (i := 2) S.nd rfl (by first | exact Or.inl rfl | exact Or.inr rfl) (de_f h_law_pool rg (by omega) (by rfl) tk (da_cons (de_var 0) (da_cons (de_var 1) da_nil)) rfl (al_cons (al_cons al_nil))))
 (dss_cons (ds_set (i := 3) S.nd rfl (by first | exact Or.inl rfl | exact Or.inr rfl) (de_f h_law_any_web rg (by omega) (by rfl) tk (da_cons (de_var 2) (da_cons de_int da_nil)) rfl (al_cons (al_cons al_nil))))
 (dss_cons (by first | exact (ds_setLc (i := 4) rfl S.nd rfl rfl (sw_true rfl rfl rfl (by decide +kernel)) (di_rng1 (by rfl) T.b_range (da_cons (de_ix (de_var 3) de_int (fun _ _ => rfl)) da_nil)) (blkOk_by (by kernel_rfl)) (own := [("seat", 5)]) (ts := [5]) (by decide) (fun _ _ _ _ _ => (dg_name (i := 5) S.nd rfl (by first | exact Or.inl rfl | exact Or.inr rfl))) (fun _ _ _ _ _ => dts_nil) (fun _ _ _ _ _ => have tk := takes0; (de_f h_law_steps_to rg (by omega) (by rfl) tk (da_cons (de_var 3) (da_cons (de_tup (da_cons (de_var 5) da_nil)) da_nil)) rfl (al_cons (al_cons al_nil))))) | exact (ds_set (i := 4) S.nd rfl (by first | exact Or.inl rfl | exact Or.inr rfl) (de_lc rfl S.nd (di_rng1 (by rfl) T.b_range (da_cons (de_ix (de_var 3) de_int (fun _ _ => rfl)) da_nil)) (blkOk_by (by kernel_rfl)) (own := [("seat", 5)]) (ts := [5]) (by decide) (fun _ _ _ _ _ => (dg_name (i := 5) S.nd rfl (by first | exact Or.inl rfl | exact Or.inr rfl))) (fun _ _ _ _ _ => dts_nil) (fun _ _ _ _ _ => have tk := takes0; (de_f h_law_steps_to rg (by omega) (by rfl) tk (da_cons (de_var 3) (da_cons (de_tup (da_cons (de_var 5) da_nil)) da_nil)) rfl (al_cons (al_cons al_nil)))))))
 (dss_cons (ds_for (vs := [5]) hp rfl (di_rng1 (by rfl) T.b_range (da_cons (de_ix (de_var 3) de_int (fun _ _ => rfl)) da_nil)) (dg_name (i := 5) S.nd rfl (by first | exact Or.inl rfl | exact Or.inr rfl))
  (dss_one (ds_if (dt_not (dt_val (de_f h_law_from_right rg (by omega) (by rfl) tk (da_cons (de_var 3) (da_cons (de_var 5) (da_cons (de_var 4) da_nil))) rfl (al_cons (al_cons (al_cons al_nil))))))
  (dss_one (ds_ret de_bl))
  dss_nil)))
 (dss_cons (ds_set (i := 6) S.nd rfl (by first | exact Or.inl rfl | exact Or.inr rfl) (de_callTy cd_tuple (by rfl) T.b_tuple (by decide +kernel) (da_cons (de_lc rfl S.nd (di_rng1 (by rfl) T.b_range (da_cons (de_ix (de_var 3) de_int (fun _ _ => rfl)) da_nil)) (blkOk_by (by kernel_rfl)) (own := [("seat", 5)]) (ts := [5]) (by decide) (fun _ _ _ _ _ => (dg_name (i := 5) S.nd rfl (by first | exact Or.inl rfl | exact Or.inr rfl))) (fun _ _ _ _ _ => have tk := takes0; (dts_one (dt_cmp ((od_eq rg.r.units)) (de_f h_law_take rg (by omega) (by rfl) tk (da_cons (de_var 2) (da_cons de_int da_nil)) rfl (al_cons (al_cons al_nil))) de_int (nomark _)))) (fun _ _ _ _ _ => (de_var 5))) da_nil)))
 (dss_cons (by first | exact (ds_setLc (i := 7) rfl S.nd rfl rfl (sw_true rfl rfl rfl (by decide +kernel)) (di_rng1 (by rfl) T.b_range (da_cons (de_ix (de_var 3) de_int (fun _ _ => rfl)) da_nil)) (blkOk_by (by kernel_rfl)) (own := [("seat", 5)]) (ts := [5]) (by decide) (fun _ _ _ _ _ => (dg_name (i := 5) S.nd rfl (by first | exact Or.inl rfl | exact Or.inr rfl))) (fun _ _ _ _ _ => dts_nil) (fun _ _ _ _ _ => (de_callB (cd_min1 rfl) (by rfl) T.b_min (by decide +kernel) (da_cons (de_bin od_add (de_lst (da_cons de_int da_nil)) (de_lc rfl S.nd (di_val (de_var 6)) (blkOk_by (by kernel_rfl)) (own := [("other", 8)]) (ts := [8]) (by decide) (fun _ _ _ _ _ => (dg_name (i := 8) S.nd rfl (by first | exact Or.inl rfl | exact Or.inr rfl))) (fun _ _ _ _ _ => dts_nil) (fun _ _ _ _ _ => (de_ix (de_ix (de_var 4) (de_var 5) (fun _ _ => rfl)) (de_var 8) (fun _ _ => rfl))))) da_nil)))) | exact (ds_set (i := 7) S.nd rfl (by first | exact Or.inl rfl | exact Or.inr rfl) (de_lc rfl S.nd (di_rng1 (by rfl) T.b_range (da_cons (de_ix (de_var 3) de_int (fun _ _ => rfl)) da_nil)) (blkOk_by (by kernel_rfl)) (own := [("seat", 5)]) (ts := [5]) (by decide) (fun _ _ _ _ _ => (dg_name (i := 5) S.nd rfl (by first | exact Or.inl rfl | exact Or.inr rfl))) (fun _ _ _ _ _ => dts_nil) (fun _ _ _ _ _ => (de_callB (cd_min1 rfl) (by rfl) T.b_min (by decide +kernel) (da_cons (de_bin od_add (de_lst (da_cons de_int da_nil)) (de_lc rfl S.nd (di_val (de_var 6)) (blkOk_by (by kernel_rfl)) (own := [("other", 8)]) (ts := [8]) (by decide) (fun _ _ _ _ _ => (dg_name (i := 8) S.nd rfl (by first | exact Or.inl rfl | exact Or.inr rfl))) (fun _ _ _ _ _ => dts_nil) (fun _ _ _ _ _ => (de_ix (de_ix (de_var 4) (de_var 5) (fun _ _ => rfl)) (de_var 8) (fun _ _ => rfl))))) da_nil))))))
 (dss_cons (ds_if (dt_cmp ((od_ne rg.r.units)) (de_callB (cd_repr rg.g rg.u66) (by rfl) T.b_repr (by decide +kernel) (da_cons (de_f h_steps_to rg (by omega) (by rfl) tk (da_cons (de_var 3) (da_cons (de_var 6) da_nil)) rfl (al_cons (al_cons al_nil))) da_nil)) (de_callB (cd_repr rg.g rg.u66) (by rfl) T.b_repr (by decide +kernel) (da_cons (de_callTy cd_tuple (by rfl) T.b_tuple (by decide +kernel) (da_cons (de_lc rfl S.nd (di_val (de_var 7)) (blkOk_by (by kernel_rfl)) (own := [("many", 9)]) (ts := [9]) (by decide) (fun _ _ _ _ _ => (dg_name (i := 9) S.nd rfl (by first | exact Or.inl rfl | exact Or.inr rfl))) (fun _ _ _ _ _ => dts_nil) (fun _ _ _ _ _ => have tk := takes0; (de_f h_law_none_of rg (by omega) (by rfl) tk (da_cons (de_var 9) da_nil) rfl (al_cons al_nil)))) da_nil)) da_nil)) (nomark _))
  (dss_one (ds_ret de_bl))
  dss_nil)
 (dss_cons (ds_if (dt_cmp ((od_ne rg.r.units)) (de_callB (cd_repr rg.g rg.u66) (by rfl) T.b_repr (by decide +kernel) (da_cons (de_f h_steps_to rg (by omega) (by rfl) tk (da_cons (de_var 3) (da_cons (de_tup da_nil) da_nil)) rfl (al_cons (al_cons al_nil))) da_nil)) (de_callB (cd_repr rg.g rg.u66) (by rfl) T.b_repr (by decide +kernel) (da_cons (de_bin od_mul (de_tup (da_cons de_non da_nil)) (de_ix (de_var 3) de_int (fun _ _ => rfl))) da_nil)) (nomark _))
  (dss_one (ds_ret de_bl))
  dss_nil)
 (dss_one (ds_if (dt_cmp ((od_ne rg.r.units)) (de_callB (cd_repr rg.g rg.u66) (by rfl) T.b_repr (by decide +kernel) (da_cons (de_f h_steps_to rg (by omega) (by rfl) tk (da_cons (de_var 3) (da_cons (de_tupRg rfl (by rfl) T.b_tuple (by rfl) T.b_range (de_ix (de_var 3) de_int (fun _ _ => rfl))) da_nil)) rfl (al_cons (al_cons al_nil))) da_nil)) (de_callB (cd_repr rg.g rg.u66) (by rfl) T.b_repr (by decide +kernel) (da_cons (de_bin od_mul (de_tup (da_cons de_int da_nil)) (de_ix (de_var 3) de_int (fun _ _ => rfl))) da_nil)) (nomark _))
  (dss_one (ds_ret de_bl))
  dss_nil)))))))))))
 (dss_one (ds_ret de_bl)))
theorem all_ok {f : Addr} {fd : FuncData} (T : Txt K w mg) (T_is_web : TopFn K mg "is_web" s_is_web ["thing"]) (T_is_seats : TopFn K mg "is_seats" s_is_seats ["web", "thing"]) (T_need_web : TopFn K mg "need_web" s_need_web ["web"]) (T_need_seat : TopFn K mg "need_seat" s_need_seat ["web", "seat"]) (T_need_seats : TopFn K mg "need_seats" s_need_seats ["web", "seats"]) (T_beside : TopFn K mg "beside" s_beside ["web", "seat"]) (T_all_beside : TopFn K mg "all_beside" s_all_beside ["web"]) (T_steps_from : TopFn K mg "steps_from" s_steps_from ["web", "seats"]) (T_neighbours : TopFn K mg "neighbours" s_neighbours ["web", "seat"]) (T_steps : TopFn K mg "steps" s_steps ["web", "seat", "other"]) (T_steps_to : TopFn K mg "steps_to" s_steps_to ["web", "seats"]) (T_within : TopFn K mg "within" s_within ["web", "seat", "far"]) (T_law_pool : TopFn K mg "_law_pool" s_law_pool ["cells", "k"]) (T_law_take : TopFn K mg "_law_take" s_law_take ["pool", "many"]) (T_law_any_web : TopFn K mg "_law_any_web" s_law_any_web ["pool", "most"]) (T_law_steps_to : TopFn K mg "_law_steps_to" s_law_steps_to ["web", "seats"]) (T_law_none_of : TopFn K mg "_law_none_of" s_law_none_of ["many"]) (T_law_from_right : TopFn K mg "_law_from_right" s_law_from_right ["web", "seat", "table"]) (F : Fun K "law" "law" s_law f fd) : FnG P w K mg base 5 f fd ["script"] (spD K 1 f_law) := by
  have h_is_web := ok_is_web (P := P) (w := w) (base := base) T T_is_web 
  have h_is_seats := ok_is_seats (P := P) (w := w) (base := base) T T_is_seats 
  have h_need_web := ok_need_web (P := P) (w := w) (base := base) T T_need_web h_is_web
  have h_need_seat := ok_need_seat (P := P) (w := w) (base := base) T T_need_seat 
  have h_need_seats := ok_need_seats (P := P) (w := w) (base := base) T T_need_seats h_is_seats
  have h_beside := ok_beside (P := P) (w := w) (base := base) T T_beside 
  have h_all_beside := ok_all_beside (P := P) (w := w) (base := base) T T_all_beside 
  have h_steps_from := ok_steps_from (P := P) (w := w) (base := base) T T_steps_from h_all_beside
  have h_neighbours := ok_neighbours (P := P) (w := w) (base := base) T T_neighbours h_need_web h_need_seat h_beside
  have h_steps := ok_steps (P := P) (w := w) (base := base) T T_steps h_need_web h_need_seat h_steps_from
  have h_steps_to := ok_steps_to (P := P) (w := w) (base := base) T T_steps_to h_need_web h_need_seats h_steps_from
  have h_within := ok_within (P := P) (w := w) (base := base) T T_within h_need_web h_need_seat h_steps_from
  have h_law_pool := ok_law_pool (P := P) (w := w) (base := base) T T_law_pool 
  have h_law_take := ok_law_take (P := P) (w := w) (base := base) T T_law_take 
  have h_law_any_web := ok_law_any_web (P := P) (w := w) (base := base) T T_law_any_web h_law_take
  have h_law_steps_to := ok_law_steps_to (P := P) (w := w) (base := base) T T_law_steps_to 
  have h_law_none_of := ok_law_none_of (P := P) (w := w) (base := base) T T_law_none_of 
  have h_law_from_right := ok_law_from_right (P := P) (w := w) (base := base) T T_law_from_right h_law_none_of h_steps h_within h_neighbours
  exact okF_law T F h_law_pool h_law_any_web h_law_steps_to h_law_from_right h_law_take h_steps_to h_law_none_of
end
end Pr

set_option Elab.async false
set_option linter.all false
set_option maxRecDepth 10000
namespace Pr
open PySem PySem.Spec PyProof.Rows L2 DL
/-! ### pools of draws -/
theorem pool_spec (ns : List Int) (c k : Nat) (st : Sto) (hc : rdL st c = some (ns.map D.int)) :
    ∃ a b : Int, f_law_pool [.ref c, .int k] st = .ok (.ref st.length) (st ++ [.lst [.int a, .int b, .int 0]]) := by
  have hz : (3 : Nat) ≤ sizeLine := by decide
  by_cases hk : (k : Int) < ns.length
  · have hk' : k < ns.length := by exact_mod_cast hk
    have e : L2.atI (ns.map D.int) (k : Int) = some (.int ns[k]) := atI_at (by rw [List.getElem?_map, List.getElem?_eq_getElem hk']; rfl)
    by_cases hg : (1000000000000000000 : Int) ≤ (if ns[k] < 0 then -ns[k] else ns[k])
    · exact ⟨_, _, by simp [f_law_pool, b_law_pool, mDef, sRet, sRetN, sSeq, sNil, sIf, sAsg, sExpr, sPar, sAug, sNo, mAnd, mOr, mNot, mIf, m2, m1, mChain, mFn, mCall, mMeth, aCons, aNil, mVar, mC, mB, tmAnd, tmOr, tmNot, mTup, mLst, mSl, pNone, pSome, R.bind, R.toS, RS.seq, noEx, gN, gSet, DL.gTup, gsCons, gsNil, bType, kindD, bLen, bAbs, bInt, bMax2, bMin2, bTuple, bList, itemsD, oAdd, oSub, oMul, oDiv, oMod, oPow, oNeg, oLt, oLe, oGt, oGe, oLtT, oIs, oIsNot, DL.isNon, oIx, oAddI, sAsg2, oMulI, mChain3, hc, hk, hk', e, hg, Small, hz]; exact ⟨rfl, rfl⟩⟩
    · exact ⟨_, _, by simp [f_law_pool, b_law_pool, mDef, sRet, sRetN, sSeq, sNil, sIf, sAsg, sExpr, sPar, sAug, sNo, mAnd, mOr, mNot, mIf, m2, m1, mChain, mFn, mCall, mMeth, aCons, aNil, mVar, mC, mB, tmAnd, tmOr, tmNot, mTup, mLst, mSl, pNone, pSome, R.bind, R.toS, RS.seq, noEx, gN, gSet, DL.gTup, gsCons, gsNil, bType, kindD, bLen, bAbs, bInt, bMax2, bMin2, bTuple, bList, itemsD, oAdd, oSub, oMul, oDiv, oMod, oPow, oNeg, oLt, oLe, oGt, oGe, oLtT, oIs, oIsNot, DL.isNon, oIx, oAddI, sAsg2, oMulI, mChain3, hc, hk, hk', e, hg, Small, hz]; exact ⟨rfl, rfl⟩⟩
  · have hk' : ¬ k < ns.length := by exact_mod_cast hk
    exact ⟨_, _, by simp [f_law_pool, b_law_pool, mDef, sRet, sRetN, sSeq, sNil, sIf, sAsg, sExpr, sPar, sAug, sNo, mAnd, mOr, mNot, mIf, m2, m1, mChain, mFn, mCall, mMeth, aCons, aNil, mVar, mC, mB, tmAnd, tmOr, tmNot, mTup, mLst, mSl, pNone, pSome, R.bind, R.toS, RS.seq, noEx, gN, gSet, DL.gTup, gsCons, gsNil, bType, kindD, bLen, bAbs, bInt, bMax2, bMin2, bTuple, bList, itemsD, oAdd, oSub, oMul, oDiv, oMod, oPow, oNeg, oLt, oLe, oGt, oGe, oLtT, oIs, oIsNot, DL.isNon, oIx, oAddI, sAsg2, oMulI, mChain3, hc, hk, hk', Small, hz]; exact ⟨rfl, rfl⟩⟩
theorem take_spec (r : Nat) (m : Int) (st : Sto) (h : IsPool st r) (h0 : 0 < m) (h1 : m < 1073741824) : ∃ v st', f_law_take [.ref r, .int m] st = .ok (.int v) st' ∧ 0 ≤ v ∧ v < m ∧ Ev r st st' := by
  obtain ⟨a, b, c, e⟩ := h
  have hr : r < st.length := (List.getElem?_eq_some_iff.mp e).1
  have e1 : rdL st r = some [.int a, .int b, .int c] := by simp [rdL, e]
  have e2 : rdW st r = some [.int a, .int b, .int c] := by simp [rdW, e]
  have ev : ∀ a b c : Int, Ev r st (st.set r (.lst [.int a, .int b, .int c])) := fun a b c => ⟨by simp, fun i hi hn => List.getElem?_set_ne (Ne.symm hn), a, b, c, List.getElem?_set_self hr⟩
  by_cases hp : 0 < a
  · refine ⟨a % m, _, by simp [f_law_take, b_law_take, mDef, sRet, sRetN, sSeq, sNil, sIf, sAsg, sExpr, sPar, sAug, sNo, mAnd, mOr, mNot, mIf, m2, m1, mChain, mFn, mCall, mMeth, aCons, aNil, mVar, mC, mB, tmAnd, tmOr, tmNot, mTup, mLst, mSl, pNone, pSome, R.bind, R.toS, RS.seq, noEx, gN, gSet, DL.gTup, gsCons, gsNil, bType, kindD, bLen, bAbs, bInt, bMax2, bMin2, bTuple, bList, itemsD, oAdd, oSub, oMul, oDiv, oMod, oPow, oNeg, oLt, oLe, oGt, oGe, oLtT, oIs, oIsNot, DL.isNon, oIx, oAddI, sAsg2, oMulI, mChain3, e1, e2, hp, h0, h1]; rfl, Int.emod_nonneg _ (by omega), Int.emod_lt_of_pos _ h0, ev _ _ _⟩
  · have g1 : ∀ x y z : Int, rdL (st.set r (.lst [.int x, .int y, .int z])) r = some [.int x, .int y, .int z] := fun x y z => by simp [rdL, hr]
    have g2 : ∀ x y z : Int, rdW (st.set r (.lst [.int x, .int y, .int z])) r = some [.int x, .int y, .int z] := fun x y z => by simp [rdW, hr]
    have s1 : ∀ x : Int, Small (x % 2305843009213693951) := fun x => by
      have := Int.emod_nonneg x (b := 2305843009213693951) (by decide)
      have := Int.emod_lt_of_pos x (b := 2305843009213693951) (by decide)
      unfold Small; omega
    have s2 : Small 1000003 := by decide
    have s3 : Small 8191 := by decide
    refine ⟨_ % m, _, by simp [f_law_take, b_law_take, mDef, sRet, sRetN, sSeq, sNil, sIf, sAsg, sExpr, sPar, sAug, sNo, mAnd, mOr, mNot, mIf, m2, m1, mChain, mFn, mCall, mMeth, aCons, aNil, mVar, mC, mB, tmAnd, tmOr, tmNot, mTup, mLst, mSl, pNone, pSome, R.bind, R.toS, RS.seq, noEx, gN, gSet, DL.gTup, gsCons, gsNil, bType, kindD, bLen, bAbs, bInt, bMax2, bMin2, bTuple, bList, itemsD, oAdd, oSub, oMul, oDiv, oMod, oPow, oNeg, oLt, oLe, oGt, oGe, oLtT, oIs, oIsNot, DL.isNon, oIx, oAddI, sAsg2, oMulI, mChain3, e1, e2, hp, h0, g1, g2, s1, s2, s3]; exact ⟨rfl, rfl⟩, Int.emod_nonneg _ (by omega), Int.emod_lt_of_pos _ h0, ev _ _ _⟩
theorem take_of {r : Nat} {m : Int} {st : Sto} (h : IsPool st r) (h0 : 0 < m) (h1 : m < 1073741824) : ∃ v st', f_law_take [.ref r, .int m] st = .ok (.int v) st' ∧ 0 ≤ v ∧ v < m ∧ Ev r st st' := take_spec r m st h h0 h1
end Pr
set_option Elab.async false
set_option linter.all false
set_option maxRecDepth 10000
namespace DL
open PySem PySem.Spec PyProof.Rows L2
theorem sFor_tup {m : En → Sto → R D} {g : GT} {mb : En → Sto → RS} {env env' : En} {st st1 st' : Sto} {xs : List D} (e : m env st = .ok (.tup xs) st1) (h : loopS xs none g mb xs env st1 = .nx env' st') : sFor (DL.iVal m) g mb env st = .nx env' st' := by
  simp only [sFor, DL.iVal, e, R.bind, R.toS]
  exact h
theorem sFor_lst {m : En → Sto → R D} {g : GT} {mb : En → Sto → RS} {env env' : En} {st st1 st' : Sto} {xs : List D} {r : Nat} (e : m env st = .ok (.ref r) st1) (er : rdL st1 r = some xs) (h : loopS xs (some r) g mb xs env st1 = .nx env' st') : sFor (DL.iVal m) g mb env st = .nx env' st' := by
  simp only [sFor, DL.iVal, e, er, R.bind, R.toS]
  exact h
theorem oNe_int (a b : Int) (st : Sto) : oNe (.int a) (.int b) st = .ok (.bl (!decide (a = b))) st := by
  have r4 : ∀ n : Int, toP st (.int n) = some (.int n) := fun n => rfl
  have r5 : PyData.eqv (.int a) (.int b) = decide (a = b) := by simp only [PyData.eqv]; rw [Bool.eq_iff_iff]; simp
  have r6 : ∀ n : Int, SeqAt.shaped (.int n) = true := fun n => by simp [SeqAt.shaped, PyData.canLay0, PyData.depth]
  simp [oNe, r4, r5, r6]
end DL
namespace Pr
open PySem PySem.Spec PyProof.Rows L2 DL
section
variable {w : Web}
theorem ixw0 (w : Web) (st : Sto) : oIx w.d (.int 0) st = .ok (.int w.many) st := by simp [Web.d, oIx]
theorem ixw1 (w : Web) (st : Sto) : oIx w.d (.int 1) st = .ok (.tup (w.ties.map mkP)) st := by simp [Web.d, oIx]
theorem web_ok {w : Web} (hw : w.Ok) (st : Sto) : f_is_web [w.d] st = .ok (.bl true) st := by
  have lo := hw.lo; have hi := hw.hi
  obtain ⟨env', st', e, la, ha, q5, q6, q7, rfl, rfl, _⟩ := loopS_ok (ds := w.ties.map mkP) (gd := none) (g := gN 5) (mb := L1_is_web) (env := [some w.d, some (.int w.many), some (.tup (w.ties.map mkP)), some (.int 0), some (.int 0), none, none, none]) (st := st)
    (fun i env st' => ∃ (la ha : Int) (q5 q6 q7 : Option D), env = [some w.d, some (.int w.many), some (.tup (w.ties.map mkP)), some (.int la), some (.int ha), q5, q6, q7] ∧ st = st' ∧ ∀ p ∈ w.ties.drop i, (la < p.1 ∨ la = p.1 ∧ ha < p.2))
    ⟨0, 0, none, none, none, rfl, rfl, fun p hp => by have := hw.tie p (by simpa using hp); omega⟩ (fun _ _ _ _ _ => trivial) (by
      rintro i env st' hi ⟨la, ha, q5, q6, q7, rfl, rfl, h⟩
      have hi' : i < w.ties.length := by simpa using hi
      rw [List.getElem_map]
      have t := hw.tie w.ties[i] (List.getElem_mem hi')
      have b := h w.ties[i] (by rw [List.drop_eq_getElem_cons hi']; exact List.mem_cons_self)
      have nxt : ∀ p ∈ w.ties.drop (i + 1), (w.ties[i].1 < p.1 ∨ w.ties[i].1 = p.1 ∧ w.ties[i].2 < p.2) := fun p hp => by
        obtain ⟨j, hj, rfl⟩ := List.mem_iff_getElem.mp hp
        rw [List.getElem_drop]
        exact List.pairwise_iff_getElem.mp hw.rise i (i + 1 + j) hi' (by rw [List.length_drop] at hj; omega) (by omega)
      generalize w.ties[i] = p at t b nxt
      obtain ⟨x, y⟩ := p
      simp only at t b nxt
      have step : L1_is_web [some w.d, some (.int w.many), some (.tup (w.ties.map mkP)), some (.int la), some (.int ha), some (mkP (x, y)), q6, q7] st = .nx [some w.d, some (.int w.many), some (.tup (w.ties.map mkP)), some (.int x), some (.int y), some (mkP (x, y)), some (.int x), some (.int y)] st := by
        have ty := t.2.2
        have txy := t.2.1
        by_cases q : x = la
        · have b2 : ha < y := by omega
          subst q
          simp [L1_is_web, mDef, sRet, sRetN, sSeq, sNil, sIf, sAsg, sExpr, sPar, sAug, sNo, mAnd, mOr, mNot, mIf, m2, m1, mChain, mFn, mCall, mMeth, aCons, aNil, mVar, mC, mB, tmAnd, tmOr, tmNot, mTup, mLst, mSl, pNone, pSome, R.bind, R.toS, RS.seq, noEx, gN, gSet, DL.gTup, gsCons, gsNil, bType, kindD, bLen, bAbs, bInt, bMax2, bMin2, bTuple, bList, itemsD, oAdd, oSub, oMul, oDiv, oMod, oPow, oNeg, oLt, oLe, oGt, oGe, oLtT, oIs, oIsNot, DL.isNon, oIx, oAddI, sAsg2, oMulI, mChain3, mkP, oNe_int, b2, ty]
        · have b2 : la < x := by omega
          simp [L1_is_web, mDef, sRet, sRetN, sSeq, sNil, sIf, sAsg, sExpr, sPar, sAug, sNo, mAnd, mOr, mNot, mIf, m2, m1, mChain, mFn, mCall, mMeth, aCons, aNil, mVar, mC, mB, tmAnd, tmOr, tmNot, mTup, mLst, mSl, pNone, pSome, R.bind, R.toS, RS.seq, noEx, gN, gSet, DL.gTup, gsCons, gsNil, bType, kindD, bLen, bAbs, bInt, bMax2, bMin2, bTuple, bList, itemsD, oAdd, oSub, oMul, oDiv, oMod, oPow, oNeg, oLt, oLe, oGt, oGe, oLtT, oIs, oIsNot, DL.isNon, oIx, oAddI, sAsg2, oMulI, mChain3, mkP, oNe_int, q, b2, ty, txy]
      exact ⟨_, _, _, _, rfl, step, _, _, _, _, _, rfl, rfl, nxt⟩)
  have e0 := sFor_tup (m := mVar 2) (g := gN 5) (mb := L1_is_web) (env := [some w.d, some (.int w.many), some (.tup (w.ties.map mkP)), some (.int 0), some (.int 0), none, none, none]) (st := st) (st1 := st) (xs := w.ties.map mkP) (by simp [mDef, sRet, sRetN, sSeq, sNil, sIf, sAsg, sExpr, sPar, sAug, sNo, mAnd, mOr, mNot, mIf, m2, m1, mChain, mFn, mCall, mMeth, aCons, aNil, mVar, mC, mB, tmAnd, tmOr, tmNot, mTup, mLst, mSl, pNone, pSome, R.bind, R.toS, RS.seq, noEx, gN, gSet, DL.gTup, gsCons, gsNil, bType, kindD, bLen, bAbs, bInt, bMax2, bMin2, bTuple, bList, itemsD, oAdd, oSub, oMul, oDiv, oMod, oPow, oNeg, oLt, oLe, oGt, oGe, oLtT, oIs, oIsNot, DL.isNon, oIx, oAddI, sAsg2, oMulI, mChain3]) e
  have a1 : (1 : Int) ≤ w.many := by omega
  have a2 : (w.many : Int) ≤ 12 := by omega
  have a3 : 1 ≤ w.many := lo
  unfold Web.d at e0 ⊢
  simp [f_is_web, b_is_web, mDef, sRet, sRetN, sSeq, sNil, sIf, sAsg, sExpr, sPar, sAug, sNo, mAnd, mOr, mNot, mIf, m2, m1, mChain, mFn, mCall, mMeth, aCons, aNil, mVar, mC, mB, tmAnd, tmOr, tmNot, mTup, mLst, mSl, pNone, pSome, R.bind, R.toS, RS.seq, noEx, gN, gSet, DL.gTup, gsCons, gsNil, bType, kindD, bLen, bAbs, bInt, bMax2, bMin2, bTuple, bList, itemsD, oAdd, oSub, oMul, oDiv, oMod, oPow, oNeg, oLt, oLe, oGt, oGe, oLtT, oIs, oIsNot, DL.isNon, oIx, oAddI, sAsg2, oMulI, mChain3, oNe_int, a1, a2, a3, e0]
theorem need_web_ok {w : Web} (hw : w.Ok) (st : Sto) : f_need_web [w.d] st = .ok .non st := by
  have := web_ok hw st
  simp [f_need_web, b_need_web, mDef, sRet, sRetN, sSeq, sNil, sIf, sAsg, sExpr, sPar, sAug, sNo, mAnd, mOr, mNot, mIf, m2, m1, mChain, mFn, mCall, mMeth, aCons, aNil, mVar, mC, mB, tmAnd, tmOr, tmNot, mTup, mLst, mSl, pNone, pSome, R.bind, R.toS, RS.seq, noEx, gN, gSet, DL.gTup, gsCons, gsNil, bType, kindD, bLen, bAbs, bInt, bMax2, bMin2, bTuple, bList, itemsD, oAdd, oSub, oMul, oDiv, oMod, oPow, oNeg, oLt, oLe, oGt, oGe, oLtT, oIs, oIsNot, DL.isNon, oIx, oAddI, sAsg2, oMulI, mChain3, this]
theorem need_seat_ok {w : Web} {s : Int} (h0 : 0 ≤ s) (h1 : s < w.many) (st : Sto) : f_need_seat [w.d, .int s] st = .ok .non st := by
  simp [f_need_seat, b_need_seat, mDef, sRet, sRetN, sSeq, sNil, sIf, sAsg, sExpr, sPar, sAug, sNo, mAnd, mOr, mNot, mIf, m2, m1, mChain, mFn, mCall, mMeth, aCons, aNil, mVar, mC, mB, tmAnd, tmOr, tmNot, mTup, mLst, mSl, pNone, pSome, R.bind, R.toS, RS.seq, noEx, gN, gSet, DL.gTup, gsCons, gsNil, bType, kindD, bLen, bAbs, bInt, bMax2, bMin2, bTuple, bList, itemsD, oAdd, oSub, oMul, oDiv, oMod, oPow, oNeg, oLt, oLe, oGt, oGe, oLtT, oIs, oIsNot, DL.isNon, oIx, oAddI, sAsg2, oMulI, mChain3, Web.d, h0, h1]
theorem seats_ok {xs : List Int} (hx : ∀ x : Int, x ∈ xs → 0 ≤ x ∧ x < (w.many : Int)) (h : xs.Pairwise (· < ·)) (st : Sto) : f_is_seats [w.d, .tup (xs.map .int)] st = .ok (.bl true) st := by
  obtain ⟨env', st', e, a, q, rfl, rfl, _⟩ := loopS_ok (ds := xs.map D.int) (gd := none) (g := gN 3) (mb := L1_is_seats) (env := [some w.d, some (.tup (xs.map .int)), some (.int (-1)), none]) (st := st)
    (fun i env st' => ∃ (a : Int) (q : Option D), env = [some w.d, some (.tup (xs.map .int)), some (.int a), q] ∧ st = st' ∧ ∀ x ∈ xs.drop i, a < x)
    ⟨-1, none, rfl, rfl, fun x hx' => by have := hx x (by simpa using hx'); omega⟩ (fun _ _ _ _ _ => trivial) (by
      rintro i env st' hi ⟨a, q, rfl, rfl, ha⟩
      have hi' : i < xs.length := by simpa using hi
      rw [List.getElem_map]
      have b1 := hx xs[i] (List.getElem_mem hi')
      have b2 : a < xs[i] := ha _ (by rw [List.drop_eq_getElem_cons hi']; exact List.mem_cons_self)
      have b3 := b1.2
      have step : L1_is_seats [some w.d, some (.tup (xs.map .int)), some (.int a), some (.int xs[i])] st = .nx [some w.d, some (.tup (xs.map .int)), some (.int xs[i]), some (.int xs[i])] st := by
        simp [L1_is_seats, mDef, sRet, sRetN, sSeq, sNil, sIf, sAsg, sExpr, sPar, sAug, sNo, mAnd, mOr, mNot, mIf, m2, m1, mChain, mFn, mCall, mMeth, aCons, aNil, mVar, mC, mB, tmAnd, tmOr, tmNot, mTup, mLst, mSl, pNone, pSome, R.bind, R.toS, RS.seq, noEx, gN, gSet, DL.gTup, gsCons, gsNil, bType, kindD, bLen, bAbs, bInt, bMax2, bMin2, bTuple, bList, itemsD, oAdd, oSub, oMul, oDiv, oMod, oPow, oNeg, oLt, oLe, oGt, oGe, oLtT, oIs, oIsNot, DL.isNon, oIx, oAddI, sAsg2, oMulI, mChain3, Web.d, b2, b3]
      refine ⟨_, _, _, _, rfl, step, _, _, rfl, rfl, fun x hx' => ?_⟩
      obtain ⟨j, hj, rfl⟩ := List.mem_iff_getElem.mp hx'
      rw [List.getElem_drop]
      exact List.pairwise_iff_getElem.mp h i (i + 1 + j) hi' (by rw [List.length_drop] at hj; omega) (by omega))
  have e0 := sFor_tup (m := mVar 1) (g := gN 3) (mb := L1_is_seats) (env := [some w.d, some (.tup (xs.map .int)), some (.int (-1)), none]) (st := st) (st1 := st) (xs := xs.map D.int) (by simp [mDef, sRet, sRetN, sSeq, sNil, sIf, sAsg, sExpr, sPar, sAug, sNo, mAnd, mOr, mNot, mIf, m2, m1, mChain, mFn, mCall, mMeth, aCons, aNil, mVar, mC, mB, tmAnd, tmOr, tmNot, mTup, mLst, mSl, pNone, pSome, R.bind, R.toS, RS.seq, noEx, gN, gSet, DL.gTup, gsCons, gsNil, bType, kindD, bLen, bAbs, bInt, bMax2, bMin2, bTuple, bList, itemsD, oAdd, oSub, oMul, oDiv, oMod, oPow, oNeg, oLt, oLe, oGt, oGe, oLtT, oIs, oIsNot, DL.isNon, oIx, oAddI, sAsg2, oMulI, mChain3]) e
  simp [f_is_seats, b_is_seats, mDef, sRet, sRetN, sSeq, sNil, sIf, sAsg, sExpr, sPar, sAug, sNo, mAnd, mOr, mNot, mIf, m2, m1, mChain, mFn, mCall, mMeth, aCons, aNil, mVar, mC, mB, tmAnd, tmOr, tmNot, mTup, mLst, mSl, pNone, pSome, R.bind, R.toS, RS.seq, noEx, gN, gSet, DL.gTup, gsCons, gsNil, bType, kindD, bLen, bAbs, bInt, bMax2, bMin2, bTuple, bList, itemsD, oAdd, oSub, oMul, oDiv, oMod, oPow, oNeg, oLt, oLe, oGt, oGe, oLtT, oIs, oIsNot, DL.isNon, oIx, oAddI, sAsg2, oMulI, mChain3, e0]
theorem need_seats_ok {xs : List Int} (hx : ∀ x : Int, x ∈ xs → 0 ≤ x ∧ x < (w.many : Int)) (h : xs.Pairwise (· < ·)) (st : Sto) : f_need_seats [w.d, .tup (xs.map .int)] st = .ok .non st := by
  have := seats_ok (w := w) hx h st
  simp [f_need_seats, b_need_seats, mDef, sRet, sRetN, sSeq, sNil, sIf, sAsg, sExpr, sPar, sAug, sNo, mAnd, mOr, mNot, mIf, m2, m1, mChain, mFn, mCall, mMeth, aCons, aNil, mVar, mC, mB, tmAnd, tmOr, tmNot, mTup, mLst, mSl, pNone, pSome, R.bind, R.toS, RS.seq, noEx, gN, gSet, DL.gTup, gsCons, gsNil, bType, kindD, bLen, bAbs, bInt, bMax2, bMin2, bTuple, bList, itemsD, oAdd, oSub, oMul, oDiv, oMod, oPow, oNeg, oLt, oLe, oGt, oGe, oLtT, oIs, oIsNot, DL.isNon, oIx, oAddI, sAsg2, oMulI, mChain3, this]
end
end Pr
set_option Elab.async false
set_option linter.all false
set_option maxRecDepth 10000
namespace DL
open PySem PySem.Spec PyProof.Rows L2
namespace Web
/-- who a seat meets along ties, in their order -/
def met (ts : List (Int × Int)) (s : Int) : List Int := (ts.filter fun p => decide (p.1 = s) || decide (p.2 = s)).map fun p => p.1 + p.2 - s
theorem met_nbrs : ∀ {ts : List (Int × Int)} {s : Int}, ts.Pairwise ltP → (∀ p ∈ ts, p.1 < p.2) → met ts s = ((ts.filter fun p => decide (p.2 = s)).map (·.1)) ++ ((ts.filter fun p => decide (p.1 = s)).map (·.2))
  | [], s, _, _ => rfl
  | p :: r, s, h, ht => by
    have hp := ht p List.mem_cons_self
    have ih := met_nbrs (ts := r) (s := s) (List.pairwise_cons.mp h).2 fun q hq => ht q (List.mem_cons_of_mem _ hq)
    unfold met at ih ⊢
    by_cases a : p.2 = s
    · have b : ¬ p.1 = s := by omega
      rw [List.filter_cons_of_pos (by simp [a]), List.filter_cons_of_pos (by simp [a]), List.filter_cons_of_neg (by simp [b]), List.map_cons, List.map_cons, ih]
      have e : p.1 + p.2 - s = p.1 := by omega
      rw [e]; rfl
    · by_cases b : p.1 = s
      · have none : (r.filter fun p => decide (p.2 = s)) = [] := by
          rw [List.filter_eq_nil_iff]
          intro q hq
          have := (List.pairwise_cons.mp h).1 q hq
          have := ht q (List.mem_cons_of_mem _ hq)
          unfold ltP at *
          simp; omega
        rw [none, List.map_nil, List.nil_append] at ih
        rw [List.filter_cons_of_pos (by simp [b]), List.filter_cons_of_neg (by simp [a]), List.filter_cons_of_pos (by simp [b]), none, List.map_cons, List.map_cons, ih]
        have e : p.1 + p.2 - s = p.2 := by omega
        rw [e]; rfl
      · rw [List.filter_cons_of_neg (by simp [a, b]), List.filter_cons_of_neg (by simp [a]), List.filter_cons_of_neg (by simp [b]), ih]
theorem Ok.met {w : Web} (k : w.Ok) (s : Int) : Web.met w.ties s = w.nbrs s := met_nbrs k.rise fun p hp => (k.tie p hp).2.1
end Web
def tieOf : D → Int × Int
  | .tup [.int a, .int b] => (a, b)
  | _ => (0, 0)
@[simp] theorem tieOf_mkP (p : Int × Int) : tieOf (mkP p) = p := rfl
end DL
namespace Pr
open PySem PySem.Spec PyProof.Rows L2 DL
section
variable {w : Web}
theorem beside_ok (hw : w.Ok) (hl : w.ties.length < 1000) (s : Int) (st : Sto) : ∃ st', f_beside [w.d, .int s] st = .ok (.tup ((w.nbrs s).map .int)) st' ∧ Gr st st' := by
  have hz : (1000 : Nat) < sizeLine := by decide
  have q1 : ∀ st : Sto, m2 oIx (mVar 0) (mC (.int 1)) [some w.d, some (.int s), none, none] st = .ok (.tup (w.ties.map mkP)) st := fun st => by simp [mDef, sRet, sRetN, sSeq, sNil, sIf, sAsg, sExpr, sPar, sAug, sNo, mAnd, mOr, mNot, mIf, m2, m1, mChain, mFn, mCall, mMeth, aCons, aNil, mVar, mC, mB, tmAnd, tmOr, tmNot, mTup, mLst, mSl, pNone, pSome, R.bind, R.toS, RS.seq, noEx, gN, gSet, DL.gTup, gsCons, gsNil, bType, kindD, bLen, bAbs, bInt, bMax2, bMin2, bTuple, bList, itemsD, oAdd, oSub, oMul, oDiv, oMod, oPow, oNeg, oLt, oLe, oGt, oGe, oLtT, oIs, oIsNot, DL.isNon, oIx, oAddI, sAsg2, oMulI, mChain3, Web.d]
  obtain ⟨st1, e1, g1⟩ := mLc_pure (mi := DL.iVal (m2 oIx (mVar 0) (mC (.int 1)))) (g := DL.gTup (gsCons (gN 2) (gsCons (gN 3) gsNil)) 2) (mt := C1_beside) (me := E1_beside) (vs := [2, 3])
    (env := [some w.d, some (.int s), none, none]) (st := st) (st1 := st) (ds := w.ties.map mkP) (gd := none) (fun d => decide ((tieOf d).1 = s) || decide ((tieOf d).2 = s)) (fun d => .int ((tieOf d).1 + (tieOf d).2 - s)) (by simp [iVal, q1, R.bind]) trivial (by simp; omega) (by
      intro d hd st1 g1
      obtain ⟨p, hp, rfl⟩ := List.mem_map.mp hd
      refine ⟨[some w.d, some (.int s), some (.int p.1), some (.int p.2)], rfl, st1, ?_, List.prefix_refl _, fun _ => ⟨st1, by simp [E1_beside, mDef, sRet, sRetN, sSeq, sNil, sIf, sAsg, sExpr, sPar, sAug, sNo, mAnd, mOr, mNot, mIf, m2, m1, mChain, mFn, mCall, mMeth, aCons, aNil, mVar, mC, mB, tmAnd, tmOr, tmNot, mTup, mLst, mSl, pNone, pSome, R.bind, R.toS, RS.seq, noEx, gN, gSet, DL.gTup, gsCons, gsNil, bType, kindD, bLen, bAbs, bInt, bMax2, bMin2, bTuple, bList, itemsD, oAdd, oSub, oMul, oDiv, oMod, oPow, oNeg, oLt, oLe, oGt, oGe, oLtT, oIs, oIsNot, DL.isNon, oIx, oAddI, sAsg2, oMulI, mChain3], List.prefix_refl _⟩⟩
      by_cases a : p.1 = s
      · simp [C1_beside, mDef, sRet, sRetN, sSeq, sNil, sIf, sAsg, sExpr, sPar, sAug, sNo, mAnd, mOr, mNot, mIf, m2, m1, mChain, mFn, mCall, mMeth, aCons, aNil, mVar, mC, mB, tmAnd, tmOr, tmNot, mTup, mLst, mSl, pNone, pSome, R.bind, R.toS, RS.seq, noEx, gN, gSet, DL.gTup, gsCons, gsNil, bType, kindD, bLen, bAbs, bInt, bMax2, bMin2, bTuple, bList, itemsD, oAdd, oSub, oMul, oDiv, oMod, oPow, oNeg, oLt, oLe, oGt, oGe, oLtT, oIs, oIsNot, DL.isNon, oIx, oAddI, sAsg2, oMulI, mChain3, a]
      · simp [C1_beside, mDef, sRet, sRetN, sSeq, sNil, sIf, sAsg, sExpr, sPar, sAug, sNo, mAnd, mOr, mNot, mIf, m2, m1, mChain, mFn, mCall, mMeth, aCons, aNil, mVar, mC, mB, tmAnd, tmOr, tmNot, mTup, mLst, mSl, pNone, pSome, R.bind, R.toS, RS.seq, noEx, gN, gSet, DL.gTup, gsCons, gsNil, bType, kindD, bLen, bAbs, bInt, bMax2, bMin2, bTuple, bList, itemsD, oAdd, oSub, oMul, oDiv, oMod, oPow, oNeg, oLt, oLe, oGt, oGe, oLtT, oIs, oIsNot, DL.isNon, oIx, oAddI, sAsg2, oMulI, mChain3, a] <;> try exact decide_eq_decide.mpr Iff.rfl)
  have f1 : (((w.ties.map mkP).filter fun d => decide ((tieOf d).1 = s) || decide ((tieOf d).2 = s)).map fun d => D.int ((tieOf d).1 + (tieOf d).2 - s)) = (w.nbrs s).map .int := by
    rw [← hw.met, List.filter_map, List.map_map]
    unfold Web.met
    rw [List.map_map]; rfl
  rw [f1] at g1
  have r1 := rdL_of_new g1
  refine ⟨st1, ?_, (List.prefix_append _ _).trans g1⟩
  unfold f_beside mDef b_beside
  simp only [sRet, mFn, aCons, aNil, List.map_cons, List.map_nil, List.length_cons, List.length_nil, List.replicate, List.cons_append, List.nil_append, Nat.reduceSub, Nat.reduceAdd, e1, R.bind, bTuple, itemsD, r1, noEx, R.toS]
theorem neighbours_ok (hw : w.Ok) (hl : w.ties.length < 1000) {s : Int} (h0 : 0 ≤ s) (h1 : s < w.many) (st : Sto) : ∃ st', f_neighbours [w.d, .int s] st = .ok (.tup ((w.nbrs s).map .int)) st' ∧ Gr st st' := by
  obtain ⟨st2, e2, g2⟩ := beside_ok hw hl s st
  exact ⟨st2, by simp [f_neighbours, b_neighbours, mDef, sRet, sRetN, sSeq, sNil, sIf, sAsg, sExpr, sPar, sAug, sNo, mAnd, mOr, mNot, mIf, m2, m1, mChain, mFn, mCall, mMeth, aCons, aNil, mVar, mC, mB, tmAnd, tmOr, tmNot, mTup, mLst, mSl, pNone, pSome, R.bind, R.toS, RS.seq, noEx, gN, gSet, DL.gTup, gsCons, gsNil, bType, kindD, bLen, bAbs, bInt, bMax2, bMin2, bTuple, bList, itemsD, oAdd, oSub, oMul, oDiv, oMod, oPow, oNeg, oLt, oLe, oGt, oGe, oLtT, oIs, oIsNot, DL.isNon, oIx, oAddI, sAsg2, oMulI, mChain3, need_web_ok hw st, need_seat_ok h0 h1 st, e2], g2⟩
/-! ### all neighbours at once -/
def refs (L n : Nat) : List D := (List.range n).map fun i => D.ref (L + 1 + i)
def nearS (L : Nat) (w : Web) (ts : List (Int × Int)) : Sto := Cl.lst (refs L w.many) :: (List.range w.many).map fun i : Nat => Cl.lst ((Web.met ts (i : Int)).map D.int)
theorem map_set {β : Type} (f : Nat → β) (n k : Nat) (v : β) : ((List.range n).map f).set k v = (List.range n).map fun j => if j = k then v else f j := by
  refine List.ext_getElem? fun i => ?_
  by_cases hi : i = k
  · subst hi
    by_cases hn : i < n
    · rw [List.getElem?_set_self (by simpa using hn)]
      simp [hn]
    · rw [List.getElem?_eq_none (by simp; omega), List.getElem?_eq_none (by simp; omega)]
  · rw [List.getElem?_set_ne (Ne.symm hi)]
    by_cases hn : i < n
    · simp [hn, hi]
    · rw [List.getElem?_eq_none (by simp; omega), List.getElem?_eq_none (by simp; omega)]
theorem near_get {st : Sto} {L : Nat} (hL : L = st.length) {ts : List (Int × Int)} {i : Nat} (h : i < w.many) : rdW (st ++ nearS L w ts) (L + 1 + i) = some ((Web.met ts (i : Int)).map D.int) := by
  rw [rdW_iff, List.getElem?_append_right (by omega)]
  have : L + 1 + i - st.length = i + 1 := by omega
  rw [this]
  simp [nearS, h]
theorem near_refs {st : Sto} {L : Nat} (hL : L = st.length) {ts : List (Int × Int)} : rdW (st ++ nearS L w ts) L = some (refs L w.many) := by
  rw [rdW_iff, List.getElem?_append_right (by omega)]
  have : L - st.length = 0 := by omega
  rw [this]
  rfl
theorem refs_at {L n : Nat} {s : Int} (h0 : 0 ≤ s) (h1 : s < n) : L2.atI (refs L n) s = some (.ref (L + 1 + s.toNat)) := by
  obtain ⟨k, rfl⟩ : ∃ k : Nat, s = k := ⟨s.toNat, by omega⟩
  have : k < n := by omega
  exact atI_at (by simp [refs, this])
theorem tie_met {st : Sto} {L : Nat} (hL : L = st.length) {ts : List (Int × Int)} {x y : Int} (h0 : 0 ≤ x) (hxy : x < y) (hy : y < w.many) (hl : ts.length < 1000) {q2 : Option D} :
    L1_all_beside [some w.d, some (.ref L), q2, some (.int x), some (.int y)] (st ++ nearS L w ts) = .nx [some w.d, some (.ref L), q2, some (.int x), some (.int y)] (st ++ nearS L w (ts ++ [(x, y)])) := by
  have hz : (1000 : Nat) < sizeLine := by decide
  have ml : ∀ s, (Web.met ts s).length < sizeLine := fun s => by
    unfold Web.met
    rw [List.length_map]
    have := List.length_filter_le (fun p : Int × Int => decide (p.1 = s) || decide (p.2 = s)) ts
    omega
  obtain ⟨a, rfl⟩ : ∃ a : Nat, x = a := ⟨x.toNat, by omega⟩
  obtain ⟨b, rfl⟩ : ∃ b : Nat, y = b := ⟨y.toNat, by omega⟩
  have r0 := near_refs (w := w) hL (ts := ts)
  have ra := refs_at (L := L) (n := w.many) (s := (a : Int)) (by omega) (by omega)
  have rb := refs_at (L := L) (n := w.many) (s := (b : Int)) (by omega) (by omega)
  rw [Int.toNat_natCast] at ra rb
  have wa := near_get (w := w) hL (ts := ts) (i := a) (by omega)
  have wb := near_get (w := w) hL (ts := ts) (i := b) (by omega)
  have r0' := rdL_W r0
  have wa' := rdL_W wa
  have hb2 : rdW ((st ++ nearS L w ts).set (L + 1 + a) (.lst ((Web.met ts (a : Int)).map D.int ++ [.int (b : Nat)]))) (L + 1 + b) = some ((Web.met ts (b : Int)).map D.int) := rdW_setne (by omega) wb
  have r02 : rdL ((st ++ nearS L w ts).set (L + 1 + a) (.lst ((Web.met ts (a : Int)).map D.int ++ [.int (b : Nat)]))) L = some (refs L w.many) := rdL_W (rdW_setne (by omega) r0)
  have fin : ((st ++ nearS L w ts).set (L + 1 + a) (.lst ((Web.met ts (a : Int)).map D.int ++ [.int (b : Nat)]))).set (L + 1 + b) (.lst ((Web.met ts (b : Int)).map D.int ++ [.int (a : Nat)])) = st ++ nearS L w (ts ++ [((a : Int), (b : Int))]) := by
    rw [List.set_append_right _ _ (by omega), List.set_append_right _ _ (by omega)]
    congr 1
    have e1 : L + 1 + a - st.length = a + 1 := by omega
    have e2 : L + 1 + b - st.length = b + 1 := by omega
    rw [e1, e2]
    unfold nearS
    rw [List.set_cons_succ, List.set_cons_succ, map_set, map_set]
    congr 1
    refine List.map_congr_left fun i hi => ?_
    unfold Web.met
    by_cases q1 : i = b
    · subst q1
      have n1 : ¬ (a : Int) = (i : Int) := by omega
      have e3 : (a : Int) + (i : Int) - (i : Int) = a := by omega
      simp [List.filter_append, n1, e3]
    · by_cases q2 : i = a
      · subst q2
        have e3 : (i : Int) + (b : Int) - (i : Int) = b := by omega
        simp [List.filter_append, q1, e3]
      · have n1 : ¬ (a : Int) = (i : Int) := by omega
        have n2 : ¬ (b : Int) = (i : Int) := by omega
        simp [List.filter_append, q1, q2, n1, n2]
  have la := ml (a : Int)
  have lb := ml (b : Int)
  unfold L1_all_beside
  simp only [sSeq, sExpr, mMeth, m2, mVar, aCons, aNil, R.bind, R.toS, RS.seq, noEx, List.getElem?_cons_zero, List.getElem?_cons_succ, oIx, r0', ra, wa', fAppend, wa, List.length_map, la, if_true]
  simp only [r02, rb, rdL_W hb2, R.bind, noEx, fAppend, hb2, List.length_map, lb, if_true, fin]
theorem all_beside_ok (hw : w.Ok) (hl : w.ties.length < 1000) (st : Sto) : f_all_beside [w.d] st = .ok (.ref st.length) (st ++ nearS st.length w w.ties) := by
  have hz : (1000 : Nat) < sizeLine := by decide
  have z0 : 0 ≤ sizeLine := Nat.zero_le _
  have hi := hw.hi
  have hm : Mid (w.many : Int) := by unfold Mid; omega
  -- the empty rows
  obtain ⟨acc, st1, e1, rfl, rfl⟩ := loopC_ok (ds := rngD 0 w.many) (gd := none) (g := gN 2) (mt := mYes) (me := E1_all_beside) (env0 := [some w.d, none, none, none, none]) (r0 := st.length) (st := st ++ [Cl.lst []])
    (fun i acc st' => acc = (List.range i).map (fun j => D.ref (st.length + 1 + j)) ∧ st' = st ++ .lst acc :: List.replicate i (Cl.lst [])) ⟨rfl, rfl⟩ (by
      rintro i acc st' ⟨rfl, rfl⟩
      exact ⟨rdW_newG _ _ _, by simp⟩) (by rw [rngD_len]; omega) (fun _ _ _ _ _ => trivial) (by
      rintro i acc st' hi' ⟨rfl, rfl⟩
      rw [rngD_get hi']
      refine ⟨[some w.d, none, some (.int (i : Nat)), none, none], _, rfl, .inr ⟨_, .ref (st.length + 1 + i), st ++ .lst ((List.range i).map (fun j => D.ref (st.length + 1 + j))) :: List.replicate (i + 1) (Cl.lst []), rfl, ?_, rdW_newG _ _ _, ?_, ?_⟩⟩
      · simp only [E1_all_beside, mLst, aNil, R.bind, List.length_nil, z0, if_true, List.length_append, List.length_cons, List.length_replicate, List.append_assoc, List.cons_append, ← List.replicate_succ']
        congr 2
        omega
      · rw [List.range_succ, List.map_append]; rfl
      · rw [List.set_append_right _ _ (Nat.le_refl _), Nat.sub_self, List.set_cons_zero])
  rw [rngD_len] at e1
  have e0 : mLc (DL.iRng1 (aCons (m2 oIx (mVar 0) (mC (.int 0))) aNil)) (gN 2) mYes E1_all_beside [2] [some w.d, none, none, none, none] st = .ok (.ref st.length) (st ++ nearS st.length w []) := by
    have ei : DL.iRng1 (aCons (m2 oIx (mVar 0) (mC (.int 0))) aNil) [some w.d, none, none, none, none] st = .ok (rngD 0 w.many, none) st := iRng1_nat (by simp only [aCons, aNil, m2, mVar, mC, R.bind, noEx, ixw0, List.getElem?_cons_zero]) hm
    simp only [mLc, ei, R.bind, wipeE, List.set_cons_zero, List.set_cons_succ]
    rw [e1]
    unfold nearS refs
    congr 3
    refine List.ext_getElem? fun i => ?_
    by_cases q : i < w.many
    · simp [q, Web.met]
    · rw [List.getElem?_eq_none (by simp; omega), List.getElem?_eq_none (by simp; omega)]
  obtain ⟨env', st', e2, q2, q3, q4, rfl, rfl⟩ := loopS_ok (ds := w.ties.map mkP) (gd := none) (g := DL.gTup (gsCons (gN 3) (gsCons (gN 4) gsNil)) 2) (mb := L1_all_beside) (env := [some w.d, some (.ref st.length), none, none, none]) (st := st ++ nearS st.length w [])
    (fun i env st' => ∃ (q2 q3 q4 : Option D), env = [some w.d, some (.ref st.length), q2, q3, q4] ∧ st ++ nearS st.length w (w.ties.take i) = st') ⟨none, none, none, rfl, rfl⟩ (fun _ _ _ _ _ => trivial) (by
      rintro i env st' hi' ⟨q2, q3, q4, rfl, rfl⟩
      have hi2 : i < w.ties.length := by simpa using hi'
      rw [List.getElem_map]
      have t := hw.tie w.ties[i] (List.getElem_mem hi2)
      have e3 := tie_met (w := w) (st := st) rfl (ts := w.ties.take i) (x := w.ties[i].1) (y := w.ties[i].2) t.1 t.2.1 t.2.2 (by rw [List.length_take]; omega) (q2 := q2)
      exact ⟨_, _, _, _, rfl, e3, _, _, _, rfl, by rw [List.take_add_one, List.getElem?_eq_getElem hi2]; rfl⟩)
  rw [List.length_map, List.take_length] at e2
  have e4 := sFor_tup (m := m2 oIx (mVar 0) (mC (.int 1))) (g := DL.gTup (gsCons (gN 3) (gsCons (gN 4) gsNil)) 2) (mb := L1_all_beside) (env := [some w.d, some (.ref st.length), none, none, none]) (st := st ++ nearS st.length w []) (st1 := st ++ nearS st.length w []) (xs := w.ties.map mkP) (by simp only [m2, mVar, mC, R.bind, noEx, ixw1, List.getElem?_cons_zero]) e2
  unfold f_all_beside mDef b_all_beside
  simp only [sSeq, sAsg, List.map_cons, List.map_nil, List.length_cons, List.length_nil, List.replicate, List.cons_append, List.nil_append, Nat.reduceSub, Nat.reduceAdd, e0, R.toS, RS.seq, gN, List.set_cons_zero, List.set_cons_succ] at e4 ⊢
  simp only [e4, sRet, mVar, R.toS, List.getElem?_cons_zero, List.getElem?_cons_succ]
end
end Pr
set_option Elab.async false
set_option linter.all false
set_option maxRecDepth 10000
namespace Pr
open PySem PySem.Spec PyProof.Rows L2 DL
def dO : Option Nat → D
  | none => .non
  | some k => .int k
def tab (n : Nat) (L : Int → Option Nat) : List D := (List.range n).map fun i => dO (L (i : Nat))
@[simp] theorem tab_len (n : Nat) (L : Int → Option Nat) : (tab n L).length = n := by simp [tab]
theorem tab_ix {n : Nat} {s : Int} (h0 : 0 ≤ s) (h1 : s < n) : ixN n s = some s.toNat := by
  unfold ixN; rw [if_pos h0, if_pos h1]
theorem tab_at {n : Nat} {L : Int → Option Nat} {s : Int} (h0 : 0 ≤ s) (h1 : s < n) : L2.atI (tab n L) s = some (dO (L s)) := by
  unfold L2.atI
  rw [tab_len, tab_ix h0 h1]
  have : s.toNat < n := by omega
  simp [tab, this, Int.toNat_of_nonneg h0]
theorem tab_set {n : Nat} {L : Int → Option Nat} {s : Int} {v : Nat} (h0 : 0 ≤ s) (h1 : s < n) : (tab n L).set s.toNat (.int v) = tab n (fun x => if x = s then some v else L x) := by
  refine List.ext_getElem? fun i => ?_
  have hs : s.toNat < n := by omega
  by_cases hi : i = s.toNat
  · subst hi
    rw [List.getElem?_set_self (by simpa using hs)]
    simp [tab, hs, Int.toNat_of_nonneg h0, dO]
  · rw [List.getElem?_set_ne (Ne.symm hi)]
    by_cases hn : i < n
    · have : ¬ ((i : Nat) : Int) = s := fun e => hi (by omega)
      simp [tab, hn, this]
    · simp [tab, hn]
theorem tab_congr {n : Nat} {L M : Int → Option Nat} (h : ∀ s : Int, 0 ≤ s → s < n → L s = M s) : tab n L = tab n M := by
  unfold tab
  refine List.map_congr_left fun i hi => ?_
  rw [List.mem_range] at hi
  rw [h i (by omega) (by omega)]
theorem len_le : ∀ {n : Nat} {l : List Int}, l.Nodup → (∀ x ∈ l, 0 ≤ x ∧ x < (n : Int)) → l.length ≤ n
  | 0, l, _, h => by
    cases l with
    | nil => exact Nat.le_refl _
    | cons a r => have := h a List.mem_cons_self; omega
  | n + 1, l, nd, h => by
    by_cases q : (n : Int) ∈ l
    · have := len_le (n := n) (l := l.erase (n : Int)) (nd.erase _) fun x hx => by
        rw [nd.mem_erase_iff] at hx
        have := h x hx.2
        have := hx.1
        omega
      rw [List.length_erase_of_mem q] at this
      omega
    · have := len_le (n := n) (l := l) nd fun x hx => by
        have := h x hx
        have : x ≠ n := fun e => q (e ▸ hx)
        omega
      omega
section
variable {w : Web} {S : Int → Prop}
/-- what stands while steps are told -/
structure Qs (w : Web) (st0 : Sto) (t nr r : Nat) (Z : List Int) (L : Int → Option Nat) (st : Sto) : Prop where
  gr : Gr st0 st
  told : rdW st t = some (tab w.many L)
  refs : rdL st nr = some (refs nr w.many)
  near : ∀ s : Int, 0 ≤ s → s < w.many → rdL st (nr + 1 + s.toNat) = some ((w.nbrs s).map D.int)
  row : rdW st r = some (Z.map D.int)
structure Pl (w : Web) (st0 : Sto) (t nr r : Nat) : Prop where
  t0 : st0.length ≤ t
  tn : t < nr
  nr : r = nr + 1 + w.many
theorem rdL_setne {st : Sto} {r q : Nat} {xs : List D} {c : Cl} (n : r ≠ q) (h : rdL st r = some xs) : rdL (st.set q c) r = some xs := by
  rw [rdL_of (List.getElem?_set_ne (Ne.symm n))]; exact h
theorem Qs.setT {st0 st : Sto} {t nr r : Nat} {Z : List Int} {L L' : Int → Option Nat} (h : Qs w st0 t nr r Z L st) (p : Pl w st0 t nr r) : Qs w st0 t nr r Z L' (st.set t (.lst (tab w.many L'))) := by
  have h1 := p.t0; have h2 := p.tn; have h3 := p.nr
  exact ⟨Gr.beyond h.gr h1, rdW_set h.told, rdL_setne (by omega) h.refs, fun s a b => rdL_setne (by omega) (h.near s a b), rdW_setne (by omega) h.row⟩
theorem Qs.setR {st0 st : Sto} {t nr r : Nat} {Z Z' : List Int} {L : Int → Option Nat} (h : Qs w st0 t nr r Z L st) (p : Pl w st0 t nr r) : Qs w st0 t nr r Z' L (st.set r (.lst (Z'.map D.int))) := by
  have h1 := p.t0; have h2 := p.tn; have h3 := p.nr
  exact ⟨Gr.beyond h.gr (by omega), rdW_setne (by omega) h.told, rdL_setne (by omega) h.refs, fun s a b => rdL_setne (by omega) (h.near s a b), rdW_set h.row⟩
theorem other_turn (ok : w.Ok) {st0 st : Sto} {t nr r at' : Nat} {Z : List Int} {L : Int → Option Nat} (p : Pl w st0 t nr r) (Q : Qs w st0 t nr r Z L st) (B : Web.Bfs w S Z at' L) {u y : Int} (eu : Z[at']? = some u) (a : w.adj u y) {q1 q7 : Option D} :
    ∃ (Z' : List Int) (L' : Int → Option Nat) (st' : Sto), L2_steps_from [some w.d, q1, some (.int w.many), some (.ref t), some (.int u), some (.ref nr), some (.ref r), q7, some (.int y)] st = .nx [some w.d, q1, some (.int w.many), some (.ref t), some (.int u), some (.ref nr), some (.ref r), q7, some (.int y)] st' ∧
      Qs w st0 t nr r Z' L' st' ∧ Web.Bfs w S Z' at' L' ∧ Z'[at']? = some u ∧ y ∈ Z' ∧ ∀ x ∈ Z, x ∈ Z' := by
  have hz : (1000 : Nat) < sizeLine := by decide
  have rg := ok.adj_rng a
  have hi := ok.hi
  have mu : u ∈ Z := List.mem_of_getElem? eu
  obtain ⟨d, du, lu⟩ := B.val u mu
  have ay := tab_at (L := L) rg.2.1.1 rg.2.1.2
  have au := tab_at (L := L) rg.1.1 rg.1.2
  rw [lu] at au
  have told' := rdL_W Q.told
  have row' := rdL_W Q.row
  by_cases n : y ∈ Z
  · obtain ⟨k, _, ly⟩ := B.val y n
    rw [ly] at ay
    refine ⟨Z, L, st, ?_, Q, B, eu, n, fun x hx => hx⟩
    simp [L2_steps_from, mDef, sRet, sRetN, sSeq, sNil, sIf, sAsg, sExpr, sPar, sAug, sNo, mAnd, mOr, mNot, mIf, m2, m1, mChain, mFn, mCall, mMeth, aCons, aNil, mVar, mC, mB, tmAnd, tmOr, tmNot, mTup, mLst, mSl, pNone, pSome, R.bind, R.toS, RS.seq, noEx, gN, gSet, DL.gTup, gsCons, gsNil, bType, kindD, bLen, bAbs, bInt, bMax2, bMin2, bTuple, bList, itemsD, oAdd, oSub, oMul, oDiv, oMod, oPow, oNeg, oLt, oLe, oGt, oGe, oLtT, oIs, oIsNot, DL.isNon, oIx, oAddI, sAsg2, oMulI, mChain3, told', ay, dO]
  · have ly := B.out y n
    rw [ly] at ay
    have ts := tab_set (L := L) (v := d + 1) rg.2.1.1 rg.2.1.2
    have ix := tab_ix (n := w.many) rg.2.1.1 rg.2.1.2
    have Q1 := Q.setT (L' := fun x => if x = y then some (d + 1) else L x) p
    have Q2 := Q1.setR (Z' := Z ++ [y]) p
    have ll : Z.length < sizeLine := by
      have := len_le B.nd (fun x hx => B.rng x hx)
      omega
    have row1 := rdL_W Q1.row
    refine ⟨Z ++ [y], _, _, ?_, Q2, B.add ok eu du a n, ?_, by simp, fun x hx => List.mem_append_left _ hx⟩
    · have w1 := Q1.row
      rw [← ts, Int.natCast_add] at w1 row1 ⊢
      simp [L2_steps_from, mDef, sRet, sRetN, sSeq, sNil, sIf, sAsg, sExpr, sPar, sAug, sNo, mAnd, mOr, mNot, mIf, m2, m1, mChain, mFn, mCall, mMeth, aCons, aNil, mVar, mC, mB, tmAnd, tmOr, tmNot, mTup, mLst, mSl, pNone, pSome, R.bind, R.toS, RS.seq, noEx, gN, gSet, DL.gTup, gsCons, gsNil, bType, kindD, bLen, bAbs, bInt, bMax2, bMin2, bTuple, bList, itemsD, oAdd, oSub, oMul, oDiv, oMod, oPow, oNeg, oLt, oLe, oGt, oGe, oLtT, oIs, oIsNot, DL.isNon, oIx, oAddI, sAsg2, oMulI, mChain3, told', ay, au, dO, Q.told, ix] at w1 row1 ⊢
      simp [w1, row1, fAppend, mMeth, sExpr, mDef, sRet, sRetN, sSeq, sNil, sIf, sAsg, sExpr, sPar, sAug, sNo, mAnd, mOr, mNot, mIf, m2, m1, mChain, mFn, mCall, mMeth, aCons, aNil, mVar, mC, mB, tmAnd, tmOr, tmNot, mTup, mLst, mSl, pNone, pSome, R.bind, R.toS, RS.seq, noEx, gN, gSet, DL.gTup, gsCons, gsNil, bType, kindD, bLen, bAbs, bInt, bMax2, bMin2, bTuple, bList, itemsD, oAdd, oSub, oMul, oDiv, oMod, oPow, oNeg, oLt, oLe, oGt, oGe, oLtT, oIs, oIsNot, DL.isNon, oIx, oAddI, sAsg2, oMulI, mChain3, ll]
    · have := (List.getElem?_eq_some_iff.mp eu).1
      rw [List.getElem?_append_left this, eu]
end
end Pr
set_option Elab.async false
set_option linter.all false
set_option maxRecDepth 10000
namespace Pr
open PySem PySem.Spec PyProof.Rows L2 DL
section
variable {w : Web} {S : Int → Prop}
theorem seat_turn (ok : w.Ok) {st0 st : Sto} {t nr r at' : Nat} {Z : List Int} {L : Int → Option Nat} (p : Pl w st0 t nr r) (Q : Qs w st0 t nr r Z L st) (B : Web.Bfs w S Z at' L) (ha : at' < Z.length) {q1 q4 q8 : Option D} :
    ∃ (Z' : List Int) (L' : Int → Option Nat) (st' : Sto) (p4 p8 : Option D), L3_steps_from [some w.d, q1, some (.int w.many), some (.ref t), q4, some (.ref nr), some (.ref r), some (.int (at' : Nat)), q8] st = .nx [some w.d, q1, some (.int w.many), some (.ref t), p4, some (.ref nr), some (.ref r), some (.int ((at' + 1 : Nat) : Int)), p8] st' ∧
      Qs w st0 t nr r Z' L' st' ∧ Web.Bfs w S Z' (at' + 1) L' ∧ at' < Z'.length := by
  have hi := ok.hi
  obtain ⟨u, hu⟩ : ∃ u, u = Z[at'] := ⟨_, rfl⟩
  have eu : Z[at']? = some u := by rw [List.getElem?_eq_getElem ha, hu]
  have mu : u ∈ Z := List.mem_of_getElem? eu
  have ru := B.rng u mu
  have nb := Q.near u ru.1 ru.2
  have au : L2.atI (Z.map D.int) (at' : Int) = some (.int u) := atI_at (by rw [List.getElem?_map, eu]; rfl)
  have ar := refs_at (L := nr) ru.1 ru.2
  obtain ⟨env', st', e, Z', L', q8', rfl, Q', B', eu', hall⟩ := loopS_ok (ds := (w.nbrs u).map D.int) (gd := some (nr + 1 + u.toNat)) (g := gN 8) (mb := L2_steps_from) (env := [some w.d, q1, some (.int w.many), some (.ref t), some (.int u), some (.ref nr), some (.ref r), some (.int ((at' + 1 : Nat) : Int)), q8]) (st := st)
    (fun i env st' => ∃ (Z' : List Int) (L' : Int → Option Nat) (q8 : Option D), env = [some w.d, q1, some (.int w.many), some (.ref t), some (.int u), some (.ref nr), some (.ref r), some (.int ((at' + 1 : Nat) : Int)), q8] ∧ Qs w st0 t nr r Z' L' st' ∧ Web.Bfs w S Z' at' L' ∧ Z'[at']? = some u ∧ ∀ y ∈ (w.nbrs u).take i, y ∈ Z')
    ⟨Z, L, q8, rfl, Q, B, eu, fun y hy => (by simp at hy)⟩ (by
      rintro i env st' hi' ⟨_, _, _, _, Q', _⟩
      exact Q'.near u ru.1 ru.2) (by
      rintro i env st' hi' ⟨Z', L', q8', rfl, Q', B', eu', hall⟩
      have hi2 : i < (w.nbrs u).length := by simpa using hi'
      rw [List.getElem_map]
      have a : w.adj u (w.nbrs u)[i] := Web.mem_nbrs.mp (List.getElem_mem hi2)
      obtain ⟨Z2, L2', st2, e2, Q2, B2, eu2, my, keep⟩ := other_turn ok p Q' B' eu' a (q1 := q1) (q7 := some (.int ((at' + 1 : Nat) : Int)))
      refine ⟨_, _, _, _, rfl, e2, Z2, L2', _, rfl, Q2, B2, eu2, fun y hy => ?_⟩
      rw [List.take_add_one, List.getElem?_eq_getElem hi2] at hy
      rcases List.mem_append.mp hy with q | q
      · exact keep y (hall y q)
      · have : y = (w.nbrs u)[i] := by simpa using q
        rw [this]; exact my)
  rw [List.length_map, List.take_length] at hall
  refine ⟨Z', L', st', some (.int u), q8', ?_, Q', B'.step eu' (fun y a => hall y (Web.mem_nbrs.mpr a)), (List.getElem?_eq_some_iff.mp eu').1⟩
  have row' := rdL_W Q.row
  have refs' := Q.refs
  have e0 := sFor_lst (m := m2 oIx (mVar 5) (mVar 4)) (g := gN 8) (mb := L2_steps_from) (env := [some w.d, q1, some (.int w.many), some (.ref t), some (.int u), some (.ref nr), some (.ref r), some (.int ((at' + 1 : Nat) : Int)), q8]) (st := st) (st1 := st) (r := nr + 1 + u.toNat) (by
    simp only [m2, mVar, R.bind, noEx, List.getElem?_cons_zero, List.getElem?_cons_succ, oIx, refs', ar]) nb e
  unfold L3_steps_from
  simp only [sSeq, sAsg, sAug, m2, mVar, mC, R.bind, R.toS, RS.seq, noEx, gN, List.getElem?_cons_zero, List.getElem?_cons_succ, List.set_cons_zero, List.set_cons_succ, oIx, row', au, oAddI]
  rw [Int.natCast_add] at e0 ⊢
  exact e0
theorem while_ok (ok : w.Ok) {st0 : Sto} {t nr r : Nat} (p : Pl w st0 t nr r) {q1 : Option D} : ∀ (m at' : Nat) (Z : List Int) (L : Int → Option Nat) (st : Sto) (q4 q8 : Option D), Qs w st0 t nr r Z L st → Web.Bfs w S Z at' L → 13 ≤ m + at' → at' ≤ Z.length → 1 ≤ m →
    ∃ (Z' : List Int) (L' : Int → Option Nat) (at2 : Nat) (st' : Sto) (p4 p7 p8 : Option D), loopW T1_steps_from L3_steps_from m [some w.d, q1, some (.int w.many), some (.ref t), q4, some (.ref nr), some (.ref r), some (.int (at' : Nat)), q8] st = .nx [some w.d, q1, some (.int w.many), some (.ref t), p4, some (.ref nr), some (.ref r), p7, p8] st' ∧
      Qs w st0 t nr r Z' L' st' ∧ Web.Bfs w S Z' at2 L' ∧ (Z'.length ≤ at2 ∨ w.many ≤ Z'.length)
  | 0, at', Z, L, st, q4, q8, Q, B, hm, hle, h1 => by omega
  | m + 1, at', Z, L, st, q4, q8, Q, B, hm, hle, h1 => by
    have hi := ok.hi
    have zl := len_le B.nd (fun x hx => B.rng x hx)
    have row' := rdL_W Q.row
    by_cases c1 : at' < Z.length
    · by_cases c2 : Z.length < w.many
      · have c : T1_steps_from [some w.d, q1, some (.int w.many), some (.ref t), q4, some (.ref nr), some (.ref r), some (.int (at' : Nat)), q8] st = .ok true st := by
          have d1 : (at' : Int) < (Z.length : Int) := by omega
          have d2 : (Z.length : Int) < (w.many : Int) := by omega
          simp [T1_steps_from, mDef, sRet, sRetN, sSeq, sNil, sIf, sAsg, sExpr, sPar, sAug, sNo, mAnd, mOr, mNot, mIf, m2, m1, mChain, mFn, mCall, mMeth, aCons, aNil, mVar, mC, mB, tmAnd, tmOr, tmNot, mTup, mLst, mSl, pNone, pSome, R.bind, R.toS, RS.seq, noEx, gN, gSet, DL.gTup, gsCons, gsNil, bType, kindD, bLen, bAbs, bInt, bMax2, bMin2, bTuple, bList, itemsD, oAdd, oSub, oMul, oDiv, oMod, oPow, oNeg, oLt, oLe, oGt, oGe, oLtT, oIs, oIsNot, DL.isNon, oIx, oAddI, sAsg2, oMulI, mChain3, row', c1, c2]
        obtain ⟨Z2, L2', st2, p4, p8, e2, Q2, B2, le2⟩ := seat_turn ok p Q B c1 (q1 := q1) (q4 := q4) (q8 := q8)
        obtain ⟨Z3, L3, at3, st3, r4, r7, r8, e3, Q3, B3, h3⟩ := while_ok ok p m (at' + 1) Z2 L2' st2 p4 p8 Q2 B2 (by omega) le2 (by omega)
        refine ⟨Z3, L3, at3, st3, r4, r7, r8, ?_, Q3, B3, h3⟩
        unfold loopW
        simp only [c, R.toS, if_true, e2]
        exact e3
      · have c : T1_steps_from [some w.d, q1, some (.int w.many), some (.ref t), q4, some (.ref nr), some (.ref r), some (.int (at' : Nat)), q8] st = .ok false st := by
          simp [T1_steps_from, mDef, sRet, sRetN, sSeq, sNil, sIf, sAsg, sExpr, sPar, sAug, sNo, mAnd, mOr, mNot, mIf, m2, m1, mChain, mFn, mCall, mMeth, aCons, aNil, mVar, mC, mB, tmAnd, tmOr, tmNot, mTup, mLst, mSl, pNone, pSome, R.bind, R.toS, RS.seq, noEx, gN, gSet, DL.gTup, gsCons, gsNil, bType, kindD, bLen, bAbs, bInt, bMax2, bMin2, bTuple, bList, itemsD, oAdd, oSub, oMul, oDiv, oMod, oPow, oNeg, oLt, oLe, oGt, oGe, oLtT, oIs, oIsNot, DL.isNon, oIx, oAddI, sAsg2, oMulI, mChain3, row', c1, c2]
        refine ⟨Z, L, at', st, q4, some (.int (at' : Nat)), q8, ?_, Q, B, .inr (by omega)⟩
        unfold loopW
        simp only [c, R.toS, Bool.false_eq_true, if_false]
    · have c : T1_steps_from [some w.d, q1, some (.int w.many), some (.ref t), q4, some (.ref nr), some (.ref r), some (.int (at' : Nat)), q8] st = .ok false st := by
        simp [T1_steps_from, mDef, sRet, sRetN, sSeq, sNil, sIf, sAsg, sExpr, sPar, sAug, sNo, mAnd, mOr, mNot, mIf, m2, m1, mChain, mFn, mCall, mMeth, aCons, aNil, mVar, mC, mB, tmAnd, tmOr, tmNot, mTup, mLst, mSl, pNone, pSome, R.bind, R.toS, RS.seq, noEx, gN, gSet, DL.gTup, gsCons, gsNil, bType, kindD, bLen, bAbs, bInt, bMax2, bMin2, bTuple, bList, itemsD, oAdd, oSub, oMul, oDiv, oMod, oPow, oNeg, oLt, oLe, oGt, oGe, oLtT, oIs, oIsNot, DL.isNon, oIx, oAddI, sAsg2, oMulI, mChain3, row', c1]
      refine ⟨Z, L, at', st, q4, some (.int (at' : Nat)), q8, ?_, Q, B, .inl (by omega)⟩
      unfold loopW
      simp only [c, R.toS, Bool.false_eq_true, if_false]
theorem tab_none (n : Nat) : (List.replicate n [D.non]).flatten = tab n fun _ => none := by
  unfold tab dO
  refine List.ext_getElem? fun i => ?_
  rw [show (List.replicate n [D.non]).flatten = List.replicate n D.non by simp]
  by_cases hi : i < n
  · simp [hi]
  · simp [hi]
theorem begin_ok (st0 st : Sto) (t : Nat) (ht : st0.length ≤ t) (g : Gr st0 st) {n : Nat} (w0 : rdW st t = some (tab n fun _ => none)) {xs : List Int} (hx : ∀ x : Int, x ∈ xs → 0 ≤ x ∧ x < (n : Int)) {q0 q1 q2 q5 q6 q7 q8 : Option D} :
    ∃ (st' : Sto) (q4 : Option D), loopS (xs.map D.int) none (gN 4) L1_steps_from (xs.map D.int) [q0, q1, q2, some (.ref t), none, q5, q6, q7, q8] st = .nx [q0, q1, q2, some (.ref t), q4, q5, q6, q7, q8] st' ∧ Gr st0 st' ∧ st'.length = st.length ∧ rdW st' t = some (tab n fun s => if s ∈ xs then some 0 else none) := by
  obtain ⟨env', st1, e1, q4, rfl, g1, l1, w1⟩ := loopS_ok (ds := xs.map D.int) (gd := none) (g := gN 4) (mb := L1_steps_from) (env := [q0, q1, q2, some (.ref t), none, q5, q6, q7, q8]) (st := st)
    (fun i env st' => ∃ q4, env = [q0, q1, q2, some (.ref t), q4, q5, q6, q7, q8] ∧ Gr st0 st' ∧ st'.length = st.length ∧ rdW st' t = some (tab n fun s => if s ∈ xs.take i then some 0 else none))
    ⟨none, rfl, g, rfl, by rw [w0]; simp⟩ (fun _ _ _ _ _ => trivial) (by
      rintro i env st' hi ⟨q4, rfl, g', l', ww⟩
      rw [List.length_map] at hi
      have r := hx _ (List.getElem_mem hi)
      rw [List.getElem_map]
      have ts := tab_set (L := fun s => if s ∈ xs.take i then some 0 else none) (v := 0) r.1 r.2
      have ix := tab_ix (n := n) r.1 r.2
      refine ⟨[q0, q1, q2, some (.ref t), some (.int xs[i]), q5, q6, q7, q8], st', [q0, q1, q2, some (.ref t), some (.int xs[i]), q5, q6, q7, q8], st'.set t (.lst ((tab n fun s => if s ∈ xs.take i then some 0 else none).set xs[i].toNat (.int 0))), rfl, ?_, _, rfl, Gr.beyond g' ht, by simp [l'], ?_⟩
      · simp [L1_steps_from, mDef, sRet, sRetN, sSeq, sNil, sIf, sAsg, sExpr, sPar, sAug, sNo, mAnd, mOr, mNot, mIf, m2, m1, mChain, mFn, mCall, mMeth, aCons, aNil, mVar, mC, mB, tmAnd, tmOr, tmNot, mTup, mLst, mSl, pNone, pSome, R.bind, R.toS, RS.seq, noEx, gN, gSet, DL.gTup, gsCons, gsNil, bType, kindD, bLen, bAbs, bInt, bMax2, bMin2, bTuple, bList, itemsD, oAdd, oSub, oMul, oDiv, oMod, oPow, oNeg, oLt, oLe, oGt, oGe, oLtT, oIs, oIsNot, DL.isNon, oIx, oAddI, sAsg2, oMulI, mChain3, ww, ix]
      · rw [rdW_set ww]
        have tk : xs.take (i + 1) = xs.take i ++ [xs[i]] := by rw [List.take_add_one, List.getElem?_eq_getElem hi]; rfl
        rw [show (D.int 0) = D.int ((0 : Nat) : Int) from rfl, ts]
        refine congrArg some (tab_congr fun s _ _ => ?_)
        have m : s ∈ xs.take (i + 1) ↔ s ∈ xs.take i ∨ s = xs[i] := by rw [tk, List.mem_append, List.mem_singleton]
        by_cases q : s = xs[i]
        · simp only [m, if_pos q, if_pos (Or.inr q : s ∈ xs.take i ∨ s = xs[i])]
        · by_cases p : s ∈ xs.take i
          · simp only [m, if_neg q, if_pos p, if_pos (Or.inl p : s ∈ xs.take i ∨ s = xs[i])]
          · simp only [m, if_neg q, if_neg p, if_neg (fun z => z.elim p q : ¬ (s ∈ xs.take i ∨ s = xs[i]))])
  rw [List.length_map, List.take_length] at w1
  exact ⟨st1, q4, e1, g1, l1, w1⟩
theorem no_ties {w : Web} (h : w.ties = []) {xs : List Int} (s : Int) : w.dist (· ∈ xs) s = if s ∈ xs then some 0 else none := by
  by_cases q : s ∈ xs
  · rw [if_pos q]; exact Web.dist_zero.mpr q
  · rw [if_neg q, Web.dist_none]
    intro k
    induction k generalizing s with
    | zero => exact q
    | succ k ih =>
      rintro (b | ⟨t, a, _⟩)
      · exact ih s q b
      · unfold Web.adj at a; rw [h] at a; simp at a
/-- the fewest steps from each seat to one of these -/
theorem steps_from_ok (hw : w.Ok) (hl : w.ties.length < 1000) {xs : List Int} (hx : ∀ x : Int, x ∈ xs → 0 ≤ x ∧ x < (w.many : Int)) (nd : xs.Nodup) (st : Sto) :
    ∃ st', f_steps_from [w.d, .tup (xs.map .int)] st = .ok (.tup (tab w.many (w.dist (· ∈ xs)))) st' ∧ Gr st st' := by
  have hz1 : (1 : Nat) ≤ sizeLine := by decide
  have hi := hw.hi
  have hzw : w.many ≤ sizeLine := Nat.le_trans hw.hi (by decide)
  have hsm : Small (w.many : Int) := by unfold Small; omega
  have h63 : -(2 ^ 63) ≤ (w.many : Int) ∧ (w.many : Int) < 2 ^ 63 := by omega
  have t0 := tab_none w.many
  have eA : m2 oMul (mLst (aCons (mC .non) aNil)) (mVar 2) [some w.d, some (.tup (xs.map .int)), some (.int w.many), none, none, none, none, none, none] st = .ok (.ref (st.length + 1)) (st ++ [.lst [D.non], Cl.lst (tab w.many fun _ => none)]) := by
    have eL : mLst (aCons (mC .non) aNil) [some w.d, some (.tup (xs.map .int)), some (.int w.many), none, none, none, none, none, none] st = .ok (.ref st.length) (st ++ [.lst [D.non]]) := by
      simp [mLst, aCons, aNil, mC, R.bind, hz1]
    have wL : rdW (st ++ [Cl.lst [D.non]]) st.length = some [D.non] := rdW_new _ _
    have h64 : (w.many : Int) < 9223372036854775808 := by omega
    simp [m2, eL, R.bind, mVar, oMul, wL, hsm, h64, hzw, noEx, ← t0]
  have wA : rdW (st ++ [.lst [D.non], Cl.lst (tab w.many fun _ => none)]) (st.length + 1) = some (tab w.many fun _ => none) := by simp [rdW]
  obtain ⟨st1, q4, e1, g1, l1, w1⟩ := begin_ok st (st ++ [.lst [D.non], Cl.lst (tab w.many fun _ => none)]) (st.length + 1) (by omega) (List.prefix_append _ _) wA hx (q0 := some w.d) (q1 := some (.tup (xs.map .int))) (q2 := some (.int w.many)) (q5 := none) (q6 := none) (q7 := none) (q8 := none)
  have l1' : st1.length = st.length + 2 := by rw [l1]; simp
  have e1' := sFor_tup (m := mVar 1) (g := gN 4) (mb := L1_steps_from) (env := [some w.d, some (.tup (xs.map .int)), some (.int w.many), some (.ref (st.length + 1)), none, none, none, none, none]) (st := st ++ [.lst [D.non], Cl.lst (tab w.many fun _ => none)]) (st1 := st ++ [.lst [D.non], Cl.lst (tab w.many fun _ => none)]) (xs := xs.map D.int) (by simp [mVar]) e1
  have hA : ∀ R : En → Sto → RS, sSeq (sAsg (m2 oIx (mVar 0) (mC (.int 0))) (gN 2)) (sSeq (sAsg (m2 oMul (mLst (aCons (mC .non) aNil)) (mVar 2)) (gN 3)) (sSeq (sFor (DL.iVal (mVar 1)) (gN 4) L1_steps_from) R)) [some w.d, some (.tup (xs.map .int)), none, none, none, none, none, none, none] st = R [some w.d, some (.tup (xs.map .int)), some (.int w.many), some (.ref (st.length + 1)), q4, none, none, none, none] st1 := by
    intro R
    have h1 : sAsg (m2 oIx (mVar 0) (mC (.int 0))) (gN 2) [some w.d, some (.tup (xs.map .int)), none, none, none, none, none, none, none] st = .nx [some w.d, some (.tup (xs.map .int)), some (.int w.many), none, none, none, none, none, none] st := by
      simp only [sAsg, m2, mVar, mC, DL.R.bind, DL.R.toS, noEx, gN, ixw0, List.getElem?_cons_zero, List.set_cons_zero, List.set_cons_succ]
    have h2 : sAsg (m2 oMul (mLst (aCons (mC .non) aNil)) (mVar 2)) (gN 3) [some w.d, some (.tup (xs.map .int)), some (.int w.many), none, none, none, none, none, none] st = .nx [some w.d, some (.tup (xs.map .int)), some (.int w.many), some (.ref (st.length + 1)), none, none, none, none, none] (st ++ [.lst [D.non], Cl.lst (tab w.many fun _ => none)]) := by
      simp only [sAsg, eA, DL.R.toS, gN, List.set_cons_zero, List.set_cons_succ]
    rw [seq_nx h1, seq_nx h2, seq_nx e1']
  unfold f_steps_from mDef b_steps_from
  simp only [List.map_cons, List.map_nil, List.length_cons, List.length_nil, List.replicate, List.cons_append, List.nil_append, Nat.reduceSub, Nat.reduceAdd]
  rw [hA]
  have w1' := rdL_W w1
  by_cases q : w.ties = []
  · refine ⟨st1, ?_, g1⟩
    have el : ((w.ties.map mkP).length : Int) = 0 := by rw [q]; rfl
    have fin : (tab w.many fun s => if s ∈ xs then some 0 else none) = tab w.many (w.dist (· ∈ xs)) := tab_congr fun s _ _ => (no_ties q s).symm
    simp only [sSeq, sIf, mB, m2, mFn, mVar, mC, aCons, aNil, DL.R.bind, DL.R.toS, RS.seq, noEx, List.getElem?_cons_zero, List.getElem?_cons_succ, ixw1, bLen, el, oEq_int, decide_true, if_true, sRet, bTuple, itemsD, w1', fin]
  · have el : ¬ ((w.ties.map mkP).length : Int) = 0 := by
      rw [List.length_map]
      have := List.length_pos_iff.mpr q
      omega
    have en := all_beside_ok hw hl st1
    let st2 := st1 ++ nearS st1.length w w.ties
    let st3 := st2 ++ [Cl.lst (xs.map D.int)]
    have l2 : st2.length = st1.length + 1 + w.many := by simp [st2, nearS]; omega
    have P : Pl w st (st.length + 1) st1.length st2.length := ⟨by omega, by omega, l2⟩
    have g2 : Gr st1 st2 := List.prefix_append _ _
    have g3 : Gr st2 st3 := List.prefix_append _ _
    have Q : Qs w st (st.length + 1) st1.length st2.length xs (fun s => if s ∈ xs then some 0 else none) st3 := by
      refine ⟨(g1.trans g2).trans g3, rdW_gr (g2.trans g3) w1, rdL_gr g3 (rdL_W (near_refs rfl)), fun s a b => rdL_gr g3 ?_, rdW_new _ _⟩
      have := near_get (w := w) (st := st1) rfl (ts := w.ties) (i := s.toNat) (by omega)
      rw [Int.toNat_of_nonneg a, hw.met] at this
      exact rdL_W this
    obtain ⟨Z', L', at2, st4, p4, p7, p8, e4, Q4, B4, h4⟩ := while_ok hw P (q1 := some (.tup (xs.map .int))) 1000 0 xs _ st3 q4 none Q (Web.Bfs.begin w nd hx) (by omega) (Nat.zero_le _) (by omega)
    refine ⟨st4, ?_, Q4.gr⟩
    have w4 := rdL_W Q4.told
    have fin : tab w.many L' = tab w.many (w.dist (· ∈ xs)) := tab_congr fun s a b => B4.done h4 a b
    rw [fin] at w4
    simp only [sSeq, sIf, mB, m2, mFn, mCall, mVar, mC, aCons, aNil, DL.R.bind, DL.R.toS, RS.seq, noEx, List.getElem?_cons_zero, List.getElem?_cons_succ, ixw1, bLen, oEq_int, el, decide_false, Bool.false_eq_true, if_false, sNil, sAsg, gN, List.set_cons_zero, List.set_cons_succ, en, bList, itemsD]
    have e4' : loopW T1_steps_from L3_steps_from 1000 [some w.d, some (.tup (xs.map .int)), some (.int w.many), some (.ref (st.length + 1)), q4, some (.ref st1.length), some (.ref st2.length), some (.int 0), none] (st1 ++ nearS st1.length w w.ties ++ [Cl.lst (xs.map D.int)]) = _ := e4
    rw [e4']
    simp only [sRet, mFn, mVar, aCons, aNil, DL.R.bind, DL.R.toS, noEx, List.getElem?_cons_zero, List.getElem?_cons_succ, bTuple, itemsD, w4]
end
end Pr
set_option Elab.async false
set_option linter.all false
set_option maxRecDepth 10000
namespace Pr
open PySem PySem.Spec PyProof.Rows L2 DL
section
variable {w : Web}
theorem mem_one (o : Int) : (fun x => x ∈ [o]) = (· = o) := funext fun x => propext List.mem_singleton
theorem steps_ok (hw : w.Ok) (hl : w.ties.length < 1000) {s o : Int} (h0 : 0 ≤ s) (h1 : s < w.many) (k0 : 0 ≤ o) (k1 : o < w.many) (st : Sto) : ∃ st', f_steps [w.d, .int s, .int o] st = .ok (dO (w.dist (· = o) s)) st' ∧ Gr st st' := by
  obtain ⟨st2, e2, g2⟩ := steps_from_ok hw hl (xs := [o]) (fun x hx => by rw [List.mem_singleton] at hx; subst hx; exact ⟨k0, k1⟩) (by simp) st
  rw [mem_one] at e2
  have hz1 : (1 : Nat) ≤ sizeLine := by decide
  have a := tab_at (L := w.dist (· = o)) h0 h1
  have e2' : f_steps_from [w.d, .tup [.int o]] st = _ := e2
  exact ⟨st2, by simp [f_steps, b_steps, mDef, sRet, sRetN, sSeq, sNil, sIf, sAsg, sExpr, sPar, sAug, sNo, mAnd, mOr, mNot, mIf, m2, m1, mChain, mFn, mCall, mMeth, aCons, aNil, mVar, mC, mB, tmAnd, tmOr, tmNot, mTup, mLst, mSl, pNone, pSome, R.bind, R.toS, RS.seq, noEx, gN, gSet, DL.gTup, gsCons, gsNil, bType, kindD, bLen, bAbs, bInt, bMax2, bMin2, bTuple, bList, itemsD, oAdd, oSub, oMul, oDiv, oMod, oPow, oNeg, oLt, oLe, oGt, oGe, oLtT, oIs, oIsNot, DL.isNon, oIx, oAddI, sAsg2, oMulI, mChain3, need_web_ok hw st, need_seat_ok h0 h1 st, need_seat_ok k0 k1 st, hz1, e2', a], g2⟩
theorem steps_to_ok (hw : w.Ok) (hl : w.ties.length < 1000) {xs : List Int} (hx : ∀ x : Int, x ∈ xs → 0 ≤ x ∧ x < (w.many : Int)) (h : xs.Pairwise (· < ·)) (st : Sto) : ∃ st', f_steps_to [w.d, .tup (xs.map .int)] st = .ok (.tup (tab w.many (w.dist (· ∈ xs)))) st' ∧ Gr st st' := by
  obtain ⟨st3, e3, g3⟩ := steps_from_ok hw hl hx (h.imp fun h e => by omega) st
  exact ⟨st3, by simp [f_steps_to, b_steps_to, mDef, sRet, sRetN, sSeq, sNil, sIf, sAsg, sExpr, sPar, sAug, sNo, mAnd, mOr, mNot, mIf, m2, m1, mChain, mFn, mCall, mMeth, aCons, aNil, mVar, mC, mB, tmAnd, tmOr, tmNot, mTup, mLst, mSl, pNone, pSome, R.bind, R.toS, RS.seq, noEx, gN, gSet, DL.gTup, gsCons, gsNil, bType, kindD, bLen, bAbs, bInt, bMax2, bMin2, bTuple, bList, itemsD, oAdd, oSub, oMul, oDiv, oMod, oPow, oNeg, oLt, oLe, oGt, oGe, oLtT, oIs, oIsNot, DL.isNon, oIx, oAddI, sAsg2, oMulI, mChain3, need_web_ok hw st, need_seats_ok (w := w) hx h st, e3], g3⟩
def near (far : Nat) : Option Nat → Bool
  | none => false
  | some k => decide (k ≤ far)
/-- the seats at most so many steps away -/
noncomputable def _root_.DL.Web.reach (w : Web) (s : Int) (far : Nat) : List Int := ((List.range w.many).map fun i : Nat => (i : Int)).filter fun o => near far (w.dist (· = s) o)
def pairB (far : Nat) : D → Bool
  | .tup [_, .int k] => decide (k ≤ (far : Int))
  | _ => false
def pairI : D → D
  | .tup [i, _] => i
  | d => d
theorem enum_tab (n : Nat) (L : Int → Option Nat) : enumD (tab n L) = (List.range n).map fun i => D.tup [.int (i : Nat), dO (L (i : Nat))] := by
  refine List.ext_getElem? fun i => ?_
  by_cases q : i < n
  · rw [enumD_get (d := dO (L (i : Nat))) (by simp [tab, q])]
    simp [q]
  · rw [List.getElem?_eq_none (by simp; omega), List.getElem?_eq_none (by simp; omega)]
theorem within_ok (hw : w.Ok) (hl : w.ties.length < 1000) {s : Int} (h0 : 0 ≤ s) (h1 : s < w.many) (far : Nat) (st : Sto) : ∃ st', f_within [w.d, .int s, .int far] st = .ok (.tup ((w.reach s far).map .int)) st' ∧ Gr st st' := by
  have hz1 : (1 : Nat) ≤ sizeLine := by decide
  have hz12 : (12 : Nat) < sizeLine := by decide
  have hi := hw.hi
  obtain ⟨st2, e2, g2⟩ := steps_from_ok hw hl (xs := [s]) (fun x hx => by rw [List.mem_singleton] at hx; subst hx; exact ⟨h0, h1⟩) (by simp) st
  rw [mem_one] at e2
  have e2' : f_steps_from [w.d, .tup [.int s]] st = _ := e2
  obtain ⟨st3, e3, g3⟩ := mLc_pure (mi := DL.iEnumerate (aCons (mVar 3) aNil)) (g := DL.gTup (gsCons (gN 4) (gsCons (gN 5) gsNil)) 2) (mt := C1_within) (me := E1_within) (vs := [4, 5])
    (env := [some w.d, some (.int s), some (.int far), some (.tup (tab w.many (w.dist (· = s)))), none, none]) (st := st2) (st1 := st2) (ds := enumD (tab w.many (w.dist (· = s)))) (gd := none) (pairB far) pairI (by simp [DL.iEnumerate, aCons, aNil, mVar, R.bind]) trivial (by simp; omega) (by
      intro d hd st1 g1
      rw [enum_tab] at hd
      obtain ⟨i, hi, rfl⟩ := List.mem_map.mp hd
      refine ⟨[some w.d, some (.int s), some (.int far), some (.tup (tab w.many (w.dist (· = s)))), some (.int (i : Nat)), some (dO (w.dist (· = s) (i : Nat)))], rfl, st1, ?_, List.prefix_refl _, fun _ => ⟨st1, rfl, List.prefix_refl _⟩⟩
      cases q : w.dist (· = s) ((i : Nat) : Int) with
      | none => simp [C1_within, mDef, sRet, sRetN, sSeq, sNil, sIf, sAsg, sExpr, sPar, sAug, sNo, mAnd, mOr, mNot, mIf, m2, m1, mChain, mFn, mCall, mMeth, aCons, aNil, mVar, mC, mB, tmAnd, tmOr, tmNot, mTup, mLst, mSl, pNone, pSome, R.bind, R.toS, RS.seq, noEx, gN, gSet, DL.gTup, gsCons, gsNil, bType, kindD, bLen, bAbs, bInt, bMax2, bMin2, bTuple, bList, itemsD, oAdd, oSub, oMul, oDiv, oMod, oPow, oNeg, oLt, oLe, oGt, oGe, oLtT, oIs, oIsNot, DL.isNon, oIx, oAddI, sAsg2, oMulI, mChain3, dO, pairB]
      | some k => simp [C1_within, mDef, sRet, sRetN, sSeq, sNil, sIf, sAsg, sExpr, sPar, sAug, sNo, mAnd, mOr, mNot, mIf, m2, m1, mChain, mFn, mCall, mMeth, aCons, aNil, mVar, mC, mB, tmAnd, tmOr, tmNot, mTup, mLst, mSl, pNone, pSome, R.bind, R.toS, RS.seq, noEx, gN, gSet, DL.gTup, gsCons, gsNil, bType, kindD, bLen, bAbs, bInt, bMax2, bMin2, bTuple, bList, itemsD, oAdd, oSub, oMul, oDiv, oMod, oPow, oNeg, oLt, oLe, oGt, oGe, oLtT, oIs, oIsNot, DL.isNon, oIx, oAddI, sAsg2, oMulI, mChain3, dO, pairB])
  have r3 := rdL_of_new g3
  have fin : ((enumD (tab w.many (w.dist (· = s)))).filter (pairB far)).map pairI = (w.reach s far).map D.int := by
    rw [enum_tab, List.filter_map, List.map_map]
    unfold Web.reach
    rw [List.filter_map, List.map_map]
    congr 1
    congr 1
    funext i
    show pairB far (D.tup [.int (i : Nat), dO (w.dist (· = s) (i : Nat))]) = near far (w.dist (· = s) ((i : Nat) : Int))
    cases q : w.dist (· = s) ((i : Nat) : Int) with
    | none => rfl
    | some k => simp [pairB, dO, near]
  rw [fin] at r3
  have hf : ¬ ((far : Int) < 0) := by omega
  refine ⟨st3, ?_, g2.trans ((List.prefix_append _ _).trans g3)⟩
  simp [f_within, b_within, mDef, sRet, sRetN, sSeq, sNil, sIf, sAsg, sExpr, sPar, sAug, sNo, mAnd, mOr, mNot, mIf, m2, m1, mChain, mFn, mCall, mMeth, aCons, aNil, mVar, mC, mB, tmAnd, tmOr, tmNot, mTup, mLst, mSl, pNone, pSome, R.bind, R.toS, RS.seq, noEx, gN, gSet, DL.gTup, gsCons, gsNil, bType, kindD, bLen, bAbs, bInt, bMax2, bMin2, bTuple, bList, itemsD, oAdd, oSub, oMul, oDiv, oMod, oPow, oNeg, oLt, oLe, oGt, oGe, oLtT, oIs, oIsNot, DL.isNon, oIx, oAddI, sAsg2, oMulI, mChain3, need_web_ok hw st, need_seat_ok h0 h1 st, hf, hz1, e2', e3, r3]
end
end Pr
set_option Elab.async false
set_option linter.all false
set_option maxRecDepth 10000
namespace Pr
open PySem PySem.Spec PyProof.Rows L2 DL
open Classical in
noncomputable def lv (w : Web) (S : Int → Prop) (k : Nat) (s : Int) : Option Nat := if w.ball S k s then w.dist S s else none
theorem lv_none {w : Web} {S : Int → Prop} {k : Nat} {s : Int} : lv w S k s = none ↔ ¬ w.ball S k s := by
  unfold lv
  split
  · rename_i h
    obtain ⟨j, _, e⟩ := Web.dist_of_ball h
    rw [e]; simp [h]
  · rename_i h; simp [h]
theorem lv_some {w : Web} {S : Int → Prop} {k : Nat} {s : Int} (h : w.ball S k s) : lv w S k s = w.dist S s := if_pos h
theorem countP_lt {p q : Nat → Bool} : ∀ {l : List Nat}, (∀ x ∈ l, p x = true → q x = true) → (∃ x ∈ l, p x = false ∧ q x = true) → l.countP p < l.countP q
  | [], _, ⟨_, h, _⟩ => by cases h
  | a :: l, hm, ⟨x, hx, h1, h2⟩ => by
    have mono : l.countP p ≤ l.countP q := List.countP_mono_left fun x hx => hm x (List.mem_cons_of_mem _ hx)
    rw [List.countP_cons, List.countP_cons]
    rcases List.mem_cons.mp hx with e | e
    · subst e; rw [h1, h2]; simp; omega
    · have := countP_lt (fun x hx => hm x (List.mem_cons_of_mem _ hx)) ⟨x, e, h1, h2⟩
      have := hm a List.mem_cons_self
      cases hp : p a <;> cases hq : q a <;> simp_all <;> omega
noncomputable def blank (w : Web) (S : Int → Prop) (k : Nat) : Nat := (List.range w.many).countP fun i => (lv w S k (i : Nat)).isNone
/-- the row of one ring more -/
theorem lv_next {w : Web} {S : Int → Prop} {k : Nat} {B E : List Int} (hE : ∀ s, s ∈ E ↔ w.dist S s = some k) (hB : ∀ s, s ∈ B ↔ lv w S k s = none ∧ ∃ t ∈ E, w.adj t s) :
    (∀ s, s ∈ B ↔ w.dist S s = some (k + 1)) ∧ ∀ s, lv w S (k + 1) s = if s ∈ B then some (k + 1) else lv w S k s := by
  have a : ∀ s, s ∈ B ↔ w.dist S s = some (k + 1) := fun s => by
    rw [hB, lv_none]
    constructor
    · rintro ⟨n, t, ht, at'⟩
      obtain ⟨j, hj, e⟩ := Web.dist_near at'.symm ((hE t).mp ht)
      by_cases q : j = k + 1
      · rw [e, q]
      · exact (n (Web.ball_mono (by omega) (Web.ball_of_dist e))).elim
    · intro h
      refine ⟨(Web.dist_some.mp h).2 k (Nat.lt_succ_self k), ?_⟩
      obtain ⟨t, at', e⟩ := Web.dist_next h
      exact ⟨t, (hE t).mpr e, at'.symm⟩
  refine ⟨a, fun s => ?_⟩
  by_cases q : s ∈ B
  · rw [if_pos q]
    have := (a s).mp q
    rw [lv_some (Web.ball_of_dist this), this]
  · rw [if_neg q]
    by_cases b : w.ball S (k + 1) s
    · by_cases c : w.ball S k s
      · rw [lv_some b, lv_some c]
      · obtain ⟨j, hj, e⟩ := Web.dist_of_ball b
        exfalso
        refine q ((a s).mpr ?_)
        by_cases ej : j = k + 1
        · rw [e, ej]
        · exact (c (Web.ball_mono (by omega) (Web.ball_of_dist e))).elim
    · rw [lv_none.mpr b, lv_none.mpr fun c => b (.inl c)]
theorem lv_end {w : Web} {S : Int → Prop} {k : Nat} (h : ∀ s, ¬ w.dist S s = some k) (s : Int) : lv w S k s = w.dist S s := by
  have key : ∀ j s, ¬ w.dist S s = some (k + j) := by
    intro j
    induction j with
    | zero => exact h
    | succ j ih =>
      intro s e
      obtain ⟨t, _, e'⟩ := Web.dist_next e
      exact ih t e'
  cases q : w.dist S s with
  | none => exact lv_none.mpr (Web.dist_none.mp q k)
  | some j =>
    by_cases hj : j ≤ k
    · rw [lv_some (Web.ball_mono hj (Web.ball_of_dist q)), q]
    · exact (key (j - k) s (by rw [q]; congr 1; omega)).elim
theorem blank_lt {w : Web} {S : Int → Prop} {k : Nat} {b : Int} (h0 : 0 ≤ b) (h1 : b < w.many) (hb : w.dist S b = some (k + 1)) : blank w S (k + 1) < blank w S k := by
  unfold blank
  refine countP_lt (fun i _ h => ?_) ⟨b.toNat, List.mem_range.mpr (by omega), ?_, ?_⟩
  · simp at h ⊢
    rw [lv_none] at h ⊢
    exact fun c => h (.inl c)
  · rw [Int.toNat_of_nonneg h0, lv_some (Web.ball_of_dist hb), hb]; rfl
  · rw [Int.toNat_of_nonneg h0, lv_none.mpr ((Web.dist_some.mp hb).2 k (Nat.lt_succ_self k))]; rfl
end Pr
set_option Elab.async false
set_option linter.all false
set_option maxRecDepth 10000
namespace Pr
open PySem PySem.Spec PyProof.Rows L2 DL
/-! ### == of leaves, of rows of leaves -/
@[simp] theorem isLeaf_dO (o : Option Nat) : isLeaf (dO o) = true := by cases o <;> rfl
/-! ### any web -/
noncomputable abbrev bIsIn : En → Sto → RS := (sIf (mB (m2 oEq (mVar 3) (mC (.int 0))))
  (sAsg (m2 oEq (mVar 5) (m2 oAdd (mVar 6) (mC (.int 1)))) (gN 7))
  (sIf (mB (m2 oEq (mVar 3) (mC (.int 1))))
  (sAsg (mOr (m2 oEq (mVar 5) (m2 oAdd (mVar 6) (mC (.int 1)))) (m2 oEq (mTup (aCons (mVar 6) (aCons (mVar 5) aNil))) (mTup (aCons (mC (.int 0)) (aCons (m2 oSub (mVar 2) (mC (.int 1))) aNil))))) (gN 7))
  (sIf (mB (m2 oEq (mVar 3) (mC (.int 2))))
  (sAsg (m2 oEq (mVar 6) (mC (.int 0))) (gN 7))
  (sIf (mB (m2 oEq (mVar 3) (mC (.int 3))))
  (sAsg (mC (.bl true)) (gN 7))
  (sIf (mB (m2 oEq (mVar 3) (mC (.int 4))))
  (sAsg (mC (.bl false)) (gN 7))
  (sAsg (mOr (m2 oEq (mCall f_law_take (aCons (mVar 0) (aCons (mC (.int 3)) aNil))) (mC (.int 0))) (mAnd (m2 oEq (mVar 5) (m2 oAdd (mVar 6) (mC (.int 1)))) (m2 oEq (mVar 3) (mC (.int 5))))) (gN 7)))))))
theorem isin_ok {r rt : Nat} {q1 q7 : Option D} {many way a b : Int} {st : Sto} (h : IsPool st r) : ∃ c st', bIsIn [some (.ref r), q1, some (.int many), some (.int way), some (.ref rt), some (.int b), some (.int a), q7] st = .nx [some (.ref r), q1, some (.int many), some (.int way), some (.ref rt), some (.int b), some (.int a), some (.bl c)] st' ∧ Ev r st st' := by
  have hz2 : (2 : Nat) ≤ sizeLine := by decide
  by_cases w0 : way = 0
  · exact ⟨decide (b = a + 1), st, by simp [mDef, sRet, sRetN, sSeq, sNil, sIf, sAsg, sExpr, sPar, sAug, sNo, mAnd, mOr, mNot, mIf, m2, m1, mChain, mFn, mCall, mMeth, aCons, aNil, mVar, mC, mB, tmAnd, tmOr, tmNot, mTup, mLst, mSl, pNone, pSome, R.bind, R.toS, RS.seq, noEx, gN, gSet, DL.gTup, gsCons, gsNil, bType, kindD, bLen, bAbs, bInt, bMax2, bMin2, bTuple, bList, itemsD, oAdd, oSub, oMul, oDiv, oMod, oPow, oNeg, oLt, oLe, oGt, oGe, oLtT, oIs, oIsNot, DL.isNon, oIx, oAddI, sAsg2, oMulI, mChain3, w0], Ev.refl h⟩
  · by_cases w1 : way = 1
    · by_cases q : b = a + 1
      · exact ⟨true, st, by simp [mDef, sRet, sRetN, sSeq, sNil, sIf, sAsg, sExpr, sPar, sAug, sNo, mAnd, mOr, mNot, mIf, m2, m1, mChain, mFn, mCall, mMeth, aCons, aNil, mVar, mC, mB, tmAnd, tmOr, tmNot, mTup, mLst, mSl, pNone, pSome, R.bind, R.toS, RS.seq, noEx, gN, gSet, DL.gTup, gsCons, gsNil, bType, kindD, bLen, bAbs, bInt, bMax2, bMin2, bTuple, bList, itemsD, oAdd, oSub, oMul, oDiv, oMod, oPow, oNeg, oLt, oLe, oGt, oGe, oLtT, oIs, oIsNot, DL.isNon, oIx, oAddI, sAsg2, oMulI, mChain3, w1, q], Ev.refl h⟩
      · exact ⟨decide (a = 0 ∧ b = many - 1), st, by simp [mDef, sRet, sRetN, sSeq, sNil, sIf, sAsg, sExpr, sPar, sAug, sNo, mAnd, mOr, mNot, mIf, m2, m1, mChain, mFn, mCall, mMeth, aCons, aNil, mVar, mC, mB, tmAnd, tmOr, tmNot, mTup, mLst, mSl, pNone, pSome, R.bind, R.toS, RS.seq, noEx, gN, gSet, DL.gTup, gsCons, gsNil, bType, kindD, bLen, bAbs, bInt, bMax2, bMin2, bTuple, bList, itemsD, oAdd, oSub, oMul, oDiv, oMod, oPow, oNeg, oLt, oLe, oGt, oGe, oLtT, oIs, oIsNot, DL.isNon, oIx, oAddI, sAsg2, oMulI, mChain3, w1, q, oEq_pair, hz2], Ev.refl h⟩
    · by_cases w2 : way = 2
      · exact ⟨decide (a = 0), st, by simp [mDef, sRet, sRetN, sSeq, sNil, sIf, sAsg, sExpr, sPar, sAug, sNo, mAnd, mOr, mNot, mIf, m2, m1, mChain, mFn, mCall, mMeth, aCons, aNil, mVar, mC, mB, tmAnd, tmOr, tmNot, mTup, mLst, mSl, pNone, pSome, R.bind, R.toS, RS.seq, noEx, gN, gSet, DL.gTup, gsCons, gsNil, bType, kindD, bLen, bAbs, bInt, bMax2, bMin2, bTuple, bList, itemsD, oAdd, oSub, oMul, oDiv, oMod, oPow, oNeg, oLt, oLe, oGt, oGe, oLtT, oIs, oIsNot, DL.isNon, oIx, oAddI, sAsg2, oMulI, mChain3, w2], Ev.refl h⟩
      · by_cases w3 : way = 3
        · exact ⟨true, st, by simp [mDef, sRet, sRetN, sSeq, sNil, sIf, sAsg, sExpr, sPar, sAug, sNo, mAnd, mOr, mNot, mIf, m2, m1, mChain, mFn, mCall, mMeth, aCons, aNil, mVar, mC, mB, tmAnd, tmOr, tmNot, mTup, mLst, mSl, pNone, pSome, R.bind, R.toS, RS.seq, noEx, gN, gSet, DL.gTup, gsCons, gsNil, bType, kindD, bLen, bAbs, bInt, bMax2, bMin2, bTuple, bList, itemsD, oAdd, oSub, oMul, oDiv, oMod, oPow, oNeg, oLt, oLe, oGt, oGe, oLtT, oIs, oIsNot, DL.isNon, oIx, oAddI, sAsg2, oMulI, mChain3, w3], Ev.refl h⟩
        · by_cases w4 : way = 4
          · exact ⟨false, st, by simp [mDef, sRet, sRetN, sSeq, sNil, sIf, sAsg, sExpr, sPar, sAug, sNo, mAnd, mOr, mNot, mIf, m2, m1, mChain, mFn, mCall, mMeth, aCons, aNil, mVar, mC, mB, tmAnd, tmOr, tmNot, mTup, mLst, mSl, pNone, pSome, R.bind, R.toS, RS.seq, noEx, gN, gSet, DL.gTup, gsCons, gsNil, bType, kindD, bLen, bAbs, bInt, bMax2, bMin2, bTuple, bList, itemsD, oAdd, oSub, oMul, oDiv, oMod, oPow, oNeg, oLt, oLe, oGt, oGe, oLtT, oIs, oIsNot, DL.isNon, oIx, oAddI, sAsg2, oMulI, mChain3, w4], Ev.refl h⟩
          · obtain ⟨v, st', e, _, _, ev⟩ := take_of (m := 3) h (by decide) (by decide)
            by_cases v0 : v = 0
            · exact ⟨true, st', by simp [mDef, sRet, sRetN, sSeq, sNil, sIf, sAsg, sExpr, sPar, sAug, sNo, mAnd, mOr, mNot, mIf, m2, m1, mChain, mFn, mCall, mMeth, aCons, aNil, mVar, mC, mB, tmAnd, tmOr, tmNot, mTup, mLst, mSl, pNone, pSome, R.bind, R.toS, RS.seq, noEx, gN, gSet, DL.gTup, gsCons, gsNil, bType, kindD, bLen, bAbs, bInt, bMax2, bMin2, bTuple, bList, itemsD, oAdd, oSub, oMul, oDiv, oMod, oPow, oNeg, oLt, oLe, oGt, oGe, oLtT, oIs, oIsNot, DL.isNon, oIx, oAddI, sAsg2, oMulI, mChain3, w0, w1, w2, w3, w4, e, v0], ev⟩
            · by_cases q : b = a + 1
              · exact ⟨decide (way = 5), st', by simp [mDef, sRet, sRetN, sSeq, sNil, sIf, sAsg, sExpr, sPar, sAug, sNo, mAnd, mOr, mNot, mIf, m2, m1, mChain, mFn, mCall, mMeth, aCons, aNil, mVar, mC, mB, tmAnd, tmOr, tmNot, mTup, mLst, mSl, pNone, pSome, R.bind, R.toS, RS.seq, noEx, gN, gSet, DL.gTup, gsCons, gsNil, bType, kindD, bLen, bAbs, bInt, bMax2, bMin2, bTuple, bList, itemsD, oAdd, oSub, oMul, oDiv, oMod, oPow, oNeg, oLt, oLe, oGt, oGe, oLtT, oIs, oIsNot, DL.isNon, oIx, oAddI, sAsg2, oMulI, mChain3, w0, w1, w2, w3, w4, e, v0, q], ev⟩
              · exact ⟨false, st', by simp [mDef, sRet, sRetN, sSeq, sNil, sIf, sAsg, sExpr, sPar, sAug, sNo, mAnd, mOr, mNot, mIf, m2, m1, mChain, mFn, mCall, mMeth, aCons, aNil, mVar, mC, mB, tmAnd, tmOr, tmNot, mTup, mLst, mSl, pNone, pSome, R.bind, R.toS, RS.seq, noEx, gN, gSet, DL.gTup, gsCons, gsNil, bType, kindD, bLen, bAbs, bInt, bMax2, bMin2, bTuple, bList, itemsD, oAdd, oSub, oMul, oDiv, oMod, oPow, oNeg, oLt, oLe, oGt, oGe, oLtT, oIs, oIsNot, DL.isNon, oIx, oAddI, sAsg2, oMulI, mChain3, w0, w1, w2, w3, w4, e, v0, q], ev⟩
end Pr
set_option Elab.async false
set_option linter.all false
set_option maxRecDepth 10000
namespace Pr
open PySem PySem.Spec PyProof.Rows L2 DL
theorem bSorted_pairs {st : Sto} {r : Nat} {T : List (Int × Int)} (h : rdL st r = some (T.map mkP)) : bSorted [.ref r] st = .ok (.ref st.length) (st ++ [.lst ((sortP T).map mkP)]) := by
  unfold bSorted
  simp only [h]
  cases T with
  | nil => rfl
  | cons x xs =>
    have : intsOf ((x :: xs).map mkP) = none := rfl
    simp only [this, DL.pairsOf_pairs]
structure IT (r rt many : Nat) (st0 : Sto) (b a : Nat) (T : List (Int × Int)) (st : Sto) : Prop where
  ev : Ev r st0 st
  t : rdW st rt = some (T.map mkP)
  p : ∀ p ∈ T, 0 ≤ p.1 ∧ p.1 < p.2 ∧ p.2 < (many : Int) ∧ (p.2 < b ∨ p.2 = b ∧ p.1 < a)
  nd : T.Nodup
  len : T.length ≤ 12 * b + a
noncomputable abbrev bTie : En → Sto → RS := (sSeq bIsIn
 (sExpr (mMeth fExtend (mVar 4) (aCons (m2 oMul (mLst (aCons (mTup (aCons (mVar 6) (aCons (mVar 5) aNil))) aNil)) (mFn bInt (aCons (mVar 7) aNil))) aNil))))
theorem tie_turn {r rt many b a : Nat} {st0 st : Sto} {T : List (Int × Int)} {q1 q7 : Option D} {way : Int} (h : IT r rt many st0 b a T st) (hr : r < st0.length) (hrt : st0.length ≤ rt) (hb : b < many) (ha : a < b) (hm : many ≤ 12) :
    ∃ c T' st', bTie [some (.ref r), q1, some (.int many), some (.int way), some (.ref rt), some (.int b), some (.int a), q7] st = .nx [some (.ref r), q1, some (.int many), some (.int way), some (.ref rt), some (.int b), some (.int a), some (.bl c)] st' ∧ IT r rt many st0 b (a + 1) T' st' := by
  have hz2 : (2 : Nat) ≤ sizeLine := by decide
  have hz1 : (1 : Nat) ≤ sizeLine := by decide
  have hz0 : (0 : Nat) ≤ sizeLine := by decide
  have hzb : (1000 : Nat) ≤ sizeLine := by decide
  obtain ⟨c, st1, e1, ev1⟩ := isin_ok (q1 := q1) (q7 := q7) (rt := rt) (many := many) (way := way) (a := a) (b := b) h.ev.pool
  have ev01 := h.ev.trans ev1
  have w1 : rdW st1 rt = some (T.map mkP) := ev1.rdW h.t (by omega)
  have lrt := rdW_lt w1
  have g1 : Gr st1 (st1 ++ [Cl.lst [D.tup [D.int (a : Int), D.int (b : Int)]]]) := List.prefix_append _ _
  have n1 : rdW (st1 ++ [Cl.lst [D.tup [D.int (a : Int), D.int (b : Int)]]]) st1.length = some [D.tup [D.int (a : Int), D.int (b : Int)]] := rdW_new _ _
  have lenT : T.length ≤ 500 := by have := h.len; omega
  cases c with
  | false =>
    have n2 : rdW (st1 ++ [Cl.lst [D.tup [D.int (a : Int), D.int (b : Int)]], Cl.lst []]) (st1.length + 1) = some [] := by
      have := rdW_new (st1 ++ [Cl.lst [D.tup [D.int (a : Int), D.int (b : Int)]]]) []
      simpa using this
    have n3 : rdW (st1 ++ [Cl.lst [D.tup [D.int (a : Int), D.int (b : Int)]], Cl.lst []]) rt = some (T.map mkP) := rdW_gr (List.prefix_append _ _) w1
    refine ⟨false, T, (st1 ++ [Cl.lst [D.tup [D.int (a : Int), D.int (b : Int)]], Cl.lst []]).set rt (.lst (T.map mkP)), ?_, ?_, ?_, ?_, h.nd, by have := h.len; omega⟩
    · simp [bTie, mDef, sRet, sRetN, sSeq, sNil, sIf, sAsg, sExpr, sPar, sAug, sNo, mAnd, mOr, mNot, mIf, m2, m1, mChain, mFn, mCall, mMeth, aCons, aNil, mVar, mC, mB, tmAnd, tmOr, tmNot, mTup, mLst, mSl, pNone, pSome, R.bind, R.toS, RS.seq, noEx, gN, gSet, DL.gTup, gsCons, gsNil, bType, kindD, bLen, bAbs, bInt, bMax2, bMin2, bTuple, bList, itemsD, oAdd, oSub, oMul, oDiv, oMod, oPow, oNeg, oLt, oLe, oGt, oGe, oLtT, oIs, oIsNot, DL.isNon, oIx, oAddI, sAsg2, oMulI, mChain3, e1, hz2, hz1, hz0, n1, n2, n3, rdL_W w1, fExtend, show T.length ≤ sizeLine by omega, Small]
    · exact (ev01.trans (Ev.gr ev01.pool (List.prefix_append _ _))).beyond hrt hr
    · exact rdW_set n3
    · intro p hp; have := h.p p hp; omega
  | true =>
    have n2 : rdW (st1 ++ [Cl.lst [D.tup [D.int (a : Int), D.int (b : Int)]], Cl.lst [D.tup [D.int (a : Int), D.int (b : Int)]]]) (st1.length + 1) = some [D.tup [D.int (a : Int), D.int (b : Int)]] := by
      have := rdW_new (st1 ++ [Cl.lst [D.tup [D.int (a : Int), D.int (b : Int)]]]) [D.tup [D.int (a : Int), D.int (b : Int)]]
      simpa using this
    have n3 : rdW (st1 ++ [Cl.lst [D.tup [D.int (a : Int), D.int (b : Int)]], Cl.lst [D.tup [D.int (a : Int), D.int (b : Int)]]]) rt = some (T.map mkP) := rdW_gr (List.prefix_append _ _) w1
    refine ⟨true, T ++ [((a : Int), (b : Int))], (st1 ++ [Cl.lst [D.tup [D.int (a : Int), D.int (b : Int)]], Cl.lst [D.tup [D.int (a : Int), D.int (b : Int)]]]).set rt (.lst (T.map mkP ++ [D.tup [D.int (a : Int), D.int (b : Int)]])), ?_, ?_, ?_, ?_, ?_, by have := h.len; simp; omega⟩
    · simp [bTie, mDef, sRet, sRetN, sSeq, sNil, sIf, sAsg, sExpr, sPar, sAug, sNo, mAnd, mOr, mNot, mIf, m2, m1, mChain, mFn, mCall, mMeth, aCons, aNil, mVar, mC, mB, tmAnd, tmOr, tmNot, mTup, mLst, mSl, pNone, pSome, R.bind, R.toS, RS.seq, noEx, gN, gSet, DL.gTup, gsCons, gsNil, bType, kindD, bLen, bAbs, bInt, bMax2, bMin2, bTuple, bList, itemsD, oAdd, oSub, oMul, oDiv, oMod, oPow, oNeg, oLt, oLe, oGt, oGe, oLtT, oIs, oIsNot, DL.isNon, oIx, oAddI, sAsg2, oMulI, mChain3, e1, hz2, hz1, hz0, n1, n2, n3, rdL_W w1, fExtend, show T.length + 1 ≤ sizeLine by omega, Small]
    · exact (ev01.trans (Ev.gr ev01.pool (List.prefix_append _ _))).beyond hrt hr
    · rw [rdW_set n3]; simp [mkP]
    · intro p hp
      rcases List.mem_append.mp hp with hp | hp
      · have := h.p p hp; omega
      · rw [List.mem_singleton] at hp; subst hp; exact ⟨by show (0 : Int) ≤ (a : Int); omega, by show (a : Int) < (b : Int); omega, by show (b : Int) < (many : Int); omega, .inr ⟨rfl, by show (a : Int) < ((a + 1 : Nat) : Int); omega⟩⟩
    · refine List.nodup_append.mpr ⟨h.nd, by simp, fun x hx y hy e => ?_⟩
      rw [List.mem_singleton] at hy
      subst hy; subst e
      have := h.p _ hx
      simp only at this
      omega
theorem any_web_spec {r : Nat} {m : Nat} {st : Sto} (h : IsPool st r) (h0 : 1 ≤ m) (h1 : m ≤ 12) : ∃ (w : Web) (st' : Sto), f_law_any_web [.ref r, .int m] st = .ok w.d st' ∧ w.Ok ∧ w.many ≤ m ∧ w.ties.length ≤ 200 ∧ Ev r st st' := by
  have hz2 : (2 : Nat) ≤ sizeLine := by decide
  have hz0 : (0 : Nat) ≤ sizeLine := by decide
  have hr := h.lt
  obtain ⟨v1, st1, e1, a1, b1, ev1⟩ := take_of (m := m) h (by omega) (by omega)
  obtain ⟨way, st2, e2, a2, b2, ev2⟩ := take_of (m := 8) ev1.pool (by decide) (by decide)
  have ev12 := ev1.trans ev2
  obtain ⟨many, em⟩ : ∃ many : Nat, 1 + v1 = (many : Int) := ⟨(1 + v1).toNat, by omega⟩
  have hm1 : 1 ≤ many := by omega
  have hm2 : many ≤ m := by omega
  have hmid : ∀ n : Nat, n ≤ 12 → Mid (n : Int) := fun n hn => by unfold Mid; omega
  have g2 : Gr st2 (st2 ++ [Cl.lst []]) := List.prefix_append _ _
  have ev3 := ev12.trans (Ev.gr ev12.pool g2)
  have I0 : IT r st2.length many st 0 0 [] (st2 ++ [Cl.lst []]) := ⟨ev3, rdW_new _ _, fun p hp => (by cases hp), List.nodup_nil, by simp⟩
  obtain ⟨env', st3, e3, q5, q6, q7, T, rfl, hI⟩ := loopS_ok (ds := rngD 0 many) (gd := none) (g := gN 5) (mb := sFor (DL.iRng1 (aCons (mVar 5) aNil)) (gN 6) bTie)
    (env := [some (.ref r), some (.int m), some (.int many), some (.int way), some (.ref st2.length), none, none, none]) (st := st2 ++ [Cl.lst []])
    (fun i env st' => ∃ q5 q6 q7 T, env = [some (.ref r), some (.int m), some (.int many), some (.int way), some (.ref st2.length), q5, q6, q7] ∧ IT r st2.length many st i 0 T st')
    ⟨none, none, none, [], rfl, I0⟩ (fun _ _ _ _ _ => trivial) (by
      rintro i env st' hi ⟨q5, q6, q7, T, rfl, hI⟩
      rw [rngD_get hi]
      rw [rngD_len] at hi
      obtain ⟨env', st3, e3, q6', q7', T', rfl, hI'⟩ := loopS_ok (ds := rngD 0 i) (gd := none) (g := gN 6) (mb := bTie)
        (env := [some (.ref r), some (.int m), some (.int many), some (.int way), some (.ref st2.length), some (.int (i : Nat)), q6, q7]) (st := st')
        (fun j env st' => ∃ q6 q7 T, env = [some (.ref r), some (.int m), some (.int many), some (.int way), some (.ref st2.length), some (.int (i : Nat)), q6, q7] ∧ IT r st2.length many st i j T st')
        ⟨q6, q7, T, rfl, hI⟩ (fun _ _ _ _ _ => trivial) (by
          rintro j env st' hj ⟨q6, q7, T, rfl, hI⟩
          rw [rngD_get hj]
          rw [rngD_len] at hj
          obtain ⟨c, T', st4, e4, hI4⟩ := tie_turn (q1 := some (.int m)) (q7 := q7) (way := way) hI hr (by have := ev12.len; omega) hi hj (by omega)
          exact ⟨_, st', _, st4, rfl, e4, _, _, T', rfl, hI4⟩)
      refine ⟨_, st', _, st3, rfl, ?_, some (.int (i : Nat)), q6', q7', T', rfl, ?_⟩
      · unfold sFor
        rw [iRng1_nat (n := i) (st1 := st') (by simp [aCons, aNil, mVar, R.bind, gN]) (hmid i (by omega))]
        exact e3
      · rw [rngD_len] at hI'
        exact ⟨hI'.ev, hI'.t, fun p hp => by have := hI'.p p hp; omega, hI'.nd, by have := hI'.len; omega⟩)
  rw [rngD_len] at hI
  have rL := rdL_W hI.t
  have lenT : T.length ≤ 200 := by have := hI.len; omega
  have s1 : List.length (sortP T) = T.length := (sortP_perm T).length_eq
  refine ⟨⟨many, sortP T⟩, st3 ++ [Cl.lst ((sortP T).map mkP)], ?_, ⟨hm1, by show many ≤ 12; omega, fun p hp => ?_, Web.sortP_rise hI.nd⟩, hm2, by show (sortP T).length ≤ 200; omega, hI.ev.trans (Ev.gr hI.ev.pool (List.prefix_append _ _))⟩
  · have e3' : sFor (DL.iRng1 (aCons (mVar 2) aNil)) (gN 5) (sFor (DL.iRng1 (aCons (mVar 5) aNil)) (gN 6) bTie) [some (.ref r), some (.int m), some (.int many), some (.int way), some (.ref st2.length), none, none, none] (st2 ++ [Cl.lst []]) = .nx [some (.ref r), some (.int m), some (.int many), some (.int way), some (.ref st2.length), q5, q6, q7] st3 := by
      rw [sFor]
      rw [iRng1_nat (n := many) (st1 := st2 ++ [Cl.lst []]) (by simp [aCons, aNil, mVar, R.bind]) (hmid many (by omega))]
      exact e3
    unfold bTie bIsIn at e3'
    have sT := bSorted_pairs rL
    have rS : rdL (st3 ++ [Cl.lst ((sortP T).map mkP)]) st3.length = some ((sortP T).map mkP) := rdL_new _ _
    unfold f_law_any_web mDef b_law_any_web
    simp only [List.map_cons, List.map_nil, List.length_cons, List.length_nil, List.replicate, List.cons_append, List.nil_append, Nat.reduceSub, Nat.reduceAdd]
    simp only [sSeq, RS.seq, sAsg, m2, mCall, mLst, aCons, aNil, mVar, mC, R.bind, R.toS, gN, noEx, oAdd, e1, e2, em, if_pos hz0, List.getElem?_cons_zero, List.getElem?_cons_succ, List.set_cons_zero, List.set_cons_succ, List.length_nil]
    simp only [e3', sRet, mTup, mFn, aCons, aNil, mVar, R.bind, noEx, bTuple, itemsD, sT, rS, R.toS, List.getElem?_cons_zero, List.getElem?_cons_succ, List.length_cons, List.length_nil, Nat.zero_add, Nat.reduceAdd, if_pos hz2]
    rfl
  · have := hI.p p ((sortP_perm T).mem_iff.mp hp)
    exact ⟨this.1, this.2.1, this.2.2.1⟩
end Pr
set_option Elab.async false
set_option linter.all false
set_option maxRecDepth 10000
namespace Pr
open PySem PySem.Spec PyProof.Rows L2 DL
section
variable {w : Web}
theorem dist_down {S : Int → Prop} {j : Nat} : ∀ {i : Nat} {s : Int}, w.dist S s = some (j + i) → ∃ t, w.dist S t = some j
  | 0, s, h => ⟨s, h⟩
  | i + 1, s, h => by
    obtain ⟨t, _, e⟩ := Web.dist_next (k := j + i) h
    exact dist_down e
theorem dist_le (hw : w.Ok) {S : Int → Prop} (hS : ∀ s, S s → 0 ≤ s ∧ s < (w.many : Int)) {s : Int} {k : Nat} (h : w.dist S s = some k) : k ≤ w.many := by
  have key : ∀ j, j ≤ k → blank w S j + j ≤ w.many := by
    intro j
    induction j with
    | zero => exact fun _ => Nat.le_trans List.countP_le_length (by simp)
    | succ j ih =>
      intro hj
      obtain ⟨t, e⟩ := dist_down (w := w) (S := S) (j := j + 1) (i := k - (j + 1)) (s := s) (by rw [h]; congr 1; omega)
      have r := Web.ball_rng hw hS (Web.ball_of_dist e)
      have := blank_lt r.1 r.2 e
      have := ih (by omega)
      omega
  have := key k (Nat.le_refl _)
  omega
theorem reach_mem {s far : Int} {k : Nat} {x : Int} : x ∈ w.reach s k ↔ (0 ≤ x ∧ x < w.many) ∧ near k (w.dist (· = s) x) = true := by
  unfold Web.reach
  rw [List.mem_filter, List.mem_map]
  constructor
  · rintro ⟨⟨i, hi, rfl⟩, h⟩
    rw [List.mem_range] at hi
    exact ⟨by omega, h⟩
  · rintro ⟨⟨h0, h1⟩, h⟩
    exact ⟨⟨x.toNat, List.mem_range.mpr (by omega), by omega⟩, h⟩
theorem reach_lt {s : Int} {k : Nat} : (w.reach s k).Pairwise (· < ·) := by
  unfold Web.reach
  refine List.Pairwise.filter _ ?_
  rw [List.pairwise_map]
  exact List.pairwise_lt_range.imp fun h => by omega
theorem bSorted_ints {st : Sto} {r : Nat} {T : List Int} (h : rdL st r = some (T.map D.int)) : bSorted [.ref r] st = .ok (.ref st.length) (st ++ [.lst ((sortI T).map D.int)]) := by
  unfold bSorted
  simp only [h, intsOf_ints]
def rowZ (n : Nat) (V : Int → Int) : List D := (List.range n).map fun i => D.int (V (i : Nat))
@[simp] theorem rowZ_len (n : Nat) (V : Int → Int) : (rowZ n V).length = n := by simp [rowZ]
theorem rowZ_at {n : Nat} {V : Int → Int} {s : Int} (h0 : 0 ≤ s) (h1 : s < n) : L2.atI (rowZ n V) s = some (.int (V s)) := by
  obtain ⟨k, rfl⟩ : ∃ k : Nat, s = k := ⟨s.toNat, by omega⟩
  have : k < n := by omega
  exact atI_at (by simp [rowZ, this])
theorem rowZ_set {n : Nat} {V : Int → Int} {s v : Int} (h0 : 0 ≤ s) : (rowZ n V).set s.toNat (.int v) = rowZ n (Web.put1 V s v) := by
  unfold rowZ
  rw [map_set]
  refine List.map_congr_left fun i _ => ?_
  unfold Web.put1
  by_cases q : i = s.toNat
  · have e : (i : Int) = s := by omega
    rw [if_pos q, if_pos e]
  · have e : ¬ (i : Int) = s := by omega
    rw [if_neg q, if_neg e]
theorem min_if (a b : Int) : (if b < a then b else a) = min a b := by omega
theorem relax_turn (ok : w.Ok) {st : Sto} {rf : Nat} {V : Int → Int} (h : rdW st rf = some (rowZ w.many V)) {x y : Int} (t : 0 ≤ x ∧ x < y ∧ y < w.many) {q0 q1 q3 q4 q7 : Option D} :
    ∃ st', L1_law_steps_to [q0, q1, some (.ref rf), q3, q4, some (.int x), some (.int y), q7] st = .nx [q0, q1, some (.ref rf), q3, q4, some (.int x), some (.int y), q7] st' ∧ (∃ c c', st' = (st.set rf c).set rf c') ∧ rdW st' rf = some (rowZ w.many (Web.relax V (x, y))) := by
  have ax := rowZ_at (V := V) t.1 (show x < w.many by omega)
  have ay := rowZ_at (V := V) (show 0 ≤ y by omega) t.2.2
  have sx := rowZ_set (n := w.many) (V := V) (s := x) (v := min (V x) (V y + 1)) t.1
  have h1 := rdW_set (ys := rowZ w.many (Web.stp V x y)) h
  have ax1 := rowZ_at (V := Web.stp V x y) t.1 (show x < w.many by omega)
  have ay1 := rowZ_at (V := Web.stp V x y) (show 0 ≤ y by omega) t.2.2
  have sy := rowZ_set (n := w.many) (V := Web.stp V x y) (s := y) (v := min (Web.stp V x y y) (Web.stp V x y x + 1)) (show 0 ≤ y by omega)
  have ix := tab_ix (n := w.many) t.1 (show x < w.many by omega)
  have iy := tab_ix (n := w.many) (show 0 ≤ y by omega) t.2.2
  have h2 := rdW_set (ys := rowZ w.many (Web.relax V (x, y))) h1
  refine ⟨_, ?_, ⟨_, _, rfl⟩, h2⟩
  have hl := rdL_W h
  have hl1 := rdL_W h1
  have e1 : sAsg (mFn bMin2 (aCons (m2 oIx (mVar 2) (mVar 5)) (aCons (m2 oAdd (m2 oIx (mVar 2) (mVar 6)) (mC (.int 1))) aNil))) (gSet (mVar 2) (mVar 5)) [q0, q1, some (.ref rf), q3, q4, some (.int x), some (.int y), q7] st = .nx [q0, q1, some (.ref rf), q3, q4, some (.int x), some (.int y), q7] (st.set rf (.lst (rowZ w.many (Web.stp V x y)))) := by
    simp only [sAsg, mFn, m2, mVar, mC, aCons, aNil, R.bind, R.toS, noEx, List.getElem?_cons_zero, List.getElem?_cons_succ, oIx, hl, ax, ay, oAdd, bMin2, min_if, gSet, h, rowZ_len, ix, sx]
    rfl
  have e2 : sAsg (mFn bMin2 (aCons (m2 oIx (mVar 2) (mVar 6)) (aCons (m2 oAdd (m2 oIx (mVar 2) (mVar 5)) (mC (.int 1))) aNil))) (gSet (mVar 2) (mVar 6)) [q0, q1, some (.ref rf), q3, q4, some (.int x), some (.int y), q7] (st.set rf (.lst (rowZ w.many (Web.stp V x y)))) = .nx [q0, q1, some (.ref rf), q3, q4, some (.int x), some (.int y), q7] ((st.set rf (.lst (rowZ w.many (Web.stp V x y)))).set rf (.lst (rowZ w.many (Web.relax V (x, y))))) := by
    simp only [sAsg, mFn, m2, mVar, mC, aCons, aNil, R.bind, R.toS, noEx, List.getElem?_cons_zero, List.getElem?_cons_succ, oIx, hl1, ax1, ay1, oAdd, bMin2, min_if, gSet, h1, rowZ_len, iy, sy]
    rfl
  unfold L1_law_steps_to
  rw [seq_nx e1, e2]
noncomputable def tvD (w : Web) (s : Int) : List D := rowZ w.many fun i => Web.tv (w.dist (· = s) i)
theorem dist_le1 (ok : w.Ok) {s : Int} (h0 : 0 ≤ s) (h1 : s < w.many) : ∀ x k, w.dist (· = s) x = some k → k ≤ w.many := fun x k e => dist_le ok (fun z hz => by subst hz; exact ⟨h0, h1⟩) e
theorem law_steps_to_ok (ok : w.Ok) (hl : w.ties.length < 1000) {s : Int} (h0 : 0 ≤ s) (h1 : s < w.many) (st : Sto) : ∃ r st', f_law_steps_to [w.d, .tup [.int s]] st = .ok (.ref r) st' ∧ Gr st st' ∧ st.length ≤ r ∧ rdL st' r = some (tvD w s) := by
  have hz : (1000 : Nat) < sizeLine := by decide
  have hi := ok.hi
  have hm : Mid (w.many : Int) := by unfold Mid; omega
  let V0 : Int → Int := fun x => if x = s then 0 else 99
  obtain ⟨st1, e1, g1⟩ := mLc_pure (mi := DL.iRng1 (aCons (m2 oIx (mVar 0) (mC (.int 0))) aNil)) (g := gN 3) (mt := mYes) (me := E1_law_steps_to) (vs := [3]) (env := [some w.d, some (.tup [.int s]), none, none, none, none, none, none]) (st := st) (st1 := st) (ds := rngD 0 w.many) (gd := none) (fun _ => true) (fun d => .int (V0 (DL.intD d)))
    (iRng1_nat (by simp only [aCons, aNil, m2, mVar, mC, R.bind, noEx, ixw0, List.getElem?_cons_zero]) hm) trivial (by simp; omega) (by
      intro d hd st1 g1
      obtain ⟨j, hj, rfl⟩ := rng_of hd
      refine ⟨[some w.d, some (.tup [.int s]), none, some (.int (j : Nat)), none, none, none, none], rfl, st1, rfl, List.prefix_refl _, fun _ => ⟨st1, ?_, List.prefix_refl _⟩⟩
      have i1 := oIn_ints (j : Int) [s] st1
      have ev : oIn (.int (j : Nat)) (.tup [.int s]) st1 = .ok (.bl (decide ((j : Int) ∈ [s]))) st1 := i1
      by_cases q : (j : Int) = s
      · have dq : decide ((j : Int) ∈ [s]) = true := by simp [q]
        rw [dq] at ev
        simp only [E1_law_steps_to, mIf, mB, m2, mVar, mC, R.bind, noEx, List.getElem?_cons_zero, List.getElem?_cons_succ, ev, if_true, DL.intD, V0, if_pos q]
      · have dq : decide ((j : Int) ∈ [s]) = false := by simp [q]
        rw [dq] at ev
        simp only [E1_law_steps_to, mIf, mB, m2, mVar, mC, R.bind, noEx, List.getElem?_cons_zero, List.getElem?_cons_succ, ev, Bool.false_eq_true, if_false, DL.intD, V0, if_neg q])
  have f1 : ((rngD 0 w.many).filter fun _ => true).map (fun d => D.int (V0 (DL.intD d))) = rowZ w.many V0 := by
    unfold rngD rowZ
    rw [List.filter_eq_self.mpr (fun _ _ => rfl), List.map_map]
    refine List.map_congr_left fun j _ => ?_
    simp [DL.intD]
  rw [f1] at g1
  have w1 : rdW st1 st.length = some (rowZ w.many V0) := rdW_gr g1 (rdW_new _ _)
  have gA : Gr st st1 := (List.prefix_append _ _).trans g1
  obtain ⟨env', st2, e2, q3, q4, q5, q6, rfl, g2, w2⟩ := loopS_ok (ds := rngD 0 w.many) (gd := none) (g := gN 4) (mb := L2_law_steps_to) (env := [some w.d, some (.tup [.int s]), some (.ref st.length), none, none, none, none, none]) (st := st1)
    (fun i env st' => ∃ (q3 q4 q5 q6 : Option D), env = [some w.d, some (.tup [.int s]), some (.ref st.length), q3, q4, q5, q6, none] ∧ Gr st st' ∧ rdW st' st.length = some (rowZ w.many (Web.passes w V0 i)))
    ⟨none, none, none, none, rfl, gA, w1⟩ (fun _ _ _ _ _ => trivial) (by
      rintro i env st' hi' ⟨q3, q4, q5, q6, rfl, g2, w2⟩
      rw [rngD_get hi']
      obtain ⟨env3, st3, e3, p5, p6, rfl, g3, w3⟩ := loopS_ok (ds := w.ties.map mkP) (gd := none) (g := DL.gTup (gsCons (gN 5) (gsCons (gN 6) gsNil)) 2) (mb := L1_law_steps_to) (env := [some w.d, some (.tup [.int s]), some (.ref st.length), q3, some (.int (i : Nat)), q5, q6, none]) (st := st')
        (fun j env st'' => ∃ (p5 p6 : Option D), env = [some w.d, some (.tup [.int s]), some (.ref st.length), q3, some (.int (i : Nat)), p5, p6, none] ∧ Gr st st'' ∧ rdW st'' st.length = some (rowZ w.many ((w.ties.take j).foldl Web.relax (Web.passes w V0 i))))
        ⟨q5, q6, rfl, g2, w2⟩ (fun _ _ _ _ _ => trivial) (by
          rintro j env st'' hj ⟨p5, p6, rfl, g3, w3⟩
          have hj' : j < w.ties.length := by simpa using hj
          rw [List.getElem_map]
          have t := ok.tie w.ties[j] (List.getElem_mem hj')
          obtain ⟨st4, e4, ⟨c, c', rfl⟩, w4⟩ := relax_turn ok w3 (x := w.ties[j].1) (y := w.ties[j].2) t (q0 := some w.d) (q1 := some (.tup [.int s])) (q3 := q3) (q4 := some (.int (i : Nat))) (q7 := none)
          refine ⟨_, _, _, _, rfl, e4, _, _, rfl, Gr.beyond (Gr.beyond g3 (Nat.le_refl _)) (Nat.le_refl _), ?_⟩
          rw [w4, List.take_add_one, List.getElem?_eq_getElem hj', List.foldl_append]
          rfl)
      rw [List.length_map, List.take_length] at w3
      have eF : L2_law_steps_to [some w.d, some (.tup [.int s]), some (.ref st.length), q3, some (.int (i : Nat)), q5, q6, none] st' = _ := sFor_tup (by simp only [m2, mVar, mC, R.bind, noEx, ixw1, List.getElem?_cons_zero]) e3
      exact ⟨_, _, _, _, rfl, eF, _, _, _, _, rfl, g3, w3⟩)
  rw [rngD_len] at w2
  have e2' := sFor_rng (mr := aCons (m2 oIx (mVar 0) (mC (.int 0))) aNil) (g := gN 4) (mb := L2_law_steps_to) (env := [some w.d, some (.tup [.int s]), some (.ref st.length), none, none, none, none, none]) (st := st1) (st1 := st1) (n := w.many) (by simp only [aCons, aNil, m2, mVar, mC, R.bind, noEx, ixw0, List.getElem?_cons_zero]) hm e2
  have l2 := rdL_W w2
  obtain ⟨st5, e5, g5⟩ := mLc_pure (mi := DL.iVal (mVar 2)) (g := gN 7) (mt := mYes) (me := E2_law_steps_to) (vs := [7]) (env := [some w.d, some (.tup [.int s]), some (.ref st.length), q3, q4, q5, q6, none]) (st := st2) (st1 := st2) (ds := rowZ w.many (Web.passes w V0 w.many)) (gd := some st.length) (fun _ => true) (fun d => .int (min 99 (DL.intD d)))
    (by simp only [DL.iVal, mVar, R.bind, List.getElem?_cons_zero, List.getElem?_cons_succ, l2]) l2 (by simp; omega) (by
      intro d hd st1 g1
      obtain ⟨j, hj, rfl⟩ := List.mem_map.mp hd
      refine ⟨[some w.d, some (.tup [.int s]), some (.ref st.length), q3, q4, q5, q6, some (.int (Web.passes w V0 w.many (j : Nat)))], rfl, st1, rfl, List.prefix_refl _, fun _ => ⟨st1, ?_, List.prefix_refl _⟩⟩
      simp only [E2_law_steps_to, mFn, aCons, aNil, mC, mVar, R.bind, noEx, List.getElem?_cons_zero, List.getElem?_cons_succ, bMin2, min_if, DL.intD])
  have f5 : ((rowZ w.many (Web.passes w V0 w.many)).filter fun _ => true).map (fun d => D.int (min 99 (DL.intD d))) = tvD w s := by
    unfold tvD rowZ
    rw [List.filter_eq_self.mpr (fun _ _ => rfl), List.map_map]
    refine List.map_congr_left fun j _ => ?_
    have := Web.passes_tv ok (S := (· = s)) (dist_le1 ok h0 h1) (j : Int)
    simp only [Function.comp, DL.intD]
    exact congrArg D.int this
  rw [f5] at g5
  refine ⟨st2.length, st5, ?_, g2.trans ((List.prefix_append _ _).trans g5), Gr.len g2, rdL_of_new g5⟩
  unfold f_law_steps_to mDef b_law_steps_to
  have e1' : mLc (DL.iRng1 (aCons (m2 oIx (mVar 0) (mC (.int 0))) aNil)) (gN 3) mYes E1_law_steps_to [3] [some w.d, some (.tup [.int s]), none, none, none, none, none, none] st = _ := e1
  simp only [sSeq, sAsg, List.map_cons, List.map_nil, List.length_cons, List.length_nil, List.replicate, List.cons_append, List.nil_append, Nat.reduceSub, Nat.reduceAdd, e1', R.toS, RS.seq, gN, List.set_cons_zero, List.set_cons_succ] at e2' ⊢
  simp only [e2', sRet]
  have e5' : mLc (DL.iVal (mVar 2)) (gN 7) mYes E2_law_steps_to [7] [some w.d, some (.tup [.int s]), some (.ref st.length), q3, q4, q5, q6, none] st2 = _ := e5
  rw [e5']
  rfl
end
end Pr
set_option Elab.async false
set_option linter.all false
set_option maxRecDepth 10000
namespace Pr
open PySem PySem.Spec PyProof.Rows L2 DL
section
variable {w : Web}
def rho (ρ : Nat → Nat) (n : Nat) : List D := (List.range n).map fun i => D.ref (ρ i)
/-- the table of steps -/
structure Tab (w : Web) (b rt : Nat) (ρ : Nat → Nat) (st : Sto) : Prop where
  t : rdL st rt = some (rho ρ w.many)
  row : ∀ i : Nat, i < w.many → rdL st (ρ i) = some (tvD w (i : Nat))
  lo : b ≤ rt
  lor : ∀ i : Nat, i < w.many → b ≤ ρ i
theorem Tab.gr {b rt : Nat} {ρ : Nat → Nat} {st st' : Sto} (h : Tab w b rt ρ st) (g : Gr st st') : Tab w b rt ρ st' := ⟨rdL_gr g h.t, fun i hi => rdL_gr g (h.row i hi), h.lo, h.lor⟩
theorem Tab.ev {b rt r : Nat} {ρ : Nat → Nat} {st st' : Sto} (h : Tab w b rt ρ st) (e : Ev r st st') (hr : r < b) : Tab w b rt ρ st' := ⟨e.rdL h.t (by have := h.lo; omega), fun i hi => e.rdL (h.row i hi) (by have := h.lor i hi; omega), h.lo, h.lor⟩
/-- an entry -/
noncomputable def Tv (w : Web) (s o : Int) : Int := Web.tv (w.dist (· = s) o)
theorem Tab.at1 {b rt : Nat} {ρ : Nat → Nat} {st : Sto} (h : Tab w b rt ρ st) {s : Int} (h0 : 0 ≤ s) (h1 : s < w.many) : oIx (.ref rt) (.int s) st = .ok (.ref (ρ s.toNat)) st := by
  have hk : s.toNat < w.many := by omega
  have a : L2.atI (rho ρ w.many) s = some (.ref (ρ s.toNat)) := by
    have := atI_at (xs := rho ρ w.many) (i := s.toNat) (d := .ref (ρ s.toNat)) (by simp [rho, hk])
    rw [Int.toNat_of_nonneg h0] at this
    exact this
  simp only [oIx, h.t, a]
theorem Tab.row' {b rt : Nat} {ρ : Nat → Nat} {st : Sto} (h : Tab w b rt ρ st) {s : Int} (h0 : 0 ≤ s) (h1 : s < w.many) : rdL st (ρ s.toNat) = some (tvD w s) := by
  have := h.row s.toNat (by omega)
  rw [Int.toNat_of_nonneg h0] at this
  exact this
theorem Tab.at2 {b rt : Nat} {ρ : Nat → Nat} {st : Sto} (h : Tab w b rt ρ st) {s o : Int} (h0 : 0 ≤ s) (h1 : s < w.many) (k0 : 0 ≤ o) (k1 : o < w.many) : oIx (.ref (ρ s.toNat)) (.int o) st = .ok (.int (Tv w s o)) st := by
  have a : L2.atI (tvD w s) o = some (.int (Tv w s o)) := rowZ_at k0 k1
  simp only [oIx, h.row' h0 h1, a]
theorem sm_dO {o : Option Nat} (h : ∀ k, o = some k → k ≤ 12) : SmLeaf (dO o) := by
  cases o with
  | none => trivial
  | some k => have := h k rfl; exact ⟨by omega, by omega⟩
theorem sm_tab {n : Nat} {L : Int → Option Nat} (h : ∀ s k, L s = some k → k ≤ 12) : ∀ d ∈ tab n L, SmLeaf d := fun d hd => by
  obtain ⟨i, _, rfl⟩ := List.mem_map.mp hd
  exact sm_dO (h _)
theorem sm_leaf {d : D} (h : SmLeaf d) : isLeaf d = true := (smleaf_pd h).2.2.2.2.2.2
theorem dist12 (ok : w.Ok) {s : Int} (h0 : 0 ≤ s) (h1 : s < w.many) : ∀ x k, w.dist (· = s) x = some k → k ≤ 12 := fun x k e => Nat.le_trans (dist_le1 ok h0 h1 x k e) ok.hi
/-- a comprehension over all seats -/
theorem over_all (ok : w.Ok) {mi : MI} {i : Nat} {vs : List Nat} {me : En → Sto → R D} {env : En} {st : Sto} (f : Int → D) (hi : mi env st = .ok (rngD 0 w.many, none) st)
    (hs : ∀ y : Int, 0 ≤ y → y < w.many → ∀ st', Gr st st' → ∃ st2, me ((wipeE env vs).set i (some (.int y))) st' = .ok (f y) st2 ∧ Gr st' st2) :
    ∃ st', mLc mi (gN i) mYes me vs env st = .ok (.ref st.length) st' ∧ Gr st st' ∧ rdL st' st.length = some ((List.range w.many).map fun j => f (j : Nat)) := by
  have hz : (1000 : Nat) < sizeLine := by decide
  have h12 := ok.hi
  obtain ⟨st2, e2, g2⟩ := mLc_pure (mi := mi) (g := gN i) (mt := mYes) (me := me) (vs := vs) (env := env) (st := st) (st1 := st) (ds := rngD 0 w.many) (gd := none) (fun d => true) (fun d => f (DL.intD d)) hi trivial (by simp; omega) (by
    intro d hd st' g'
    obtain ⟨j, hj, rfl⟩ := rng_of hd
    obtain ⟨st3, e3, g3⟩ := hs (j : Int) (by omega) (by omega) st' g'
    exact ⟨_, rfl, st', rfl, List.prefix_refl _, fun _ => ⟨st3, e3, g3⟩⟩)
  refine ⟨st2, e2, (List.prefix_append _ _).trans g2, ?_⟩
  rw [rdL_of_new g2]
  congr 1
  unfold rngD
  rw [List.filter_eq_self.mpr (fun _ _ => rfl), List.map_map]
  refine List.map_congr_left fun j _ => ?_
  simp [DL.intD]
theorem rng_w (ok : w.Ok) {env : En} {q : Option D} (hq : env[0]? = some (some w.d)) (st : Sto) : DL.iRng1 (aCons (m2 oIx (mVar 0) (mC (.int 0))) aNil) env st = .ok (rngD 0 w.many, none) st := by
  have hi := ok.hi
  have hm : Mid (w.many : Int) := by unfold Mid; omega
  exact iRng1_nat (by simp only [aCons, aNil, m2, mVar, mC, R.bind, noEx, hq, ixw0]) hm
theorem none_of_ok (o : Option Nat) (h : ∀ k, o = some k → k ≤ 12) (st : Sto) : f_law_none_of [.int (Web.tv o)] st = .ok (dO o) st := by
  cases o with
  | none => simp [f_law_none_of, b_law_none_of, mDef, sRet, sRetN, sSeq, sNil, sIf, sAsg, sExpr, sPar, sAug, sNo, mAnd, mOr, mNot, mIf, m2, m1, mChain, mFn, mCall, mMeth, aCons, aNil, mVar, mC, mB, tmAnd, tmOr, tmNot, mTup, mLst, mSl, pNone, pSome, R.bind, R.toS, RS.seq, noEx, gN, gSet, DL.gTup, gsCons, gsNil, bType, kindD, bLen, bAbs, bInt, bMax2, bMin2, bTuple, bList, itemsD, oAdd, oSub, oMul, oDiv, oMod, oPow, oNeg, oLt, oLe, oGt, oGe, oLtT, oIs, oIsNot, DL.isNon, oIx, oAddI, sAsg2, oMulI, mChain3, Web.tv, dO]
  | some k =>
    have := h k rfl
    have n : ¬ ((k : Nat) : Int) = 99 := by omega
    simp [f_law_none_of, b_law_none_of, mDef, sRet, sRetN, sSeq, sNil, sIf, sAsg, sExpr, sPar, sAug, sNo, mAnd, mOr, mNot, mIf, m2, m1, mChain, mFn, mCall, mMeth, aCons, aNil, mVar, mC, mB, tmAnd, tmOr, tmNot, mTup, mLst, mSl, pNone, pSome, R.bind, R.toS, RS.seq, noEx, gN, gSet, DL.gTup, gsCons, gsNil, bType, kindD, bLen, bAbs, bInt, bMax2, bMin2, bTuple, bList, itemsD, oAdd, oSub, oMul, oDiv, oMod, oPow, oNeg, oLt, oLe, oGt, oGe, oLtT, oIs, oIsNot, DL.isNon, oIx, oAddI, sAsg2, oMulI, mChain3, Web.tv, dO, n]
def noneD : D → D
  | .int i => if i = 99 then .non else .int i
  | d => d
theorem noneD_tv {o : Option Nat} (h : ∀ k, o = some k → k ≤ 12) : noneD (.int (Web.tv o)) = dO o := by
  cases o with
  | none => rfl
  | some k =>
    have := h k rfl
    have n : ¬ ((k : Nat) : Int) = 99 := by omega
    simp [noneD, Web.tv, dO, n]
/-- what is due: a row's steps, None of none -/
theorem due_ok (ok : w.Ok) {b rt : Nat} {ρ : Nat → Nat} {st : Sto} (h : Tab w b rt ρ st) {s : Int} (h0 : 0 ≤ s) (h1 : s < w.many) {q3 q4 q5 q6 q7 q8 q9 q10 q11 : Option D} :
    ∃ st', mLc (DL.iVal (m2 oIx (mVar 2) (mVar 1))) (gN 4) mYes E1_law_from_right [4] [some w.d, some (.int s), some (.ref rt), q3, q4, q5, q6, q7, q8, q9, q10, q11] st = .ok (.ref st.length) st' ∧ Gr st st' ∧ rdL st' st.length = some (tab w.many (w.dist (· = s))) := by
  have hz : (1000 : Nat) < sizeLine := by decide
  have h12 := ok.hi
  have d12 := dist12 ok h0 h1
  have er := h.row' h0 h1
  obtain ⟨st2, e2, g2⟩ := mLc_pure (mi := DL.iVal (m2 oIx (mVar 2) (mVar 1))) (g := gN 4) (mt := mYes) (me := E1_law_from_right) (vs := [4]) (env := [some w.d, some (.int s), some (.ref rt), q3, q4, q5, q6, q7, q8, q9, q10, q11]) (st := st) (st1 := st) (ds := tvD w s) (gd := some (ρ s.toNat)) (fun d => true) noneD
    (by simp only [DL.iVal, m2, mVar, R.bind, List.getElem?_cons_zero, List.getElem?_cons_succ, h.at1 h0 h1, noEx, er]) er (by simp [tvD]; omega) (by
      intro d hd st' g'
      obtain ⟨j, hj, rfl⟩ := List.mem_map.mp hd
      refine ⟨[some w.d, some (.int s), some (.ref rt), q3, some (.int (Web.tv (w.dist (· = s) (j : Nat)))), q5, q6, q7, q8, q9, q10, q11], rfl, st', rfl, List.prefix_refl _, fun _ => ⟨st', ?_, List.prefix_refl _⟩⟩
      have e := none_of_ok (w.dist (· = s) (j : Nat)) (d12 _) st'
      rw [noneD_tv (d12 _)]
      simp only [E1_law_from_right, mCall, aCons, aNil, mVar, R.bind, List.getElem?_cons_zero, List.getElem?_cons_succ, e])
  refine ⟨st2, e2, (List.prefix_append _ _).trans g2, ?_⟩
  rw [rdL_of_new g2]
  congr 1
  unfold tvD rowZ tab
  rw [List.filter_eq_self.mpr (fun _ _ => rfl), List.map_map]
  refine List.map_congr_left fun j _ => ?_
  exact noneD_tv (d12 _)
theorem third_ok (ok : w.Ok) {b rt : Nat} {ρ : Nat → Nat} {st : Sto} (h : Tab w b rt ρ st) {s o : Int} (h0 : 0 ≤ s) (h1 : s < w.many) (k0 : 0 ≤ o) (k1 : o < w.many) {q3 q4 q5 q7 q8 q9 q10 q11 : Option D} :
    ∃ st' p7, L1_law_from_right [some w.d, some (.int s), some (.ref rt), q3, q4, q5, some (.int o), q7, q8, q9, q10, q11] st = .nx [some w.d, some (.int s), some (.ref rt), q3, q4, q5, some (.int o), p7, q8, q9, q10, q11] st' ∧ Gr st st' := by
  have d12 := dist12 ok h0 h1
  have lo := ok.lo
  obtain ⟨st1, e1, g1, r1⟩ := over_all ok (mi := DL.iRng1 (aCons (m2 oIx (mVar 0) (mC (.int 0))) aNil)) (i := 8) (vs := [8]) (me := E4_law_from_right) (env := [some w.d, some (.int s), some (.ref rt), q3, q4, q5, some (.int o), q7, q8, q9, q10, q11]) (st := st) (fun c => .int (Tv w s c + Tv w c o)) (rng_w ok (q := none) rfl st) (by
    intro c c0 c1 st' g'
    have h' := h.gr g'
    refine ⟨st', ?_, List.prefix_refl _⟩
    simp only [E4_law_from_right, m2, mVar, R.bind, wipeE, List.set_cons_zero, List.set_cons_succ, List.getElem?_cons_zero, List.getElem?_cons_succ, h'.at1 h0 h1, h'.at1 c0 c1, noEx, h'.at2 h0 h1 c0 c1, h'.at2 c0 c1 k0 k1, oAdd])
  have hA := h.gr g1
  refine ⟨st1, some (.ref st.length), ?_, g1⟩
  obtain ⟨m, em⟩ := minI_ex (xs := (List.range w.many).map fun j => Tv w s (j : Nat) + Tv w (j : Nat) o) (by
    intro e
    have := congrArg List.length e
    simp at this; omega)
  have le : Tv w s o ≤ m := by
    obtain ⟨j, _, rfl⟩ := List.mem_map.mp (minI_spec em).1
    exact Web.tv_third (d12 o)
  have eI : intsOf ((List.range w.many).map fun j => D.int (Tv w s (j : Nat) + Tv w (j : Nat) o)) = some ((List.range w.many).map fun j => Tv w s (j : Nat) + Tv w (j : Nat) o) := by
    have := intsOf_ints ((List.range w.many).map fun j => Tv w s (j : Nat) + Tv w (j : Nat) o)
    rw [List.map_map] at this
    exact this
  have hn : decide (m < Tv w s o) = false := by rw [decide_eq_false_iff_not]; omega
  have e1' : mLc (DL.iRng1 (aCons (m2 oIx (mVar 0) (mC (.int 0))) aNil)) (gN 8) mYes E4_law_from_right [8] [some w.d, some (.int s), some (.ref rt), q3, q4, q5, some (.int o), q7, q8, q9, q10, q11] st = _ := e1
  have hB : sAsg (mLc (DL.iRng1 (aCons (m2 oIx (mVar 0) (mC (.int 0))) aNil)) (gN 8) mYes E4_law_from_right [8]) (gN 7) [some w.d, some (.int s), some (.ref rt), q3, q4, q5, some (.int o), q7, q8, q9, q10, q11] st = .nx [some w.d, some (.int s), some (.ref rt), q3, q4, q5, some (.int o), some (.ref st.length), q8, q9, q10, q11] st1 := by
    simp only [sAsg, e1', R.toS, gN, List.set_cons_zero, List.set_cons_succ]
  unfold L1_law_from_right
  rw [seq_nx hB]
  simp only [sIf, mB, m2, mFn, mVar, aCons, aNil, R.bind, R.toS, noEx, List.getElem?_cons_zero, List.getElem?_cons_succ, hA.at1 h0 h1, hA.at2 h0 h1 k0 k1, bMinA, intsAt, r1, Option.bind_some, eI, em, oGt, gt_iff_lt, hn, Bool.false_eq_true, if_false, sNil]
theorem reach_len (ok : w.Ok) (s : Int) (k : Nat) : (w.reach s k).length ≤ 12 := by
  unfold Web.reach
  refine Nat.le_trans (List.length_filter_le _ _) ?_
  rw [List.length_map, List.length_range]
  exact ok.hi
theorem sm_reach (ok : w.Ok) (s : Int) (k : Nat) : ∀ d ∈ (w.reach s k).map D.int, SmLeaf d := fun d hd => by
  obtain ⟨x, hx, rfl⟩ := List.mem_map.mp hd
  have := (reach_mem (far := 0)).mp hx
  have := ok.hi
  exact ⟨by omega, by omega⟩
theorem far_ok (ok : w.Ok) (hl : w.ties.length < 1000) {b rt : Nat} {ρ : Nat → Nat} {st : Sto} (h : Tab w b rt ρ st) {s : Int} (h0 : 0 ≤ s) (h1 : s < w.many) {far : Nat} (hf : far ≤ 50) {q3 q4 q5 q6 q7 q8 q10 q11 : Option D} :
    ∃ st' p10, L2_law_from_right [some w.d, some (.int s), some (.ref rt), q3, q4, q5, q6, q7, q8, some (.int far), q10, q11] st = .nx [some w.d, some (.int s), some (.ref rt), q3, q4, q5, q6, q7, q8, some (.int far), p10, q11] st' ∧ Gr st st' := by
  have hz : (1000 : Nat) < sizeLine := by decide
  have h12 := ok.hi
  have d12 := dist12 ok h0 h1
  obtain ⟨st1, e1, g1⟩ := mLc_pure (mi := DL.iRng1 (aCons (m2 oIx (mVar 0) (mC (.int 0))) aNil)) (g := gN 6) (mt := C1_law_from_right) (me := E5_law_from_right) (vs := [6]) (env := [some w.d, some (.int s), some (.ref rt), q3, q4, q5, q6, q7, q8, some (.int far), q10, q11]) (st := st) (st1 := st) (ds := rngD 0 w.many) (gd := none) (fun d => decide (Tv w s (DL.intD d) ≤ (far : Int))) (fun d => d) (rng_w ok (q := none) rfl st) trivial (by simp; omega) (by
    intro d hd st' g'
    obtain ⟨j, hj, rfl⟩ := rng_of hd
    have h' := h.gr g'
    refine ⟨[some w.d, some (.int s), some (.ref rt), q3, q4, q5, some (.int (j : Nat)), q7, q8, some (.int far), q10, q11], rfl, st', ?_, List.prefix_refl _, fun _ => ⟨st', rfl, List.prefix_refl _⟩⟩
    simp only [C1_law_from_right, mB, m2, mVar, R.bind, List.getElem?_cons_zero, List.getElem?_cons_succ, h'.at1 h0 h1, noEx, h'.at2 h0 h1 (show 0 ≤ ((j : Nat) : Int) by omega) (show ((j : Nat) : Int) < w.many by omega), oLe, DL.intD]
    exact congrArg (fun b => DL.R.ok b st') (decide_eq_decide.mpr Iff.rfl))
  have f1 : ((rngD 0 w.many).filter fun d => decide (Tv w s (DL.intD d) ≤ (far : Int))).map (fun d => d) = (w.reach s far).map D.int := by
    unfold rngD Web.reach
    rw [List.filter_map, List.map_map, List.filter_map, List.map_map]
    congr 1
    · funext j; simp [Function.comp]
    · congr 1
      funext j
      show decide (Tv w s (DL.intD (D.int (0 + (j : Nat)))) ≤ (far : Int)) = near far (w.dist (· = s) (j : Nat))
      simp only [DL.intD, Int.zero_add]
      unfold Tv
      cases q : w.dist (· = s) ((j : Nat) : Int) with
      | none =>
        have : ¬ (99 : Int) ≤ far := by omega
        simp [Web.tv, near, this]
      | some k => simp [Web.tv, near]
  rw [f1] at g1
  have r1 := rdL_of_new g1
  obtain ⟨st2, e2, g2⟩ := within_ok ok hl h0 h1 far st1
  obtain ⟨x, ox, ex⟩ := repr_tup (sm_reach ok s far) (by rw [List.length_map]; have := reach_len ok s far; omega)
  have en := oNe_str ox
  refine ⟨st2, some (.tup ((w.reach s far).map .int)), ?_, ((List.prefix_append _ _).trans g1).trans g2⟩
  have e1' : mLc (DL.iRng1 (aCons (m2 oIx (mVar 0) (mC (.int 0))) aNil)) (gN 6) C1_law_from_right E5_law_from_right [6] [some w.d, some (.int s), some (.ref rt), q3, q4, q5, q6, q7, q8, some (.int far), q10, q11] st = _ := e1
  have hB : sAsg (mFn bTuple (aCons (mLc (DL.iRng1 (aCons (m2 oIx (mVar 0) (mC (.int 0))) aNil)) (gN 6) C1_law_from_right E5_law_from_right [6]) aNil)) (gN 10) [some w.d, some (.int s), some (.ref rt), q3, q4, q5, q6, q7, q8, some (.int far), q10, q11] st = .nx [some w.d, some (.int s), some (.ref rt), q3, q4, q5, q6, q7, q8, some (.int far), some (.tup ((w.reach s far).map .int)), q11] st1 := by
    simp only [sAsg, mFn, aCons, aNil, e1', R.bind, R.toS, bTuple, itemsD, r1, noEx, gN, List.set_cons_zero, List.set_cons_succ]
  unfold L2_law_from_right
  rw [seq_nx hB]
  simp only [sIf, mB, m2, mFn, mCall, mVar, aCons, aNil, R.bind, R.toS, noEx, List.getElem?_cons_zero, List.getElem?_cons_succ, e2, ex, en, Bool.false_eq_true, if_false, sNil]
theorem reach_1 (ok : w.Ok) {s : Int} (h0 : 0 ≤ s) (h1 : s < w.many) : sortI (s :: w.nbrs s) = w.reach s 1 := by
  have nd : (s :: w.nbrs s).Nodup := by
    refine List.nodup_cons.mpr ⟨fun h => ?_, (ok.nbrs_lt s).imp fun h e => by omega⟩
    have := ok.adj_rng (Web.mem_nbrs.mp h)
    omega
  refine sorted_uniq (sortI_sorted _) ((reach_lt (w := w)).imp fun h => by omega) ?_
  refine (sortI_perm _).trans ?_
  refine (List.perm_ext_iff_of_nodup nd ((reach_lt (w := w)).imp fun h e => by omega)).mpr fun x => ?_
  rw [reach_mem (far := 0), List.mem_cons, Web.mem_nbrs]
  constructor
  · rintro (rfl | a)
    · have : w.dist (· = x) x = some 0 := Web.dist_zero.mpr rfl
      exact ⟨⟨h0, h1⟩, by rw [this]; rfl⟩
    · have r := ok.adj_rng a
      have : w.dist (· = s) s = some 0 := Web.dist_zero.mpr rfl
      obtain ⟨j, hj, e⟩ := Web.dist_near a.symm this
      exact ⟨r.2.1, by rw [e]; simp [near]; omega⟩
  · rintro ⟨r, h⟩
    cases q : w.dist (· = s) x with
    | none => rw [q] at h; cases h
    | some k =>
      rw [q] at h
      have hk : k ≤ 1 := by simpa [near] using h
      cases k with
      | zero => exact .inl ((Web.dist_zero (S := (· = s))).mp q)
      | succ k =>
        have : k = 0 := by omega
        subst this
        obtain ⟨t, a, e⟩ := Web.dist_next q
        have := (Web.dist_zero (S := (· = s))).mp e
        subst this
        exact .inr a.symm
theorem reach_all (ok : w.Ok) {s : Int} (h0 : 0 ≤ s) (h1 : s < w.many) {k : Nat} (hk : 12 ≤ k) : w.reach s k = w.reach s 12 := by
  unfold Web.reach
  refine List.filter_congr fun x _ => ?_
  cases q : w.dist (· = s) x with
  | none => rfl
  | some j =>
    have := dist12 ok h0 h1 x j q
    have a : j ≤ k := by omega
    simp [near, this, a]
theorem from_right_ok (ok : w.Ok) (hl : w.ties.length < 1000) {b rt : Nat} {ρ : Nat → Nat} {st : Sto} (h : Tab w b rt ρ st) {s : Int} (h0 : 0 ≤ s) (h1 : s < w.many) : ∃ st', f_law_from_right [w.d, .int s, .ref rt] st = .ok (.bl true) st' ∧ Gr st st' := by
  have hz : (1000 : Nat) < sizeLine := by decide
  have l1 : 1 ≤ sizeLine := by omega
  have h12 := ok.hi
  have d12 := dist12 ok h0 h1
  have st12 : ∀ d ∈ tab w.many (w.dist (· = s)), SmLeaf d := sm_tab d12
  obtain ⟨x, ox, ex⟩ := repr_ref st12 (by simp; omega)
  have en := oNe_str ox
  -- due
  obtain ⟨st1, e1, g1, r1⟩ := due_ok ok h h0 h1 (q3 := none) (q4 := none) (q5 := none) (q6 := none) (q7 := none) (q8 := none) (q9 := none) (q10 := none) (q11 := none)
  -- told
  obtain ⟨st2, e2, g2, r2⟩ := over_all ok (mi := DL.iRng1 (aCons (m2 oIx (mVar 0) (mC (.int 0))) aNil)) (i := 6) (vs := [6]) (me := E2_law_from_right) (env := [some w.d, some (.int s), some (.ref rt), some (.ref st.length), none, none, none, none, none, none, none, none]) (st := st1) (fun o => dO (w.dist (· = s) o)) (rng_w ok (q := none) rfl st1) (by
    intro o o0 o1 st' g'
    obtain ⟨st3, e3, g3⟩ := steps_ok ok hl h0 h1 o0 o1 st'
    rw [Web.dist_back] at e3
    refine ⟨st3, ?_, g3⟩
    simp only [E2_law_from_right, mCall, aCons, aNil, mVar, R.bind, wipeE, List.set_cons_zero, List.set_cons_succ, List.getElem?_cons_zero, List.getElem?_cons_succ, e3])
  have r2' : rdL st2 st1.length = some (tab w.many (w.dist (· = s))) := r2
  have r1' := rdL_gr g2 r1
  -- the other way about
  obtain ⟨st3, e3, g3, r3⟩ := over_all ok (mi := DL.iRng1 (aCons (m2 oIx (mVar 0) (mC (.int 0))) aNil)) (i := 6) (vs := [6]) (me := E3_law_from_right) (env := [some w.d, some (.int s), some (.ref rt), some (.ref st.length), none, some (.ref st1.length), none, none, none, none, none, none]) (st := st2) (fun o => dO (w.dist (· = s) o)) (rng_w ok (q := none) rfl st2) (by
    intro o o0 o1 st' g'
    obtain ⟨st3, e3, g3⟩ := steps_ok ok hl o0 o1 h0 h1 st'
    refine ⟨st3, ?_, g3⟩
    simp only [E3_law_from_right, mCall, aCons, aNil, mVar, R.bind, wipeE, List.set_cons_zero, List.set_cons_succ, List.getElem?_cons_zero, List.getElem?_cons_succ, e3])
  have r3' : rdL st3 st2.length = some (tab w.many (w.dist (· = s))) := r3
  have en3 := oNe_ref (fun d hd => sm_leaf (st12 d hd)) r3' (rdL_gr g3 r1')
  have h3 := ((h.gr g1).gr g2).gr g3
  -- by a third seat
  obtain ⟨env4, st4, e4, q6, q7, rfl, g4⟩ := loopS_ok (ds := rngD 0 w.many) (gd := none) (g := gN 6) (mb := L1_law_from_right) (env := [some w.d, some (.int s), some (.ref rt), some (.ref st.length), none, some (.ref st1.length), none, none, none, none, none, none]) (st := st3)
    (fun i env st' => ∃ q6 q7 : Option D, env = [some w.d, some (.int s), some (.ref rt), some (.ref st.length), none, some (.ref st1.length), q6, q7, none, none, none, none] ∧ Gr st3 st') ⟨none, none, rfl, List.prefix_refl _⟩ (fun _ _ _ _ _ => trivial) (by
      rintro i env st' hi ⟨q6, q7, rfl, g'⟩
      rw [rngD_get hi]
      rw [rngD_len] at hi
      obtain ⟨st5, p7, e5, g5⟩ := third_ok ok (h3.gr g') h0 h1 (o := (i : Nat)) (by omega) (by omega) (q3 := some (.ref st.length)) (q4 := none) (q5 := some (.ref st1.length)) (q7 := q7) (q8 := none) (q9 := none) (q10 := none) (q11 := none)
      exact ⟨_, _, _, _, rfl, e5, _, _, rfl, g'.trans g5⟩)
  have hm : Mid (w.many : Int) := by unfold Mid; omega
  have e4' := sFor_rng (mr := aCons (m2 oIx (mVar 0) (mC (.int 0))) aNil) (g := gN 6) (mb := L1_law_from_right) (env := [some w.d, some (.int s), some (.ref rt), some (.ref st.length), none, some (.ref st1.length), none, none, none, none, none, none]) (st := st3) (st1 := st3) (n := w.many) (by simp only [aCons, aNil, m2, mVar, mC, R.bind, noEx, ixw0, List.getElem?_cons_zero]) hm e4
  have h4 := h3.gr g4
  -- how far
  obtain ⟨env5, st5, e5, q9, q10, rfl, g5⟩ := loopS_ok (ds := rngD 0 (w.many + 2)) (gd := none) (g := gN 9) (mb := L2_law_from_right) (env := [some w.d, some (.int s), some (.ref rt), some (.ref st.length), none, some (.ref st1.length), q6, q7, none, none, none, none]) (st := st4)
    (fun i env st' => ∃ q9 q10 : Option D, env = [some w.d, some (.int s), some (.ref rt), some (.ref st.length), none, some (.ref st1.length), q6, q7, none, q9, q10, none] ∧ Gr st4 st') ⟨none, none, rfl, List.prefix_refl _⟩ (fun _ _ _ _ _ => trivial) (by
      rintro i env st' hi ⟨q9, q10, rfl, g'⟩
      rw [rngD_get hi]
      rw [rngD_len] at hi
      obtain ⟨st6, p10, e6, g6⟩ := far_ok ok hl (h4.gr g') h0 h1 (far := i) (by omega) (q3 := some (.ref st.length)) (q4 := none) (q5 := some (.ref st1.length)) (q6 := q6) (q7 := q7) (q8 := none) (q10 := q10) (q11 := none)
      exact ⟨_, _, _, _, rfl, e6, _, _, rfl, g'.trans g6⟩)
  have hm2 : Mid ((w.many + 2 : Nat) : Int) := by unfold Mid; omega
  have e5' := sFor_rng (mr := aCons (m2 oAdd (m2 oIx (mVar 0) (mC (.int 0))) (mC (.int 2))) aNil) (g := gN 9) (mb := L2_law_from_right) (env := [some w.d, some (.int s), some (.ref rt), some (.ref st.length), none, some (.ref st1.length), q6, q7, none, none, none, none]) (st := st4) (st1 := st4) (n := w.many + 2) (by simp only [aCons, aNil, m2, mVar, mC, R.bind, noEx, ixw0, oAdd, List.getElem?_cons_zero, Int.natCast_add]; rfl) hm2 e5
  -- one step
  obtain ⟨st6, e6, g6⟩ := neighbours_ok ok hl h0 h1 st5
  have lenN : (w.nbrs s).length ≤ 12 := by
    have := ok.nbrs_lt s
    exact Nat.le_trans (len_le (this.imp fun h e => by omega) fun x hx => (ok.adj_rng (Web.mem_nbrs.mp hx)).2.1) h12
  have eS : bSorted [.tup ((s :: w.nbrs s).map .int)] st6 = .ok (.ref st6.length) (st6 ++ [.lst ((w.reach s 1).map D.int)]) := by
    simp only [bSorted, intsOf_ints, reach_1 ok h0 h1]
  let st7 := st6 ++ [Cl.lst ((w.reach s 1).map D.int)]
  have r7 : rdL st7 st6.length = some ((w.reach s 1).map D.int) := rdL_new _ _
  obtain ⟨st8, e8, g8⟩ := within_ok ok hl h0 h1 1 st7
  let st9 := st8 ++ [Cl.lst ((w.reach s 1).map D.int)]
  have r9 : rdL st9 st8.length = some ((w.reach s 1).map D.int) := rdL_new _ _
  have r7' : rdL st9 st6.length = some ((w.reach s 1).map D.int) := rdL_gr (g8.trans (List.prefix_append _ _)) r7
  have lf : ∀ k, ∀ d ∈ (w.reach s k).map D.int, isLeaf d = true := fun k d hd => sm_leaf (sm_reach ok s k d hd)
  have e9 := oEq_ref (lf 1) r9 r7'
  obtain ⟨st10, e10, g10⟩ := within_ok ok hl h0 h1 (10 ^ 39) st9
  obtain ⟨st11, e11, g11⟩ := within_ok ok hl h0 h1 12 st10
  rw [reach_all ok h0 h1 (by decide)] at e10
  have e12 := oEq_tup (lf 12) st11
  have pw : ∀ st : Sto, oPow (.int 10) (.int 39) st = .ok (.int ((10 ^ 39 : Nat) : Int)) st := fun st => by
    have c : (0 : Int) ≤ 39 ∧ (39 : Int) ≤ 1000000 ∧ (10 : Int).natAbs < 2 ^ 64 := by decide
    simp only [oPow, if_pos c]
    rfl
  refine ⟨st11, ?_, ((((((g1.trans g2).trans g3).trans g4).trans g5).trans g6).trans ((List.prefix_append _ _).trans (g8.trans (List.prefix_append _ _)))).trans (g10.trans g11)⟩
  have h1s : sAsg (mLc (DL.iVal (m2 oIx (mVar 2) (mVar 1))) (gN 4) mYes E1_law_from_right [4]) (gN 3) [some w.d, some (.int s), some (.ref rt), none, none, none, none, none, none, none, none, none] st = .nx [some w.d, some (.int s), some (.ref rt), some (.ref st.length), none, none, none, none, none, none, none, none] st1 := by
    have e1' : mLc (DL.iVal (m2 oIx (mVar 2) (mVar 1))) (gN 4) mYes E1_law_from_right [4] [some w.d, some (.int s), some (.ref rt), none, none, none, none, none, none, none, none, none] st = _ := e1
    simp only [sAsg, e1', R.toS, gN, List.set_cons_zero, List.set_cons_succ]
  have h2s : sAsg (mLc (DL.iRng1 (aCons (m2 oIx (mVar 0) (mC (.int 0))) aNil)) (gN 6) mYes E2_law_from_right [6]) (gN 5) [some w.d, some (.int s), some (.ref rt), some (.ref st.length), none, none, none, none, none, none, none, none] st1 = .nx [some w.d, some (.int s), some (.ref rt), some (.ref st.length), none, some (.ref st1.length), none, none, none, none, none, none] st2 := by
    have e2' : mLc (DL.iRng1 (aCons (m2 oIx (mVar 0) (mC (.int 0))) aNil)) (gN 6) mYes E2_law_from_right [6] [some w.d, some (.int s), some (.ref rt), some (.ref st.length), none, none, none, none, none, none, none, none] st1 = _ := e2
    simp only [sAsg, e2', R.toS, gN, List.set_cons_zero, List.set_cons_succ]
  unfold f_law_from_right mDef b_law_from_right
  simp only [List.map_cons, List.map_nil, List.length_cons, List.length_nil, List.replicate, List.cons_append, List.nil_append, Nat.reduceSub, Nat.reduceAdd]
  rw [seq_nx h1s, seq_nx h2s]
  have h3s : ∀ (a c : En → Sto → RS), sIf (tmOr (mB (m2 oNe (mFn bRepr (aCons (mVar 5) aNil)) (mFn bRepr (aCons (mVar 3) aNil)))) (mB (m2 oNe (mLc (DL.iRng1 (aCons (m2 oIx (mVar 0) (mC (.int 0))) aNil)) (gN 6) mYes E3_law_from_right [6]) (mVar 3)))) a sNil [some w.d, some (.int s), some (.ref rt), some (.ref st.length), none, some (.ref st1.length), none, none, none, none, none, none] st2 = .nx [some w.d, some (.int s), some (.ref rt), some (.ref st.length), none, some (.ref st1.length), none, none, none, none, none, none] st3 := by
    intro a c
    have e3' : mLc (DL.iRng1 (aCons (m2 oIx (mVar 0) (mC (.int 0))) aNil)) (gN 6) mYes E3_law_from_right [6] [some w.d, some (.int s), some (.ref rt), some (.ref st.length), none, some (.ref st1.length), none, none, none, none, none, none] st2 = _ := e3
    have x1 := ex st2 _ r2'
    have x2 := ex st2 _ r1'
    simp only [sIf, tmOr, mB, m2, mFn, mVar, aCons, aNil, R.bind, R.toS, noEx, List.getElem?_cons_zero, List.getElem?_cons_succ, x1, x2, en, Bool.false_eq_true, if_false, e3', en3, sNil]
  rw [seq_nx (h3s _ sNil), seq_nx e4', seq_nx e5']
  have h6s : sAsg (mFn bSorted (aCons (m2 oAdd (mTup (aCons (mVar 1) aNil)) (mCall f_neighbours (aCons (mVar 0) (aCons (mVar 1) aNil)))) aNil)) (gN 11) [some w.d, some (.int s), some (.ref rt), some (.ref st.length), none, some (.ref st1.length), q6, q7, none, q9, q10, none] st5 = .nx [some w.d, some (.int s), some (.ref rt), some (.ref st.length), none, some (.ref st1.length), q6, q7, none, q9, q10, some (.ref st6.length)] st7 := by
    have c : 1 + (w.nbrs s).length ≤ sizeLine := by omega
    have eS' : bSorted [.tup (.int s :: (w.nbrs s).map .int)] st6 = .ok (.ref st6.length) st7 := eS
    simp only [sAsg, mFn, m2, mTup, mCall, mVar, aCons, aNil, R.bind, R.toS, noEx, List.getElem?_cons_zero, List.getElem?_cons_succ, List.length_cons, List.length_nil, Nat.zero_add, l1, if_true, e6, oAdd, List.length_map, c, List.cons_append, List.nil_append, eS', gN, List.set_cons_zero, List.set_cons_succ]
  rw [seq_nx h6s]
  have eB : bList [.tup ((w.reach s 1).map D.int)] st8 = .ok (.ref st8.length) st9 := rfl
  have e8' : f_within [w.d, .int s, .int 1] st7 = .ok (.tup ((w.reach s 1).map .int)) st8 := e8
  have e11' : f_within [w.d, .int s, .int 12] st10 = .ok (.tup ((w.reach s 12).map .int)) st11 := e11
  simp only [sRet, mAnd, m2, mFn, mCall, mVar, mC, aCons, aNil, R.bind, R.toS, noEx, List.getElem?_cons_zero, List.getElem?_cons_succ, e8', eB, e9, pw, e10, e11', e12]
end
end Pr
set_option Elab.async false
set_option linter.all false
set_option maxRecDepth 10000
namespace DL
namespace Web
theorem ball_any {w : Web} {xs : List Int} : ∀ {k : Nat} {s : Int}, w.ball (· ∈ xs) k s ↔ ∃ o ∈ xs, w.ball (· = o) k s
  | 0, s => ⟨fun h => ⟨s, h, rfl⟩, fun ⟨o, ho, e⟩ => by cases e; exact ho⟩
  | k + 1, s => by
    constructor
    · rintro (h | ⟨t, a, h⟩)
      · obtain ⟨o, ho, b⟩ := ball_any.mp h; exact ⟨o, ho, .inl b⟩
      · obtain ⟨o, ho, b⟩ := ball_any.mp h; exact ⟨o, ho, .inr ⟨t, a, b⟩⟩
    · rintro ⟨o, ho, h | ⟨t, a, h⟩⟩
      · exact .inl (ball_any.mpr ⟨o, ho, h⟩)
      · exact .inr ⟨t, a, ball_any.mpr ⟨o, ho, h⟩⟩
theorem tv_any {w : Web} {xs : List Int} {s m : Int} (hm : m ∈ (99 : Int) :: xs.map fun o => tv (w.dist (· = o) s)) (hle : ∀ y ∈ (99 : Int) :: xs.map fun o => tv (w.dist (· = o) s), m ≤ y) (h12 : ∀ k, w.dist (· ∈ xs) s = some k → k ≤ 12) : m = tv (w.dist (· ∈ xs) s) := by
  cases q : w.dist (· ∈ xs) s with
  | none =>
    have all : ∀ o ∈ xs, w.dist (· = o) s = none := fun o ho => dist_none.mpr fun k b => dist_none.mp q k (ball_any.mpr ⟨o, ho, b⟩)
    rcases List.mem_cons.mp hm with e | e
    · exact e
    · obtain ⟨o, ho, rfl⟩ := List.mem_map.mp e
      rw [all o ho]
  | some k =>
    have hk := h12 k q
    obtain ⟨b1, b2⟩ := dist_some.mp q
    obtain ⟨o, ho, bo⟩ := ball_any.mp b1
    have eo : w.dist (· = o) s = some k := dist_some.mpr ⟨bo, fun j hj b => b2 j hj (ball_any.mpr ⟨o, ho, b⟩)⟩
    have up : m ≤ k := by
      have := hle (tv (w.dist (· = o) s)) (List.mem_cons_of_mem _ (List.mem_map.mpr ⟨o, ho, rfl⟩))
      rw [eo] at this
      exact this
    have dn : (k : Int) ≤ m := by
      rcases List.mem_cons.mp hm with e | e
      · omega
      · obtain ⟨o2, ho2, rfl⟩ := List.mem_map.mp e
        cases e2 : w.dist (· = o2) s with
        | none => show (k : Int) ≤ 99; omega
        | some j =>
          show (k : Int) ≤ (j : Nat)
          have := b2 j
          by_cases z : j < k
          · exact (this z (ball_any.mpr ⟨o2, ho2, ball_of_dist e2⟩)).elim
          · omega
    show m = ((k : Nat) : Int)
    omega
end Web
end DL
namespace Pr
open PySem PySem.Spec PyProof.Rows L2 DL
section
variable {w : Web}
/-- the table is made -/
theorem table_ok (ok : w.Ok) (hl : w.ties.length < 1000) {r : Nat} {st : Sto} (hr : r < st.length) {q1 q4 q5 q6 q7 q8 q9 : Option D} :
    ∃ (ρ : Nat → Nat) (st' : Sto), mLc (DL.iRng1 (aCons (m2 oIx (mVar 3) (mC (.int 0))) aNil)) (gN 5) mYes E1_law [5] [some (.ref 0), q1, some (.ref r), some w.d, q4, q5, q6, q7, q8, q9] st = .ok (.ref st.length) st' ∧ Gr st st' ∧ Tab w st.length st.length ρ st' := by
  have hz : (1000 : Nat) < sizeLine := by decide
  have l1 : 1 ≤ sizeLine := by omega
  have h12 := ok.hi
  have hm : Mid (w.many : Int) := by unfold Mid; omega
  obtain ⟨acc, st', e, ρ, rfl, g, wr, rows⟩ := loopC_ok (ds := rngD 0 w.many) (gd := none) (g := gN 5) (mt := mYes) (me := E1_law) (env0 := [some (.ref 0), q1, some (.ref r), some w.d, q4, none, q6, q7, q8, q9]) (r0 := st.length) (st := st ++ [Cl.lst []])
    (fun i acc st' => ∃ ρ : Nat → Nat, acc = rho ρ i ∧ Gr st st' ∧ rdW st' st.length = some (rho ρ i) ∧ ∀ j, j < i → st.length < ρ j ∧ rdL st' (ρ j) = some (tvD w (j : Nat)))
    ⟨fun _ => 0, rfl, List.prefix_append _ _, rdW_new _ _, fun j hj => by omega⟩ (by
      rintro i acc st' ⟨ρ, rfl, g, wr, rows⟩
      exact ⟨wr, by simp [rho]⟩) (by rw [rngD_len]; omega) (fun _ _ _ _ _ => trivial) (by
      rintro i acc st' hi ⟨ρ, rfl, g, wr, rows⟩
      rw [rngD_get hi]
      rw [rngD_len] at hi
      obtain ⟨rr, st2, e2, g2, lo, r2⟩ := law_steps_to_ok ok hl (s := (i : Nat)) (by omega) (by omega) st'
      have lst : st.length < st'.length := rdW_lt wr
      have w2 := rdW_gr g2 wr
      have er : rho ρ i ++ [D.ref rr] = rho (fun j => if j = i then rr else ρ j) (i + 1) := by
        unfold rho
        rw [List.range_succ, List.map_append]
        congr 1
        · refine List.map_congr_left fun j hj => ?_
          rw [List.mem_range] at hj
          have : ¬ j = i := by omega
          simp [this]
        · simp
      refine ⟨[some (.ref 0), q1, some (.ref r), some w.d, q4, some (.int (i : Nat)), q6, q7, q8, q9], st', rfl, .inr ⟨st', .ref rr, st2, rfl, ?_, w2, fun j => if j = i then rr else ρ j, er, ?_, ?_, ?_⟩⟩
      · simp only [E1_law, mCall, mTup, aCons, aNil, mVar, R.bind, List.getElem?_cons_zero, List.getElem?_cons_succ, List.length_cons, List.length_nil, Nat.zero_add, l1, if_true, e2]
      · exact Gr.beyond (show Gr st st2 from g.trans g2) (Nat.le_refl _)
      · rw [rdW_set w2, er]
      · intro j hj
        by_cases q : j = i
        · subst q
          simp only [if_true]
          exact ⟨by omega, rdL_setne (by omega) r2⟩
        · simp only [q, if_false]
          obtain ⟨a, b⟩ := rows j (by omega)
          exact ⟨a, rdL_setne (by omega) (rdL_gr g2 b)⟩)
  rw [rngD_len] at rows wr
  refine ⟨ρ, st', ?_, g, ⟨rdL_W wr, fun i hi => (rows i hi).2, Nat.le_refl _, fun i hi => by have := (rows i hi).1; omega⟩⟩
  have ei : DL.iRng1 (aCons (m2 oIx (mVar 3) (mC (.int 0))) aNil) [some (.ref 0), q1, some (.ref r), some w.d, q4, q5, q6, q7, q8, q9] st = .ok (rngD 0 w.many, none) st := iRng1_nat (by simp only [aCons, aNil, m2, mVar, mC, R.bind, noEx, ixw0, List.getElem?_cons_zero, List.getElem?_cons_succ]) hm
  simp only [mLc, ei, R.bind, wipeE, List.set_cons_zero, List.set_cons_succ]
  exact e
/-- some seats, drawn -/
theorem some_ok (ok : w.Ok) {r : Nat} {st : Sto} (h : IsPool st r) {q1 q4 q5 q6 q7 q8 q9 : Option D} :
    ∃ (xs : List Int) (st' : Sto), mLc (DL.iRng1 (aCons (m2 oIx (mVar 3) (mC (.int 0))) aNil)) (gN 5) C1_law E2_law [5] [some (.ref 0), q1, some (.ref r), some w.d, q4, q5, q6, q7, q8, q9] st = .ok (.ref st.length) st' ∧ Ev r st st' ∧ rdL st' st.length = some (xs.map D.int) ∧ xs.Pairwise (· < ·) ∧ ∀ x : Int, x ∈ xs → 0 ≤ x ∧ x < (w.many : Int) := by
  have hz : (1000 : Nat) < sizeLine := by decide
  have h12 := ok.hi
  have hm : Mid (w.many : Int) := by unfold Mid; omega
  have hr := h.lt
  obtain ⟨acc, st', e, as, rfl, hp, hb, wr, ev, _⟩ := loopC_ok (ds := rngD 0 w.many) (gd := none) (g := gN 5) (mt := C1_law) (me := E2_law) (env0 := [some (.ref 0), q1, some (.ref r), some w.d, q4, none, q6, q7, q8, q9]) (r0 := st.length) (st := st ++ [Cl.lst []])
    (fun i acc st' => ∃ as : List Int, acc = as.map D.int ∧ as.Pairwise (· < ·) ∧ (∀ x : Int, x ∈ as → 0 ≤ x ∧ x < (i : Int)) ∧ rdW st' st.length = some (as.map D.int) ∧ Ev r st st' ∧ as.length ≤ i)
    ⟨[], rfl, List.Pairwise.nil, fun x hx => (by cases hx), rdW_new _ _, Ev.gr h (List.prefix_append _ _), Nat.le_refl _⟩ (by
      rintro i acc st' ⟨as, rfl, hp, hb, wr, ev, hl⟩
      exact ⟨wr, by rw [List.length_map]; exact hl⟩) (by rw [rngD_len]; omega) (fun _ _ _ _ _ => trivial) (by
      rintro i acc st' hi ⟨as, rfl, hp, hb, wr, ev, hl⟩
      rw [rngD_get hi]
      obtain ⟨v, st2, e2, v0, v1, ev2⟩ := take_of (m := 3) ev.pool (by decide) (by decide)
      have w2 := ev2.rdW wr (by omega)
      refine ⟨[some (.ref 0), q1, some (.ref r), some w.d, q4, some (.int (i : Nat)), q6, q7, q8, q9], st', rfl, ?_⟩
      by_cases v00 : v = 0
      · refine .inr ⟨st2, .int (i : Nat), st2, ?_, rfl, w2, as ++ [(i : Int)], by simp, ?_, ?_, ?_, ?_, by simp; omega⟩
        · simp only [C1_law, mB, m2, mCall, aCons, aNil, mVar, mC, R.bind, noEx, List.getElem?_cons_zero, List.getElem?_cons_succ, e2, oEq_int, v00, decide_true]
        · refine List.pairwise_append.mpr ⟨hp, List.pairwise_singleton _ _, fun a ha b hb' => ?_⟩
          rw [List.mem_singleton.mp hb']
          exact (hb a ha).2
        · intro x hx
          rcases List.mem_append.mp hx with q2 | q2
          · have := hb x q2; omega
          · rw [List.mem_singleton.mp q2]; omega
        · rw [rdW_set w2]; simp
        · exact (ev.trans ev2).beyond (Nat.le_refl _) hr
      · refine .inl ⟨st2, ?_, as, rfl, hp, fun x hx => by have := hb x hx; omega, w2, ev.trans ev2, by omega⟩
        simp only [C1_law, mB, m2, mCall, aCons, aNil, mVar, mC, R.bind, noEx, List.getElem?_cons_zero, List.getElem?_cons_succ, e2, oEq_int, v00, decide_false])
  rw [rngD_len] at hb
  refine ⟨as, st', ?_, ev, rdL_W wr, hp, hb⟩
  have ei : DL.iRng1 (aCons (m2 oIx (mVar 3) (mC (.int 0))) aNil) [some (.ref 0), q1, some (.ref r), some w.d, q4, q5, q6, q7, q8, q9] st = .ok (rngD 0 w.many, none) st := iRng1_nat (by simp only [aCons, aNil, m2, mVar, mC, R.bind, noEx, ixw0, List.getElem?_cons_zero, List.getElem?_cons_succ]) hm
  simp only [mLc, ei, R.bind, wipeE, List.set_cons_zero, List.set_cons_succ]
  exact e
end
end Pr
set_option Elab.async false
set_option linter.all false
set_option maxRecDepth 10000
namespace Pr
open PySem PySem.Spec PyProof.Rows L2 DL
section
variable {w : Web}
theorem dist_in12 (ok : w.Ok) {xs : List Int} (hx : ∀ x : Int, x ∈ xs → 0 ≤ x ∧ x < (w.many : Int)) : ∀ s k, w.dist (· ∈ xs) s = some k → k ≤ 12 := fun s k e => Nat.le_trans (dist_le ok hx e) ok.hi
/-- what is due of some seats -/
theorem dues_ok (ok : w.Ok) {b rt : Nat} {ρ : Nat → Nat} {st : Sto} (h : Tab w b rt ρ st) {xs : List Int} (hx : ∀ x : Int, x ∈ xs → 0 ≤ x ∧ x < (w.many : Int)) (hp : xs.Pairwise (· < ·)) {q0 q1 q2 q5 q7 q8 q9 : Option D} :
    ∃ st', mLc (DL.iRng1 (aCons (m2 oIx (mVar 3) (mC (.int 0))) aNil)) (gN 5) mYes E4_law [5] [q0, q1, q2, some w.d, some (.ref rt), q5, some (.tup (xs.map .int)), q7, q8, q9] st = .ok (.ref st.length) st' ∧ Gr st st' ∧ rdL st' st.length = some ((List.range w.many).map fun j => D.int (Web.tv (w.dist (· ∈ xs) (j : Nat)))) := by
  have hz : (1000 : Nat) < sizeLine := by decide
  have l1 : 1 ≤ sizeLine := by omega
  have h12 := ok.hi
  have hm : Mid (w.many : Int) := by unfold Mid; omega
  have xl : xs.length ≤ 12 := Nat.le_trans (len_le (hp.imp fun h e => by omega) hx) h12
  have ei : DL.iRng1 (aCons (m2 oIx (mVar 3) (mC (.int 0))) aNil) [q0, q1, q2, some w.d, some (.ref rt), q5, some (.tup (xs.map .int)), q7, q8, q9] st = .ok (rngD 0 w.many, none) st := iRng1_nat (by simp only [aCons, aNil, m2, mVar, mC, R.bind, noEx, ixw0, List.getElem?_cons_zero, List.getElem?_cons_succ]) hm
  exact over_all ok (i := 5) (vs := [5]) (me := E4_law) (fun s => .int (Web.tv (w.dist (· ∈ xs) s))) ei (by
    intro s s0 s1 st1 g1
    have h1 := h.gr g1
    let st2 := st1 ++ [Cl.lst [D.int 99]]
    have h2 := h1.gr (List.prefix_append st1 [Cl.lst [D.int 99]])
    obtain ⟨st3, e3, g3, w3⟩ := over_row (xs := xs) (by omega) (mi := DL.iVal (mVar 6)) (i := 8) (vs := [8]) (me := E3_law) (env := [q0, q1, q2, some w.d, some (.ref rt), some (.int s), some (.tup (xs.map .int)), q7, q8, q9]) (fun o => .int (Tv w s o)) (st := st2) (st1 := st2) (by simp only [DL.iVal, mVar, R.bind, List.getElem?_cons_zero, List.getElem?_cons_succ]) (by
      intro o ho st' g'
      have b := hx o ho
      have h' := h2.gr g'
      simp only [E3_law, m2, mVar, R.bind, wipeE, List.set_cons_zero, List.set_cons_succ, List.getElem?_cons_zero, List.getElem?_cons_succ, h'.at1 s0 s1, noEx, h'.at2 s0 s1 b.1 b.2])
    have w2 : rdW st3 st1.length = some [D.int 99] := rdW_gr g3 (rdW_new _ _)
    let st4 := st3 ++ [Cl.lst ([D.int 99] ++ xs.map fun o => D.int (Tv w s o))]
    have r4 : rdL st4 st3.length = some ([D.int 99] ++ xs.map fun o => D.int (Tv w s o)) := rdL_new _ _
    obtain ⟨m, em⟩ := minI_ex (xs := (99 : Int) :: xs.map fun o => Tv w s o) (by simp)
    have sp := minI_spec em
    have tvs : (fun o => Tv w s o) = fun o => Web.tv (w.dist (· = o) s) := funext fun o => by unfold Tv; rw [Web.dist_back]
    rw [tvs] at sp
    have fin := Web.tv_any sp.1 sp.2 (dist_in12 ok hx s)
    have eI : intsOf ([D.int 99] ++ xs.map fun o => D.int (Tv w s o)) = some ((99 : Int) :: xs.map fun o => Tv w s o) := by
      have := intsOf_ints ((99 : Int) :: xs.map fun o => Tv w s o)
      rw [List.map_cons, List.map_map] at this
      exact this
    refine ⟨st4, ?_, ((List.prefix_append _ _).trans g3).trans (List.prefix_append _ _)⟩
    have lz : 1 + xs.length ≤ sizeLine := by omega
    have eL : mLst (aCons (mC (.int 99)) aNil) [q0, q1, q2, some w.d, some (.ref rt), some (.int s), some (.tup (xs.map .int)), q7, q8, q9] st1 = .ok (.ref st1.length) st2 := by
      simp only [mLst, aCons, aNil, mC, R.bind, List.length_cons, List.length_nil, Nat.zero_add, l1, if_true]
      rfl
    have e3' : mLc (DL.iVal (mVar 6)) (gN 8) mYes E3_law [8] [q0, q1, q2, some w.d, some (.ref rt), some (.int s), some (.tup (xs.map .int)), q7, q8, q9] st2 = _ := e3
    have eA : m2 oAdd (mLst (aCons (mC (.int 99)) aNil)) (mLc (DL.iVal (mVar 6)) (gN 8) mYes E3_law [8]) [q0, q1, q2, some w.d, some (.ref rt), some (.int s), some (.tup (xs.map .int)), q7, q8, q9] st1 = .ok (.ref st3.length) st4 := by
      have : ∀ (ma mb : En → Sto → R D) (env : En) (a b : D) (s1 s2 s3 : Sto), ma env s1 = .ok a s2 → mb env s2 = .ok b s3 → m2 oAdd ma mb env s1 = noEx (oAdd a b s3) := fun ma mb env a b s1 s2 s3 h1 h2 => by simp only [m2, h1, h2, R.bind]
      rw [this _ _ _ _ _ _ _ _ eL e3']
      simp only [oAdd, w2, w3, List.length_cons, List.length_nil, List.length_map, Nat.zero_add, lz, if_true, noEx]
      rfl
    rw [← fin]
    unfold E4_law
    simp only [mFn, aCons, aNil, wipeE, List.set_cons_zero, List.set_cons_succ, eA, R.bind, bMin1, r4, Option.bind_some, eI, em, noEx])
theorem dues_none (ok : w.Ok) {xs : List Int} (hx : ∀ x : Int, x ∈ xs → 0 ≤ x ∧ x < (w.many : Int)) {st : Sto} {rd : Nat} (hr : rdL st rd = some ((List.range w.many).map fun j => D.int (Web.tv (w.dist (· ∈ xs) (j : Nat))))) {q0 q1 q2 q3 q4 q5 q6 q8 q9 : Option D} :
    ∃ st', mFn bTuple (aCons (mLc (DL.iVal (mVar 7)) (gN 9) mYes E5_law [9]) aNil) [q0, q1, q2, q3, q4, q5, q6, some (.ref rd), q8, q9] st = .ok (.tup (tab w.many (w.dist (· ∈ xs)))) st' ∧ Gr st st' := by
  have hz : (1000 : Nat) < sizeLine := by decide
  have h12 := ok.hi
  have d12 := dist_in12 ok hx
  obtain ⟨st2, e2, g2⟩ := mLc_pure (mi := DL.iVal (mVar 7)) (g := gN 9) (mt := mYes) (me := E5_law) (vs := [9]) (env := [q0, q1, q2, q3, q4, q5, q6, some (.ref rd), q8, q9]) (st := st) (st1 := st) (ds := (List.range w.many).map fun j => D.int (Web.tv (w.dist (· ∈ xs) (j : Nat)))) (gd := some rd) (fun d => true) noneD
    (by simp only [DL.iVal, mVar, R.bind, List.getElem?_cons_zero, List.getElem?_cons_succ, hr]) hr (by simp; omega) (by
      intro d hd st' g'
      obtain ⟨j, hj, rfl⟩ := List.mem_map.mp hd
      refine ⟨[q0, q1, q2, q3, q4, q5, q6, some (.ref rd), q8, some (.int (Web.tv (w.dist (· ∈ xs) (j : Nat))))], rfl, st', rfl, List.prefix_refl _, fun _ => ⟨st', ?_, List.prefix_refl _⟩⟩
      have e := none_of_ok (w.dist (· ∈ xs) (j : Nat)) (d12 _) st'
      rw [noneD_tv (d12 _)]
      simp only [E5_law, mCall, aCons, aNil, mVar, R.bind, List.getElem?_cons_zero, List.getElem?_cons_succ, e])
  have r2 := rdL_of_new g2
  have f2 : (((List.range w.many).map fun j => D.int (Web.tv (w.dist (· ∈ xs) (j : Nat)))).filter fun _ => true).map noneD = tab w.many (w.dist (· ∈ xs)) := by
    unfold tab
    rw [List.filter_eq_self.mpr (fun _ _ => rfl), List.map_map]
    refine List.map_congr_left fun j _ => ?_
    exact noneD_tv (d12 _)
  rw [f2] at r2
  refine ⟨st2, ?_, (List.prefix_append _ _).trans g2⟩
  simp only [mFn, aCons, aNil, e2, R.bind, bTuple, itemsD, r2, noEx]
section
variable {q2 q3 q4 q5 q6 q7 q8 q9 : Option D}
theorem law_turn {ns : List Int} {k : Nat} {st : Sto} (hc : rdL st 0 = some (ns.map D.int)) : ∃ (p2 p3 p4 p5 p6 p7 p8 p9 : Option D) (st' : Sto),
    L2_law [some (.ref 0), some (.int (k : Nat)), q2, q3, q4, q5, q6, q7, q8, q9] st = .nx [some (.ref 0), some (.int (k : Nat)), p2, p3, p4, p5, p6, p7, p8, p9] st' ∧ rdL st' 0 = some (ns.map D.int) := by
  have hz : (1000 : Nat) < sizeLine := by decide
  have z0 : 0 ≤ sizeLine := Nat.zero_le _
  have l1 : 1 ≤ sizeLine := by omega
  have h0 := rdL_lt hc
  obtain ⟨a, b, e1⟩ := pool_spec ns 0 k st hc
  obtain ⟨r, hr⟩ : ∃ r, r = st.length := ⟨_, rfl⟩
  rw [← hr] at e1
  have ip : IsPool (st ++ [.lst [.int a, .int b, .int 0]]) r := ⟨a, b, 0, by simp [hr]⟩
  have hc1 : rdL (st ++ [.lst [.int a, .int b, .int 0]]) 0 = some (ns.map D.int) := rdL_gr (List.prefix_append _ _) hc
  generalize st ++ [Cl.lst [.int a, .int b, .int 0]] = st1 at e1 ip hc1
  have r0 : (0 : Nat) ≠ r := by omega
  obtain ⟨w, st2, e2, ok, wm, wl, ev2⟩ := any_web_spec ip (m := 12) (by decide) (by decide)
  have hl : w.ties.length < 1000 := by omega
  have h12 := ok.hi
  have hr2 : r < st2.length := ev2.pool.lt
  obtain ⟨ρ, st3, e3, g3, T3⟩ := table_ok ok hl hr2 (q1 := some (.int (k : Nat))) (q4 := q4) (q5 := q5) (q6 := q6) (q7 := q7) (q8 := q8) (q9 := q9)
  have hm : Mid (w.many : Int) := by unfold Mid; omega
  -- each seat
  obtain ⟨env4, st4, e4, p5, rfl, g4⟩ := loopS_ok (ds := rngD 0 w.many) (gd := none) (g := gN 5) (mb := L1_law) (env := [some (.ref 0), some (.int (k : Nat)), some (.ref r), some w.d, some (.ref st2.length), q5, q6, q7, q8, q9]) (st := st3)
    (fun i env st' => ∃ p5 : Option D, env = [some (.ref 0), some (.int (k : Nat)), some (.ref r), some w.d, some (.ref st2.length), p5, q6, q7, q8, q9] ∧ Gr st3 st') ⟨q5, rfl, List.prefix_refl _⟩ (fun _ _ _ _ _ => trivial) (by
      rintro i env st' hi ⟨p5, rfl, g'⟩
      rw [rngD_get hi]
      rw [rngD_len] at hi
      obtain ⟨st5, e5, g5⟩ := from_right_ok ok hl (T3.gr g') (s := (i : Nat)) (by omega) (by omega)
      refine ⟨_, _, _, st5, rfl, ?_, some (.int (i : Nat)), rfl, g'.trans g5⟩
      simp only [L1_law, gN, List.set_cons_zero, List.set_cons_succ, sIf, tmNot, mB, mCall, mVar, aCons, aNil, R.bind, R.toS, List.getElem?_cons_zero, List.getElem?_cons_succ, e5, Bool.not_true, Bool.false_eq_true, if_false, sNil])
  have T4 := T3.gr g4
  have ev4 := (ev2.trans (Ev.gr ev2.pool g3)).trans (Ev.gr (ev2.trans (Ev.gr ev2.pool g3)).pool g4)
  obtain ⟨xs, st5, e5, ev5, r5, hp, hx⟩ := some_ok ok ev4.pool (q1 := some (.int (k : Nat))) (q4 := some (.ref st2.length)) (q5 := p5) (q6 := q6) (q7 := q7) (q8 := q8) (q9 := q9)
  have T5 := T4.ev ev5 hr2
  have ev45 := ev4.trans ev5
  obtain ⟨st6, e6, g6, r6⟩ := dues_ok ok T5 hx hp (q0 := some (.ref 0)) (q1 := some (.int (k : Nat))) (q2 := some (.ref r)) (q5 := p5) (q7 := q7) (q8 := q8) (q9 := q9)
  have d12 := dist_in12 ok hx
  obtain ⟨st7, e7, g7⟩ := steps_to_ok ok hl hx hp st6
  obtain ⟨st8, e8, g8⟩ := dues_none ok hx (rdL_gr g7 r6) (q0 := some (.ref 0)) (q1 := some (.int (k : Nat))) (q2 := some (.ref r)) (q3 := some w.d) (q4 := some (.ref st2.length)) (q5 := p5) (q6 := some (.tup (xs.map .int))) (q8 := q8) (q9 := q9)
  obtain ⟨x1, ox1, ex1⟩ := repr_tup (sm_tab (n := w.many) d12) (by simp; omega)
  -- none, all
  obtain ⟨st9, e9, g9⟩ := steps_to_ok ok hl (xs := []) (fun x hx => by cases hx) List.Pairwise.nil st8
  have hn : ∀ x : Int, x ∈ ([] : List Int) → 0 ≤ x ∧ x < (w.many : Int) := fun x hx => by cases hx
  obtain ⟨x2, ox2, ex2⟩ := repr_tup (sm_tab (n := w.many) (dist_in12 ok hn)) (by simp; omega)
  have ar : ∀ x : Int, x ∈ ((List.range w.many).map fun i : Nat => (i : Int)) → 0 ≤ x ∧ x < (w.many : Int) := fun x hx => by
    obtain ⟨i, hi, rfl⟩ := List.mem_map.mp hx
    rw [List.mem_range] at hi
    omega
  have ap : ((List.range w.many).map fun i : Nat => (i : Int)).Pairwise (· < ·) := by
    rw [List.pairwise_map]
    exact List.pairwise_lt_range.imp fun h => by omega
  obtain ⟨st10, e10, g10⟩ := steps_to_ok ok hl ar ap st9
  obtain ⟨x3, ox3, ex3⟩ := repr_tup (sm_tab (n := w.many) (dist_in12 ok ar)) (by simp; omega)
  have t2 : tab w.many (w.dist (· ∈ ([] : List Int))) = (List.replicate w.many [D.non]).flatten := by
    rw [tab_none]
    refine tab_congr fun s _ _ => ?_
    exact Web.dist_none.mpr fun j b => by
      obtain ⟨o, ho, _⟩ := Web.ball_any.mp b
      cases ho
  have t3 : tab w.many (w.dist (· ∈ ((List.range w.many).map fun i : Nat => (i : Int)))) = (List.replicate w.many [D.int 0]).flatten := by
    have : (List.replicate w.many [D.int 0]).flatten = tab w.many fun _ => some 0 := by
      unfold tab dO
      refine List.ext_getElem? fun i => ?_
      rw [show (List.replicate w.many [D.int 0]).flatten = List.replicate w.many (D.int 0) by simp]
      by_cases hi : i < w.many
      · simp [hi]
      · simp [hi]
    rw [this]
    refine tab_congr fun s a b => ?_
    exact Web.dist_zero.mpr (List.mem_map.mpr ⟨s.toNat, List.mem_range.mpr (by omega), by omega⟩)
  have g610 := (((g6.trans g7).trans g8).trans g9).trans g10
  refine ⟨some (.ref r), some w.d, some (.ref st2.length), p5, some (.tup (xs.map .int)), some (.ref st5.length), q8, q9, st10, ?_, rdL_gr g610 (ev45.rdL hc1 r0)⟩
  have h1 : sAsg (mCall f_law_pool (aCons (mVar 0) (aCons (mVar 1) aNil))) (gN 2) [some (.ref 0), some (.int (k : Nat)), q2, q3, q4, q5, q6, q7, q8, q9] st = .nx [some (.ref 0), some (.int (k : Nat)), some (.ref r), q3, q4, q5, q6, q7, q8, q9] st1 := by
    simp only [sAsg, mCall, aCons, aNil, mVar, R.bind, R.toS, e1, gN, List.getElem?_cons_zero, List.getElem?_cons_succ, List.set_cons_zero, List.set_cons_succ]
  have e2' : f_law_any_web [.ref r, .int 12] st1 = _ := e2
  have h2 : sAsg (mCall f_law_any_web (aCons (mVar 2) (aCons (mC (.int 12)) aNil))) (gN 3) [some (.ref 0), some (.int (k : Nat)), some (.ref r), q3, q4, q5, q6, q7, q8, q9] st1 = .nx [some (.ref 0), some (.int (k : Nat)), some (.ref r), some w.d, q4, q5, q6, q7, q8, q9] st2 := by
    simp only [sAsg, mCall, aCons, aNil, mVar, mC, R.bind, R.toS, e2', gN, List.getElem?_cons_zero, List.getElem?_cons_succ, List.set_cons_zero, List.set_cons_succ]
  have h3 : sAsg (mLc (DL.iRng1 (aCons (m2 oIx (mVar 3) (mC (.int 0))) aNil)) (gN 5) mYes E1_law [5]) (gN 4) [some (.ref 0), some (.int (k : Nat)), some (.ref r), some w.d, q4, q5, q6, q7, q8, q9] st2 = .nx [some (.ref 0), some (.int (k : Nat)), some (.ref r), some w.d, some (.ref st2.length), q5, q6, q7, q8, q9] st3 := by
    simp only [sAsg, e3, R.toS, gN, List.set_cons_zero, List.set_cons_succ]
  have h4 := sFor_rng (mr := aCons (m2 oIx (mVar 3) (mC (.int 0))) aNil) (g := gN 5) (mb := L1_law) (env := [some (.ref 0), some (.int (k : Nat)), some (.ref r), some w.d, some (.ref st2.length), q5, q6, q7, q8, q9]) (st := st3) (st1 := st3) (n := w.many) (by simp only [aCons, aNil, m2, mVar, mC, R.bind, noEx, ixw0, List.getElem?_cons_zero, List.getElem?_cons_succ]) hm e4
  have h5 : sAsg (mFn bTuple (aCons (mLc (DL.iRng1 (aCons (m2 oIx (mVar 3) (mC (.int 0))) aNil)) (gN 5) C1_law E2_law [5]) aNil)) (gN 6) [some (.ref 0), some (.int (k : Nat)), some (.ref r), some w.d, some (.ref st2.length), p5, q6, q7, q8, q9] st4 = .nx [some (.ref 0), some (.int (k : Nat)), some (.ref r), some w.d, some (.ref st2.length), p5, some (.tup (xs.map .int)), q7, q8, q9] st5 := by
    simp only [sAsg, mFn, aCons, aNil, e5, R.bind, R.toS, bTuple, itemsD, r5, noEx, gN, List.set_cons_zero, List.set_cons_succ]
  have h6 : sAsg (mLc (DL.iRng1 (aCons (m2 oIx (mVar 3) (mC (.int 0))) aNil)) (gN 5) mYes E4_law [5]) (gN 7) [some (.ref 0), some (.int (k : Nat)), some (.ref r), some w.d, some (.ref st2.length), p5, some (.tup (xs.map .int)), q7, q8, q9] st5 = .nx [some (.ref 0), some (.int (k : Nat)), some (.ref r), some w.d, some (.ref st2.length), p5, some (.tup (xs.map .int)), some (.ref st5.length), q8, q9] st6 := by
    simp only [sAsg, e6, R.toS, gN, List.set_cons_zero, List.set_cons_succ]
  have h7 : sIf (mB (m2 oNe (mFn bRepr (aCons (mCall f_steps_to (aCons (mVar 3) (aCons (mVar 6) aNil))) aNil)) (mFn bRepr (aCons (mFn bTuple (aCons (mLc (DL.iVal (mVar 7)) (gN 9) mYes E5_law [9]) aNil)) aNil)))) (sRet (mC (.bl false))) sNil [some (.ref 0), some (.int (k : Nat)), some (.ref r), some w.d, some (.ref st2.length), p5, some (.tup (xs.map .int)), some (.ref st5.length), q8, q9] st6 = .nx [some (.ref 0), some (.int (k : Nat)), some (.ref r), some w.d, some (.ref st2.length), p5, some (.tup (xs.map .int)), some (.ref st5.length), q8, q9] st8 := by
    have c1 : mFn bRepr (aCons (mCall f_steps_to (aCons (mVar 3) (aCons (mVar 6) aNil))) aNil) [some (.ref 0), some (.int (k : Nat)), some (.ref r), some w.d, some (.ref st2.length), p5, some (.tup (xs.map .int)), some (.ref st5.length), q8, q9] st6 = .ok (.str x1) st7 := by
      simp only [mFn, mCall, aCons, aNil, mVar, R.bind, noEx, List.getElem?_cons_zero, List.getElem?_cons_succ, e7, ex1]
    have c2 : ∀ (ma : En → Sto → R D) (env : En) (s1 s2 : Sto), ma env s1 = .ok (.tup (tab w.many (w.dist (· ∈ xs)))) s2 → mFn bRepr (aCons ma aNil) env s1 = .ok (.str x1) s2 := fun ma env s1 s2 h => by simp only [mFn, aCons, aNil, h, R.bind, noEx, ex1]
    have c3 := c2 _ _ _ _ e8
    have en := oNe_str ox1 st8
    have : ∀ (ma mb : En → Sto → R D) (env : En) (s1 s2 s3 : Sto), ma env s1 = .ok (.str x1) s2 → mb env s2 = .ok (.str x1) s3 → m2 oNe ma mb env s1 = noEx (oNe (.str x1) (.str x1) s3) := fun ma mb env s1 s2 s3 h1 h2 => by simp only [m2, h1, h2, R.bind]
    simp only [sIf, mB]
    rw [this _ _ _ _ _ _ c1 c3, en]
    simp only [noEx, R.bind, R.toS, Bool.false_eq_true, if_false, sNil]
  have wn : ((w.many : Nat) : Int).toNat = w.many := Int.toNat_natCast _
  have wb : -1000 ≤ (w.many : Int) ∧ (w.many : Int) ≤ 1000 ∧ 1 ≤ 1000 := by omega
  have h8 : sIf (mB (m2 oNe (mFn bRepr (aCons (mCall f_steps_to (aCons (mVar 3) (aCons (mTup aNil) aNil))) aNil)) (mFn bRepr (aCons (m2 oMul (mTup (aCons (mC .non) aNil)) (m2 oIx (mVar 3) (mC (.int 0)))) aNil)))) (sRet (mC (.bl false))) sNil [some (.ref 0), some (.int (k : Nat)), some (.ref r), some w.d, some (.ref st2.length), p5, some (.tup (xs.map .int)), some (.ref st5.length), q8, q9] st8 = .nx [some (.ref 0), some (.int (k : Nat)), some (.ref r), some w.d, some (.ref st2.length), p5, some (.tup (xs.map .int)), some (.ref st5.length), q8, q9] st9 := by
    have e9' : f_steps_to [w.d, .tup []] st8 = _ := e9
    have ex2' : ∀ st, bRepr [.tup (List.replicate w.many [D.non]).flatten] st = .ok (.str x2) st := fun st => by rw [← t2]; exact ex2 st
    rw [t2] at e9'
    have en := oNe_str ox2
    simp only [sIf, mB, m2, mFn, mCall, mTup, mC, mVar, aCons, aNil, R.bind, R.toS, noEx, List.getElem?_cons_zero, List.getElem?_cons_succ, List.length_nil, List.length_cons, Nat.zero_add, z0, l1, if_true, e9', ex2', ixw0, oMul, if_pos wb, wn, en, Bool.false_eq_true, if_false, sNil]
  have h9 : sIf (mB (m2 oNe (mFn bRepr (aCons (mCall f_steps_to (aCons (mVar 3) (aCons (mTupRg (m2 oIx (mVar 3) (mC (.int 0)))) aNil))) aNil)) (mFn bRepr (aCons (m2 oMul (mTup (aCons (mC (.int 0)) aNil)) (m2 oIx (mVar 3) (mC (.int 0)))) aNil)))) (sRet (mC (.bl false))) sNil [some (.ref 0), some (.int (k : Nat)), some (.ref r), some w.d, some (.ref st2.length), p5, some (.tup (xs.map .int)), some (.ref st5.length), q8, q9] st9 = .nx [some (.ref 0), some (.int (k : Nat)), some (.ref r), some w.d, some (.ref st2.length), p5, some (.tup (xs.map .int)), some (.ref st5.length), q8, q9] st10 := by
    have er : rngD 0 w.many = ((List.range w.many).map fun i : Nat => (i : Int)).map D.int := by
      unfold rngD
      rw [List.map_map]
      exact List.map_congr_left fun i _ => by simp
    have hm2 : Mid (w.many : Int) ∧ w.many ≤ 2 ^ 24 := ⟨hm, by omega⟩
    have ex3' : ∀ st, bRepr [.tup (List.replicate w.many [D.int 0]).flatten] st = .ok (.str x3) st := fun st => by rw [← t3]; exact ex3 st
    rw [t3] at e10
    have en := oNe_str ox3
    simp only [sIf, mB, m2, mFn, mCall, mTup, mTupRg, mC, mVar, aCons, aNil, R.bind, R.toS, noEx, List.getElem?_cons_zero, List.getElem?_cons_succ, List.length_nil, List.length_cons, Nat.zero_add, z0, l1, if_true, ixw0, wn, if_pos hm2, er, e10, ex3', oMul, if_pos wb, en, Bool.false_eq_true, if_false, sNil]
  unfold L2_law
  rw [seq_nx h1, seq_nx h2, seq_nx h3, seq_nx h4, seq_nx h5, seq_nx h6, seq_nx h7, seq_nx h8, h9]
end
end
theorem main : ∀ ns : List Int, ns.length ≤ 63 → ∃ st', f_law [.ref 0] [.fro (ns.map D.int)] = .ok (.bl true) st' := by
  intro ns hl
  have hc : rdL [.fro (ns.map D.int)] 0 = some (ns.map D.int) := by simp [rdL]
  obtain ⟨n, hn⟩ : ∃ n : Nat, (if (if (ns.length : Int) < 8 then (ns.length : Int) else 8) > 1 then (if (ns.length : Int) < 8 then (ns.length : Int) else 8) else 1) = (n : Nat) ∧ n ≤ 63 := by
    refine ⟨(if (if (ns.length : Int) < 8 then (ns.length : Int) else 8) > 1 then (if (ns.length : Int) < 8 then (ns.length : Int) else 8) else 1).toNat, ?_, ?_⟩ <;> (repeat' split) <;> omega
  have hmid : Mid (n : Int) := by unfold Mid; omega
  obtain ⟨env', st', e, q1, q2, q3, q4, q5, q6, q7, q8, q9, rfl, hc'⟩ := loopS_ok (ds := rngD 0 n) (gd := none) (g := gN 1) (mb := L2_law) (env := [some (.ref 0), none, none, none, none, none, none, none, none, none]) (st := [.fro (ns.map D.int)])
    (fun i env st' => ∃ q1 q2 q3 q4 q5 q6 q7 q8 q9, env = [some (.ref 0), q1, q2, q3, q4, q5, q6, q7, q8, q9] ∧ rdL st' 0 = some (ns.map D.int))
    ⟨none, none, none, none, none, none, none, none, none, rfl, hc⟩ (fun _ _ _ _ _ => trivial) (by
      rintro i env st' hi ⟨q1, q2, q3, q4, q5, q6, q7, q8, q9, rfl, hc'⟩
      rw [rngD_get hi]
      obtain ⟨p2, p3, p4, p5, p6, p7, p8, p9, st2, e2, h2⟩ := law_turn (k := i) hc'
      exact ⟨_, st', _, st2, rfl, e2, _, _, _, _, _, _, _, _, _, rfl, h2⟩)
  have e0 : sFor (DL.iRng1 (aCons (mFn bMax2 (aCons (mC (.int 1)) (aCons (mFn bMin2 (aCons (mC (.int 8)) (aCons (mFn bLen (aCons (mVar 0) aNil)) aNil))) aNil))) aNil)) (gN 1) L2_law [some (.ref 0), none, none, none, none, none, none, none, none, none] [.fro (ns.map D.int)] = .nx [some (.ref 0), q1, q2, q3, q4, q5, q6, q7, q8, q9] st' :=
    sFor_rng (by
      simp only [aCons, aNil, mFn, mC, mVar, bMax2, bMin2, bLen, R.bind, noEx, List.getElem?_cons_zero, hc, List.length_map]
      rw [hn.1]) hmid e
  refine ⟨st', ?_⟩
  unfold f_law mDef b_law
  simp only [List.map_cons, List.map_nil, List.length_cons, List.length_nil, List.replicate, List.cons_append, List.nil_append, Nat.reduceSub, Nat.reduceAdd]
  rw [seq_nx e0]
  rfl
end Pr
set_option maxRecDepth 100000
open PySem PySem.W PyProof.Rows
set_option maxHeartbeats 0 in
theorem PySem.Challenge.cw_comeright_k02_whole_steps_holds : PySem.Challenge.rw_comeright_k02_whole_steps.Holds := by
  w_on; o_law; k_head; (case hw => w_witness2)
  k_fill
  refine DL.walk_d (l := PySem.Challenge.rw_comeright_k02_whole_steps) (n := 63) (k := 5) (x := "script") (f := Pr.f_law) rfl (by decide) rfl ⟨rfl, by decide, by decide⟩ (fun w h Y => PySem.W.kIn_of Y) ?F Pr.main
  case F =>
    intro w mg fa h KX G hmg
    have T_is_web : DL.TopFnX KX mg "is_web" Pr.s_is_web ["thing"] := by
      refine' DL.topFn_of KX G ?a ?l ?c ?k ?b; (case a => k_is); (case l => k_is); (case c => k_is); (case k => k_is); (case b => exact fun _ _ _ _ _ _ us hl => match us, hl with | [_], _ => rfl)
    have T_is_seats : DL.TopFnX KX mg "is_seats" Pr.s_is_seats ["web", "thing"] := by
      refine' DL.topFn_of KX G ?a ?l ?c ?k ?b; (case a => k_is); (case l => k_is); (case c => k_is); (case k => k_is); (case b => exact fun _ _ _ _ _ _ us hl => match us, hl with | [_, _], _ => rfl)
    have T_need_web : DL.TopFnX KX mg "need_web" Pr.s_need_web ["web"] := by
      refine' DL.topFn_of KX G ?a ?l ?c ?k ?b; (case a => k_is); (case l => k_is); (case c => k_is); (case k => k_is); (case b => exact fun _ _ _ _ _ _ us hl => match us, hl with | [_], _ => rfl)
    have T_need_seat : DL.TopFnX KX mg "need_seat" Pr.s_need_seat ["web", "seat"] := by
      refine' DL.topFn_of KX G ?a ?l ?c ?k ?b; (case a => k_is); (case l => k_is); (case c => k_is); (case k => k_is); (case b => exact fun _ _ _ _ _ _ us hl => match us, hl with | [_, _], _ => rfl)
    have T_need_seats : DL.TopFnX KX mg "need_seats" Pr.s_need_seats ["web", "seats"] := by
      refine' DL.topFn_of KX G ?a ?l ?c ?k ?b; (case a => k_is); (case l => k_is); (case c => k_is); (case k => k_is); (case b => exact fun _ _ _ _ _ _ us hl => match us, hl with | [_, _], _ => rfl)
    have T_beside : DL.TopFnX KX mg "beside" Pr.s_beside ["web", "seat"] := by
      refine' DL.topFn_of KX G ?a ?l ?c ?k ?b; (case a => k_is); (case l => k_is); (case c => k_is); (case k => k_is); (case b => exact fun _ _ _ _ _ _ us hl => match us, hl with | [_, _], _ => rfl)
    have T_all_beside : DL.TopFnX KX mg "all_beside" Pr.s_all_beside ["web"] := by
      refine' DL.topFn_of KX G ?a ?l ?c ?k ?b; (case a => k_is); (case l => k_is); (case c => k_is); (case k => k_is); (case b => exact fun _ _ _ _ _ _ us hl => match us, hl with | [_], _ => rfl)
    have T_steps_from : DL.TopFnX KX mg "steps_from" Pr.s_steps_from ["web", "seats"] := by
      refine' DL.topFn_of KX G ?a ?l ?c ?k ?b; (case a => k_is); (case l => k_is); (case c => k_is); (case k => k_is); (case b => exact fun _ _ _ _ _ _ us hl => match us, hl with | [_, _], _ => rfl)
    have T_neighbours : DL.TopFnX KX mg "neighbours" Pr.s_neighbours ["web", "seat"] := by
      refine' DL.topFn_of KX G ?a ?l ?c ?k ?b; (case a => k_is); (case l => k_is); (case c => k_is); (case k => k_is); (case b => exact fun _ _ _ _ _ _ us hl => match us, hl with | [_, _], _ => rfl)
    have T_steps : DL.TopFnX KX mg "steps" Pr.s_steps ["web", "seat", "other"] := by
      refine' DL.topFn_of KX G ?a ?l ?c ?k ?b; (case a => k_is); (case l => k_is); (case c => k_is); (case k => k_is); (case b => exact fun _ _ _ _ _ _ us hl => match us, hl with | [_, _, _], _ => rfl)
    have T_steps_to : DL.TopFnX KX mg "steps_to" Pr.s_steps_to ["web", "seats"] := by
      refine' DL.topFn_of KX G ?a ?l ?c ?k ?b; (case a => k_is); (case l => k_is); (case c => k_is); (case k => k_is); (case b => exact fun _ _ _ _ _ _ us hl => match us, hl with | [_, _], _ => rfl)
    have T_within : DL.TopFnX KX mg "within" Pr.s_within ["web", "seat", "far"] := by
      refine' DL.topFn_of KX G ?a ?l ?c ?k ?b; (case a => k_is); (case l => k_is); (case c => k_is); (case k => k_is); (case b => exact fun _ _ _ _ _ _ us hl => match us, hl with | [_, _, _], _ => rfl)
    have T_law_pool : DL.TopFnX KX mg "_law_pool" Pr.s_law_pool ["cells", "k"] := by
      refine' DL.topFn_of KX G ?a ?l ?c ?k ?b; (case a => k_is); (case l => k_is); (case c => k_is); (case k => k_is); (case b => exact fun _ _ _ _ _ _ us hl => match us, hl with | [_, _], _ => rfl)
    have T_law_take : DL.TopFnX KX mg "_law_take" Pr.s_law_take ["pool", "many"] := by
      refine' DL.topFn_of KX G ?a ?l ?c ?k ?b; (case a => k_is); (case l => k_is); (case c => k_is); (case k => k_is); (case b => exact fun _ _ _ _ _ _ us hl => match us, hl with | [_, _], _ => rfl)
    have T_law_any_web : DL.TopFnX KX mg "_law_any_web" Pr.s_law_any_web ["pool", "most"] := by
      refine' DL.topFn_of KX G ?a ?l ?c ?k ?b; (case a => k_is); (case l => k_is); (case c => k_is); (case k => k_is); (case b => exact fun _ _ _ _ _ _ us hl => match us, hl with | [_, _], _ => rfl)
    have T_law_steps_to : DL.TopFnX KX mg "_law_steps_to" Pr.s_law_steps_to ["web", "seats"] := by
      refine' DL.topFn_of KX G ?a ?l ?c ?k ?b; (case a => k_is); (case l => k_is); (case c => k_is); (case k => k_is); (case b => exact fun _ _ _ _ _ _ us hl => match us, hl with | [_, _], _ => rfl)
    have T_law_none_of : DL.TopFnX KX mg "_law_none_of" Pr.s_law_none_of ["many"] := by
      refine' DL.topFn_of KX G ?a ?l ?c ?k ?b; (case a => k_is); (case l => k_is); (case c => k_is); (case k => k_is); (case b => exact fun _ _ _ _ _ _ us hl => match us, hl with | [_], _ => rfl)
    have T_law_from_right : DL.TopFnX KX mg "_law_from_right" Pr.s_law_from_right ["web", "seat", "table"] := by
      refine' DL.topFn_of KX G ?a ?l ?c ?k ?b; (case a => k_is); (case l => k_is); (case c => k_is); (case k => k_is); (case b => exact fun _ _ _ _ _ _ us hl => match us, hl with | [_, _, _], _ => rfl)
    have T : Pr.TxtX KX w mg := by
      constructor
      · refine' DL.tabs_nil; skip
      · refine' PySem.W.mg_none_of KX G ?z_type; (case z_type => k_is)
      · refine' PySem.W.mg_none_of KX G ?z_tuple; (case z_tuple => k_is)
      · refine' PySem.W.mg_none_of KX G ?z_len; (case z_len => k_is)
      · refine' PySem.W.mg_none_of KX G ?z_int; (case z_int => k_is)
      · refine' PySem.W.mg_none_of KX G ?z_range; (case z_range => k_is)
      · refine' PySem.W.mg_none_of KX G ?z_list; (case z_list => k_is)
      · refine' PySem.W.mg_none_of KX G ?z_enumerate; (case z_enumerate => k_is)
      · refine' PySem.W.mg_none_of KX G ?z_abs; (case z_abs => k_is)
      · refine' PySem.W.mg_none_of KX G ?z_sorted; (case z_sorted => k_is)
      · refine' PySem.W.mg_none_of KX G ?z_min; (case z_min => k_is)
      · refine' PySem.W.mg_none_of KX G ?z_repr; (case z_repr => k_is)
      · refine' PySem.W.mg_none_of KX G ?z_max; (case z_max => k_is)
      · have' z := PySem.W.mg_of (n := "MOST_SEATS") KX G ?z_MOST_SEATS; (case z_MOST_SEATS => k_is); exact ⟨_, z⟩
    refine' DL.law_of KX G hmg ?a ?l ?c ?k (fun _ _ _ _ _ _ s v => .of_eq rfl) fun base fd F => Pr.all_ok T T_is_web T_is_seats T_need_web T_need_seat T_need_seats T_beside T_all_beside T_steps_from T_neighbours T_steps T_steps_to T_within T_law_pool T_law_take T_law_any_web T_law_steps_to T_law_none_of T_law_from_right F; (case a => k_is); (case l => k_is); (case c => k_is); (case k => k_is)
