import PyProof.Rows.All
import Wide.All
import OpenK.AllK
import Wide.FinOn
import HandS.Base
import HandS.Call
import HandS.List
import HandS.Comp
import HandS.Words
import HandS.Walk
import HandS.More
import HandS.Conv
import HandS.TupAny
import HandS.WordsExc
import HandS.TupMul
import HandS.Zip
import HandS.SortRule
import HandS.SortInts
import HandS.Iter
import HandS.TupLe
import HandS.RaiseMore
import PyProof.ReprRoads
import HandS.Ends
import KE.DataMinMax
import HandS.SortKw
import HandS.Star
import HandS.IsInst
import HandS.TryOnly
import HandS.Flow
import HandS.Style
import PyProof.PureInt
import KE.GoesEnum
import PySem.Challenge.RW_comeright_k50_moves_told
set_option Elab.async false
set_option linter.all false
set_option maxRecDepth 100000
/-! The D layer: what a def of the text does, as a plain function over data and a store of lists. -/
namespace DL
open PySem PySem.Spec PyProof.Rows L2

/-- data: tuples by their items; a list by its number in the store -/
inductive D where
  | non | bl (b : Bool) | int (i : Int) | str (x : Str) | tup (xs : List D) | ref (r : Nat) | fn (a : Addr) | ty (n : String) | nam (x : Str)
/-- what stands in the store: a list of the program's, a list that is only read -/
inductive Cl where
  | lst (xs : List D) | fro (xs : List D)
abbrev Sto := List Cl
abbrev En := List (Option D)
/-- an exception: its class, its fields (none: it has no dict) -/
structure Ex where
  cls : Addr
  fs : Option (List (Str × D))
/-- how a piece ends -/
inductive R (β : Type) where
  | ok (b : β) (s : Sto) | ex (x : Ex) (s : Sto) | no
def R.bind {β γ : Type} (r : R β) (k : β → Sto → R γ) : R γ := match r with
  | .ok b s => k b s
  | .ex x s => .ex x s
  | .no => .no

/-! ### what data stand for -/
mutual
inductive RD (K : PySem.W.Frag) (α : List Addr) (H : Hp) : D → V → Prop where
  | non : RD K α H .non .non
  | bl (b : Bool) : RD K α H (.bl b) (.bl b)
  | int (i : Int) : RD K α H (.int i) (.int i)
  | str (x : Str) : RD K α H (.str x) (.str x)
  | tup {a : Addr} {ds : List D} {vs : List V} : SqT K H a vs → RDs K α H ds vs → RD K α H (.tup ds) (.ref a)
  | ref {r : Nat} {a : Addr} : α[r]? = some a → RD K α H (.ref r) (.ref a)
  | fn (a : Addr) : RD K α H (.fn a) (.ref a)
  | ty (n : String) : RD K α H (.ty n) (.ty n)
  | nam {x : Str} {a : Addr} : PySem.W.nsIn K mainGlobals x = some (some (.ref a)) → RD K α H (.nam x) (.ref a)
inductive RDs (K : PySem.W.Frag) (α : List Addr) (H : Hp) : List D → List V → Prop where
  | nil : RDs K α H [] []
  | cons {d : D} {v : V} {ds : List D} {vs : List V} : RD K α H d v → RDs K α H ds vs → RDs K α H (d :: ds) (v :: vs)
end
/-- tuples and locked things stay -/
structure Keep (H H' : Hp) : Prop where
  t : ∀ b xs, H b = some (.tup xs) → H' b = some (.tup xs)
  z : ∀ b o u, H b = some (.frz o u) → H' b = some (.frz o u)
theorem Keep.refl (H : Hp) : Keep H H := ⟨fun _ _ h => h, fun _ _ _ h => h⟩
theorem Keep.trans {H1 H2 H3 : Hp} (a : Keep H1 H2) (b : Keep H2 H3) : Keep H1 H3 := ⟨fun c xs h => b.t c xs (a.t c xs h), fun c o u h => b.z c o u (a.z c o u h)⟩
theorem Keep.fresh {H : Hp} {p : Addr} {o : HO} (h : H p = none) : Keep H (upd H p o) :=
  ⟨fun b xs e => by rw [upd_ne (ne_of_none e h)]; exact e, fun b o' u e => by rw [upd_ne (ne_of_none e h)]; exact e⟩
theorem Keep.lst {H : Hp} {p : Addr} {xs : List V} {o : HO} (h : H p = some (.lst xs)) : Keep H (upd H p o) := by
  refine ⟨fun b ys e => ?_, fun b o' u e => ?_⟩
  · rw [upd_ne (fun q => by subst q; rw [h] at e; cases e)]
    exact e
  · rw [upd_ne (fun q => by subst q; rw [h] at e; cases e)]
    exact e
theorem Keep.sqT {K : PySem.W.Frag} {H H' : Hp} {a : Addr} {xs : List V} (k : Keep H H') (h : SqT K H a xs) : SqT K H' a xs := by
  rcases h with (h | ⟨o, h⟩) | h
  · exact .inl (.inl (k.t _ _ h))
  · exact .inl (.inr ⟨o, k.z _ _ _ h⟩)
  · exact .inr h

section
variable {K : PySem.W.Frag} {α α' : List Addr} {H H' : Hp}
theorem get_pre {β : Type} {l l' : List β} (h : l <+: l') {i : Nat} {x : β} (e : l[i]? = some x) : l'[i]? = some x := by
  obtain ⟨t, rfl⟩ := h
  rw [List.getElem?_append_left (List.getElem?_eq_some_iff.mp e).1]
  exact e
mutual
theorem RD.mono (p : α <+: α') (k : Keep H H') : ∀ (d : D) (v : V), RD K α H d v → RD K α' H' d v
  | .non, _, h => by cases h; exact .non
  | .bl b, _, h => by cases h; exact .bl b
  | .int i, _, h => by cases h; exact .int i
  | .str x, _, h => by cases h; exact .str x
  | .tup ds, _, h => by
    cases h with
    | tup a b => exact .tup (k.sqT a) (RDs.mono p k ds _ b)
  | .ref r, _, h => by
    cases h with
    | ref a => exact .ref (get_pre p a)
  | .fn a, _, h => by cases h; exact .fn a
  | .ty n, _, h => by cases h; exact .ty n
  | .nam x, _, h => by
    cases h with
    | nam a => exact .nam a
theorem RDs.mono (p : α <+: α') (k : Keep H H') : ∀ (ds : List D) (vs : List V), RDs K α H ds vs → RDs K α' H' ds vs
  | [], _, h => by cases h; exact .nil
  | d :: ds, _, h => by
    cases h with
    | cons a b => exact .cons (RD.mono p k d _ a) (RDs.mono p k ds _ b)
end
theorem RDs.len : ∀ {ds : List D} {vs : List V}, RDs K α H ds vs → ds.length = vs.length
  | [], _, h => by cases h; rfl
  | _ :: ds, _, h => by
    cases h with
    | cons a b => simp [RDs.len b]
theorem RDs.get : ∀ {ds : List D} {vs : List V} {i : Nat} {v : V}, RDs K α H ds vs → vs[i]? = some v → ∃ d, ds[i]? = some d ∧ RD K α H d v
  | [], _, i, v, h, e => by cases h; simp at e
  | d :: ds, _, 0, v, h, e => by
    cases h with
    | cons a b => simp at e; subst e; exact ⟨d, rfl, a⟩
  | d :: ds, _, i + 1, v, h, e => by
    cases h with
    | cons a b =>
      obtain ⟨d', h1, h2⟩ := RDs.get (i := i) b (by simpa using e)
      exact ⟨d', by simpa using h1, h2⟩
theorem RDs.getD : ∀ {ds : List D} {vs : List V} {i : Nat} {d : D}, RDs K α H ds vs → ds[i]? = some d → ∃ v, vs[i]? = some v ∧ RD K α H d v
  | [], _, i, d, h, e => by simp at e
  | d :: ds, _, 0, d', h, e => by
    cases h with
    | cons a b => simp at e; subst e; exact ⟨_, rfl, a⟩
  | d :: ds, _, i + 1, d', h, e => by
    cases h with
    | cons a b =>
      obtain ⟨v', h1, h2⟩ := RDs.getD (i := i) b (by simpa using e)
      exact ⟨v', by simpa using h1, h2⟩
theorem RDs.app : ∀ {ds es : List D} {vs ws : List V}, RDs K α H ds vs → RDs K α H es ws → RDs K α H (ds ++ es) (vs ++ ws)
  | [], _, _, _, h, q => by cases h; exact q
  | d :: ds, _, _, _, h, q => by
    cases h with
    | cons a b => exact .cons a (RDs.app b q)
theorem RDs.drop : ∀ {ds : List D} {vs : List V} (n : Nat), RDs K α H ds vs → RDs K α H (ds.drop n) (vs.drop n)
  | _, _, 0, h => h
  | [], _, n + 1, h => by cases h; exact .nil
  | d :: ds, _, n + 1, h => by
    cases h with
    | cons a b => exact RDs.drop n b
theorem RDs.take : ∀ {ds : List D} {vs : List V} (n : Nat), RDs K α H ds vs → RDs K α H (ds.take n) (vs.take n)
  | _, _, 0, h => .nil
  | [], _, n + 1, h => by cases h; exact .nil
  | d :: ds, _, n + 1, h => by
    cases h with
    | cons a b => exact .cons a (RDs.take n b)
theorem RDs.set {d : D} {v : V} (q : RD K α H d v) : ∀ {ds : List D} {vs : List V} (n : Nat), RDs K α H ds vs → RDs K α H (ds.set n d) (vs.set n v)
  | [], _, n, h => by cases h; exact .nil
  | e :: ds, _, 0, h => by
    cases h with
    | cons a b => exact .cons q b
  | e :: ds, _, n + 1, h => by
    cases h with
    | cons a b => exact .cons a (RDs.set q n b)
theorem RDs.erase : ∀ {ds : List D} {vs : List V} (n : Nat), RDs K α H ds vs → RDs K α H (ds.eraseIdx n) (vs.eraseIdx n)
  | [], _, n, h => by cases h; exact .nil
  | e :: ds, _, 0, h => by
    cases h with
    | cons a b => exact b
  | e :: ds, _, n + 1, h => by
    cases h with
    | cons a b => exact .cons a (RDs.erase n b)
theorem RDs.rep {d : D} {v : V} (q : RD K α H d v) : ∀ n : Nat, RDs K α H (List.replicate n d) (List.replicate n v)
  | 0 => .nil
  | n + 1 => by rw [List.replicate_succ, List.replicate_succ]; exact .cons q (RDs.rep q n)
theorem RDs.repL {ds : List D} {vs : List V} (q : RDs K α H ds vs) : ∀ n : Nat, RDs K α H (List.replicate n ds).flatten (List.replicate n vs).flatten
  | 0 => .nil
  | n + 1 => by rw [List.replicate_succ, List.replicate_succ, List.flatten_cons, List.flatten_cons]; exact q.app (RDs.repL q n)
theorem RDs.rev {ds : List D} {vs : List V} (q : RDs K α H ds vs) : RDs K α H ds.reverse vs.reverse := by
  induction ds generalizing vs with
  | nil => cases q; exact .nil
  | cons d ds ih =>
    cases q with
    | cons a b =>
      rw [List.reverse_cons, List.reverse_cons]
      exact (ih b).app (.cons a .nil)
theorem RDs.ints : ∀ (ns : List Int), RDs K α H (ns.map D.int) (ns.map V.int)
  | [] => .nil
  | n :: ns => .cons (.int n) (RDs.ints ns)
theorem RDs.toInts : ∀ {ns : List Int} {vs : List V}, RDs K α H (ns.map D.int) vs → vs = ns.map V.int
  | [], _, h => by cases h; rfl
  | n :: ns, _, h => by
    cases h with
    | cons a b => cases a; rw [RDs.toInts b]; rfl
theorem RDs.toBls : ∀ {ns : List Bool} {vs : List V}, RDs K α H (ns.map D.bl) vs → vs = ns.map V.bl
  | [], _, h => by cases h; rfl
  | n :: ns, _, h => by
    cases h with
    | cons a b => cases a; rw [RDs.toBls b]; rfl
theorem RDs.toStrs : ∀ {ns : List Str} {vs : List V}, RDs K α H (ns.map D.str) vs → vs = ns.map V.str
  | [], _, h => by cases h; rfl
  | n :: ns, _, h => by
    cases h with
    | cons a b => cases a; rw [RDs.toStrs b]; rfl

/-- a list that is read and that nothing can write -/
def Locked (K : PySem.W.Frag) (H : Hp) (a : Addr) (vs : List V) : Prop := (∃ o, H a = some (.frz o (.lst vs))) ∨ ∀ H', SqL K H' a vs
theorem Locked.sq {a : Addr} {vs : List V} (h : Locked K H a vs) : SqL K H a vs := by
  rcases h with ⟨o, h⟩ | h
  · exact .inl (.inr ⟨o, h⟩)
  · exact h H
theorem Locked.keep {a : Addr} {vs : List V} (h : Locked K H a vs) (k : Keep H H') : Locked K H' a vs := by
  rcases h with ⟨o, h⟩ | h
  · exact .inl ⟨o, k.z _ _ _ h⟩
  · exact .inr h
/-- a place of the store -/
def CO (K : PySem.W.Frag) (α : List Addr) (H : Hp) (a : Addr) : Cl → Prop
  | .lst ds => ∃ vs, H a = some (.lst vs) ∧ RDs K α H ds vs
  | .fro ds => ∃ vs, Locked K H a vs ∧ RDs K α H ds vs
structure SR (K : PySem.W.Frag) (α : List Addr) (st : Sto) (H : Hp) : Prop where
  len : α.length = st.length
  cell : ∀ (i : Nat) (c : Cl), st[i]? = some c → ∃ a, α[i]? = some a ∧ CO K α H a c
  inj : ∀ (i j : Nat) (xs ys : List D) (a : Addr), st[i]? = some (.lst xs) → st[j]? = some (.lst ys) → α[i]? = some a → α[j]? = some a → i = j
def ER (K : PySem.W.Frag) (α : List Addr) (env : En) (σ : L2.St) (H : Hp) : Prop :=
  env.length = σ.length ∧ ∀ (i : Nat) (d : D), env[i]? = some (some d) → ∃ v, σ[i]? = some (some v) ∧ RD K α H d v
def RX (K : PySem.W.Frag) (α : List Addr) (H : Hp) (x : Ex) (c : Value) (dx : Option Addr) : Prop :=
  c = .ref x.cls ∧ match x.fs with
    | none => dx = none
    | some fs => ∃ (d : Addr) (vs : List (Str × V)), dx = some d ∧ H d = some (.xd vs) ∧ fs.map (·.1) = vs.map (·.1) ∧ RDs K α H (fs.map (·.2)) (vs.map (·.2))
theorem ER.mono {env : En} {σ : L2.St} (h : ER K α env σ H) (p : α <+: α') (k : Keep H H') : ER K α' env σ H' :=
  ⟨h.1, fun i d e => let ⟨v, e1, e2⟩ := h.2 i d e; ⟨v, e1, e2.mono p k⟩⟩
theorem CO.mono {a : Addr} {c : Cl} (h : CO K α H a c) (p : α <+: α') (k : Keep H H') (e : ∀ vs, H a = some (.lst vs) → H' a = some (.lst vs)) : CO K α' H' a c := by
  cases c with
  | lst ds => obtain ⟨vs, h1, h2⟩ := h; exact ⟨vs, e vs h1, h2.mono p k⟩
  | fro ds => obtain ⟨vs, h1, h2⟩ := h; exact ⟨vs, h1.keep k, h2.mono p k⟩
/-- a new thing that is not kept in the store -/
theorem SR.fresh {st : Sto} {q : Addr} {o : HO} (h : SR K α st H) (e : H q = none) : SR K α st (upd H q o) :=
  ⟨h.len, fun i c hc => let ⟨a, h1, h2⟩ := h.cell i c hc; ⟨a, h1, h2.mono (List.prefix_refl _) (Keep.fresh e) fun vs z => by rw [upd_ne (ne_of_none z e)]; exact z⟩, h.inj⟩
theorem SR.noCell {st : Sto} {q : Addr} (h : SR K α st H) (e : H q = none) {i : Nat} {xs : List D} (hc : st[i]? = some (.lst xs)) : α[i]? ≠ some q := fun z => by
  obtain ⟨a, h1, h2⟩ := h.cell i _ hc
  rw [z] at h1
  cases h1
  obtain ⟨vs, h3, _⟩ := h2
  rw [e] at h3
  cases h3
/-- a new list -/
theorem SR.push {st : Sto} {q : Addr} {ds : List D} {vs : List V} (h : SR K α st H) (e : H q = none) (r : RDs K α H ds vs) : SR K (α ++ [q]) (st ++ [.lst ds]) (upd H q (.lst vs)) := by
  have hp : α <+: α ++ [q] := List.prefix_append _ _
  have hl := h.len
  refine ⟨by simp [hl], fun i c hc => ?_, fun i j xs ys a h1 h2 h3 h4 => ?_⟩
  · by_cases hi : i < st.length
    · rw [List.getElem?_append_left hi] at hc
      obtain ⟨a, h1, h2⟩ := h.cell i c hc
      exact ⟨a, get_pre hp h1, h2.mono hp (Keep.fresh e) fun vs z => by rw [upd_ne (ne_of_none z e)]; exact z⟩
    · have hlen : i < (st ++ [Cl.lst ds]).length := (List.getElem?_eq_some_iff.mp hc).1
      have ei : i = st.length := by simp at hlen; omega
      subst ei
      rw [List.getElem?_concat_length] at hc
      cases hc
      refine ⟨q, by rw [← hl, List.getElem?_concat_length], vs, upd_same, r.mono hp (Keep.fresh e)⟩
  · have key : ∀ (i : Nat) (xs : List D) (a : Addr), (st ++ [Cl.lst ds])[i]? = some (.lst xs) → (α ++ [q])[i]? = some a → (i < st.length ∧ st[i]? = some (.lst xs) ∧ α[i]? = some a) ∨ (i = st.length ∧ a = q) := by
      intro i xs a g1 g2
      by_cases hi : i < st.length
      · rw [List.getElem?_append_left hi] at g1
        rw [List.getElem?_append_left (by omega)] at g2
        exact .inl ⟨hi, g1, g2⟩
      · have hlen : i < (st ++ [Cl.lst ds]).length := (List.getElem?_eq_some_iff.mp g1).1
        have ei : i = st.length := by simp at hlen; omega
        subst ei
        rw [← hl, List.getElem?_concat_length] at g2
        cases g2
        exact .inr ⟨rfl, rfl⟩
    rcases key i xs a h1 h3 with ⟨_, g1, g2⟩ | ⟨g1, g2⟩ <;> rcases key j ys a h2 h4 with ⟨_, g3, g4⟩ | ⟨g3, g4⟩
    · exact h.inj i j xs ys a g1 g3 g2 g4
    · subst g4; exact absurd g2 (h.noCell e g1)
    · subst g2; exact absurd g4 (h.noCell e g3)
    · omega
/-- a list is changed -/
theorem SR.put {st : Sto} {r : Nat} {q : Addr} {ds xs : List D} {vs : List V} (h : SR K α st H) (e : st[r]? = some (.lst xs)) (ea : α[r]? = some q) (rr : RDs K α H ds vs) : SR K α (st.set r (.lst ds)) (upd H q (.lst vs)) := by
  obtain ⟨a, h1, vs0, h2, _⟩ := h.cell r _ e
  rw [ea] at h1
  cases h1
  have k : Keep H (upd H q (.lst vs)) := Keep.lst h2
  have hr : r < st.length := (List.getElem?_eq_some_iff.mp e).1
  have back : ∀ (i : Nat) (ys : List D), (st.set r (.lst ds))[i]? = some (.lst ys) → ∃ zs, st[i]? = some (.lst zs) := fun i ys g => by
    by_cases hi : r = i
    · subst hi; exact ⟨xs, e⟩
    · rw [List.getElem?_set_ne hi] at g; exact ⟨ys, g⟩
  refine ⟨by simp [h.len], fun i c hc => ?_, fun i j ys zs a g1 g2 g3 g4 => ?_⟩
  · by_cases hi : r = i
    · subst hi
      rw [List.getElem?_set_self hr] at hc
      cases hc
      exact ⟨q, ea, vs, upd_same, rr.mono (List.prefix_refl _) k⟩
    · rw [List.getElem?_set_ne hi] at hc
      obtain ⟨a, g1, g2⟩ := h.cell i c hc
      refine ⟨a, g1, ?_⟩
      cases c with
      | lst ys =>
        refine g2.mono (List.prefix_refl _) k fun ws z => ?_
        rw [upd_ne]
        · exact z
        · intro q'
          subst q'
          exact hi (h.inj r i xs ys _ e hc ea g1)
      | fro ys =>
        obtain ⟨ws, g3, g4⟩ := g2
        exact ⟨ws, g3.keep k, g4.mono (List.prefix_refl _) k⟩
  · obtain ⟨y2, k1⟩ := back i ys g1
    obtain ⟨z2, k2⟩ := back j zs g2
    exact h.inj i j y2 z2 a k1 k2 g3 g4
end
end DL
set_option Elab.async false
set_option linter.all false
set_option maxRecDepth 100000
namespace DL
open PySem PySem.Spec PyProof.Rows L2

/-! ### readings -/
def Go {β : Type} (K : PySem.W.Frag) (W : WX) (α : List Addr) (H : Hp) (σ : L2.St) (r : R β) (F : β → Sto → List Addr → Hp → Prop) : Prop :=
  match r with
  | .ok b st => ∀ α' H', α <+: α' → Keep H H' → SR K α' st H' → F b st α' H'
  | .ex x st => ∀ α' H' c dx, α <+: α' → Keep H H' → SR K α' st H' → RX K α' H' x c dx → W c dx σ H'
  | .no => False
def tE (K : PySem.W.Frag) (W : WX) (m : En → Sto → R D) : TE := fun σ H Q => ∃ α env st, ER K α env σ H ∧ SR K α st H ∧ Go K W α H σ (m env st) fun d _ α' H' => ∀ v, RD K α' H' d v → Q v H'
def tT (K : PySem.W.Frag) (W : WX) (m : En → Sto → R Bool) : TT := fun σ H Q => ∃ α env st, ER K α env σ H ∧ SR K α st H ∧ Go K W α H σ (m env st) fun b _ _ H' => Q b H'
def tA (K : PySem.W.Frag) (W : WX) (m : En → Sto → R (List D)) : TA := fun σ H Q => ∃ α env st, ER K α env σ H ∧ SR K α st H ∧ Go K W α H σ (m env st) fun ds _ α' H' => ∀ vs, RDs K α' H' ds vs → Q vs H'
abbrev DE (X : Cx) (W : WX) (e : Expr) (m : En → Sto → R D) : Prop := PE X e (tE X.K W m)
abbrev DT (X : Cx) (W : WX) (e : Expr) (m : En → Sto → R Bool) : Prop := PT X e (tT X.K W m)
abbrev DA (X : Cx) (W : WX) (es : List Expr) (m : En → Sto → R (List D)) : Prop := PA X es (tA X.K W m)

section
variable {K : PySem.W.Frag} {W : WX} {α : List Addr} {H : Hp} {σ : L2.St}
theorem Go.mono {β : Type} {r : R β} {F F' : β → Sto → List Addr → Hp → Prop} (h : Go K W α H σ r F) (f : ∀ b st α' H', α <+: α' → Keep H H' → SR K α' st H' → F b st α' H' → F' b st α' H') : Go K W α H σ r F' := by
  cases r with
  | ok b st => exact fun α' H' p k s => f b st α' H' p k s (h α' H' p k s)
  | ex x st => exact h
  | no => exact h
theorem Go.bind {β γ : Type} {r : R β} {k : β → Sto → R γ} {F : γ → Sto → List Addr → Hp → Prop} (h : Go K W α H σ (r.bind k) F) : Go K W α H σ r fun b st α' H' => Go K W α' H' σ (k b st) F := by
  cases r with
  | ok b st =>
    intro α' H' p q s
    have h' : Go K W α H σ (k b st) F := h
    revert h'
    show Go K W α H σ (k b st) F → Go K W α' H' σ (k b st) F
    cases k b st with
    | ok c st2 => exact fun h' α2 H2 p2 q2 s2 => h' α2 H2 (p.trans p2) (q.trans q2) s2
    | ex x st2 => exact fun h' α2 H2 c dx p2 q2 s2 => h' α2 H2 c dx (p.trans p2) (q.trans q2) s2
    | no => exact fun h' => h'
  | ex x st => exact h
  | no => exact h
/-- at the same place: a pure end -/
theorem Go.here {β : Type} {b : β} {st : Sto} {F : β → Sto → List Addr → Hp → Prop} (h : Go K W α H σ (.ok b st) F) (s : SR K α st H) : F b st α H := h α H (List.prefix_refl _) (Keep.refl _) s
theorem Go.at {β : Type} {b : β} {st : Sto} {F : β → Sto → List Addr → Hp → Prop} {α' : List Addr} {H' : Hp} (h : Go K W α H σ (.ok b st) F) (p : α <+: α') (k : Keep H H') (s : SR K α' st H') : F b st α' H' := h α' H' p k s
end
theorem PE.weak {X : Cx} {e : Expr} {t t' : TE} (h : PE X e t) (f : ∀ σ H Q, t' σ H Q → t σ H Q) : PE X e t' := ⟨fun pins s σ H Q I hw => h.run pins s σ H Q I (f σ H Q hw)⟩
theorem PT.weak {X : Cx} {e : Expr} {t t' : TT} (h : PT X e t) (f : ∀ σ H Q, t' σ H Q → t σ H Q) : PT X e t' := ⟨fun pins s σ H Q I hw => h.run pins s σ H Q I (f σ H Q hw)⟩
theorem PW.weak {X : Cx} {e : Expr} {t t' : TT} (h : PW X e t) (f : ∀ σ H Q, t' σ H Q → t σ H Q) : PW X e t' := ⟨fun wh pins s σ H Q I hw => h.run wh pins s σ H Q I (f σ H Q hw)⟩
theorem PA.weak {X : Cx} {e : List Expr} {t t' : TA} (h : PA X e t) (f : ∀ σ H Q, t' σ H Q → t σ H Q) : PA X e t' := ⟨fun pos pins s σ H Q I hw => h.run pos pins s σ H Q I (f σ H Q hw)⟩
theorem PS.weak {X : Cx} {e : Stmt} {t t' : TS} (h : PS X e t) (f : ∀ Dn σ H, t' Dn σ H → t Dn σ H) : PS X e t' := ⟨fun pins s σ H Dn I hw => h.run pins s σ H Dn I (f Dn σ H hw)⟩
theorem PSs.weak {X : Cx} {e : List Stmt} {t t' : TS} (h : PSs X e t) (f : ∀ Dn σ H, t' Dn σ H → t Dn σ H) : PSs X e t' := ⟨fun pins s σ H Dn I hw => h.run pins s σ H Dn I (f Dn σ H hw)⟩

/-! ### names and constants -/
def mVar (i : Nat) (env : En) (st : Sto) : R D := match env[i]? with
  | some (some d) => .ok d st
  | _ => .no
def mC (d : D) (env : En) (st : Sto) : R D := .ok d st
section
variable {X : Cx} {W : WX}
theorem de_var (i : Nat) {x : Str} {pos : Pos} (hN : X.N[i]? = some x := by rfl) (hv : Vis X.env.scope x := by first | exact Or.inl rfl | exact Or.inr (Or.inl rfl) | exact Or.inr (Or.inr rfl)) (hd : (x == ("__debug__" : Str)) = false := by decide)
    (hcd : (x == ("__classdict__" : Str)) = false := by decide) : DE X W (.Name x pos) (mVar i) := by
  refine PE.weak (pe_var hN hv hd hcd) fun σ H Q h => ?_
  obtain ⟨α, env, st, hE, hS, h⟩ := h
  unfold mVar at h
  split at h
  · rename_i d e
    obtain ⟨v, e1, e2⟩ := hE.2 i d e
    exact ⟨v, e1, h.here hS v e2⟩
  · exact h.elim
theorem de_c {e : Expr} {v : V} {d : D} (h : PE X e (tC v)) (hr : ∀ α H, RD X.K α H d v) : DE X W e (mC d) := by
  refine PE.weak h fun σ H Q h => ?_
  obtain ⟨α, env, st, hE, hS, h⟩ := h
  exact h.here hS v (hr α H)
theorem de_int {i : Int} {j : Nat} {pos : Pos} : DE X W (.Constant (.int i) j pos) (mC (.int i)) := de_c pe_int fun _ _ => .int i
theorem de_bl {i : Bool} {j : Nat} {pos : Pos} : DE X W (.Constant (.bool i) j pos) (mC (.bl i)) := de_c pe_bl fun _ _ => .bl i
theorem de_str {i : Str} {j : Nat} {pos : Pos} : DE X W (.Constant (.str i) j pos) (mC (.str i)) := de_c pe_str fun _ _ => .str i
theorem de_non {j : Nat} {pos : Pos} : DE X W (.Constant .none j pos) (mC .non) := de_c pe_non fun _ _ => .non
/-- a module's constant -/
theorem de_glob {x : Str} {v : V} {d : D} {u : Value} {pos : Pos} (hg : Gl X x) (hm : X.mg x = some u) (r : RelV v u) (hr : ∀ α H, RD X.K α H d v) (hd : (x == ("__debug__" : Str)) = false := by decide) : DE X W (.Name x pos) (mC d) := de_c (pe_glob hg hm r hd) hr
/-- a built-in type, as a value -/
theorem de_ty {x : Str} {n : String} {pos : Pos} (hg : Gl X x) (hm : X.mg x = none) (hv : bootBuiltins x = some (.type n)) (hn : x ≠ "__name__" := by decide) (hd : (x == ("__debug__" : Str)) = false := by decide) : DE X W (.Name x pos) (mC (.ty n)) :=
  de_c (pe_bltn (v := .ty n) hg hm hv rfl hn hd) fun _ _ => .ty n

/-! ### operators -/
/-- an operation on data -/
abbrev O2 := D → D → Sto → R D
abbrev O1 := D → Sto → R D
def Rw {β : Type} (r : R β) (F : β → Sto → Prop) : Prop := match r with
  | .ok b st => F b st
  | _ => False
/-- what an operation is asked for -/
def rD2 (K : PySem.W.Frag) (f : O2) : R2 := fun x y H Q => ∃ α st a b, SR K α st H ∧ RD K α H a x ∧ RD K α H b y ∧ Rw (f a b st) fun d st' => ∀ α' H' v, α <+: α' → Keep H H' → SR K α' st' H' → RD K α' H' d v → Q v H'
def rD1 (K : PySem.W.Frag) (f : O1) : V → Hp → VK → Prop := fun x H Q => ∃ α st a, SR K α st H ∧ RD K α H a x ∧ Rw (f a st) fun d st' => ∀ α' H' v, α <+: α' → Keep H H' → SR K α' st' H' → RD K α' H' d v → Q v H'
/-- no exception: an operation's result -/
def noEx {β : Type} (r : R β) : R β := match r with
  | .ok b s => .ok b s
  | _ => .no
def m2 (f : O2) (ma mb : En → Sto → R D) (env : En) (st : Sto) : R D := (ma env st).bind fun x st1 => (mb env st1).bind fun y st2 => noEx (f x y st2)
def m1 (f : O1) (ma : En → Sto → R D) (env : En) (st : Sto) : R D := (ma env st).bind fun x st1 => noEx (f x st1)
theorem Go.rw {K : PySem.W.Frag} {α : List Addr} {H : Hp} {σ : L2.St} {β : Type} {r : R β} {F : β → Sto → List Addr → Hp → Prop} (h : Go K W α H σ (noEx r) F) : Rw r fun b st => ∀ α' H', α <+: α' → Keep H H' → SR K α' st H' → F b st α' H' := by
  cases r with
  | ok b st => exact h
  | ex x st => exact h.elim
  | no => exact h.elim
theorem Rw.mono {β : Type} {r : R β} {F F' : β → Sto → Prop} (h : Rw r F) (f : ∀ b st, F b st → F' b st) : Rw r F' := by
  cases r with
  | ok b st => exact f b st h
  | ex x st => exact h.elim
  | no => exact h.elim
/-- two pieces, then a value rule -/
theorem two_of {K : PySem.W.Frag} {f : O2} {ma mb : En → Sto → R D} {σ : L2.St} {H : Hp} {Q : VK} (h : tE K W (m2 f ma mb) σ H Q) : tOp (rD2 K f) (tE K W ma) (tE K W mb) σ H Q := by
  obtain ⟨α, env, st, hE, hS, h⟩ := h
  refine ⟨α, env, st, hE, hS, h.bind.mono fun x st1 α1 H1 p1 k1 s1 h1 v rv => ?_⟩
  refine ⟨α1, env, st1, hE.mono p1 k1, s1, h1.bind.mono fun y st2 α2 H2 p2 k2 s2 h2 u ru => ?_⟩
  exact ⟨α2, st2, x, y, s2, rv.mono p2 k2, ru, h2.rw.mono fun d st3 q α' H' w p k s rw => q α' H' p k s w rw⟩
theorem one_of {K : PySem.W.Frag} {f : O1} {ma : En → Sto → R D} {σ : L2.St} {H : Hp} {Q : VK} (h : tE K W (m1 f ma) σ H Q) : tUn (rD1 K f) (tE K W ma) σ H Q := by
  obtain ⟨α, env, st, hE, hS, h⟩ := h
  refine ⟨α, env, st, hE, hS, h.bind.mono fun x st1 α1 H1 p1 k1 s1 h1 v rv => ?_⟩
  exact ⟨α1, st1, x, s1, rv, h1.rw.mono fun d st3 q α' H' w p k s rw => q α' H' p k s w rw⟩
abbrev OD2 (X : Cx) (f : Value → Value → Sem Value) (g : O2) : Prop := OpR X f (rD2 X.K g)
abbrev OD1 (X : Cx) (f : Value → Sem Value) (g : O1) : Prop := UnR X f (rD1 X.K g)
theorem de_bin {op : Operator} {f : O2} {a b : Expr} {ma mb : En → Sto → R D} {pos : Pos} (ho : OD2 X (binaryOp op) f) (ha : DE X W a ma) (hb : DE X W b mb) : DE X W (.BinOp a op b pos) (m2 f ma mb) := PE.weak (pe_op ho ha hb) fun _ _ _ => two_of
theorem de_un {op : UnaryOp} {f : O1} {a : Expr} {ma : En → Sto → R D} {pos : Pos} (ho : OD1 X (unaryOp op) f) (ha : DE X W a ma) : DE X W (.UnaryOp op a pos) (m1 f ma) := PE.weak (pe_un ho ha) fun _ _ _ => one_of
theorem de_cmp {op : CmpOp} {f : O2} {a b : Expr} {ma mb : En → Sto → R D} {pos : Pos} (ho : OD2 X (compareOp op) f) (ha : DE X W a ma) (hb : DE X W b mb) (hm : behindInMarks op b = false) : DE X W (.Compare a [op] [b] pos) (m2 f ma mb) := PE.weak (pe_cmpR ho ha hb hm) fun _ _ _ => two_of
/-- a op b op' c -/
def mChain (f g : O2) (ma mb mc : En → Sto → R D) (env : En) (st : Sto) : R D := (ma env st).bind fun x st1 => (mb env st1).bind fun y st2 => (noEx (f x y st2)).bind fun z st3 => match z with
  | .bl true => (mc env st3).bind fun w st4 => noEx (g y w st4)
  | .bl false => .ok (.bl false) st3
  | _ => .no
theorem RD.bl_of {K : PySem.W.Frag} {α : List Addr} {H : Hp} {b : Bool} {v : V} (h : RD K α H (.bl b) v) : v = .bl b := by cases h; rfl
theorem RD.int_of {K : PySem.W.Frag} {α : List Addr} {H : Hp} {b : Int} {v : V} (h : RD K α H (.int b) v) : v = .int b := by cases h; rfl
theorem RD.str_of {K : PySem.W.Frag} {α : List Addr} {H : Hp} {b : Str} {v : V} (h : RD K α H (.str b) v) : v = .str b := by cases h; rfl
theorem RD.non_of {K : PySem.W.Frag} {α : List Addr} {H : Hp} {v : V} (h : RD K α H .non v) : v = .non := by cases h; rfl
theorem RD.ty_of {K : PySem.W.Frag} {α : List Addr} {H : Hp} {n : String} {v : V} (h : RD K α H (.ty n) v) : v = .ty n := by cases h; rfl
theorem de_chain {op op' : CmpOp} {f g : O2} {a b c : Expr} {ma mb mc : En → Sto → R D} {pos : Pos} (ho : OD2 X (compareOp op) f) (ho' : OD2 X (compareOp op') g) (ha : DE X W a ma) (hb : DE X W b mb) (hc : DE X W c mc)
    (hm : lastMarks [op, op'] [b, c] = false := by with_unfolding_all rfl) : DE X W (.Compare a [op, op'] [b, c] pos) (mChain f g ma mb mc) := by
  refine PE.weak (pe_chain ho ho' ha hb hc hm) fun σ H Q h => ?_
  obtain ⟨α, env, st, hE, hS, h⟩ := h
  refine ⟨α, env, st, hE, hS, h.bind.mono fun x st1 α1 H1 p1 k1 s1 h1 v rv => ?_⟩
  refine ⟨α1, env, st1, hE.mono p1 k1, s1, h1.bind.mono fun y st2 α2 H2 p2 k2 s2 h2 u ru => ?_⟩
  refine ⟨α2, st2, x, y, s2, rv.mono p2 k2, ru, h2.bind.rw.mono fun d st3 q α3 H3 w p3 k3 s3 rw => ?_⟩
  have q3 := q α3 H3 p3 k3 s3
  split at q3
  · refine ⟨true, rw.bl_of, ?_⟩
    rw [if_pos rfl]
    refine ⟨α3, env, st3, ((hE.mono p1 k1).mono p2 k2).mono p3 k3, s3, q3.bind.mono fun w' st4 α4 H4 p4 k4 s4 h4 v' rv' => ?_⟩
    exact ⟨α4, st4, y, w', s4, (ru.mono p3 k3).mono p4 k4, rv', h4.rw.mono fun d st5 q α' H' w p k s rw => q α' H' p k s w rw⟩
  · refine ⟨false, rw.bl_of, ?_⟩
    rw [if_neg Bool.false_ne_true]
    exact q3.here s3 _ (.bl false)
  · exact q3.elim

/-! ### and, or, not, if -/
def mAnd (ma mb : En → Sto → R D) (env : En) (st : Sto) : R D := (ma env st).bind fun x st1 => match x with
  | .bl true => mb env st1
  | .bl false => .ok (.bl false) st1
  | _ => .no
def mOr (ma mb : En → Sto → R D) (env : En) (st : Sto) : R D := (ma env st).bind fun x st1 => match x with
  | .bl false => mb env st1
  | .bl true => .ok (.bl true) st1
  | _ => .no
def mNot (ma : En → Sto → R D) (env : En) (st : Sto) : R D := (ma env st).bind fun x st1 => match x with
  | .bl b => .ok (.bl (!b)) st1
  | _ => .no
variable {a b : Expr} {rest : List Expr} {ma mb : En → Sto → R D} {pos : Pos}
theorem de_one {op : BoolOp} (ha : DE X W a ma) : DE X W (.BoolOp op [a] pos) ma := pe_one ha
theorem de_and (ha : DE X W a ma) (hb : DE X W (.BoolOp .And (b :: rest) pos) mb) : DE X W (.BoolOp .And (a :: b :: rest) pos) (mAnd ma mb) := by
  refine PE.weak (pe_and ha hb) fun σ H Q h => ?_
  obtain ⟨α, env, st, hE, hS, h⟩ := h
  refine ⟨α, env, st, hE, hS, h.bind.mono fun x st1 α1 H1 p1 k1 s1 h1 v rv => ?_⟩
  split at h1
  · refine ⟨true, rv.bl_of, ?_⟩
    rw [if_pos rfl]
    exact ⟨α1, env, st1, hE.mono p1 k1, s1, h1⟩
  · refine ⟨false, rv.bl_of, ?_⟩
    rw [if_neg Bool.false_ne_true]
    exact h1.here s1 _ (.bl false)
  · exact h1.elim
theorem de_or (ha : DE X W a ma) (hb : DE X W (.BoolOp .Or (b :: rest) pos) mb) : DE X W (.BoolOp .Or (a :: b :: rest) pos) (mOr ma mb) := by
  refine PE.weak (pe_or ha hb) fun σ H Q h => ?_
  obtain ⟨α, env, st, hE, hS, h⟩ := h
  refine ⟨α, env, st, hE, hS, h.bind.mono fun x st1 α1 H1 p1 k1 s1 h1 v rv => ?_⟩
  split at h1
  · refine ⟨false, rv.bl_of, ?_⟩
    rw [if_neg Bool.false_ne_true]
    exact ⟨α1, env, st1, hE.mono p1 k1, s1, h1⟩
  · refine ⟨true, rv.bl_of, ?_⟩
    rw [if_pos rfl]
    exact h1.here s1 _ (.bl true)
  · exact h1.elim
theorem de_not (ha : DE X W a ma) : DE X W (.UnaryOp .Not a pos) (mNot ma) := by
  refine PE.weak (pe_not ha) fun σ H Q h => ?_
  obtain ⟨α, env, st, hE, hS, h⟩ := h
  refine ⟨α, env, st, hE, hS, h.bind.mono fun x st1 α1 H1 p1 k1 s1 h1 v rv => ?_⟩
  split at h1
  · exact ⟨_, rv.bl_of, h1.here s1 _ (.bl _)⟩
  · exact h1.elim

/-! ### tests -/
/-- a value that is a bool, as a test -/
def mB (ma : En → Sto → R D) (env : En) (st : Sto) : R Bool := (ma env st).bind fun x st1 => match x with
  | .bl b => .ok b st1
  | _ => .no
theorem b_of {K : PySem.W.Frag} {σ : L2.St} {H : Hp} {Q : Bool → Hp → Prop} (h : tT K W (mB ma) σ H Q) : tE K W ma σ H fun x H1 => ∃ k, x = .bl k ∧ Q k H1 := by
  obtain ⟨α, env, st, hE, hS, h⟩ := h
  refine ⟨α, env, st, hE, hS, h.bind.mono fun x st1 α1 H1 p1 k1 s1 h1 v rv => ?_⟩
  split at h1
  · exact ⟨_, rv.bl_of, h1.here s1⟩
  · exact h1.elim
theorem dt_val (ha : DE X W a ma) (he : ∀ whole, isTrue a X.env whole = (do let v ← whole; standAt a.pos; holding [v] (truthy v)) := by intro _; rfl) : DT X W a (mB ma) := PT.weak (pt_val ha he) fun _ _ _ => b_of
theorem dt_cmp {op : CmpOp} {f : O2} (ho : OD2 X (compareOp op) f) (ha : DE X W a ma) (hb : DE X W b mb) (hm : behindInMarks op b = false) : DT X W (.Compare a [op] [b] pos) (mB (m2 f ma mb)) := by
  refine PT.weak (pt_cmpR ho ha hb hm) fun σ H Q h => ?_
  obtain ⟨α, env, st, hE, hS, h⟩ := h
  refine two_of (W := W) ⟨α, env, st, hE, hS, h.bind.mono fun x st1 α1 H1 p1 k1 s1 h1 v rv => ?_⟩
  split at h1
  · exact ⟨_, rv.bl_of, h1.here s1⟩
  · exact h1.elim
theorem dt_chain {op op' : CmpOp} {f g : O2} {c : Expr} {mc : En → Sto → R D} (ho : OD2 X (compareOp op) f) (ho' : OD2 X (compareOp op') g) (ha : DE X W a ma) (hb : DE X W b mb) (hc : DE X W c mc)
    (hm : lastMarks [op, op'] [b, c] = false := by with_unfolding_all rfl) : DT X W (.Compare a [op, op'] [b, c] pos) (mB (mChain f g ma mb mc)) := by
  refine PT.weak (pt_chain ho ho' ha hb hc hm) fun σ H Q h => ?_
  obtain ⟨α, env, st, hE, hS, h⟩ := b_of h
  refine ⟨α, env, st, hE, hS, h.bind.mono fun x st1 α1 H1 p1 k1 s1 h1 v rv => ?_⟩
  refine ⟨α1, env, st1, hE.mono p1 k1, s1, h1.bind.mono fun y st2 α2 H2 p2 k2 s2 h2 u ru => ?_⟩
  refine ⟨α2, st2, x, y, s2, rv.mono p2 k2, ru, h2.bind.rw.mono fun d st3 q α3 H3 w p3 k3 s3 rw => ?_⟩
  have q3 := q α3 H3 p3 k3 s3
  split at q3
  · refine ⟨true, rw.bl_of, ?_⟩
    rw [if_pos rfl]
    refine ⟨α3, env, st3, ((hE.mono p1 k1).mono p2 k2).mono p3 k3, s3, q3.bind.mono fun w' st4 α4 H4 p4 k4 s4 h4 v' rv' => ?_⟩
    exact ⟨α4, st4, y, w', s4, (ru.mono p3 k3).mono p4 k4, rv', h4.rw.mono fun d st5 q α' H' w p k s rw => q α' H' p k s w rw⟩
  · refine ⟨false, rw.bl_of, ?_⟩
    rw [if_neg Bool.false_ne_true]
    exact q3.here s3 _ (.bl false)
  · exact q3.elim
abbrev DW (X : Cx) (W : WX) (e : Expr) (m : En → Sto → R Bool) : Prop := PW X e (tT X.K W m)
def tmAnd (ma mb : En → Sto → R Bool) (env : En) (st : Sto) : R Bool := (ma env st).bind fun x st1 => if x = true then mb env st1 else .ok false st1
def tmOr (ma mb : En → Sto → R Bool) (env : En) (st : Sto) : R Bool := (ma env st).bind fun x st1 => if x = true then .ok true st1 else mb env st1
def tmNot (ma : En → Sto → R Bool) (env : En) (st : Sto) : R Bool := (ma env st).bind fun x st1 => .ok (!x) st1
variable {ta tb : En → Sto → R Bool}
theorem dw_and1 (ha : DT X W a ta) : DW X W (.BoolOp .And [a] pos) ta := pw_and1 ha
theorem dw_or1 (ha : DT X W a ta) : DW X W (.BoolOp .Or [a] pos) ta := pw_or1 ha
theorem dw_and (ha : DT X W a ta) (hb : DW X W (.BoolOp .And (b :: rest) pos) tb) : DW X W (.BoolOp .And (a :: b :: rest) pos) (tmAnd ta tb) := by
  refine PW.weak (pw_and ha hb) fun σ H Q h => ?_
  obtain ⟨α, env, st, hE, hS, h⟩ := h
  refine ⟨α, env, st, hE, hS, h.bind.mono fun x st1 α1 H1 p1 k1 s1 h1 => ?_⟩
  cases x with
  | true => rw [if_pos rfl] at h1 ⊢; exact ⟨α1, env, st1, hE.mono p1 k1, s1, h1⟩
  | false => rw [if_neg Bool.false_ne_true] at h1 ⊢; exact h1.here s1
theorem dw_or (ha : DT X W a ta) (hb : DW X W (.BoolOp .Or (b :: rest) pos) tb) : DW X W (.BoolOp .Or (a :: b :: rest) pos) (tmOr ta tb) := by
  refine PW.weak (pw_or ha hb) fun σ H Q h => ?_
  obtain ⟨α, env, st, hE, hS, h⟩ := h
  refine ⟨α, env, st, hE, hS, h.bind.mono fun x st1 α1 H1 p1 k1 s1 h1 => ?_⟩
  cases x with
  | true => rw [if_pos rfl] at h1 ⊢; exact h1.here s1
  | false => rw [if_neg Bool.false_ne_true] at h1 ⊢; exact ⟨α1, env, st1, hE.mono p1 k1, s1, h1⟩
theorem dt_w {e : Expr} {m : En → Sto → R Bool} (h : DW X W e m) : DT X W e m := h.pt
theorem dt_not (ha : DT X W a ta) : DT X W (.UnaryOp .Not a pos) (tmNot ta) := by
  refine PT.weak (pt_not ha) fun σ H Q h => ?_
  obtain ⟨α, env, st, hE, hS, h⟩ := h
  exact ⟨α, env, st, hE, hS, h.bind.mono fun x st1 α1 H1 p1 k1 s1 h1 => h1.here s1⟩
def mIf (mc : En → Sto → R Bool) (ma mb : En → Sto → R D) (env : En) (st : Sto) : R D := (mc env st).bind fun x st1 => if x = true then ma env st1 else mb env st1
theorem de_if {c : Expr} {mc : En → Sto → R Bool} (hc : DT X W c mc) (ha : DE X W a ma) (hb : DE X W b mb) : DE X W (.IfExp c a b pos) (mIf mc ma mb) := by
  refine PE.weak (pe_ifExp hc ha hb) fun σ H Q h => ?_
  obtain ⟨α, env, st, hE, hS, h⟩ := h
  refine ⟨α, env, st, hE, hS, h.bind.mono fun x st1 α1 H1 p1 k1 s1 h1 => ?_⟩
  cases x with
  | true => rw [if_pos rfl] at h1 ⊢; exact ⟨α1, env, st1, hE.mono p1 k1, s1, h1⟩
  | false => rw [if_neg Bool.false_ne_true] at h1 ⊢; exact ⟨α1, env, st1, hE.mono p1 k1, s1, h1⟩

/-! ### arguments, displays, calls -/
def aNil (env : En) (st : Sto) : R (List D) := .ok [] st
def aCons (ma : En → Sto → R D) (mr : En → Sto → R (List D)) (env : En) (st : Sto) : R (List D) := (ma env st).bind fun x st1 => (mr env st1).bind fun xs st2 => .ok (x :: xs) st2
variable {e : Expr} {es : List Expr} {me : En → Sto → R D} {mr : En → Sto → R (List D)}
theorem da_nil : DA X W [] aNil := by
  refine PA.weak pa_nil fun σ H Q h => ?_
  obtain ⟨α, env, st, hE, hS, h⟩ := h
  exact h.here hS _ .nil
theorem da_cons (ha : DE X W e me) (hr : DA X W es mr) (hs : starEach (e :: es) X.env = (false, eval e X.env) :: starEach es X.env := by rfl) : DA X W (e :: es) (aCons me mr) := by
  refine PA.weak (pa_cons ha hr hs) fun σ H Q h => ?_
  obtain ⟨α, env, st, hE, hS, h⟩ := h
  refine ⟨α, env, st, hE, hS, h.bind.mono fun x st1 α1 H1 p1 k1 s1 h1 v rv => ?_⟩
  refine ⟨α1, env, st1, hE.mono p1 k1, s1, h1.bind.mono fun xs st2 α2 H2 p2 k2 s2 h2 vs rvs => ?_⟩
  exact h2.here s2 _ (.cons (rv.mono p2 k2) rvs)
def mTup (mr : En → Sto → R (List D)) (env : En) (st : Sto) : R D := (mr env st).bind fun xs st1 => if xs.length ≤ sizeLine then .ok (.tup xs) st1 else .no
def mLst (mr : En → Sto → R (List D)) (env : En) (st : Sto) : R D := (mr env st).bind fun xs st1 => if xs.length ≤ sizeLine then .ok (.ref st1.length) (st1 ++ [.lst xs]) else .no
theorem de_tup {x1 : Nat} (hr : DA X W es mr) : DE X W (.Tuple es x1 pos) (mTup mr) := by
  refine PE.weak (pe_tup hr) fun σ H Q h => ?_
  obtain ⟨α, env, st, hE, hS, h⟩ := h
  refine ⟨α, env, st, hE, hS, h.bind.mono fun xs st1 α1 H1 p1 k1 s1 h1 vs rvs => ?_⟩
  split at h1
  · rename_i hz
    refine ⟨by rw [← rvs.len]; exact hz, fun p hp => ?_⟩
    exact h1.at (List.prefix_refl _) (Keep.fresh hp) (s1.fresh hp) _ (.tup (SqT.of upd_same) (rvs.mono (List.prefix_refl _) (Keep.fresh hp)))
  · exact h1.elim
theorem lst_end {K : PySem.W.Frag} {α1 : List Addr} {H1 : Hp} {σ : L2.St} {xs : List D} {vs : List V} {st1 : Sto} {Q : VK} {p : Addr} (s1 : SR K α1 st1 H1) (rvs : RDs K α1 H1 xs vs) (hp : H1 p = none)
    (h1 : Go K W α1 H1 σ (.ok (D.ref st1.length) (st1 ++ [.lst xs])) fun d _ α' H' => ∀ v, RD K α' H' d v → Q v H') : Q (.ref p) (upd H1 p (.lst vs)) := by
  refine h1.at (List.prefix_append _ [p]) (Keep.fresh hp) (s1.push hp rvs) _ (.ref ?_)
  rw [← s1.len, List.getElem?_concat_length]
theorem de_lst (hr : DA X W es mr) : DE X W (.List es pos) (mLst mr) := by
  refine PE.weak (pe_lst hr) fun σ H Q h => ?_
  obtain ⟨α, env, st, hE, hS, h⟩ := h
  refine ⟨α, env, st, hE, hS, h.bind.mono fun xs st1 α1 H1 p1 k1 s1 h1 vs rvs => ?_⟩
  split at h1
  · rename_i hz
    exact ⟨by rw [← rvs.len]; exact hz, fun p hp => lst_end s1 rvs hp h1⟩
  · exact h1.elim
/-- a built-in by values -/
def rDs (K : PySem.W.Frag) (f : List D → Sto → R D) : List V → Hp → VK → Prop := fun vs H Q => ∃ α st ds, SR K α st H ∧ RDs K α H ds vs ∧ Rw (f ds st) fun d st' => ∀ α' H' v, α <+: α' → Keep H H' → SR K α' st' H' → RD K α' H' d v → Q v H'
abbrev CDs (X : Cx) (f : Value) (g : List D → Sto → R D) : Prop := CallR X f (rDs X.K g)
def mFn (f : List D → Sto → R D) (mr : En → Sto → R (List D)) (env : En) (st : Sto) : R D := (mr env st).bind fun xs st1 => noEx (f xs st1)
theorem fn_of' {K : PySem.W.Frag} {f : List D → Sto → R D} {σ : L2.St} {H : Hp} {Q : VK} (h : tE K W (mFn f mr) σ H Q) : tCB (rDs K f) (tA K W mr) σ H Q := by
  obtain ⟨α, env, st, hE, hS, h⟩ := h
  refine ⟨α, env, st, hE, hS, h.bind.mono fun xs st1 α1 H1 p1 k1 s1 h1 vs rvs => ?_⟩
  exact ⟨α1, st1, xs, s1, rvs, h1.rw.mono fun d st3 q α' H' w p k s rw => q α' H' p k s w rw⟩
theorem de_callB {x : Str} {id : String} {f : List D → Sto → R D} {p : Pos} (hc : CDs X (.builtin id) f) (hg : Gl X x) (hm : X.mg x = none) (hv : bootBuiltins x = some (.builtin id)) (ha : DA X W (e :: es) mr) (hn : x ≠ "__name__" := by decide) (hdb : (x == ("__debug__" : Str)) = false := by decide)
    (he : starEach (e :: es) X.env = (false, eval e X.env) :: starEach es X.env := by rfl) (hpl : (backTo pos (starEach es X.env)).any (·.1) = false := by rfl) : DE X W (.Call (.Name x p) (e :: es) [] pos) (mFn f mr) := PE.weak (pe_callB hc hg hm hv ha hn hdb he hpl) fun _ _ _ => fn_of'
theorem de_callTy {x : Str} {T : String} {f : List D → Sto → R D} {p : Pos} (hc : CDs X (.type T) f) (hg : Gl X x) (hm : X.mg x = none) (hv : bootBuiltins x = some (.type T)) (ha : DA X W (e :: es) mr) (hn : x ≠ "__name__" := by decide) (hdb : (x == ("__debug__" : Str)) = false := by decide)
    (he : starEach (e :: es) X.env = (false, eval e X.env) :: starEach es X.env := by rfl) (hpl : (backTo pos (starEach es X.env)).any (·.1) = false := by rfl) : DE X W (.Call (.Name x p) (e :: es) [] pos) (mFn f mr) := PE.weak (pe_callTy hc hg hm hv ha hn hdb he hpl) fun _ _ _ => fn_of'
end
end DL
set_option Elab.async false
set_option linter.all false
set_option maxRecDepth 100000
namespace DL
open PySem PySem.Spec PyProof.Rows L2
/-! ### a tuple times a number -/
theorem tuple_same (l : Addr) (items : Array Value) (n : Nat) (dd : Option Addr) (sl : Array (Option Value)) (x : Int) (u : Tok) (c0 : (decide (x < -(2 ^ 63)) || decide (x ≥ 2 ^ 63)) = false) (c1 : (items.isEmpty || x == 1) = true) :
    Meets (Builtin.«tuple.__mul__» ⟨[.ref l, .int x u], []⟩) (fun _ R s => s.heap.get? l = some { cls := .type "tuple", dict := dd, data := .seq items n, slots := sl } ∧ R (.ok (.ret (Value.ref l))) s) :=
  .of_wp fun prog w A R s h => by
    obtain ⟨hp, g, d, tk, os⟩ := s
    obtain ⟨hl, h⟩ := h
    have f1 := AutoSeq1.idx_int
    wp_walk using wpAny_loadPart' hl
    refine wpAny_ite_false (decide_eq_false (by rw [c0]; exact Bool.false_ne_true)) ?_
    wp_walk using wpAny_loadPart' hl
    exact ⟨_, rfl, h⟩
theorem tuple_none (l : Addr) (items : Array Value) (n : Nat) (dd : Option Addr) (sl : Array (Option Value)) (x : Int) (u : Tok) (c0 : (decide (x < -(2 ^ 63)) || decide (x ≥ 2 ^ 63)) = false) (c1 : (items.isEmpty || x == 1) = false) (c2 : (decide (x ≤ 0) || items.isEmpty) = true) :
    Meets (Builtin.«tuple.__mul__» ⟨[.ref l, .int x u], []⟩) (fun _ R s => s.heap.get? l = some { cls := .type "tuple", dict := dd, data := .seq items n, slots := sl } ∧ R (.ok (.ret (Value.ref s.heap.objs.size))) { s with heap := s.heap.push { cls := Value.type "tuple", data := Data.seq #[] }, toks := s.toks }) :=
  .of_wp fun prog w A R s h => by
    obtain ⟨hp, g, d, tk, os⟩ := s
    obtain ⟨hl, h⟩ := h
    have f1 := AutoSeq1.idx_int
    wp_walk using wpAny_loadPart' hl
    refine wpAny_ite_false (decide_eq_false (by rw [c0]; exact Bool.false_ne_true)) ?_
    wp_walk using wpAny_loadPart' hl
    exact ⟨_, rfl, h⟩

/-! ### what stands in the store -/
def rdW (st : Sto) (r : Nat) : Option (List D) := match st[r]? with
  | some (.lst xs) => some xs
  | _ => none
def rdL (st : Sto) (r : Nat) : Option (List D) := match st[r]? with
  | some (.lst xs) => some xs
  | some (.fro xs) => some xs
  | none => none
section
variable {K : PySem.W.Frag} {α : List Addr} {H : Hp} {st : Sto}
theorem SR.w (s : SR K α st H) {r : Nat} {a : Addr} {xs : List D} (e : rdW st r = some xs) (ea : α[r]? = some a) : st[r]? = some (.lst xs) ∧ ∃ vs, H a = some (.lst vs) ∧ RDs K α H xs vs := by
  unfold rdW at e
  split at e
  · rename_i ys h
    cases e
    obtain ⟨b, h1, h2⟩ := s.cell r _ h
    rw [ea] at h1
    cases h1
    exact ⟨h, h2⟩
  · cases e
theorem SR.l (s : SR K α st H) {r : Nat} {a : Addr} {xs : List D} (e : rdL st r = some xs) (ea : α[r]? = some a) : ∃ vs, SqL K H a vs ∧ RDs K α H xs vs := by
  unfold rdL at e
  split at e
  · rename_i ys h
    cases e
    obtain ⟨b, h1, vs, h2, h3⟩ := s.cell r _ h
    rw [ea] at h1
    cases h1
    exact ⟨vs, SqL.of h2, h3⟩
  · rename_i ys h
    cases e
    obtain ⟨b, h1, vs, h2, h3⟩ := s.cell r _ h
    rw [ea] at h1
    cases h1
    exact ⟨vs, h2.sq, h3⟩
  · cases e
theorem RD.ref_of {r : Nat} {v : V} (h : RD K α H (.ref r) v) : ∃ a, v = .ref a ∧ α[r]? = some a := by
  cases h with
  | ref e => exact ⟨_, rfl, e⟩
theorem RD.tup_of {xs : List D} {v : V} (h : RD K α H (.tup xs) v) : ∃ a vs, v = .ref a ∧ SqT K H a vs ∧ RDs K α H xs vs := by
  cases h with
  | tup a b => exact ⟨_, _, rfl, a, b⟩
end

/-! ### ends of operations -/
section
variable {K : PySem.W.Frag} {α : List Addr} {H : Hp} {st : Sto}
def Fin (K : PySem.W.Frag) (α : List Addr) (H : Hp) (Q : VK) (d : D) (st : Sto) : Prop := ∀ α' H' v, α <+: α' → Keep H H' → SR K α' st H' → RD K α' H' d v → Q v H'
theorem Fin.here {Q : VK} {d : D} {v : V} (h : Fin K α H Q d st) (s : SR K α st H) (r : RD K α H d v) : Q v H := h α H v (List.prefix_refl _) (Keep.refl _) s r
theorem Fin.tup {Q : VK} {ds : List D} {vs : List V} (h : Fin K α H Q (.tup ds) st) (s : SR K α st H) (r : RDs K α H ds vs) {p : Addr} (hp : H p = none) : Q (.ref p) (upd H p (.tup vs)) :=
  h α _ _ (List.prefix_refl _) (Keep.fresh hp) (s.fresh hp) (.tup (SqT.of upd_same) (r.mono (List.prefix_refl _) (Keep.fresh hp)))
theorem Fin.new {Q : VK} {ds : List D} {vs : List V} (h : Fin K α H Q (.ref st.length) (st ++ [.lst ds])) (s : SR K α st H) (r : RDs K α H ds vs) {p : Addr} (hp : H p = none) : Q (.ref p) (upd H p (.lst vs)) :=
  h (α ++ [p]) _ _ (List.prefix_append _ _) (Keep.fresh hp) (s.push hp r) (.ref (by rw [← s.len, List.getElem?_concat_length]))
theorem Fin.put {Q : VK} {d : D} {v : V} {r : Nat} {q : Addr} {ds xs : List D} {vs ws : List V} (h : Fin K α H Q d (st.set r (.lst ds))) (s : SR K α st H) (e : st[r]? = some (.lst xs)) (ea : α[r]? = some q) (eh : H q = some (.lst ws)) (rr : RDs K α H ds vs) (rd : RD K α H d v) : Q v (upd H q (.lst vs)) :=
  h α _ _ (List.prefix_refl _) (Keep.lst eh) (s.put e ea rr) (rd.mono (List.prefix_refl _) (Keep.lst eh))
end

/-! ### arithmetic -/
def Small (i : Int) : Prop := -(2 ^ 64) < i ∧ i < 2 ^ 64
instance (i : Int) : Decidable (Small i) := by unfold Small; infer_instance
def oAdd : O2 := fun a b st => match a, b with
  | .int i, .int j => .ok (.int (i + j)) st
  | .str x, .str y => if x.length + y.length ≤ sizeLine then .ok (.str (x ++ y)) st else .no
  | .tup xs, .tup ys => if xs.length + ys.length ≤ sizeLine then .ok (.tup (xs ++ ys)) st else .no
  | .ref r, .ref q => match rdW st r, rdW st q with
    | some xs, some ys => if xs.length + ys.length ≤ sizeLine then .ok (.ref st.length) (st ++ [.lst (xs ++ ys)]) else .no
    | _, _ => .no
  | _, _ => .no
def oSub : O2 := fun a b st => match a, b with
  | .int i, .int j => .ok (.int (i - j)) st
  | _, _ => .no
def oMul : O2 := fun a b st => match a, b with
  | .int i, .int j => if Small i ∨ Small j then .ok (.int (i * j)) st else .no
  | .ref r, .int k => match rdW st r with
    | some xs => if Small k ∧ -(2 ^ 63) ≤ k ∧ k < 2 ^ 63 ∧ xs.length * k.toNat ≤ sizeLine then .ok (.ref st.length) (st ++ [.lst (List.replicate k.toNat xs).flatten]) else .no
    | none => .no
  | .tup xs, .int k => if -1000 ≤ k ∧ k ≤ 1000 ∧ xs.length ≤ 1000 then .ok (.tup (List.replicate k.toNat xs).flatten) st else .no
  | _, _ => .no
def oDiv : O2 := fun a b st => match a, b with
  | .int i, .int j => if 0 < j ∧ j < 1073741824 then .ok (.int (i / j)) st else .no
  | _, _ => .no
def oMod : O2 := fun a b st => match a, b with
  | .int i, .int j => if 0 < j then .ok (.int (i % j)) st else .no
  | _, _ => .no
def oPow : O2 := fun a b st => match a, b with
  | .int i, .int j => if 0 ≤ j ∧ j ≤ 1000000 ∧ i.natAbs < 2 ^ 64 then .ok (.int (i ^ j.toNat)) st else .no
  | _, _ => .no
def oNeg : O1 := fun a st => match a with
  | .int i => .ok (.int (-i)) st
  | _ => .no
def oLt : O2 := fun a b st => match a, b with
  | .int i, .int j => .ok (.bl (decide (i < j))) st
  | _, _ => .no
def oLe : O2 := fun a b st => match a, b with
  | .int i, .int j => .ok (.bl (decide (i ≤ j))) st
  | _, _ => .no
def oGt : O2 := fun a b st => match a, b with
  | .int i, .int j => .ok (.bl (decide (j < i))) st
  | _, _ => .no
def oGe : O2 := fun a b st => match a, b with
  | .int i, .int j => .ok (.bl (decide (j ≤ i))) st
  | _, _ => .no
section
variable {X : Cx}
theorem od_add : OD2 X (binaryOp .Add) oAdd := by
  intro pins s σ H x y v u Q I rx ry h
  obtain ⟨α, st, a, b, S, ra, rb, h⟩ := h
  unfold oAdd at h
  split at h
  · have e1 := ra.int_of; have e2 := rb.int_of; subst e1; subst e2
    exact op_add pins s σ H _ _ v u Q I rx ry ⟨_, _, rfl, rfl, Fin.here h S (.int _)⟩
  · have e1 := ra.str_of; have e2 := rb.str_of; subst e1; subst e2
    split at h
    · exact op_add_str pins s σ H _ _ v u Q I rx ry ⟨_, _, rfl, rfl, by assumption, Fin.here h S (.str _)⟩
    · exact h.elim
  · obtain ⟨p, vs, rfl, t1, r1⟩ := ra.tup_of
    obtain ⟨q, ws, rfl, t2, r2⟩ := rb.tup_of
    split at h
    · rename_i hz
      have l1 := r1.len
      have l2 := r2.len
      refine op_catA pins s σ H _ _ v u Q I rx ry ⟨_, _, vs, ws, rfl, rfl, t1, t2, by omega, fun e => ?_, fun e e' => ?_, fun _ _ p hp => Fin.tup h S (r1.app r2) hp⟩
      · subst e
        cases r1
        exact Fin.here h S (.tup t2 r2)
      · subst e'
        cases r2
        rw [List.append_nil] at h
        exact Fin.here h S (.tup t1 r1)
    · exact h.elim
  · obtain ⟨p, rfl, a1⟩ := ra.ref_of
    obtain ⟨q, rfl, a2⟩ := rb.ref_of
    split at h
    · rename_i xs ys e1 e2
      split at h
      · rename_i hz
        obtain ⟨_, vs, h1, r1⟩ := S.w e1 a1
        obtain ⟨_, ws, h2, r2⟩ := S.w e2 a2
        have l1 := r1.len
        have l2 := r2.len
        exact op_cat pins s σ H _ _ v u Q I rx ry ⟨_, _, vs, ws, rfl, rfl, h1, h2, by omega, fun p hp => Fin.new h S (r1.app r2) hp⟩
      · exact h.elim
    · exact h.elim
  · exact h.elim
theorem od_sub : OD2 X (binaryOp .Sub) oSub := by
  intro pins s σ H x y v u Q I rx ry h
  obtain ⟨α, st, a, b, S, ra, rb, h⟩ := h
  unfold oSub at h
  split at h
  · have e1 := ra.int_of; have e2 := rb.int_of; subst e1; subst e2
    exact op_sub pins s σ H _ _ v u Q I rx ry ⟨_, _, rfl, rfl, Fin.here h S (.int _)⟩
  · exact h.elim
/-- a tuple as often as told: the same one, none of it, or more -/
theorem op_repU : OpR X (binaryOp .Mult) (fun x y H Q => ∃ l k xs, x = .ref l ∧ y = .int k ∧ SqT X.K H l xs ∧ -1000 ≤ k ∧ k < 2 ∧ ((xs = [] ∨ k = 1) ∧ Q (.ref l) H ∨ (xs ≠ [] ∧ k ≤ 0) ∧ ∀ p, H p = none → Q (.ref p) (upd H p (.tup [])))) := by
  intro pins s σ H x y v u Q I rx ry h
  obtain ⟨l, k, xs, rfl, rfl, hT, h1, h2, q⟩ := h
  cases rx
  obtain ⟨t, rfl⟩ := ry
  obtain ⟨its, r, ⟨⟨cls, dd, data, sl⟩, ho, hc, n, hd⟩, hs⟩ := I.tuple hT
  simp only at hc hd
  subst hc hd
  have hle : its.length = xs.length := r.length.symm
  have c0 : (decide (k < -(2 ^ 63)) || decide (k ≥ 2 ^ 63)) = false := by
    rw [decide_eq_false (by omega), decide_eq_false (by omega)] <;> rfl
  refine wpAny_binaryOp_repeat_ref (T := "tuple") (U := "int") (by decide) ⟨_, ho, rfl⟩ (fun s' => typeIs_int s' k t) noFill_tuple_mul F.fills_int_mul F.slot_int_rmul repeat_tuple F.slot_int_index.lookup
    (call_meets F.slot_int_rmul (typeIs_int s k t) F.entry_int_rmul (F.args_int_rmul_2 _ _) (int_rmul_tuple k t l its.toArray n dd sl) ⟨ho, rfl, ⟨_, ho, rfl⟩, ?_⟩)
  rcases q with ⟨c, q⟩ | ⟨⟨c, c'⟩, q⟩
  · have c1 : (its.toArray.isEmpty || k == 1) = true := by
      rcases c with c | c
      · subst c
        have : its = [] := List.eq_nil_of_length_eq_zero hle
        subst this; rfl
      · subst c; simp
    exact call_meets F.slot_tuple_mul ⟨_, ho, rfl⟩ F.entry_tuple_mul (F.args_tuple_mul_2 _ _) (tuple_same l its.toArray n dd sl k t c0 c1) ⟨ho, ⟨.ref l, H, I, rfl, q⟩⟩
  · have hi : its.toArray.isEmpty = false := by
      cases its with
      | nil => exact absurd (List.eq_nil_of_length_eq_zero hle.symm) c
      | cons a b => rfl
    have c1 : (its.toArray.isEmpty || k == 1) = false := by
      rw [hi, Bool.false_or]
      exact beq_eq_false_iff_ne.mpr (by omega)
    have c2 : (decide (k ≤ 0) || its.toArray.isEmpty) = true := by rw [decide_eq_true c']; rfl
    refine call_meets F.slot_tuple_mul ⟨_, ho, rfl⟩ F.entry_tuple_mul (F.args_tuple_mul_2 _ _) (tuple_none l its.toArray n dd sl k t c0 c1 c2) ⟨ho, ?_⟩
    exact ⟨.ref s.heap.objs.size, _, I.laid (t' := s.toks) (o := .tup []) (fun b ob q => Heap.get?_push_of_some _ q) (Nat.le_refl _) ⟨by decide, [], .nil, IsTup.new _ _⟩, rfl, q _ (I.hok.fresh (Nat.le_refl _))⟩
/-- the empty tuple, however often -/
theorem op_repE : OpR X (binaryOp .Mult) (fun x y H Q => ∃ l k, x = .ref l ∧ y = .int k ∧ SqT X.K H l [] ∧ 0 ≤ k ∧ k ≤ 1000 ∧ Q (.ref l) H) := by
  intro pins s σ H x y v u Q I rx ry h
  obtain ⟨l, k, rfl, rfl, hT, h1, h2, q⟩ := h
  cases rx
  obtain ⟨t, rfl⟩ := ry
  obtain ⟨its, r, ⟨⟨cls, dd, data, sl⟩, ho, hc, n, hd⟩, hs⟩ := I.tuple hT
  simp only at hc hd
  subst hc hd
  cases r
  have c0 : (decide (k < -(2 ^ 63)) || decide (k ≥ 2 ^ 63)) = false := by
    rw [decide_eq_false (by omega), decide_eq_false (by omega)] <;> rfl
  exact wpAny_binaryOp_repeat_ref (T := "tuple") (U := "int") (by decide) ⟨_, ho, rfl⟩ (fun s' => typeIs_int s' k t) noFill_tuple_mul F.fills_int_mul F.slot_int_rmul repeat_tuple F.slot_int_index.lookup
    (call_meets F.slot_int_rmul (typeIs_int s k t) F.entry_int_rmul (F.args_int_rmul_2 _ _) (int_rmul_tuple k t l _ n dd sl) ⟨ho, rfl, ⟨_, ho, rfl⟩,
      call_meets F.slot_tuple_mul ⟨_, ho, rfl⟩ F.entry_tuple_mul (F.args_tuple_mul_2 _ _) (tuple_same l _ n dd sl k t c0 rfl) ⟨ho, ⟨.ref l, H, I, rfl, q⟩⟩⟩)
theorem od_mul : OD2 X (binaryOp .Mult) oMul := by
  intro pins s σ H x y v u Q I rx ry h
  obtain ⟨α, st, a, b, S, ra, rb, h⟩ := h
  unfold oMul at h
  split at h
  · have e1 := ra.int_of; have e2 := rb.int_of; subst e1; subst e2
    split at h
    · rename_i hs
      exact op_mul pins s σ H _ _ v u Q I rx ry ⟨_, _, rfl, rfl, hs, Fin.here h S (.int _)⟩
    · exact h.elim
  · obtain ⟨p, rfl, a1⟩ := ra.ref_of
    have e2 := rb.int_of; subst e2
    split at h
    · rename_i xs e1
      split at h
      · rename_i hs
        obtain ⟨_, vs, h1, r1⟩ := S.w e1 a1
        have l1 := r1.len
        exact op_rep pins s σ H _ _ v u Q I rx ry ⟨_, _, vs, rfl, rfl, h1, hs.2.1, hs.2.2.1, by rw [← l1]; exact hs.2.2.2, fun p hp => Fin.new h S (r1.repL _) hp⟩
      · exact h.elim
    · exact h.elim
  · rename_i xs k
    obtain ⟨p, vs, rfl, t1, r1⟩ := ra.tup_of
    have e2 := rb.int_of; subst e2
    split at h
    · rename_i hs
      have l1 := r1.len
      by_cases c : xs = [] ∨ k = 1
      · have ef : (List.replicate k.toNat xs).flatten = xs := by
          rcases c with c | c
          · subst c; simp
          · subst c; simp
        rw [ef] at h
        by_cases c2 : k < 2
        · refine op_repU pins s σ H _ _ v u Q I rx ry ⟨_, _, vs, rfl, rfl, t1, hs.1, c2, .inl ⟨?_, Fin.here h S (.tup t1 r1)⟩⟩
          rcases c with c | c
          · subst c; cases r1; exact .inl rfl
          · exact .inr c
        · have cx : xs = [] := c.resolve_right (by omega)
          subst cx
          cases r1
          exact op_repE pins s σ H _ _ v u Q I rx ry ⟨_, _, rfl, rfl, t1, by omega, hs.2.1, Fin.here h S (.tup t1 .nil)⟩
      · have c1 : xs ≠ [] := fun e => c (.inl e)
        have c2 : k ≠ 1 := fun e => c (.inr e)
        have c3 : vs ≠ [] := fun e => by subst e; cases r1; exact c1 rfl
        by_cases c4 : k ≤ 0
        · have ef : (List.replicate k.toNat xs).flatten = [] := by
            have : k.toNat = 0 := by omega
            rw [this]; rfl
          rw [ef] at h
          exact op_repU pins s σ H _ _ v u Q I rx ry ⟨_, _, vs, rfl, rfl, t1, hs.1, by omega, .inr ⟨⟨c3, c4⟩, fun p hp => Fin.tup h S .nil hp⟩⟩
        · exact op_repT pins s σ H _ _ v u Q I rx ry ⟨_, _, vs, rfl, rfl, t1, c3, by omega, hs.2.1, by rw [← l1]; exact hs.2.2, fun p hp => Fin.tup h S (r1.repL _) hp⟩
    · exact h.elim
  · exact h.elim
theorem od_div : OD2 X (binaryOp .FloorDiv) oDiv := by
  intro pins s σ H x y v u Q I rx ry h
  obtain ⟨α, st, a, b, S, ra, rb, h⟩ := h
  unfold oDiv at h
  split at h
  · have e1 := ra.int_of; have e2 := rb.int_of; subst e1; subst e2
    split at h
    · rename_i hs
      exact op_fdiv pins s σ H _ _ v u Q I rx ry ⟨_, _, rfl, rfl, hs, Fin.here h S (.int _)⟩
    · exact h.elim
  · exact h.elim
theorem od_mod : OD2 X (binaryOp .Mod) oMod := by
  intro pins s σ H x y v u Q I rx ry h
  obtain ⟨α, st, a, b, S, ra, rb, h⟩ := h
  unfold oMod at h
  split at h
  · have e1 := ra.int_of; have e2 := rb.int_of; subst e1; subst e2
    split at h
    · rename_i hs
      exact op_mod pins s σ H _ _ v u Q I rx ry ⟨_, _, rfl, rfl, hs, Fin.here h S (.int _)⟩
    · exact h.elim
  · exact h.elim
theorem od_pow : OD2 X (binaryOp .Pow) oPow := by
  intro pins s σ H x y v u Q I rx ry h
  obtain ⟨α, st, a, b, S, ra, rb, h⟩ := h
  unfold oPow at h
  split at h
  · have e1 := ra.int_of; have e2 := rb.int_of; subst e1; subst e2
    split at h
    · rename_i hs
      exact op_pow pins s σ H _ _ v u Q I rx ry ⟨_, _, rfl, rfl, hs, Fin.here h S (.int _)⟩
    · exact h.elim
  · exact h.elim
theorem od_neg : OD1 X (unaryOp .USub) oNeg := by
  intro pins s σ H x v Q I rx h
  obtain ⟨α, st, a, S, ra, h⟩ := h
  unfold oNeg at h
  split at h
  · have e1 := ra.int_of; subst e1
    exact un_neg pins s σ H _ v Q I rx ⟨_, rfl, Fin.here h S (.int _)⟩
  · exact h.elim
theorem od_lt : OD2 X (compareOp .Lt) oLt := by
  intro pins s σ H x y v u Q I rx ry h
  obtain ⟨α, st, a, b, S, ra, rb, h⟩ := h
  unfold oLt at h
  split at h
  · have e1 := ra.int_of; have e2 := rb.int_of; subst e1; subst e2
    exact op_lt pins s σ H _ _ v u Q I rx ry ⟨_, _, rfl, rfl, Fin.here h S (.bl _)⟩
  · exact h.elim
theorem od_le : OD2 X (compareOp .LtE) oLe := by
  intro pins s σ H x y v u Q I rx ry h
  obtain ⟨α, st, a, b, S, ra, rb, h⟩ := h
  unfold oLe at h
  split at h
  · have e1 := ra.int_of; have e2 := rb.int_of; subst e1; subst e2
    exact op_le pins s σ H _ _ v u Q I rx ry ⟨_, _, rfl, rfl, Fin.here h S (.bl _)⟩
  · exact h.elim
theorem od_gt : OD2 X (compareOp .Gt) oGt := by
  intro pins s σ H x y v u Q I rx ry h
  obtain ⟨α, st, a, b, S, ra, rb, h⟩ := h
  unfold oGt at h
  split at h
  · have e1 := ra.int_of; have e2 := rb.int_of; subst e1; subst e2
    exact op_gt pins s σ H _ _ v u Q I rx ry ⟨_, _, rfl, rfl, Fin.here h S (.bl _)⟩
  · exact h.elim
theorem od_ge : OD2 X (compareOp .GtE) oGe := by
  intro pins s σ H x y v u Q I rx ry h
  obtain ⟨α, st, a, b, S, ra, rb, h⟩ := h
  unfold oGe at h
  split at h
  · have e1 := ra.int_of; have e2 := rb.int_of; subst e1; subst e2
    exact op_ge pins s σ H _ _ v u Q I rx ry ⟨_, _, rfl, rfl, Fin.here h S (.bl _)⟩
  · exact h.elim
/-- tuples of ints, in their order -/
def intsOf : List D → Option (List Int)
  | [] => some []
  | .int i :: r => (intsOf r).map (i :: ·)
  | _ :: _ => none
theorem intsOf_map : ∀ {ds : List D} {ns : List Int}, intsOf ds = some ns → ds = ns.map D.int
  | [], ns, h => by simp [intsOf] at h; subst h; rfl
  | d :: r, ns, h => by
    cases d <;> simp [intsOf] at h
    obtain ⟨ms, h1, h2⟩ := h
    subst h2
    rw [intsOf_map h1]; rfl
@[simp] theorem intsOf_ints : ∀ ns : List Int, intsOf (ns.map D.int) = some ns
  | [] => rfl
  | n :: ns => by simp [intsOf, intsOf_ints ns]
def oLtT : O2 := fun a b st => match a, b with
  | .int i, .int j => .ok (.bl (decide (i < j))) st
  | .tup xs, .tup ys => match intsOf xs, intsOf ys with
    | some ns, some ms => .ok (.bl (HT.lexLt ns ms)) st
    | _, _ => .no
  | _, _ => .no
theorem od_ltT (hu : X.A.units < cLine) : OD2 X (compareOp .Lt) oLtT := by
  intro pins s σ H x y v u Q I rx ry h
  obtain ⟨α, st, a, b, S, ra, rb, h⟩ := h
  unfold oLtT at h
  split at h
  · have e1 := ra.int_of; have e2 := rb.int_of; subst e1; subst e2
    exact op_lt pins s σ H _ _ v u Q I rx ry ⟨_, _, rfl, rfl, Fin.here h S (.bl _)⟩
  · obtain ⟨p, vs, rfl, t1, r1⟩ := ra.tup_of
    obtain ⟨q, ws, rfl, t2, r2⟩ := rb.tup_of
    split at h
    · rename_i ns ms e1 e2
      rw [intsOf_map e1] at r1
      rw [intsOf_map e2] at r2
      rw [r1.toInts] at t1
      rw [r2.toInts] at t2
      exact op_ltT hu pins s σ H _ _ v u Q I rx ry ⟨_, _, ns, ms, rfl, rfl, t1, t2, Fin.here h S (.bl _)⟩
    · exact h.elim
  · exact h.elim

/-! ### == of data -/
mutual
def pd (rd : Nat → Option PyData) : D → Option PyData
  | .non => some .none
  | .bl b => some (.bool b)
  | .int i => some (.int i)
  | .str x => some (.str x)
  | .tup ds => (pds rd ds).map .tuple
  | .ref r => rd r
  | .fn _ => none
  | .ty _ => none
  | .nam _ => none
def pds (rd : Nat → Option PyData) : List D → Option (List PyData)
  | [] => some []
  | d :: ds => match pd rd d, pds rd ds with
    | some p, some ps => some (p :: ps)
    | _, _ => none
end
def rdP (st : Sto) : Nat → Nat → Option PyData
  | 0, _ => none
  | n + 1, r => match rdL st r with
    | some ds => (pds (rdP st n) ds).map .list
    | none => none
def toP (st : Sto) (d : D) : Option PyData := pd (rdP st 30) d
section
variable {K : PySem.W.Frag} {α : List Addr} {H : Hp} {st : Sto}
mutual
theorem dp_of {rd : Nat → Option PyData} (hr : ∀ r p v, rd r = some p → RD K α H (.ref r) v → Dp K H v p) : ∀ (d : D) (p : PyData) (v : V), pd rd d = some p → RD K α H d v → Dp K H v p
  | .non, p, v, h, r => by cases h; cases r; exact .non
  | .bl b, p, v, h, r => by cases h; cases r; exact .bl b
  | .int i, p, v, h, r => by cases h; cases r; exact .int i
  | .str x, p, v, h, r => by cases h; cases r; exact .str x
  | .ref n, p, v, h, r => hr n p v h r
  | .fn _, p, v, h, r => by cases h
  | .ty _, p, v, h, r => by cases h
  | .nam _, p, v, h, r => by cases h
  | .tup ds, p, v, h, r => by
    obtain ⟨a, vs, rfl, t1, r1⟩ := r.tup_of
    unfold pd at h
    cases e : pds rd ds with
    | none => rw [e] at h; cases h
    | some ps =>
      rw [e] at h
      cases h
      exact .tup t1 (dps_of hr ds ps vs e r1)
theorem dps_of {rd : Nat → Option PyData} (hr : ∀ r p v, rd r = some p → RD K α H (.ref r) v → Dp K H v p) : ∀ (ds : List D) (ps : List PyData) (vs : List V), pds rd ds = some ps → RDs K α H ds vs → DpAll K H vs ps
  | [], ps, vs, h, r => by cases h; cases r; exact .nil
  | d :: ds, ps, vs, h, r => by
    cases r with
    | cons r1 r2 =>
      unfold pds at h
      split at h
      · rename_i p qs e1 e2
        cases h
        exact .cons (dp_of hr d p _ e1 r1) (dps_of hr ds qs _ e2 r2)
      · cases h
end
theorem dp_ref (S : SR K α st H) : ∀ (n r : Nat) (p : PyData) (v : V), rdP st n r = some p → RD K α H (.ref r) v → Dp K H v p
  | 0, r, p, v, h, _ => by cases h
  | n + 1, r, p, v, h, q => by
    obtain ⟨a, rfl, ea⟩ := q.ref_of
    unfold rdP at h
    split at h
    · rename_i ds e
      obtain ⟨vs, h1, h2⟩ := S.l e ea
      cases e2 : pds (rdP st n) ds with
      | none => rw [e2] at h; cases h
      | some ps =>
        rw [e2] at h
        cases h
        exact .lst h1 (dps_of (fun r p v h q => dp_ref S n r p v h q) ds ps vs e2 h2)
    · cases h
theorem dp_toP (S : SR K α st H) {d : D} {p : PyData} {v : V} (h : toP st d = some p) (r : RD K α H d v) : Dp K H v p := dp_of (fun r p v h q => dp_ref S 30 r p v h q) d p v h r
end
def oEq : O2 := fun a b st => match toP st a, toP st b with
  | some p, some q => if SeqAt.shaped p = true ∧ SeqAt.shaped q = true then .ok (.bl (PyData.eqv p q)) st else .no
  | _, _ => .no
def oNe : O2 := fun a b st => match toP st a, toP st b with
  | some p, some q => if SeqAt.shaped p = true ∧ SeqAt.shaped q = true then .ok (.bl (!PyData.eqv p q)) st else .no
  | _, _ => .no
theorem od_eq (hu : X.A.units + 64 < cLine) : OD2 X (compareOp .Eq) oEq := by
  intro pins s σ H x y v u Q I rx ry h
  obtain ⟨α, st, a, b, S, ra, rb, h⟩ := h
  unfold oEq at h
  split at h
  · rename_i p q e1 e2
    split at h
    · rename_i hs
      exact op_eqD hu pins s σ H _ _ v u Q I rx ry ⟨p, q, dp_toP S e1 ra, dp_toP S e2 rb, hs.1, hs.2, Fin.here h S (.bl _)⟩
    · exact h.elim
  · exact h.elim
theorem od_ne (hu : X.A.units + 64 < cLine) : OD2 X (compareOp .NotEq) oNe := by
  intro pins s σ H x y v u Q I rx ry h
  obtain ⟨α, st, a, b, S, ra, rb, h⟩ := h
  unfold oNe at h
  split at h
  · rename_i p q e1 e2
    split at h
    · rename_i hs
      exact op_neD hu pins s σ H _ _ v u Q I rx ry ⟨p, q, dp_toP S e1 ra, dp_toP S e2 rb, hs.1, hs.2, Fin.here h S (.bl _)⟩
    · exact h.elim
  · exact h.elim

/-! ### is -/
def isNon : D → Bool
  | .non => true
  | _ => false
theorem RD.nonB {K : PySem.W.Frag} {α : List Addr} {H : Hp} {d : D} {v : V} (h : RD K α H d v) : decide (v = V.non) = isNon d := by cases h <;> simp [isNon]
def oIs : O2 := fun a b st => match a, b with
  | .ty m, .ty n => .ok (.bl (decide (m = n))) st
  | .bl i, .bl j => .ok (.bl (decide (i = j))) st
  | a, .non => .ok (.bl (isNon a)) st
  | _, _ => .no
def oIsNot : O2 := fun a b st => match a, b with
  | .ty m, .ty n => .ok (.bl (!decide (m = n))) st
  | .bl i, .bl j => .ok (.bl (!decide (i = j))) st
  | a, .non => .ok (.bl (!isNon a)) st
  | _, _ => .no
theorem od_is : OD2 X (compareOp .Is) oIs := by
  intro pins s σ H x y v u Q I rx ry h
  obtain ⟨α, st, a, b, S, ra, rb, h⟩ := h
  unfold oIs at h
  split at h
  · have e1 := ra.ty_of; have e2 := rb.ty_of; subst e1; subst e2
    exact op_isTy pins s σ H _ _ v u Q I rx ry ⟨_, _, rfl, rfl, Fin.here h S (.bl _)⟩
  · have e1 := ra.bl_of; have e2 := rb.bl_of; subst e1; subst e2
    exact op_is_bl pins s σ H _ _ v u Q I rx ry ⟨_, _, rfl, rfl, Fin.here h S (.bl _)⟩
  · have e2 := rb.non_of; subst e2
    exact op_isN pins s σ H _ _ v u Q I rx ry ⟨rfl, by rw [ra.nonB]; exact Fin.here h S (.bl _)⟩
  · exact h.elim
theorem od_isnot : OD2 X (compareOp .IsNot) oIsNot := by
  intro pins s σ H x y v u Q I rx ry h
  obtain ⟨α, st, a, b, S, ra, rb, h⟩ := h
  unfold oIsNot at h
  split at h
  · have e1 := ra.ty_of; have e2 := rb.ty_of; subst e1; subst e2
    exact op_isNotTy pins s σ H _ _ v u Q I rx ry ⟨_, _, rfl, rfl, Fin.here h S (.bl _)⟩
  · have e1 := ra.bl_of; have e2 := rb.bl_of; subst e1; subst e2
    exact op_isnot_bl pins s σ H _ _ v u Q I rx ry ⟨_, _, rfl, rfl, Fin.here h S (.bl _)⟩
  · have e2 := rb.non_of; subst e2
    exact op_notN pins s σ H _ _ v u Q I rx ry ⟨rfl, by rw [ra.nonB]; exact Fin.here h S (.bl _)⟩
  · exact h.elim

/-! ### items and slices -/
def oIx : O2 := fun a b st => match a, b with
  | .tup xs, .int i => match atI xs i with
    | some d => .ok d st
    | none => .no
  | .ref r, .int i => match rdL st r with
    | some xs => match atI xs i with
      | some d => .ok d st
      | none => .no
    | none => .no
  | _, _ => .no
theorem RDs.atI {K : PySem.W.Frag} {α : List Addr} {H : Hp} {ds : List D} {vs : List V} {i : Int} {d : D} (h : RDs K α H ds vs) (e : L2.atI ds i = some d) : ∃ v, L2.atI vs i = some v ∧ RD K α H d v := by
  unfold L2.atI at e ⊢
  rw [← h.len]
  cases q : ixN ds.length i with
  | none => rw [q] at e; cases e
  | some j =>
    rw [q] at e
    exact h.getD (i := j) e
theorem ix_d : IxR X (rD2 X.K oIx) := by
  intro value slice pins s σ H x y v u Q I rx ry h hsl
  obtain ⟨α, st, a, b, S, ra, rb, h⟩ := h
  unfold oIx at h
  split at h
  · obtain ⟨p, vs, rfl, t1, r1⟩ := ra.tup_of
    have e2 := rb.int_of; subst e2
    split at h
    · rename_i d e
      obtain ⟨w, h1, h2⟩ := r1.atI e
      exact ix_tup value slice pins s σ H _ _ v u Q I rx ry ⟨p, vs, _, w, rfl, rfl, t1, h1, Fin.here h S h2⟩ hsl
    · exact h.elim
  · obtain ⟨p, rfl, a1⟩ := ra.ref_of
    have e2 := rb.int_of; subst e2
    split at h
    · rename_i xs e1
      obtain ⟨vs, h0, r1⟩ := S.l e1 a1
      split at h
      · rename_i d e
        obtain ⟨w, h1, h2⟩ := r1.atI e
        exact ix_list value slice pins s σ H _ _ v u Q I rx ry ⟨p, vs, _, w, rfl, rfl, h0, h1, Fin.here h S h2⟩ hsl
      · exact h.elim
    · exact h.elim
  · exact h.elim
theorem de_ix {W : WX} {a b : Expr} {ma mb : En → Sto → R D} {pos : Pos} (ha : DE X W a ma) (hb : DE X W b mb) (hs : PlainIx b) : DE X W (.Subscript a b pos) (m2 oIx ma mb) := PE.weak (pe_ix ix_d ha hb hs) fun _ _ _ => two_of
end
end DL
set_option Elab.async false
set_option linter.all false
set_option maxRecDepth 100000
namespace DL
open PySem PySem.Spec PyProof.Rows L2
section
variable {X : Cx} {W : WX}
/-! ### slices -/
abbrev O3 := D → Option Int → Option Int → Sto → R D
def cutD (xs : List D) (lo hi : Option Int) : List D := (xs.drop (HT.sIx xs.length 0 lo)).take (HT.sIx xs.length xs.length hi - HT.sIx xs.length 0 lo)
theorem RDs.cut {K : PySem.W.Frag} {α : List Addr} {H : Hp} {ds : List D} {vs : List V} (h : RDs K α H ds vs) (lo hi : Option Int) : RDs K α H (cutD ds lo hi) (cutV vs lo hi) := by
  unfold cutD cutV
  rw [h.len]
  exact (h.drop _).take _
def oSl : O3 := fun a lo hi st => match a with
  | .tup xs => .ok (.tup (cutD xs lo hi)) st
  | .ref r => match rdL st r with
    | some xs => .ok (.ref st.length) (st ++ [.lst (cutD xs lo hi)])
    | none => .no
  | _ => .no
def rD3 (K : PySem.W.Frag) (f : O3) : V → Option Int → Option Int → Hp → VK → Prop := fun x lo hi H Q => ∃ α st a, SR K α st H ∧ RD K α H a x ∧ Rw (f a lo hi st) fun d st' => ∀ α' H' v, α <+: α' → Keep H H' → SR K α' st' H' → RD K α' H' d v → Q v H'
theorem cutD_whole {xs : List D} {lo hi : Option Int} (h : HT.sIx xs.length 0 lo = 0 ∧ HT.sIx xs.length xs.length hi = xs.length) : cutD xs lo hi = xs := by
  unfold cutD
  rw [h.1, h.2]
  simp
theorem sl_d : SlR X (rD3 X.K oSl) := by
  intro pins s σ H x v vl vu lo hi sl Q I rx hs pl pu h
  obtain ⟨α, st, a, S, ra, h⟩ := h
  unfold oSl at h
  split at h
  · obtain ⟨p, vs, rfl, t1, r1⟩ := ra.tup_of
    have l1 := r1.len
    refine sl_tupA pins s σ H _ v vl vu lo hi sl Q I rx hs pl pu ⟨p, vs, rfl, t1, fun e => ?_, fun _ q hq => Fin.tup h S (r1.cut lo hi) hq⟩
    rw [← l1] at e
    rw [cutD_whole e] at h
    exact Fin.here h S (.tup t1 r1)
  · obtain ⟨p, rfl, a1⟩ := ra.ref_of
    split at h
    · rename_i xs e1
      obtain ⟨vs, h0, r1⟩ := S.l e1 a1
      exact sl_list pins s σ H _ v vl vu lo hi sl Q I rx hs pl pu ⟨p, vs, rfl, h0, fun q hq => Fin.new h S (r1.cut lo hi) hq⟩
    · exact h.elim
  · exact h.elim
/-- a part of a slice -/
def tP (K : PySem.W.Frag) (W : WX) (m : En → Sto → R (Option Int)) : TO := fun σ H Q => ∃ α env st, ER K α env σ H ∧ SR K α st H ∧ Go K W α H σ (m env st) fun o _ _ H' => Q o H'
abbrev DP (X : Cx) (W : WX) (e : Option Expr) (m : En → Sto → R (Option Int)) : Prop := PO X e (tP X.K W m)
def pNone (env : En) (st : Sto) : R (Option Int) := .ok none st
def pSome (ma : En → Sto → R D) (env : En) (st : Sto) : R (Option Int) := (ma env st).bind fun x st1 => match x with
  | .int i => .ok (some i) st1
  | _ => .no
theorem PO.weak {X : Cx} {e : Option Expr} {t t' : TO} (h : PO X e t) (f : ∀ σ H Q, t' σ H Q → t σ H Q) : PO X e t' := ⟨fun pins s σ H Q I hw => h.run pins s σ H Q I (f σ H Q hw)⟩
theorem dp_none : DP X W none pNone := by
  refine PO.weak po_none fun σ H Q h => ?_
  obtain ⟨α, env, st, hE, hS, h⟩ := h
  exact h.here hS
theorem dp_some {a : Expr} {ma : En → Sto → R D} (ha : DE X W a ma) : DP X W (some a) (pSome ma) := by
  refine PO.weak (po_some ha) fun σ H Q h => ?_
  obtain ⟨α, env, st, hE, hS, h⟩ := h
  refine ⟨α, env, st, hE, hS, h.bind.mono fun x st1 α1 H1 p1 k1 s1 h1 v rv => ?_⟩
  split at h1
  · exact ⟨_, rv.int_of, h1.here s1⟩
  · exact h1.elim
def mSl (ma : En → Sto → R D) (pl ph : En → Sto → R (Option Int)) (env : En) (st : Sto) : R D := (ma env st).bind fun x st1 => (pl env st1).bind fun lo st2 => (ph env st2).bind fun hi st3 => noEx (oSl x lo hi st3)
theorem de_sl {a : Expr} {ma : En → Sto → R D} {lo hi : Option Expr} {pl ph : En → Sto → R (Option Int)} {p2 pos : Pos} (ha : DE X W a ma) (hl : DP X W lo pl) (hh : DP X W hi ph) : DE X W (.Subscript a (.Slice lo hi none p2) pos) (mSl ma pl ph) := by
  refine PE.weak (pe_slice sl_d ha hl hh) fun σ H Q h => ?_
  obtain ⟨α, env, st, hE, hS, h⟩ := h
  refine ⟨α, env, st, hE, hS, h.bind.mono fun x st1 α1 H1 p1 k1 s1 h1 v rv => ?_⟩
  refine ⟨α1, env, st1, hE.mono p1 k1, s1, h1.bind.mono fun l st2 α2 H2 p2 k2 s2 h2 => ?_⟩
  refine ⟨α2, env, st2, (hE.mono p1 k1).mono p2 k2, s2, h2.bind.mono fun u st3 α3 H3 p3 k3 s3 h3 => ?_⟩
  exact ⟨α3, st3, x, s3, (rv.mono p2 k2).mono p3 k3, h3.rw.mono fun d st4 q α' H' w p k s rw => q α' H' p k s w rw⟩

/-! ### built-ins -/
def bLen : List D → Sto → R D := fun ds st => match ds with
  | [.tup xs] => .ok (.int xs.length) st
  | [.ref r] => match rdL st r with
    | some xs => .ok (.int xs.length) st
    | none => .no
  | _ => .no
theorem RDs.one {K : PySem.W.Frag} {α : List Addr} {H : Hp} {d : D} {vs : List V} (h : RDs K α H [d] vs) : ∃ v, vs = [v] ∧ RD K α H d v := by
  cases h with
  | cons a b => cases b; exact ⟨_, rfl, a⟩
theorem RDs.two {K : PySem.W.Frag} {α : List Addr} {H : Hp} {d e : D} {vs : List V} (h : RDs K α H [d, e] vs) : ∃ v u, vs = [v, u] ∧ RD K α H d v ∧ RD K α H e u := by
  cases h with
  | cons a b => obtain ⟨u, rfl, r⟩ := b.one; exact ⟨_, _, rfl, a, r⟩
theorem cd_len : CDs X (.builtin "len") bLen := by
  intro pins s σ H vs us Q I rv h
  obtain ⟨α, st, ds, S, rd, h⟩ := h
  unfold bLen at h
  split at h
  · obtain ⟨v, rfl, r⟩ := rd.one
    obtain ⟨p, ws, rfl, t1, r1⟩ := r.tup_of
    exact call_len_seq pins s σ H _ us Q I rv ⟨p, ws, rfl, .inr t1, by rw [← r1.len]; exact Fin.here h S (.int _)⟩
  · obtain ⟨v, rfl, r⟩ := rd.one
    obtain ⟨p, rfl, a1⟩ := r.ref_of
    split at h
    · rename_i xs e1
      obtain ⟨ws, h0, r1⟩ := S.l e1 a1
      exact call_len_seq pins s σ H _ us Q I rv ⟨p, ws, rfl, .inl h0, by rw [← r1.len]; exact Fin.here h S (.int _)⟩
    · exact h.elim
  · exact h.elim
/-- the kind of a thing -/
def kindD (st : Sto) : D → Option String
  | .non => some "NoneType"
  | .bl _ => some "bool"
  | .int _ => some "int"
  | .str _ => some "str"
  | .tup _ => some "tuple"
  | .ref r => match rdL st r with
    | some _ => some "list"
    | none => none
  | .fn _ => none
  | .ty _ => none
  | .nam _ => none
def bType : List D → Sto → R D := fun ds st => match ds with
  | [d] => match kindD st d with
    | some n => .ok (.ty n) st
    | none => .no
  | _ => .no
theorem kind_is {pins : List (Addr × Obj)} {s : Shared} {σ : L2.St} {H : Hp} {α : List Addr} {st : Sto} {d : D} {v : V} {u : Value} {n : String} (I : Inv X pins σ H s) (S : SR X.K α st H) (r : RD X.K α H d v) (ru : RelV v u) (e : kindD st d = some n) : s.TypeIs u n := by
  cases d with
  | non => cases r; cases e; cases ru; rfl
  | bl b => cases r; cases e; cases ru; rfl
  | int i => cases r; cases e; obtain ⟨t, rfl⟩ := ru; rfl
  | str x => cases r; cases e; obtain ⟨t, rfl⟩ := ru; rfl
  | tup xs =>
    cases e
    obtain ⟨p, ws, rfl, t1, r1⟩ := r.tup_of
    cases ru
    obtain ⟨its, _, ⟨o, h1, h2, _⟩, _⟩ := I.tuple t1
    exact ⟨o, h1, h2⟩
  | ref q =>
    obtain ⟨p, rfl, a1⟩ := r.ref_of
    cases ru
    have e' : (match rdL st q with
      | some _ => some "list"
      | none => none) = some n := e
    split at e'
    · rename_i xs e1
      cases e'
      obtain ⟨ws, h0, r1⟩ := S.l e1 a1
      obtain ⟨its, _, ⟨o, _, h1, h2, _⟩, _⟩ := I.list h0
      exact ⟨o, h1, h2⟩
    · cases e'
  | fn a => cases e
  | ty m => cases e
  | nam x => cases e
theorem cd_type : CDs X (.type "type") bType := by
  intro pins s σ H vs us Q I rv h
  obtain ⟨α, st, ds, S, rd, h⟩ := h
  unfold bType at h
  split at h
  · rename_i d
    split at h
    · rename_i n e
      obtain ⟨v, rfl, r⟩ := rd.one
      obtain ⟨u, rfl, ru⟩ := vals1 rv
      have hn : n = "NoneType" ∨ n = "bool" ∨ n = "int" ∨ n = "str" ∨ n = "tuple" ∨ n = "list" := by
        cases d <;> simp [kindD] at e <;> first | (subst e; simp) | skip
        rename_i q
        revert e
        cases rdL st q <;> simp
        intro e; subst e; simp
      have fin : EP X pins σ Q (.type n) s := ⟨.ty n, H, I, rfl, Fin.here h S (.ty n)⟩
      have ty := kind_is I S r ru e
      rcases hn with rfl | rfl | rfl | rfl | rfl | rfl <;> exact call_type_of ty (by decide +kernel) fin
    · exact h.elim
  · exact h.elim
def bAbs : List D → Sto → R D := fun ds st => match ds with
  | [.int i] => .ok (.int (if i < 0 then -i else i)) st
  | _ => .no
theorem cd_abs : CDs X (.builtin "abs") bAbs := by
  intro pins s σ H vs us Q I rv h
  obtain ⟨α, st, ds, S, rd, h⟩ := h
  unfold bAbs at h
  split at h
  · obtain ⟨v, rfl, r⟩ := rd.one
    have e := r.int_of; subst e
    exact call_abs pins s σ H _ us Q I rv ⟨_, rfl, Fin.here h S (.int _)⟩
  · exact h.elim
def bInt : List D → Sto → R D := fun ds st => match ds with
  | [.int i] => .ok (.int i) st
  | [.bl b] => .ok (.int (if b then 1 else 0)) st
  | _ => .no
theorem cd_int : CDs X (.type "int") bInt := by
  intro pins s σ H vs us Q I rv h
  obtain ⟨α, st, ds, S, rd, h⟩ := h
  unfold bInt at h
  split at h
  · obtain ⟨v, rfl, r⟩ := rd.one
    have e := r.int_of; subst e
    exact call_int1 pins s σ H _ us Q I rv (.inl ⟨_, rfl, Fin.here h S (.int _)⟩)
  · obtain ⟨v, rfl, r⟩ := rd.one
    have e := r.bl_of; subst e
    exact call_int1 pins s σ H _ us Q I rv (.inr ⟨_, rfl, Fin.here h S (.int _)⟩)
  · exact h.elim
def bMax2 : List D → Sto → R D := fun ds st => match ds with
  | [.int i, .int j] => .ok (.int (if j > i then j else i)) st
  | _ => .no
def bMin2 : List D → Sto → R D := fun ds st => match ds with
  | [.int i, .int j] => .ok (.int (if j < i then j else i)) st
  | _ => .no
theorem cd_max2 (hc : X.calm = true) : CDs X (.builtin "max") bMax2 := by
  intro pins s σ H vs us Q I rv h
  obtain ⟨α, st, ds, S, rd, h⟩ := h
  unfold bMax2 at h
  split at h
  · obtain ⟨v, u, rfl, r, r'⟩ := rd.two
    have e := r.int_of; subst e
    have e := r'.int_of; subst e
    exact call_max2 hc pins s σ H _ us Q I rv ⟨_, _, rfl, Fin.here h S (.int _)⟩
  · exact h.elim
theorem cd_min2 (hc : X.calm = true) : CDs X (.builtin "min") bMin2 := by
  intro pins s σ H vs us Q I rv h
  obtain ⟨α, st, ds, S, rd, h⟩ := h
  unfold bMin2 at h
  split at h
  · obtain ⟨v, u, rfl, r, r'⟩ := rd.two
    have e := r.int_of; subst e
    have e := r'.int_of; subst e
    exact call_min2 hc pins s σ H _ us Q I rv ⟨_, _, rfl, Fin.here h S (.int _)⟩
  · exact h.elim
/-- the items of a list or a tuple -/
def itemsD (st : Sto) : D → Option (List D)
  | .tup xs => some xs
  | .ref r => rdL st r
  | _ => none
def bTuple : List D → Sto → R D := fun ds st => match ds with
  | [d] => match itemsD st d with
    | some xs => .ok (.tup xs) st
    | none => .no
  | _ => .no
def bList : List D → Sto → R D := fun ds st => match ds with
  | [d] => match itemsD st d with
    | some xs => .ok (.ref st.length) (st ++ [.lst xs])
    | none => .no
  | _ => .no
theorem items_of {K : PySem.W.Frag} {α : List Addr} {H : Hp} {st : Sto} {d : D} {v : V} {xs : List D} (S : SR K α st H) (r : RD K α H d v) (e : itemsD st d = some xs) :
    ∃ p vs, v = .ref p ∧ RDs K α H xs vs ∧ (SqL K H p vs ∨ (SqT K H p vs ∧ d = .tup xs)) := by
  cases d with
  | tup ys =>
    cases e
    obtain ⟨p, ws, rfl, t1, r1⟩ := r.tup_of
    exact ⟨p, ws, rfl, r1, .inr ⟨t1, rfl⟩⟩
  | ref q =>
    obtain ⟨p, rfl, a1⟩ := r.ref_of
    obtain ⟨ws, h0, r1⟩ := S.l e a1
    exact ⟨p, ws, rfl, r1, .inl h0⟩
  | _ => cases e
theorem cd_tuple : CDs X (.type "tuple") bTuple := by
  intro pins s σ H vs us Q I rv h
  obtain ⟨α, st, ds, S, rd, h⟩ := h
  unfold bTuple at h
  split at h
  · split at h
    · rename_i xs e
      obtain ⟨v, rfl, r⟩ := rd.one
      obtain ⟨p, ws, rfl, r1, hq⟩ := items_of S r e
      refine call_tuple_of pins s σ H _ us Q I rv ⟨p, ws, rfl, ?_⟩
      rcases hq with hq | ⟨hq, rfl⟩
      · exact .inl ⟨hq, fun l hl => Fin.tup h S r1 hl⟩
      · exact .inr ⟨hq, Fin.here h S r⟩
    · exact h.elim
  · exact h.elim
theorem cd_list : CDs X (.type "list") bList := by
  intro pins s σ H vs us Q I rv h
  obtain ⟨α, st, ds, S, rd, h⟩ := h
  unfold bList at h
  split at h
  · split at h
    · rename_i xs e
      obtain ⟨v, rfl, r⟩ := rd.one
      obtain ⟨p, ws, rfl, r1, hq⟩ := items_of S r e
      refine call_list_of pins s σ H _ us Q I rv ⟨p, ws, rfl, ?_, fun l hl => Fin.new h S r1 hl⟩
      rcases hq with hq | ⟨hq, _⟩
      · exact .inl hq
      · exact .inr hq
    · exact h.elim
  · exact h.elim
/-- bools of a list -/
def blsOf : List D → Option (List Bool)
  | [] => some []
  | .bl i :: r => (blsOf r).map (i :: ·)
  | _ :: _ => none
theorem blsOf_map : ∀ {ds : List D} {ns : List Bool}, blsOf ds = some ns → ds = ns.map D.bl
  | [], ns, h => by simp [blsOf] at h; subst h; rfl
  | d :: r, ns, h => by
    cases d <;> simp [blsOf] at h
    obtain ⟨ms, h1, h2⟩ := h
    subst h2
    rw [blsOf_map h1]; rfl
@[simp] theorem blsOf_bls : ∀ ns : List Bool, blsOf (ns.map D.bl) = some ns
  | [] => rfl
  | n :: ns => by simp [blsOf, blsOf_bls ns]
def bAll : List D → Sto → R D := fun ds st => match ds with
  | [.ref r] => match (rdL st r).bind blsOf with
    | some bs => .ok (.bl (bs.all id)) st
    | none => .no
  | _ => .no
def bAny : List D → Sto → R D := fun ds st => match ds with
  | [.ref r] => match (rdL st r).bind blsOf with
    | some bs => .ok (.bl (bs.any id)) st
    | none => .no
  | _ => .no
def bSum : List D → Sto → R D := fun ds st => match ds with
  | [.ref r] => match (rdL st r).bind intsOf with
    | some ns => .ok (.int ns.sum) st
    | none => .no
  | _ => .no
theorem cd_all (hc : X.calm = true) : CDs X (.builtin "all") bAll := by
  intro pins s σ H vs us Q I rv h
  obtain ⟨α, st, ds, S, rd, h⟩ := h
  unfold bAll at h
  split at h
  · split at h
    · rename_i bs e
      obtain ⟨xs, e1, e2⟩ := Option.bind_eq_some_iff.mp e
      obtain ⟨v, rfl, r⟩ := rd.one
      obtain ⟨p, rfl, a1⟩ := r.ref_of
      obtain ⟨ws, h0, r1⟩ := S.l e1 a1
      rw [blsOf_map e2] at r1
      rw [r1.toBls] at h0
      exact cr_all hc pins s σ H _ us Q I rv ⟨p, bs, rfl, h0, Fin.here h S (.bl _)⟩
    · exact h.elim
  · exact h.elim
theorem cd_any (hc : X.calm = true) : CDs X (.builtin "any") bAny := by
  intro pins s σ H vs us Q I rv h
  obtain ⟨α, st, ds, S, rd, h⟩ := h
  unfold bAny at h
  split at h
  · split at h
    · rename_i bs e
      obtain ⟨xs, e1, e2⟩ := Option.bind_eq_some_iff.mp e
      obtain ⟨v, rfl, r⟩ := rd.one
      obtain ⟨p, rfl, a1⟩ := r.ref_of
      obtain ⟨ws, h0, r1⟩ := S.l e1 a1
      rw [blsOf_map e2] at r1
      rw [r1.toBls] at h0
      exact cr_any hc pins s σ H _ us Q I rv ⟨p, bs, rfl, h0, Fin.here h S (.bl _)⟩
    · exact h.elim
  · exact h.elim
theorem cd_sum (hc : X.calm = true) : CDs X (.builtin "sum") bSum := by
  intro pins s σ H vs us Q I rv h
  obtain ⟨α, st, ds, S, rd, h⟩ := h
  unfold bSum at h
  split at h
  · split at h
    · rename_i bs e
      obtain ⟨xs, e1, e2⟩ := Option.bind_eq_some_iff.mp e
      obtain ⟨v, rfl, r⟩ := rd.one
      obtain ⟨p, rfl, a1⟩ := r.ref_of
      obtain ⟨ws, h0, r1⟩ := S.l e1 a1
      rw [intsOf_map e2] at r1
      rw [r1.toInts] at h0
      exact cr_sum hc pins s σ H _ us Q I rv ⟨p, bs, rfl, h0, Fin.here h S (.int _)⟩
    · exact h.elim
  · exact h.elim
end
end DL
set_option Elab.async false
set_option linter.all false
set_option maxRecDepth 100000
namespace DL
open PySem PySem.Spec PyProof.Rows L2

/-! ### statements -/
inductive RS where
  | nx (env : En) (st : Sto) | rt (d : D) (st : Sto) | bk (env : En) (st : Sto) | ct (env : En) (st : Sto) | ex (x : Ex) (env : En) (st : Sto) | no
def R.toS {β : Type} (r : R β) (env : En) (k : β → Sto → RS) : RS := match r with
  | .ok b st => k b st
  | .ex x st => .ex x env st
  | .no => .no
def GoS (K : PySem.W.Frag) (W : WX) (α : List Addr) (H : Hp) (Dn : Ends) : RS → Prop
  | .nx env st => ∀ α' σ' H', α <+: α' → Keep H H' → SR K α' st H' → ER K α' env σ' H' → Dn.nx σ' H'
  | .rt d st => ∀ α' H' v, α <+: α' → Keep H H' → SR K α' st H' → RD K α' H' d v → Dn.rt v H'
  | .bk env st => ∀ α' σ' H', α <+: α' → Keep H H' → SR K α' st H' → ER K α' env σ' H' → Dn.bk σ' H'
  | .ct env st => ∀ α' σ' H', α <+: α' → Keep H H' → SR K α' st H' → ER K α' env σ' H' → Dn.ct σ' H'
  | .ex x env st => ∀ α' σ' H' c dx, α <+: α' → Keep H H' → SR K α' st H' → ER K α' env σ' H' → RX K α' H' x c dx → W c dx σ' H'
  | .no => False
def tS (K : PySem.W.Frag) (W : WX) (m : En → Sto → RS) : TS := fun Dn σ H => ∃ α env st, ER K α env σ H ∧ SR K α st H ∧ GoS K W α H Dn (m env st)
abbrev DS (X : Cx) (W : WX) (s : Stmt) (m : En → Sto → RS) : Prop := PS X s (tS X.K W m)
abbrev DSs (X : Cx) (W : WX) (s : List Stmt) (m : En → Sto → RS) : Prop := PSs X s (tS X.K W m)
section
variable {K : PySem.W.Frag} {W : WX} {α : List Addr} {H : Hp} {σ : L2.St} {Dn : Ends}
theorem GoS.toGo {β : Type} {r : R β} {env : En} {k : β → Sto → RS} (h : GoS K W α H Dn (r.toS env k)) (e : ER K α env σ H) : Go K W α H σ r fun b st' α' H' => GoS K W α' H' Dn (k b st') := by
  cases r with
  | ok b st =>
    intro α' H' p q s
    have h' : GoS K W α H Dn (k b st) := h
    revert h'
    cases k b st with
    | nx env st => exact fun h a b c d e => h a b c (p.trans d) (q.trans e)
    | rt d st => exact fun h a b c d e => h a b c (p.trans d) (q.trans e)
    | bk env st => exact fun h a b c d e => h a b c (p.trans d) (q.trans e)
    | ct env st => exact fun h a b c d e => h a b c (p.trans d) (q.trans e)
    | ex x env st => exact fun h a b c x y d e => h a b c x y (p.trans d) (q.trans e)
    | no => exact fun h => h
  | ex x st => exact fun α' H' c dx p q s rx => h α' σ H' c dx p q s (e.mono p q) rx
  | no => exact h
/-- from further on -/
theorem GoS.on {r : RS} {α' : List Addr} {H' : Hp} (h : GoS K W α H Dn r) (p : α <+: α') (q : Keep H H') : GoS K W α' H' Dn r := by
  cases r with
  | nx env st => exact fun a b c d e => h a b c (p.trans d) (q.trans e)
  | rt d st => exact fun a b c d e => h a b c (p.trans d) (q.trans e)
  | bk env st => exact fun a b c d e => h a b c (p.trans d) (q.trans e)
  | ct env st => exact fun a b c d e => h a b c (p.trans d) (q.trans e)
  | ex x env st => exact fun a b c x y d e => h a b c x y (p.trans d) (q.trans e)
  | no => exact h
theorem Go.on {β : Type} {r : R β} {F : β → Sto → List Addr → Hp → Prop} {α' : List Addr} {H' : Hp} (h : Go K W α H σ r F) (p : α <+: α') (q : Keep H H') : Go K W α' H' σ r F := by
  cases r with
  | ok b st => exact fun a b d e => h a b (p.trans d) (q.trans e)
  | ex x st => exact fun a b x y d e => h a b x y (p.trans d) (q.trans e)
  | no => exact h
def RS.seq (r : RS) (k : En → Sto → RS) : RS := match r with
  | .nx env st => k env st
  | r => r
theorem GoS.seq {r : RS} {k : En → Sto → RS} (h : GoS K W α H Dn (r.seq k)) : GoS K W α H { Dn with nx := tS K W k Dn } r := by
  cases r with
  | nx env st =>
    intro α' σ' H' p q s e
    have h' : GoS K W α H Dn (k env st) := h
    exact ⟨α', env, st, e, s, h'.on p q⟩
  | rt d st => exact h
  | bk env st => exact h
  | ct env st => exact h
  | ex x env st => exact h
  | no => exact h
end

/-! ### targets -/
abbrev GT := D → En → Sto → Option (En × Sto)
def tG (K : PySem.W.Frag) (vs : List Nat) (g : GT) : TG := fun v σ H Q => ∃ α env st d, ER K α env σ H ∧ SR K α st H ∧ RD K α H d v ∧ match g d env st with
  | some (env', st') => ∀ α' σ' H', α <+: α' → Keep H H' → SR K α' st' H' → ER K α' env' σ' H' → (∀ ws : List Nat, (∀ i ∈ vs, i ∈ ws) → wipe σ' ws = wipe σ ws) → Q σ' H'
  | none => False
def tGs (K : PySem.W.Frag) (vs : List Nat) (g : List D → En → Sto → Option (En × Sto)) : TGs := fun us σ H Q => ∃ α env st ds, ER K α env σ H ∧ SR K α st H ∧ RDs K α H ds us ∧ match g ds env st with
  | some (env', st') => ∀ α' σ' H', α <+: α' → Keep H H' → SR K α' st' H' → ER K α' env' σ' H' → (∀ ws : List Nat, (∀ i ∈ vs, i ∈ ws) → wipe σ' ws = wipe σ ws) → Q σ' H'
  | none => False
abbrev DG (X : Cx) (e : Expr) (vs : List Nat) (g : GT) : Prop := PG X e (tG X.K vs g)
abbrev DGs (X : Cx) (es : List Expr) (vs : List Nat) (g : List D → En → Sto → Option (En × Sto)) : Prop := PGs X es (tGs X.K vs g)
theorem PG.weak {X : Cx} {e : Expr} {t t' : TG} (h : PG X e t) (f : ∀ v σ H Q, t' v σ H Q → t v σ H Q) : PG X e t' := ⟨fun pins s σ H v u Q I r hw => h.run pins s σ H v u Q I r (f v σ H Q hw)⟩
theorem PGs.weak {X : Cx} {e : List Expr} {t t' : TGs} (h : PGs X e t) (f : ∀ v σ H Q, t' v σ H Q → t v σ H Q) : PGs X e t' := ⟨fun pins s σ H v u Q I r hw => h.run pins s σ H v u Q I r (f v σ H Q hw)⟩
theorem wipe_set {σ : L2.St} {i : Nat} {x : Option V} : ∀ {ws : List Nat}, i ∈ ws → wipe (σ.set i x) ws = wipe σ ws
  | [], h => by cases h
  | w :: ws, h => by
    unfold wipe
    by_cases e : i ∈ ws
    · rw [wipe_set e]
    · have ew : i = w := by
        rcases List.mem_cons.mp h with h | h
        · exact h
        · exact absurd h e
      subst ew
      have : ∀ (l : List Nat), i ∉ l → wipe (σ.set i x) l = (wipe σ l).set i x := by
        intro l
        induction l with
        | nil => intro _; rfl
        | cons y l ih =>
          intro hn
          unfold wipe
          rw [ih (fun z => hn (List.mem_cons_of_mem _ z)), List.set_comm _ _ (fun z => hn (by rw [z]; exact List.mem_cons_self))]
      rw [this ws e, List.set_set]
theorem ER.set {K : PySem.W.Frag} {α : List Addr} {env : En} {σ : L2.St} {H : Hp} {i : Nat} {d : D} {v : V} (h : ER K α env σ H) (r : RD K α H d v) : ER K α (env.set i (some d)) (σ.set i (some v)) H := by
  refine ⟨by simp [h.1], fun j d' e => ?_⟩
  by_cases hj : i = j
  · subst hj
    by_cases hl : i < env.length
    · rw [List.getElem?_set_self hl] at e
      cases e
      exact ⟨v, List.getElem?_set_self (by rw [← h.1]; exact hl), r⟩
    · rw [List.getElem?_eq_none (by simpa using hl)] at e
      cases e
  · rw [List.getElem?_set_ne hj] at e ⊢
    exact h.2 j d' e
def gN (i : Nat) : GT := fun d env st => some (env.set i (some d), st)
section
variable {X : Cx} {W : WX} {pos : Pos}
theorem dg_name {i : Nat} {x : Str} (hN : X.N.Nodup) (hi : X.N[i]? = some x) (hx : Loc X.env.scope x) (hf : X.fn x = true ∨ X.env.scope.names.lookup x = some .local := by first | exact .inl rfl | exact .inr rfl | assumption) : DG X (.Name x pos) [i] (gN i) := by
  refine PG.weak (pg_name hN hi hx hf) fun v σ H Q h => ?_
  obtain ⟨α, env, st, d, hE, hS, r, h⟩ := h
  exact h α _ H (List.prefix_refl _) (Keep.refl _) hS (hE.set r) fun ws hw => wipe_set (hw i List.mem_cons_self)
def gsNil : List D → En → Sto → Option (En × Sto) := fun ds env st => match ds with
  | [] => some (env, st)
  | _ => none
def gsCons (g : GT) (gs : List D → En → Sto → Option (En × Sto)) : List D → En → Sto → Option (En × Sto) := fun ds env st => match ds with
  | d :: r => match g d env st with
    | some (env', st') => gs r env' st'
    | none => none
  | [] => none
theorem dgs_nil : DGs X [] [] gsNil := by
  refine PGs.weak pgs_nil fun v σ H Q h => ?_
  obtain ⟨α, env, st, ds, hE, hS, r, h⟩ := h
  unfold gsNil at h
  cases r with
  | nil => exact ⟨rfl, h α σ H (List.prefix_refl _) (Keep.refl _) hS hE fun _ _ => rfl⟩
  | cons a b => exact h.elim
theorem dgs_cons {e : Expr} {es : List Expr} {vs ws : List Nat} {g : GT} {gs : List D → En → Sto → Option (En × Sto)} (h1 : DG X e vs g) (h2 : DGs X es ws gs) (hs : (assignEach (e :: es) X.env).map (·.2) = assign e X.env :: (assignEach es X.env).map (·.2) := by rfl) :
    DGs X (e :: es) (vs ++ ws) (gsCons g gs) := by
  refine PGs.weak (pgs_cons h1 h2 hs) fun us σ H Q h => ?_
  obtain ⟨α, env, st, ds, hE, hS, r, h⟩ := h
  unfold gsCons at h
  cases r with
  | nil => exact h.elim
  | cons a b =>
    rename_i d u ds us
    refine ⟨u, us, rfl, α, env, st, d, hE, hS, a, ?_⟩
    have hh : (match (match g d env st with
      | some (env', st') => gs ds env' st'
      | none => none) with
      | some (env', st') => ∀ α' σ' H', α <+: α' → Keep H H' → SR X.K α' st' H' → ER X.K α' env' σ' H' → (∀ zs : List Nat, (∀ i ∈ vs ++ ws, i ∈ zs) → wipe σ' zs = wipe σ zs) → Q σ' H'
      | none => False) := h
    clear h
    show match g d env st with
      | some (env', st') => _
      | none => False
    cases q : g d env st with
    | none => rw [q] at hh; exact hh.elim
    | some p =>
      obtain ⟨env1, st1⟩ := p
      rw [q] at hh
      have h := hh
      clear hh
      intro α1 σ1 H1 p1 k1 s1 e1 w1
      refine ⟨α1, env1, st1, ds, e1, s1, b.mono p1 k1, ?_⟩
      revert h
      show (match gs ds env1 st1 with | some (env', st') => _ | none => False) → _
      cases gs ds env1 st1 with
      | none => exact fun h => h
      | some p2 =>
        exact fun h α' σ' H' p k s e w => h α' σ' H' (p1.trans p) (k1.trans k) s e fun zs hz => (w zs fun i hi => hz i (List.mem_append_right _ hi)).trans (w1 zs fun i hi => hz i (List.mem_append_left _ hi))
def gTup (gs : List D → En → Sto → Option (En × Sto)) (n : Nat) : GT := fun d env st => match d with
  | .tup xs => if xs.length = n then gs xs env st else none
  | _ => none
theorem dg_tup {es : List Expr} {k : Nat} {vs : List Nat} {gs : List D → En → Sto → Option (En × Sto)} {n : Nat} (hc : X.calm = true) (h : DGs X es vs gs)
    (hn : (assignEach es X.env).length = n := by rfl) (hst : (assignEach es X.env).findIdx? (·.1) = none := by rfl) : DG X (.Tuple es k pos) vs (gTup gs n) := by
  refine PG.weak (pg_tup hc h hn hst) fun v σ H Q h => ?_
  obtain ⟨α, env, st, d, hE, hS, r, h⟩ := h
  unfold gTup at h
  cases d with
  | tup xs =>
    obtain ⟨a, us, rfl, t1, r1⟩ := r.tup_of
    by_cases hl : xs.length = n
    · simp only [hl, if_true] at h
      exact ⟨a, us, rfl, t1, by rw [← r1.len]; exact hl, α, env, st, xs, hE, hS, r1, h⟩
    · simp only [hl, if_false] at h
  | _ => exact h.elim
def gSet (mo mi : En → Sto → R D) : GT := fun d env st => match mo env st with
  | .ok (.ref r) st1 => match mi env st1 with
    | .ok (.int k) st2 => match rdW st2 r with
      | some xs => match ixN xs.length k with
        | some j => some (env, st2.set r (.lst (xs.set j d)))
        | none => none
      | none => none
    | _ => none
  | _ => none
theorem dg_set {o i : Expr} {mo mi : En → Sto → R D} (ho : DE X W o mo) (hi : DE X W i mi)
    (ha : ∀ v, assign (.Subscript o i pos) X.env v = (do
      let ov ← holding [v] (eval o X.env)
      let iv ← holding [v, ov] (eval i X.env)
      standAt pos
      holding [v, ov, iv] (setItem ov iv v)
      release [v, ov, iv] []) := by intro _; rfl) : DG X (.Subscript o i pos) [] (gSet mo mi) := by
  refine PG.weak (pg_sub ho hi set_list ha) fun v σ H Q h => ?_
  obtain ⟨α, env, st, d, hE, hS, r, h⟩ := h
  unfold gSet at h
  refine ⟨α, env, st, hE, hS, ?_⟩
  cases q1 : mo env st with
  | no => rw [q1] at h; exact h.elim
  | ex x st1 => rw [q1] at h; exact h.elim
  | ok o1 st1 =>
    rw [q1] at h
    try dsimp only at h
    cases o1 with
    | ref n =>
      try dsimp only at h
      intro α1 H1 p1 k1 s1 w rw1
      refine ⟨α1, env, st1, hE.mono p1 k1, s1, ?_⟩
      cases q2 : mi env st1 with
      | no => rw [q2] at h; try dsimp only at h
      | ex x st1 => rw [q2] at h; try dsimp only at h
      | ok o2 st2 =>
        rw [q2] at h
        try dsimp only at h
        cases o2 with
        | int kk =>
          try dsimp only at h
          intro α2 H2 p2 k2 s2 w2 rw2
          cases q3 : rdW st2 n with
          | none => rw [q3] at h; try dsimp only at h
          | some xs =>
            rw [q3] at h
            try dsimp only at h
            cases q4 : ixN xs.length kk with
            | none => simp only [q4] at h
            | some j =>
              simp only [q4] at h
              obtain ⟨a, rfl, a1⟩ := (rw1.mono p2 k2).ref_of
              have e2 := rw2.int_of; subst e2
              obtain ⟨c1, us, hu, ru⟩ := s2.w q3 a1
              have rd := (r.mono p1 k1).mono p2 k2
              have rr := ru.set rd j
              refine ⟨a, us, kk, j, rfl, rfl, hu, by rw [← ru.len]; exact q4, ?_⟩
              have kk2 : Keep H2 (upd H2 a (.lst (us.set j v))) := Keep.lst hu
              exact h α2 σ _ (p1.trans p2) ((k1.trans k2).trans kk2) (s2.put c1 a1 rr) (((hE.mono p1 k1).mono p2 k2).mono (List.prefix_refl _) kk2) fun _ _ => rfl
        | _ => exact h.elim
    | _ => exact h.elim

/-! ### small statements, blocks -/
def sNil (env : En) (st : Sto) : RS := .nx env st
def sSeq (a b : En → Sto → RS) (env : En) (st : Sto) : RS := (a env st).seq b
variable {s : Stmt} {rest : List Stmt} {ms mr : En → Sto → RS} {e : Expr} {me : En → Sto → R D}
theorem dss_nil : DSs X W [] sNil := by
  refine PSs.weak pss_nil fun Dn σ H h => ?_
  obtain ⟨α, env, st, hE, hS, h⟩ := h
  exact h α σ H (List.prefix_refl _) (Keep.refl _) hS hE
theorem dss_cons (h1 : DS X W s ms) (h2 : DSs X W rest mr) : DSs X W (s :: rest) (sSeq ms mr) := by
  refine PSs.weak (pss_cons h1 h2) fun Dn σ H h => ?_
  obtain ⟨α, env, st, hE, hS, h⟩ := h
  exact ⟨α, env, st, hE, hS, GoS.seq h⟩
theorem dss_one (h1 : DS X W s ms) : DSs X W [s] ms := pss_one h1
def sNo (_ : En) (_ : Sto) : RS := .no
theorem ds_never : DS X W s sNo := PS.weak ps_never fun _ _ _ ⟨_, _, _, _, _, h⟩ => h.elim
theorem dss_never : DSs X W rest sNo := PSs.weak pss_never fun _ _ _ ⟨_, _, _, _, _, h⟩ => h.elim
theorem ds_pass : DS X W (.Pass pos) sNil := by
  refine PS.weak ps_pass fun Dn σ H h => ?_
  obtain ⟨α, env, st, hE, hS, h⟩ := h
  exact h α σ H (List.prefix_refl _) (Keep.refl _) hS hE
def sBreak (env : En) (st : Sto) : RS := .bk env st
theorem ds_break : DS X W (.Break pos) sBreak := by
  refine PS.weak ps_break fun Dn σ H h => ?_
  obtain ⟨α, env, st, hE, hS, h⟩ := h
  exact h α σ H (List.prefix_refl _) (Keep.refl _) hS hE
theorem ds_doc {x : Str} {j : Nat} {pos' : Pos} : DS X W (.Expr (.Constant (.str x) j pos) pos') sNil := by
  refine PS.weak ps_doc fun Dn σ H h => ?_
  obtain ⟨α, env, st, hE, hS, h⟩ := h
  exact h α σ H (List.prefix_refl _) (Keep.refl _) hS hE
def sExpr (m : En → Sto → R D) (env : En) (st : Sto) : RS := (m env st).toS env fun _ st1 => .nx env st1
theorem ds_expr (he : DE X W e me) (hs : swapsWith e none pos.line X.env = pure false := by rfl) : DS X W (.Expr e pos) (sExpr me) := by
  refine PS.weak (ps_expr he hs) fun Dn σ H h => ?_
  obtain ⟨α, env, st, hE, hS, h⟩ := h
  refine ⟨α, env, st, hE, hS, (h.toGo hE).mono fun d st1 α1 H1 p1 k1 s1 h1 v rv => ?_⟩
  exact h1 α1 σ H1 (List.prefix_refl _) (Keep.refl _) s1 (hE.mono p1 k1)
def sRet (m : En → Sto → R D) (env : En) (st : Sto) : RS := (m env st).toS env fun d st1 => .rt d st1
theorem ds_ret (he : DE X W e me) : DS X W (.Return (some e) pos) (sRet me) := by
  refine PS.weak (ps_ret he) fun Dn σ H h => ?_
  obtain ⟨α, env, st, hE, hS, h⟩ := h
  refine ⟨α, env, st, hE, hS, (h.toGo hE).mono fun d st1 α1 H1 p1 k1 s1 h1 v rv => ?_⟩
  exact h1 α1 H1 v (List.prefix_refl _) (Keep.refl _) s1 rv
def sRetN (env : En) (st : Sto) : RS := .rt .non st
theorem ds_retN : DS X W (.Return none pos) sRetN := by
  refine PS.weak ps_retN fun Dn σ H h => ?_
  obtain ⟨α, env, st, hE, hS, h⟩ := h
  exact h α H .non (List.prefix_refl _) (Keep.refl _) hS .non
def sIf (mc : En → Sto → R Bool) (a b : En → Sto → RS) (env : En) (st : Sto) : RS := (mc env st).toS env fun x st1 => if x = true then a env st1 else b env st1
theorem ds_if {c : Expr} {a b : List Stmt} {mc : En → Sto → R Bool} {ma mb : En → Sto → RS} (hc : DT X W c mc) (ha : DSs X W a ma) (hb : DSs X W b mb) : DS X W (.If c a b pos) (sIf mc ma mb) := by
  refine PS.weak (ps_if hc ha hb) fun Dn σ H h => ?_
  obtain ⟨α, env, st, hE, hS, h⟩ := h
  refine ⟨α, env, st, hE, hS, (h.toGo hE).mono fun x st1 α1 H1 p1 k1 s1 h1 => ?_⟩
  cases x with
  | true => rw [if_pos rfl] at h1 ⊢; exact ⟨α1, env, st1, hE.mono p1 k1, s1, h1⟩
  | false => rw [if_neg Bool.false_ne_true] at h1 ⊢; exact ⟨α1, env, st1, hE.mono p1 k1, s1, h1⟩
def sAsg (m : En → Sto → R D) (g : GT) (env : En) (st : Sto) : RS := (m env st).toS env fun d st1 => match g d env st1 with
  | some (env', st') => .nx env' st'
  | none => .no
theorem asg_of {K : PySem.W.Frag} {m : En → Sto → R D} {g : GT} {vs : List Nat} {Dn : Ends} {σ : L2.St} {H : Hp} (h : tS K W (sAsg m g) Dn σ H) : tAsg (tE K W m) (tG K vs g) Dn σ H := by
  obtain ⟨α, env, st, hE, hS, h⟩ := h
  refine ⟨α, env, st, hE, hS, (h.toGo hE).mono fun d st1 α1 H1 p1 k1 s1 h1 v rv => ?_⟩
  refine ⟨α1, env, st1, d, hE.mono p1 k1, s1, rv, ?_⟩
  revert h1
  cases g d env st1 with
  | none => exact fun h => h
  | some p => exact fun h1 α' σ' H' p k s e _ => h1 α' σ' H' p k s e
theorem ds_asg {tg : Expr} {vs : List Nat} {g : GT} (he : DE X W e me) (hg : DG X tg vs g) (hs : swapsWithSole [tg] e pos.line X.env = pure false := by rfl) (hw : swappedStores [tg] e X.env = pure none := by rfl)
    (h1 : (assignEach [tg] X.env).map (·.2) = [assign tg X.env] := by rfl) : DS X W (.Assign [tg] e pos) (sAsg me g) := PS.weak (ps_asg he hg hs hw h1) fun _ _ _ => asg_of
theorem ds_set {i : Nat} {x : Str} {pos' : Pos} (hN : X.N.Nodup) (hi : X.N[i]? = some x) (hx : Loc X.env.scope x) (he : DE X W e me) (hs : swapsWith e (some (.Name x pos')) pos.line X.env = pure false := by rfl) (hf : X.fn x = true ∨ X.env.scope.names.lookup x = some .local := by first | exact .inl rfl | exact .inr rfl | assumption) :
    DS X W (.Assign [.Name x pos'] e pos) (sAsg me (gN i)) := by
  refine PS.weak (ps_set hN hi hx he hs hf) fun Dn σ H h => ?_
  obtain ⟨α, env, st, hE, hS, h⟩ := h
  refine ⟨α, env, st, hE, hS, (h.toGo hE).mono fun d st1 α1 H1 p1 k1 s1 h1 v rv => ?_⟩
  exact h1 α1 _ H1 (List.prefix_refl _) (Keep.refl _) s1 ((hE.mono p1 k1).set rv)
/-- a, b = x, y -/
def sPar (i j : Nat) (mr : En → Sto → R (List D)) (env : En) (st : Sto) : RS := (mr env st).toS env fun ds st1 => match ds with
  | [d, d'] => .nx ((env.set i (some d)).set j (some d')) st1
  | _ => .no
theorem ds_par {i j : Nat} {x y : Str} {a b : Expr} {mr : En → Sto → R (List D)} {px py pt : Pos} {kt k2 : Nat} {pt2 : Pos} (hc : X.calm = true) (hN : X.N.Nodup) (hi : X.N[i]? = some x) (hj : X.N[j]? = some y) (hij : i ≠ j)
    (hx : X.env.scope.names.lookup x = some .local) (hy : X.env.scope.names.lookup y = some .local) (ha : DA X W [a, b] mr)
    (hw : swappedStores [.Tuple [.Name x px, .Name y py] kt pt] (.Tuple [a, b] k2 pt2) X.env = pure (some [x, y]))
    (hs : swapsWithSole [.Tuple [.Name x px, .Name y py] kt pt] (.Tuple [a, b] k2 pt2) pos.line X.env = pure false := by rfl) :
    DS X W (.Assign [.Tuple [.Name x px, .Name y py] kt pt] (.Tuple [a, b] k2 pt2) pos) (sPar i j mr) := by
  refine PS.weak (ps_par hc hN hi hj hij hx hy ha hw hs) fun Dn σ H h => ?_
  obtain ⟨α, env, st, hE, hS, h⟩ := h
  refine ⟨α, env, st, hE, hS, (h.toGo hE).mono fun ds st1 α1 H1 p1 k1 s1 h1 vs rv => ?_⟩
  split at h1
  · obtain ⟨v, u, rfl, r1, r2⟩ := rv.two
    exact ⟨v, u, rfl, h1 α1 _ H1 (List.prefix_refl _) (Keep.refl _) s1 (((hE.mono p1 k1).set r1).set r2)⟩
  · exact h1.elim
/-- x op= e -/
def sAug (i : Nat) (m : En → Sto → R D) (f : O2) (env : En) (st : Sto) : RS := match env[i]? with
  | some (some x) => (m env st).toS env fun y st1 => (noEx (f x y st1)).toS env fun z st2 => .nx (env.set i (some z)) st2
  | _ => .no
theorem ds_aug {i : Nat} {x : Str} {op : Operator} {f : O2} {pos' : Pos} (hN : X.N.Nodup) (hi : X.N[i]? = some x) (hx : Loc X.env.scope x) (he : DE X W e me) (ho : PIp X op (rD2 X.K f)) (hf : X.fn x = true ∨ X.env.scope.names.lookup x = some .local := by first | exact .inl rfl | exact .inr rfl | assumption) :
    DS X W (.AugAssign (.Name x pos') op e pos) (sAug i me f) := by
  refine PS.weak (ps_aug hN hi hx he ho hf) fun Dn σ H h => ?_
  obtain ⟨α, env, st, hE, hS, h⟩ := h
  unfold sAug at h
  split at h
  · rename_i x0 e0
    obtain ⟨v0, g1, g2⟩ := hE.2 i x0 e0
    refine ⟨v0, g1, α, env, st, hE, hS, (h.toGo hE).mono fun d st1 α1 H1 p1 k1 s1 h1 v rv => ?_⟩
    refine ⟨α1, st1, x0, d, s1, g2.mono p1 k1, rv, (h1.toGo (hE.mono p1 k1)).rw.mono fun z st2 q α2 H2 w p2 k2 s2 rw => ?_⟩
    exact q α2 H2 p2 k2 s2 α2 _ H2 (List.prefix_refl _) (Keep.refl _) s2 (((hE.mono p1 k1).mono p2 k2).set rw)
  · exact h.elim
end
end DL
set_option Elab.async false
set_option linter.all false
set_option maxRecDepth 100000
namespace DL
open PySem PySem.Spec PyProof.Rows L2

/-! ### what is walked -/
/-- the store still has these items at the number -/
def gOk (ds : List D) (g : Option Nat) (st : Sto) : Prop := match g with
  | none => True
  | some r => rdL st r = some ds
structure WalkD (K : PySem.W.Frag) (J : It) (α : List Addr) (H : Hp) (ds : List D) (g : Option Nat) : Prop where
  ex : ∃ (G : Hp → Prop) (Y : Nat → Hp → V → Hp → Prop), Walk J ds.length G Y ∧
    (∀ α' st' H', α <+: α' → Keep H H' → SR K α' st' H' → gOk ds g st' → G H') ∧
    (∀ i H1 x H2 α' st', α <+: α' → Keep H H1 → SR K α' st' H1 → gOk ds g st' → i < ds.length → Y i H1 x H2 → Keep H1 H2 ∧ SR K α' st' H2 ∧ ∃ d, ds[i]? = some d ∧ RD K α' H2 d x)
abbrev MI := En → Sto → R (List D × Option Nat)
def tI (K : PySem.W.Frag) (W : WX) (m : MI) : TI := fun σ H Rr => ∃ α env st, ER K α env σ H ∧ SR K α st H ∧ Go K W α H σ (m env st) fun p st' α' H' => ∀ J, WalkD K J α' H' p.1 p.2 → Rr J H'
abbrev DI (X : Cx) (W : WX) (tg iter : Expr) (m : MI) : Prop := PI X tg iter (tI X.K W m)
theorem PI.weak {X : Cx} {tg e : Expr} {t t' : TI} (h : PI X tg e t) (f : ∀ σ H Rr, t' σ H Rr → t σ H Rr) : PI X tg e t' := ⟨fun pins s σ H Rr I hw => h.run pins s σ H Rr I (f σ H Rr hw)⟩
theorem PI.either {X : Cx} {tg e : Expr} {t t' : TI} (h : PI X tg e t) (h' : PI X tg e t') : PI X tg e (fun σ H Rr => t σ H Rr ∨ t' σ H Rr) := ⟨fun pins s σ H Rr I hw => hw.elim (h.run pins s σ H Rr I) (h'.run pins s σ H Rr I)⟩
section
variable {X : Cx} {W : WX} {pos : Pos} {e : Expr} {me : En → Sto → R D} {tg : Expr}
/-- over a list or a tuple -/
def iVal (m : En → Sto → R D) : MI := fun env st => (m env st).bind fun d st1 => match d with
  | .tup xs => .ok (xs, none) st1
  | .ref r => match rdL st1 r with
    | some xs => .ok (xs, some r) st1
    | none => .no
  | _ => .no
theorem walkD_list {K : PySem.W.Frag} {α : List Addr} {H : Hp} {st : Sto} {r : Nat} {a : Addr} {xs : List D} {vs : List V} (ea : α[r]? = some a) (hl : xs.length = vs.length) (h0 : SqL K H a vs) (hr : RDs K α H xs vs) (S : SR K α st H) (e1 : rdL st r = some xs) : WalkD K (Itl K a) α H xs (some r) := by
  refine ⟨fun H' => ∃ ws, SqL K H' a ws ∧ ws.length = xs.length, fun i H1 x H2 => H2 = H1 ∧ ∀ ws, SqL K H1 a ws → ws[i]? = some x, ⟨fun i H' hi q => ?_, fun H' q => ?_, fun i H1 x H2 hi q y => y⟩, fun α' st' H' p k s g => ?_, fun i H1 x H2 α' st' p k s g hi y => ?_⟩
  · obtain ⟨ws, q1, q2⟩ := q
    exact ⟨ws, ws[i]'(by omega), q1, by simp⟩
  · obtain ⟨ws, q1, q2⟩ := q
    exact ⟨ws, q1, by omega⟩
  · obtain ⟨ws, q1, q2⟩ := s.l g (get_pre p ea)
    exact ⟨ws, q1, q2.len.symm⟩
  · obtain ⟨rfl, y⟩ := y
    obtain ⟨ws, q1, q2⟩ := s.l g (get_pre p ea)
    obtain ⟨d, g1, g2⟩ := q2.get (y ws q1)
    exact ⟨Keep.refl _, s, d, g1, g2⟩
theorem walkD_tup {K : PySem.W.Frag} {α : List Addr} {H : Hp} {a : Addr} {xs : List D} {vs : List V} (h0 : SqT K H a vs) (hr : RDs K α H xs vs) : WalkD K (Itt K a) α H xs none := by
  refine ⟨fun H' => SqT K H' a vs, fun i H1 x H2 => H2 = H1 ∧ vs[i]? = some x, ⟨fun i H' hi q => ?_, fun H' q => ?_, fun i H1 x H2 hi q y => ?_⟩, fun α' st' H' p k s g => k.sqT h0, fun i H1 x H2 α' st' p k s g hi y => ?_⟩
  · have hl := hr.len
    exact ⟨vs, vs[i]'(by omega), q, by simp⟩
  · exact ⟨vs, q, by rw [hr.len]; exact Nat.le_refl _⟩
  · exact ⟨y.1, y.2 vs q⟩
  · obtain ⟨rfl, y⟩ := y
    obtain ⟨d, g1, g2⟩ := hr.get y
    exact ⟨Keep.refl _, s, d, g1, g2.mono p k⟩
theorem di_val (he : DE X W e me) : DI X W tg e (iVal me) := by
  refine PI.weak (PI.either (pi_list he) (pi_tup he)) fun σ H Rr h => ?_
  obtain ⟨α, env, st, hE, hS, h⟩ := h
  unfold iVal at h
  cases q : me env st with
  | no => rw [q] at h; exact h.elim
  | ex x st1 =>
    refine .inl ⟨α, env, st, hE, hS, ?_⟩
    rw [q] at h ⊢
    exact h
  | ok d st1 =>
    have h' := h.bind
    clear h
    have key : Go X.K W α H σ (me env st) fun b st α' H' => Go X.K W α' H' σ (match b with
      | .tup xs => .ok (xs, none) st
      | .ref r => match rdL st r with
        | some xs => .ok (xs, some r) st
        | none => .no
      | _ => .no) fun p st' α' H' => ∀ J, WalkD X.K J α' H' p.1 p.2 → Rr J H' := h'
    cases d with
    | tup xs =>
      refine .inr ⟨α, env, st, hE, hS, ?_⟩
      rw [q] at key ⊢
      intro α1 H1 p1 k1 s1 v rv
      obtain ⟨a, vs, rfl, t1, r1⟩ := rv.tup_of
      exact ⟨a, rfl, ⟨vs, t1⟩, (key α1 H1 p1 k1 s1).here s1 _ (walkD_tup t1 r1)⟩
    | ref r =>
      refine .inl ⟨α, env, st, hE, hS, ?_⟩
      rw [q] at key ⊢
      intro α1 H1 p1 k1 s1 v rv
      obtain ⟨a, rfl, ea⟩ := rv.ref_of
      have kk := key α1 H1 p1 k1 s1
      dsimp only at kk
      cases q2 : rdL st1 r with
      | none => rw [q2] at kk; exact kk.elim
      | some xs =>
        rw [q2] at kk
        obtain ⟨vs, h0, hr⟩ := s1.l q2 ea
        exact ⟨a, rfl, ⟨vs, h0⟩, kk.here s1 _ (walkD_list ea hr.len h0 hr s1 q2)⟩
    | _ =>
      refine .inl ⟨α, env, st, hE, hS, ?_⟩
      rw [q] at key ⊢
      exact fun α1 H1 p1 k1 s1 v rv => (key α1 H1 p1 k1 s1).elim
def rngD (lo : Int) (n : Nat) : List D := (List.range n).map fun i => D.int (lo + (i : Nat))
theorem walkD_range {K : PySem.W.Frag} {α : List Addr} {H : Hp} {lo : Int} {n : Nat} : WalkD K (Itr lo n) α H (rngD lo n) none := by
  have hl : (rngD lo n).length = n := by simp [rngD]
  refine ⟨fun _ => True, fun i H1 x H2 => H2 = H1 ∧ x = .int (lo + (i : Nat)), ⟨fun i H' hi _ => by rw [hl] at hi; exact hi, fun H' _ => by rw [hl]; exact Nat.le_refl _, fun i H1 x H2 hi _ y => y⟩, fun _ _ _ _ _ _ _ => trivial, fun i H1 x H2 α' st' p k s g hi y => ?_⟩
  obtain ⟨rfl, rfl⟩ := y
  rw [hl] at hi
  exact ⟨Keep.refl _, s, .int (lo + (i : Nat)), by simp [rngD, hi], .int _⟩
def Mid (i : Int) : Prop := -(2 ^ 62) ≤ i ∧ i < 2 ^ 62
noncomputable instance (i : Int) : Decidable (Mid i) := Classical.propDecidable _
noncomputable def iRng1 (mr : En → Sto → R (List D)) : MI := fun env st => (mr env st).bind fun ds st1 => match ds with
  | [.int j] => if Mid j then .ok (rngD 0 j.toNat, none) st1 else .no
  | _ => .no
noncomputable def iRng2 (mr : En → Sto → R (List D)) : MI := fun env st => (mr env st).bind fun ds st1 => match ds with
  | [.int i, .int j] => if Mid i ∧ Mid j then .ok (rngD i (j - i).toNat, none) st1 else .no
  | _ => .no
theorem di_rng1 {a : Expr} {mr : En → Sto → R (List D)} {p : Pos} (hg : Gl X "range") (hm : X.mg "range" = none) (ha : DA X W [a] mr) (hs : starEach [a] X.env = [(false, eval a X.env)] := by rfl) : DI X W tg (.Call (.Name "range" p) [a] [] pos) (iRng1 mr) := by
  refine PI.weak (pi_range1 hg hm ha hs) fun σ H Rr h => ?_
  obtain ⟨α, env, st, hE, hS, h⟩ := h
  refine ⟨α, env, st, hE, hS, h.bind.mono fun ds st1 α1 H1 p1 k1 s1 h1 vs rvs => ?_⟩
  split at h1
  · split at h1
    · rename_i hm
      obtain ⟨v, rfl, r⟩ := rvs.one
      exact ⟨_, by rw [r.int_of], hm.1, hm.2, h1.here s1 _ walkD_range⟩
    · exact h1.elim
  · exact h1.elim
theorem di_rng2 {a b : Expr} {mr : En → Sto → R (List D)} {p : Pos} (hg : Gl X "range") (hm : X.mg "range" = none) (ha : DA X W [a, b] mr) (hs : starEach [a, b] X.env = [(false, eval a X.env), (false, eval b X.env)] := by rfl) (hs2 : starEach [b] X.env = [(false, eval b X.env)] := by rfl) :
    DI X W tg (.Call (.Name "range" p) [a, b] [] pos) (iRng2 mr) := by
  refine PI.weak (pi_range2 hg hm ha hs hs2) fun σ H Rr h => ?_
  obtain ⟨α, env, st, hE, hS, h⟩ := h
  refine ⟨α, env, st, hE, hS, h.bind.mono fun ds st1 α1 H1 p1 k1 s1 h1 vs rvs => ?_⟩
  split at h1
  · split at h1
    · rename_i hm
      obtain ⟨v, u, rfl, r, r'⟩ := rvs.two
      exact ⟨_, _, by rw [r.int_of, r'.int_of], ⟨hm.1.1, hm.1.2, hm.2.1, hm.2.2⟩, h1.here s1 _ walkD_range⟩
    · exact h1.elim
  · exact h1.elim

/-! ### for -/
open Classical in
noncomputable def loopS (ds0 : List D) (gd : Option Nat) (g : GT) (mb : En → Sto → RS) : List D → En → Sto → RS
  | [], env, st => if gOk ds0 gd st then .nx env st else .no
  | d :: r, env, st => if gOk ds0 gd st then (match g d env st with
      | none => .no
      | some (env1, st1) => match mb env1 st1 with
        | .nx env2 st2 => loopS ds0 gd g mb r env2 st2
        | .ct env2 st2 => loopS ds0 gd g mb r env2 st2
        | .bk env2 st2 => .nx env2 st2
        | .rt d st => .rt d st
        | .ex x env st => .ex x env st
        | .no => .no) else .no
noncomputable def sFor (mi : MI) (g : GT) (mb : En → Sto → RS) (env : En) (st : Sto) : RS := (mi env st).toS env fun p st1 => loopS p.1 p.2 g mb p.1 env st1
theorem ds_for {iter : Expr} {body : List Stmt} {mi : MI} {g : GT} {vs : List Nat} {mb : En → Sto → RS} (hp : PassesOwn (model X.prog X.w) X.A X.env X.xe) (hc : X.calm = true) (hi : DI X W tg iter mi) (hg : DG X tg vs g) (hb : DSs X W body mb)
    (hs : ∀ x, foldedSetIterable iter X.env x = pure x := by intro _; rfl) : DS X W (.For tg iter body [] pos) (sFor mi g mb) := by
  refine PS.weak (ps_for hp hc hi hg hb hs) fun Dn σ H h => ?_
  obtain ⟨α, env, st, hE, hS, h⟩ := h
  refine ⟨α, env, st, hE, hS, (h.toGo hE).mono fun p st1 α1 H1 p1 k1 s1 h1 J hJ => ?_⟩
  obtain ⟨ds, gd⟩ := p
  obtain ⟨G, Y, wk, hG, hY⟩ := hJ.ex
  have h1' : GoS X.K W α1 H1 Dn (loopS ds gd g mb ds env st1) := h1
  refine for_it wk (fun i σ H => ∃ α' env' st', α1 <+: α' ∧ Keep H1 H ∧ SR X.K α' st' H ∧ ER X.K α' env' σ H ∧ GoS X.K W α' H Dn (loopS ds gd g mb (ds.drop i) env' st'))
    ⟨α1, env, st1, List.prefix_refl _, Keep.refl _, s1, hE.mono p1 k1, h1'⟩ (fun i σ H hi hP => ?_) (fun i x σ H2 H3 hi hP y => ?_) (fun σ H hP => ?_)
  · obtain ⟨α', env', st', p2, k2, s2, e2, q⟩ := hP
    refine hG α' st' H p2 k2 s2 ?_
    cases hd : ds.drop i with
    | nil =>
      rw [hd] at q
      unfold loopS at q
      split at q
      · assumption
      · exact q.elim
    | cons d r =>
      rw [hd] at q
      unfold loopS at q
      split at q
      · assumption
      · exact q.elim
  · obtain ⟨α', env', st', p2, k2, s2, e2, q⟩ := hP
    have hd : ds.drop i = ds[i] :: ds.drop (i + 1) := List.drop_eq_getElem_cons hi
    rw [hd] at q
    unfold loopS at q
    split at q
    · rename_i gg
      obtain ⟨k3, s3, d, g1, g2⟩ := hY i H2 x H3 α' st' p2 k2 s2 gg hi y
      have ed : d = ds[i] := by
        rw [List.getElem?_eq_getElem hi] at g1
        exact (Option.some.inj g1).symm
      subst ed
      refine ⟨α', env', st', ds[i], e2.mono (List.prefix_refl _) k3, s3, g2, ?_⟩
      revert q
      cases hgd : g ds[i] env' st' with
      | none => exact fun q => q.elim
      | some pq =>
        obtain ⟨env1, st2⟩ := pq
        intro q α2 σ2 H4 p4 k4 s4 e4 _
        refine ⟨α2, env1, st2, e4, s4, ?_⟩
        dsimp only at q
        have again : ∀ env2 st3, GoS X.K W α' H2 Dn (loopS ds gd g mb (ds.drop (i + 1)) env2 st3) → ∀ α5 σ5 H5, α2 <+: α5 → Keep H4 H5 → SR X.K α5 st3 H5 → ER X.K α5 env2 σ5 H5 →
            ∃ α' env' st', α1 <+: α' ∧ Keep H1 H5 ∧ SR X.K α' st' H5 ∧ ER X.K α' env' σ5 H5 ∧ GoS X.K W α' H5 Dn (loopS ds gd g mb (ds.drop (i + 1)) env' st') := fun env2 st3 q α5 σ5 H5 p5 k5 s5 e5 =>
          ⟨α5, env2, st3, (p2.trans p4).trans p5, ((k2.trans k3).trans k4).trans k5, s5, e5, q.on (p4.trans p5) ((k3.trans k4).trans k5)⟩
        cases hm : mb env1 st2 with
        | nx env2 st3 => rw [hm] at q; exact again env2 st3 q
        | ct env2 st3 => rw [hm] at q; exact again env2 st3 q
        | bk env2 st3 => rw [hm] at q; exact fun a b c d e => q a b c (p4.trans d) ((k3.trans k4).trans e)
        | rt d st3 => rw [hm] at q; exact fun a b c d e => q a b c (p4.trans d) ((k3.trans k4).trans e)
        | ex x2 env2 st3 => rw [hm] at q; exact fun a b c x y d e => q a b c x y (p4.trans d) ((k3.trans k4).trans e)
        | no => rw [hm] at q; exact q
    · exact q.elim
  · obtain ⟨α', env', st', p2, k2, s2, e2, q⟩ := hP
    rw [List.drop_length] at q
    unfold loopS at q
    split at q
    · exact q α' σ H (List.prefix_refl _) (Keep.refl _) s2 e2
    · exact q.elim

/-! ### while -/
def loopW (mc : En → Sto → R Bool) (mb : En → Sto → RS) : Nat → En → Sto → RS
  | 0, _, _ => .no
  | n + 1, env, st => (mc env st).toS env fun b st1 => if b = true then (match mb env st1 with
      | .nx env2 st2 => loopW mc mb n env2 st2
      | .ct env2 st2 => loopW mc mb n env2 st2
      | .bk env2 st2 => .nx env2 st2
      | .rt d st => .rt d st
      | .ex x env st => .ex x env st
      | .no => .no) else .nx env st1
theorem ds_while {c : Expr} {body : List Stmt} {mc : En → Sto → R Bool} {mb : En → Sto → RS} (N : Nat) (hp : PassesOwn (model X.prog X.w) X.A X.env X.xe) (hc : DT X W c mc) (hb : DSs X W body mb) : DS X W (.While c body [] pos) (loopW mc mb N) := by
  refine PS.weak (ps_while hp hc hb) fun Dn σ H h => ?_
  obtain ⟨α, env, st, hE, hS, h⟩ := h
  refine ⟨fun m σ H' => ∃ α' env' st', ER X.K α' env' σ H' ∧ SR X.K α' st' H' ∧ GoS X.K W α' H' Dn (loopW mc mb m env' st'), ⟨N, α, env, st, hE, hS, h⟩, fun m σ H ⟨α, env, st, hE, hS, h⟩ => ?_⟩
  cases m with
  | zero => exact h.elim
  | succ m =>
    refine ⟨α, env, st, hE, hS, (h.toGo hE).mono fun b st1 α1 H1 p1 k1 s1 h1 => ?_⟩
    cases b with
    | false =>
      rw [if_neg Bool.false_ne_true] at h1 ⊢
      exact h1 α1 σ H1 (List.prefix_refl _) (Keep.refl _) s1 (hE.mono p1 k1)
    | true =>
      rw [if_pos rfl] at h1 ⊢
      refine ⟨fun σ' H' => ∃ α' env' st', ER X.K α' env' σ' H' ∧ SR X.K α' st' H' ∧ GoS X.K W α' H' Dn (loopW mc mb m env' st'), fun σ' H' n => ⟨m, Nat.lt_succ_self m, n⟩, α1, env, st1, hE.mono p1 k1, s1, ?_⟩
      revert h1
      cases hm : mb env st1 with
      | nx env2 st3 => exact fun q α5 σ5 H5 p5 k5 s5 e5 => ⟨α5, env2, st3, e5, s5, q.on p5 k5⟩
      | ct env2 st3 => exact fun q α5 σ5 H5 p5 k5 s5 e5 => ⟨α5, env2, st3, e5, s5, q.on p5 k5⟩
      | bk env2 st3 => exact fun q => q
      | rt d st3 => exact fun q => q
      | ex x2 env2 st3 => exact fun q => q
      | no => exact fun q => q

/-! ### comprehensions -/
def wipeE (env : En) : List Nat → En
  | [] => env
  | v :: vs => (wipeE env vs).set v none
theorem wipeE_len (env : En) : ∀ vs : List Nat, (wipeE env vs).length = env.length
  | [] => rfl
  | v :: vs => by unfold wipeE; rw [List.length_set, wipeE_len env vs]
theorem ER.wiped {K : PySem.W.Frag} {α : List Addr} {env : En} {σ : L2.St} {H : Hp} (h : ER K α env σ H) : ∀ vs : List Nat, ER K α (wipeE env vs) (wipe σ vs) H
  | [] => h
  | v :: vs => by
    have ih := ER.wiped h vs
    refine ⟨by unfold wipeE L2.wipe; rw [List.length_set, List.length_set]; exact ih.1, fun j d e => ?_⟩
    unfold wipeE at e
    unfold L2.wipe
    by_cases hj : v = j
    · subst hj
      by_cases hl : v < (wipeE env vs).length
      · rw [List.getElem?_set_self hl] at e; cases e
      · rw [List.getElem?_eq_none (by simpa using hl)] at e; cases e
    · rw [List.getElem?_set_ne hj] at e ⊢
      exact ih.2 j d e
open Classical in
noncomputable def loopC (ds0 : List D) (gd : Option Nat) (g : GT) (mt : En → Sto → R Bool) (me : En → Sto → R D) (env0 : En) (r0 : Nat) : List D → Sto → R D
  | [], st => if gOk ds0 gd st then .ok (.ref r0) st else .no
  | d :: r, st => if gOk ds0 gd st then (match g d env0 st with
      | none => .no
      | some (env1, st1) => match mt env1 st1 with
        | .ok true st2 => (match me env1 st2 with
          | .ok y st3 => (match rdW st3 r0 with
            | some acc => if acc.length < sizeLine then loopC ds0 gd g mt me env0 r0 r (st3.set r0 (.lst (acc ++ [y]))) else .no
            | none => .no)
          | _ => .no)
        | .ok false st2 => loopC ds0 gd g mt me env0 r0 r st2
        | _ => .no) else .no
noncomputable def mLc (mi : MI) (g : GT) (mt : En → Sto → R Bool) (me : En → Sto → R D) (vs : List Nat) (env : En) (st : Sto) : R D := (mi env st).bind fun p st1 => loopC p.1 p.2 g mt me (wipeE env vs) st1.length p.1 (st1 ++ [.lst []])
/-- a clause's tests -/
abbrev DTs (X : Cx) (W : WX) (ifs : List Expr) (m : En → Sto → R Bool) : Prop := PTs X ifs (tT X.K W m)
def mYes (_ : En) (st : Sto) : R Bool := .ok true st
theorem dts_nil : DTs X W [] mYes := ⟨fun pins s σ H Q I h => pts_nil.run pins s σ H Q I (by
  obtain ⟨α, env, st, hE, hS, h⟩ := h
  exact h.here hS)⟩
theorem dts_one {c : Expr} {mc : En → Sto → R Bool} (h : DT X W c mc) : DTs X W [c] mc := pts_one h
abbrev W0 : WX := fun _ _ _ _ => False
theorem lc_of {K : PySem.W.Frag} {mi : MI} {g : GT} {ts vs : List Nat} {mt : En → Sto → R Bool} {me : En → Sto → R D} {σ : L2.St} {H : Hp} {Q : VK} (hv : ∀ i ∈ ts, i ∈ vs) (h : tE K W (mLc mi g mt me vs) σ H Q) :
    tLc (tI K W mi) (tG K ts g) (tT K W0 mt) (tE K W0 me) vs σ H Q := by
  obtain ⟨α, env, st, hE, hS, h⟩ := h
  refine ⟨α, env, st, hE, hS, h.bind.mono fun p st1 α1 H1 p1 k1 s1 h1 J hJ D hD => ?_⟩
  obtain ⟨ds, gd⟩ := p
  obtain ⟨G, Y, wk, hG, hY⟩ := hJ.ex
  have kD : Keep H1 (upd H1 D (.lst [])) := Keep.fresh hD
  have sD : SR K (α1 ++ [D]) (st1 ++ [.lst []]) (upd H1 D (.lst [])) := s1.push hD .nil
  have pD : α1 <+: α1 ++ [D] := List.prefix_append _ _
  have aD : (α1 ++ [D])[st1.length]? = some D := by rw [← s1.len, List.getElem?_concat_length]
  have h1' : Go K W α1 H1 σ (loopC ds gd g mt me (wipeE env vs) st1.length ds (st1 ++ [.lst []])) fun d _ α' H' => ∀ v, RD K α' H' d v → Q v H' := h1
  have hE1 := (hE.mono p1 k1).wiped vs
  refine lc_it wk (fun i H => ∃ α' st', α1 ++ [D] <+: α' ∧ Keep H1 H ∧ SR K α' st' H ∧ Go K W α' H σ (loopC ds gd g mt me (wipeE env vs) st1.length (ds.drop i) st') fun d _ α' H' => ∀ v, RD K α' H' d v → Q v H')
    ⟨_, _, List.prefix_refl _, kD, sD, h1'.on pD kD⟩ (fun i H hi hP => ?_) (fun i x H2 H3 hi hP y => ?_) (fun H hP => ?_)
  · obtain ⟨α', st', p2, k2, s2, q⟩ := hP
    refine hG α' st' H (pD.trans p2) k2 s2 ?_
    cases hd : ds.drop i with
    | nil =>
      rw [hd] at q
      unfold loopC at q
      split at q
      · assumption
      · exact q.elim
    | cons d r =>
      rw [hd] at q
      unfold loopC at q
      split at q
      · assumption
      · exact q.elim
  · obtain ⟨α', st', p2, k2, s2, q⟩ := hP
    have hd : ds.drop i = ds[i] :: ds.drop (i + 1) := List.drop_eq_getElem_cons hi
    rw [hd] at q
    unfold loopC at q
    split at q
    · rename_i gg
      obtain ⟨k3, s3, d, g1, g2⟩ := hY i H2 x H3 α' st' (pD.trans p2) k2 s2 gg hi y
      have ed : d = ds[i] := by
        rw [List.getElem?_eq_getElem hi] at g1
        exact (Option.some.inj g1).symm
      subst ed
      have kk : Keep H1 H3 := k2.trans k3
      refine ⟨α', wipeE env vs, st', ds[i], hE1.mono (pD.trans p2) kk, s3, g2, ?_⟩
      revert q
      cases hgd : g ds[i] (wipeE env vs) st' with
      | none => exact fun q => q.elim
      | some pq =>
        obtain ⟨env1, st2⟩ := pq
        intro q α2 σ2 H4 p4 k4 s4 e4 w4
        refine ⟨?_, ?_⟩
        · have := w4 vs hv
          rw [this]
          have ww : ∀ (l : List Nat) (m : List Nat), (∀ i ∈ l, i ∈ m) → wipe (wipe σ m) l = wipe σ m := by
            intro l
            induction l with
            | nil => intro m _; rfl
            | cons y l ih =>
              intro m hm
              show (wipe (wipe σ m) l).set y none = wipe σ m
              rw [ih m fun i hi => hm i (List.mem_cons_of_mem _ hi)]
              have hy : y ∈ m := hm y List.mem_cons_self
              have : ∀ (m : List Nat), y ∈ m → (wipe σ m)[y]? = some none ∨ (wipe σ m).length ≤ y := by
                intro m
                induction m with
                | nil => intro h; cases h
                | cons z m ih2 =>
                  intro h
                  show ((wipe σ m).set z none)[y]? = _ ∨ ((wipe σ m).set z none).length ≤ y
                  by_cases hz : z = y
                  · subst hz
                    by_cases hl : z < (wipe σ m).length
                    · exact .inl (List.getElem?_set_self hl)
                    · exact .inr (by simpa using hl)
                  · rw [List.getElem?_set_ne hz, List.length_set]
                    rcases List.mem_cons.mp h with h | h
                    · exact absurd h.symm hz
                    · exact ih2 h
              rcases this m hy with h | h
              · exact List.ext_getElem? fun j => by
                  by_cases hj : y = j
                  · subst hj
                    rw [h, List.getElem?_set_self (List.getElem?_eq_some_iff.mp h).1]
                  · rw [List.getElem?_set_ne hj]
              · exact List.set_eq_of_length_le h
          exact ww vs vs fun _ h => h
        · refine ⟨α2, env1, st2, e4, s4, ?_⟩
          dsimp only at q
          revert q
          cases hmt : mt env1 st2 with
          | no => exact fun q => q
          | ex x3 st3 => exact fun q => q.elim
          | ok b st3 =>
            cases b with
            | false =>
              intro q α5 H5 p5 k5 s5
              dsimp only
              rw [if_neg Bool.false_ne_true]
              exact ⟨α5, st3, (p2.trans p4).trans p5, (kk.trans k4).trans k5, s5, Go.on q (p4.trans p5) ((k3.trans k4).trans k5)⟩
            | true =>
              intro q α5 H5 p5 k5 s5
              dsimp only
              rw [if_pos rfl]
              refine ⟨α5, env1, st3, e4.mono p5 k5, s5, ?_⟩
              dsimp only at q
              revert q
              cases hme : me env1 st3 with
              | no => exact fun q => q
              | ex x3 st3 => exact fun q => q.elim
              | ok yv st4 =>
                intro q α6 H6 p6 k6 s6 v rv
                dsimp only at q
                revert q
                cases hw : rdW st4 st1.length with
                | none => exact fun q => q.elim
                | some acc =>
                  intro q
                  dsimp only at q
                  split at q
                  · rename_i hz
                    have a6 : α6[st1.length]? = some D := get_pre (((p2.trans p4).trans p5).trans p6) aD
                    obtain ⟨c1, us, hu, ru⟩ := s6.w hw a6
                    have kl : Keep H6 (upd H6 D (.lst (us ++ [v]))) := Keep.lst hu
                    have rr : RDs K α6 H6 (acc ++ [yv]) (us ++ [v]) := ru.app (.cons rv .nil)
                    refine ⟨us, hu, by rw [← ru.len]; exact hz, α6, _, ((p2.trans p4).trans p5).trans p6, (((kk.trans k4).trans k5).trans k6).trans kl, s6.put c1 a6 rr, Go.on q ((p4.trans p5).trans p6) ((((k3.trans k4).trans k5).trans k6).trans kl)⟩
                  · exact q.elim
    · exact q.elim
  · obtain ⟨α', st', p2, k2, s2, q⟩ := hP
    rw [List.drop_length] at q
    unfold loopC at q
    split at q
    · exact Go.here q s2 _ (.ref (get_pre p2 aD))
    · exact q.elim
theorem de_lc {elt iter : Expr} {ifs : List Expr} {scope : Scope} {own : List (Str × Nat)} {mi : MI} {g : GT} {ts : List Nat} {mt : En → Sto → R Bool} {me : En → Sto → R D} (hc : X.calm = true) (hN : X.N.Nodup) (hi : DI X W tg iter mi) (ok : BlkOk X.N X.env.scope scope own)
    (hv : ∀ i ∈ ts, i ∈ own.map (·.2))
    (hg : ∀ (s : Shared) (H : Hp) (C : Addr) (cl : List (Str × Addr)) (fp : List Addr), DG (X.blk s H scope (compEnvC scope cl C X.env) fp) tg ts g) (ht : ∀ (s : Shared) (H : Hp) (C : Addr) (cl : List (Str × Addr)) (fp : List Addr), DTs (X.blk s H scope (compEnvC scope cl C X.env) fp) W0 ifs mt)
    (he : ∀ (s : Shared) (H : Hp) (C : Addr) (cl : List (Str × Addr)) (fp : List Addr), DE (X.blk s H scope (compEnvC scope cl C X.env) fp) W0 elt me) (hs : ∀ x, foldedSetIterable iter X.env x = pure x := by intro _; rfl) :
    DE X W (.ListComp elt [⟨tg, iter, ifs, 0⟩] scope pos) (mLc mi g mt me (own.map (·.2))) := PE.weak (pe_lc hc hN hi ok hg ht he hs) fun _ _ _ => lc_of hv
theorem ds_setLc {i : Nat} {y : Str} {py : Pos} {elt iter : Expr} {ifs : List Expr} {scope : Scope} {own : List (Str × Nat)} {spos : Pos} {mi : MI} {g : GT} {ts : List Nat} {mt : En → Sto → R Bool} {me : En → Sto → R D} (hc : X.calm = true) (hN : X.N.Nodup) (hy : X.N[i]? = some y) (hyl : X.env.scope.names.lookup y = some .local)
    (hsw : swapsWith (.ListComp elt [⟨tg, iter, ifs, 0⟩] scope pos) (some (.Name y py)) spos.line X.env = pure true) (hi : DI X W tg iter mi) (ok : BlkOk X.N X.env.scope scope own) (hv : ∀ i ∈ ts, i ∈ own.map (·.2))
    (hg : ∀ (s : Shared) (H : Hp) (C : Addr) (cl : List (Str × Addr)) (fp : List Addr), DG (X.blk s H scope (compEnvC scope cl C X.env) fp) tg ts g) (ht : ∀ (s : Shared) (H : Hp) (C : Addr) (cl : List (Str × Addr)) (fp : List Addr), DTs (X.blk s H scope (compEnvC scope cl C X.env) fp) W0 ifs mt)
    (he : ∀ (s : Shared) (H : Hp) (C : Addr) (cl : List (Str × Addr)) (fp : List Addr), DE (X.blk s H scope (compEnvC scope cl C X.env) fp) W0 elt me) (hs : ∀ x, foldedSetIterable iter X.env x = pure x := by intro _; rfl) :
    DS X W (.Assign [.Name y py] (.ListComp elt [⟨tg, iter, ifs, 0⟩] scope pos) spos) (sAsg (mLc mi g mt me (own.map (·.2))) (gN i)) := by
  refine PS.weak (ps_setLc (wi := tI X.K W mi) (g := tG X.K ts g) (tt := tT X.K W0 mt) (te := tE X.K W0 me) hc hN hy hyl hsw hi ok hg ht he hs) fun Dn σ H h => ?_
  obtain ⟨α, env, st, hE, hS, h⟩ := h
  refine lc_of hv ⟨α, env, st, hE, hS, (h.toGo hE).mono fun d st1 α1 H1 p1 k1 s1 h1 v rv => ?_⟩
  exact h1 α1 _ H1 (List.prefix_refl _) (Keep.refl _) s1 ((hE.mono p1 k1).set rv)
end
end DL
set_option Elab.async false
set_option linter.all false
set_option maxRecDepth 100000
namespace DL
open PySem PySem.Spec PyProof.Rows L2

/-! ### defs -/
/-- room for k calls, and nothing is being shown -/
structure RG (k : Nat) (A : Around) : Prop where
  r : Room k A
  g : A.guards = some []
theorem RG.mono {j k : Nat} {A : Around} (h : RG k A) (le : j ≤ k) : RG j A := ⟨h.r.mono le, h.g⟩
/-- what a def does, by data -/
def GoC (K : PySem.W.Frag) (α : List Addr) (H : Hp) (Q : VK) (E : XK) : R D → Prop
  | .ok d st => ∀ α' H' v, α <+: α' → Keep H H' → SR K α' st H' → RD K α' H' d v → Q v H'
  | .ex x st => ∀ α' H' c dx, α <+: α' → Keep H H' → SR K α' st H' → RX K α' H' x c dx → E c dx H'
  | .no => False
def spD (K : PySem.W.Frag) (n : Nat) (f : List D → Sto → R D) : Sp := fun vs H Q E => vs.length = n ∧ ∃ α st ds, SR K α st H ∧ RDs K α H ds vs ∧ GoC K α H Q E (f ds st)
/-- a def keeps its promise, where nothing is being shown -/
structure FnG (P : Program) (w : World) (K : PySem.W.Frag) (mg : Str → Option Value) (base : Heap) (k : Nat) (f : Addr) (fd : FuncData) (ps : List Str) (sp : Sp) : Prop where
  len : ∀ vs H Q E, sp vs H Q E → vs.length = ps.length
  run : ∀ (A : Around) (outer : List Env) (s : Shared) (H : Hp) (args : Args) (us : List Value) (vs : List V) (Q : VK) (E : XK), RG k A → Env0 P w K mg base A outer s H → BindsTo s fd args (ps.zip us) → Vals vs us → sp vs H Q E →
    codeAny (model P w) A (.call (.ref f) args) (CR (L2.CX P w) outer P w H s Q E) s
theorem FnG.mono {P : Program} {w : World} {K : PySem.W.Frag} {mg : Str → Option Value} {base : Heap} {j k : Nat} {f : Addr} {fd : FuncData} {ps : List Str} {sp : Sp} (F : FnG P w K mg base j f fd ps sp) (h : j ≤ k) : FnG P w K mg base k f fd ps sp :=
  ⟨F.len, fun A outer s H args us vs Q E hr => F.run A outer s H args us vs Q E (hr.mono h)⟩

section
variable {X : Cx} {W : WX} {pos : Pos} {k : Nat} {f : Addr} {fd : FuncData} {ps : List Str}
theorem run_fnG {sp : Sp} {E : XK} {pins : List (Addr × Obj)} {σ : L2.St} {H : Hp} {s : Shared} {Q : VK} {us : List Value} {vs : List V} (F : FnG X.prog X.w X.K X.mg X.base k f fd ps sp) (hr : RG k X.A) (hb : Binds X.K fd ps []) (hx : PassesAt (L2.CX X.prog X.w) X σ E)
    (I : Inv X pins σ H s) (r : Vals vs us) (h : sp vs H Q E) : wpAny (model X.prog X.w) X.A (call (.ref f) us) (EP X pins σ Q) X.xe s := by
  have len1 : us.length = ps.length := (r.length.symm).trans (F.len _ _ _ _ h)
  have bnd := hb s us I.kIn (by rw [List.append_nil]; exact len1)
  rw [List.append_nil] at bnd
  have go := F.run X.A X.stack s H ⟨us, []⟩ us vs Q E hr I.env0 bnd r h
  refine wpAny_call (codeAny_mono go fun res s' q => ?_)
  match res, q with
  | .error e, q => exact hx pins H s e s' I q
  | .ok (.ret u), q => exact I.after q
  | .ok .next, q => exact q.elim
  | .ok .brk, q => exact q.elim
  | .ok .cont, q => exact q.elim
def mCall (g : List D → Sto → R D) (mr : En → Sto → R (List D)) (env : En) (st : Sto) : R D := (mr env st).bind fun ds st1 => g ds st1
theorem GoC.of_go {K : PySem.W.Frag} {α : List Addr} {H : Hp} {σ : L2.St} {r : R D} {Q : VK} (h : Go K W α H σ r fun d _ α' H' => ∀ v, RD K α' H' d v → Q v H') : GoC K α H Q (WE W σ) r := by
  cases r with
  | ok d st => exact fun α' H' v p q s rv => h α' H' p q s v rv
  | ex x st => exact h
  | no => exact h
/-- how many arguments come -/
def AL (n : Nat) (mr : En → Sto → R (List D)) : Prop := ∀ env st ds s, mr env st = .ok ds s → ds.length = n
theorem al_nil : AL 0 aNil := fun env st ds s h => by cases h; rfl
theorem al_cons {n : Nat} {ma : En → Sto → R D} {mr : En → Sto → R (List D)} (h : AL n mr) : AL (n + 1) (aCons ma mr) := fun env st ds s e => by
  unfold aCons at e
  revert e
  cases ma env st with
  | ok x st1 =>
    show (mr env st1).bind _ = _ → _
    cases q : mr env st1 with
    | ok xs st2 =>
      intro e
      cases e
      rw [List.length_cons, h _ _ _ _ q]
    | ex x st1 => exact fun e => nomatch e
    | no => exact fun e => nomatch e
  | ex x st1 => exact fun e => nomatch e
  | no => exact fun e => nomatch e
/-- f(e, ..) -/
theorem de_call {x : Str} {p : Pos} {e : Expr} {es : List Expr} {n : Nat} {g : List D → Sto → R D} {mr : En → Sto → R (List D)} (F : FnG X.prog X.w X.K X.mg X.base k f fd ps (spD X.K n g)) (hr : RG k X.A) (hg : Gl X x) (hm : X.mg x = some (.ref f)) (hk : PySem.W.keepIn X.K (.ref f) = true) (hb : Binds X.K fd ps []) (tk : Takes X W)
    (ha : DA X W (e :: es) mr) (hn : (e :: es).length = n) (hl : AL n mr) (hdb : (x == ("__debug__" : Str)) = false := by decide) (he : starEach (e :: es) X.env = (false, eval e X.env) :: starEach es X.env := by rfl) (hpl : (backTo pos (starEach es X.env)).any (·.1) = false := by rfl) :
    DE X W (.Call (.Name x p) (e :: es) [] pos) (mCall g mr) := by
  refine ⟨fun pins s σ H Q I h => ?_⟩
  obtain ⟨α, env, st, hE, hS, h⟩ := h
  refine wpAny_Call_Name_kw (ld_glob I hg hm ?_ hdb)
  refine PySem.W.callWith_K (h₀ := X.base) I.ok.mod.kin hk (thn (ha.run pos pins s σ H (fun vs H1 => ∃ α1 ds st1, SR X.K α1 st1 H1 ∧ RDs X.K α1 H1 ds vs ∧ ds.length = n ∧ GoC X.K α1 H1 Q (WE W σ) (g ds st1)) I ⟨α, env, st, hE, hS, ?_⟩) fun us s1 h1 => ?_) he hpl
  · have hlen := hl env st
    have key := h.bind
    revert hlen key
    cases mr env st with
    | ok ds st1 => exact fun hlen key α1 H1 p1 k1 s1 vs rvs => ⟨α1, ds, st1, s1, rvs, hlen _ _ rfl, .of_go (key α1 H1 p1 k1 s1)⟩
    | ex x st1 => exact fun _ key => key
    | no => exact fun _ key => key
  · obtain ⟨vs, H1, I1, rv, α1, ds, st1, s1, rd, hlen, q⟩ := h1
    exact ⟨I1.kIn, run_fnG F hr hb (passAt tk σ) I1 rv ⟨by rw [← rd.len]; exact hlen, α1, st1, ds, s1, rd, q⟩⟩
theorem de_call0 {x : Str} {p : Pos} {g : List D → Sto → R D} (F : FnG X.prog X.w X.K X.mg X.base k f fd ps (spD X.K 0 g)) (hr : RG k X.A) (hg : Gl X x) (hm : X.mg x = some (.ref f)) (hk : PySem.W.keepIn X.K (.ref f) = true) (hb : Binds X.K fd ps []) (tk : Takes X W)
    (hdb : (x == ("__debug__" : Str)) = false := by decide) : DE X W (.Call (.Name x p) [] [] pos) (mCall g aNil) := by
  refine ⟨fun pins s σ H Q I h => ?_⟩
  obtain ⟨α, env, st, hE, hS, h⟩ := h
  refine wpAny_Call_Name_kw (ld_glob I hg hm ?_ hdb)
  refine PySem.W.callWith_K0 I.kIn hk (run_fnG (us := []) F hr hb (passAt tk σ) I .nil ⟨rfl, α, st, [], hS, .nil, ?_⟩)
  exact .of_go h
end

/-! ### a def by its body -/
def mDef (n : Nat) (body : En → Sto → RS) (ds : List D) (st : Sto) : R D := match body (ds.map some ++ List.replicate (n - ds.length) none) st with
  | .nx _ st' => .ok .non st'
  | .rt d st' => .ok d st'
  | .ex x _ st' => .ex x st'
  | _ => .no
theorem ER.begun {K : PySem.W.Frag} {α : List Addr} {H : Hp} {ds : List D} {vs : List V} {N : List Str} (r : RDs K α H ds vs) : ER K α (ds.map some ++ List.replicate (N.length - ds.length) none) (start N vs) H := by
  have hl := r.len
  refine ⟨by unfold L2.start; simp [hl], fun i d e => ?_⟩
  have hi : i < ds.length := by
    by_cases hi : i < ds.length
    · exact hi
    · rw [List.getElem?_append_right (by simpa using hi), List.getElem?_replicate] at e
      split at e <;> cases e
  rw [List.getElem?_append_left (by simpa using hi), List.getElem?_map] at e
  have e' : ds[i]? = some d := by
    cases q : ds[i]? with
    | none => rw [q] at e; cases e
    | some d' => rw [q] at e; cases e; rfl
  obtain ⟨v, g1, g2⟩ := r.getD e'
  refine ⟨v, ?_, g2⟩
  unfold L2.start
  rw [List.getElem?_append_left (by simpa [← hl] using hi), List.getElem?_map, g1]
  rfl
section
variable {P : Program} {w : World} {K : PySem.W.Frag} {mg : Str → Option Value} {base : Heap}
/-- a context in which the body of a def runs -/
abbrev bodyX (P : Program) (w : World) (K : PySem.W.Frag) (mg : Str → Option Value) (base : Heap) (N : List Str) (qual : Str) (st : Stmt) (f : Addr) (cdv : Value) (A : Around) (outer : List Env) (s : Shared) (H : Hp) (E : XK) : Cx :=
  cxOf (L2.CX P w) P w K mg base N qual (defScope st) f cdv A outer s H E
/-- THE RULE for a def -/
theorem fn_d {x qual : Str} {st : Stmt} {f : Addr} {fd : FuncData} {N ps : List Str} {k n : Nat} {body : En → Sto → RS} (F : Fun K x qual st f fd) (S : FnScope N ps (defScope st)) (hn : n = ps.length)
    (hbody : ∀ (cdv : Value) (A : Around) (outer : List Env) (s : Shared) (H : Hp) (E : XK), RG k (A.deeper (envOfC qual (defScope st) s.heap.objs.size f cdv)) → Takes (bodyX P w K mg base N qual st f cdv A outer s H E) (fun c d _ H => E c d H) → PassesOwn (model P w) (A.deeper (envOfC qual (defScope st) s.heap.objs.size f cdv)) (envOfC qual (defScope st) s.heap.objs.size f cdv) (bodyX P w K mg base N qual st f cdv A outer s H E).xe →
      DSs (bodyX P w K mg base N qual st f cdv A outer s H E) (fun c d _ H => E c d H) (defBody st) body) : FnG P w K mg base (k + 1) f fd ps (spD K n (mDef N.length body)) := by
  subst hn
  obtain ⟨oc, od, kV, doc, pm, an, cdv, ct, osl, rfl, lk, hcd⟩ := F.ex
  refine ⟨fun vs H Q E h => h.1, fun A outer s H args us vs Q E hr e0 hb rv hsp => ?_⟩
  obtain ⟨hl, α, st0, ds, hS, rd, hq⟩ := hsp
  have inK : K.In s.heap := e0.mod.kin.keeps fun b o e => (e0.bs b o e).1
  have nol : s.heap.NoLimit := e0.mod.nolimit.keeps fun b o e => (e0.bs b o e).1
  refine codeAny_call_function hr.r.depth (inK _ _ lk) rfl S.co S.gen rfl (PySem.W.codeRec_of inK hcd) (hb _ _ _ _ ?_)
  refine wpAny_newFunctionEnv_cells S.kind (fun y hy => ?_) fun env he s1 hx => ?_
  · obtain ⟨nm, vv⟩ := y
    have mem := (List.of_mem_zip hy).1
    exact (S.par nm mem).elim .inl fun c => .inr ⟨c, PySem.W.cellsFrom_some _ _ _ (.inl c)⟩
  · subst he
    refine ⟨nol.keeps hx.toInCall.keep, codeAny_func ?_⟩
    have rg : RG k (A.deeper (envOfC qual (defScope st) s.heap.objs.size f cdv)) := ⟨hr.r.deeper _, hr.g⟩
    have tk : Takes (bodyX P w K mg base N qual st f cdv A outer s H E) (fun c d _ H => E c d H) := takes_of rfl rfl rfl rfl
    have ht := hbody cdv A outer s H E rg tk (passes_of rfl)
    have inv0 : Inv (bodyX P w K mg base N qual st f cdv A outer s H E) [] (start N vs) H s1 := inv_start S hr.r.hd e0 hl rv hx
    have done : ∀ {σ' : L2.St} {H' : Hp} {v : V} {u : Value} {s' : Shared}, Inv (bodyX P w K mg base N qual st f cdv A outer s H E) [] σ' H' s' → RelV v u → Q v H' → CE outer P w H s Q u s' :=
      fun {σ' H' v u s'} J rv q => ⟨v, H', J.os, J.bare, J.base, J.hok, rv, q⟩
    refine wpAny_mono (ht.run [] s1 (start N vs) H { nx := fun _ H' => Q .non H', rt := Q } inv0 ⟨α, ds.map some ++ List.replicate (N.length - ds.length) none, st0, ER.begun rd, hS, ?_⟩) (fun fl s' hs => ?_) fun e s' hs => hs
    · unfold mDef at hq
      revert hq
      cases body (ds.map some ++ List.replicate (N.length - ds.length) none) st0 with
      | nx env1 st1 => exact fun hq α' σ' H' p q s e => hq α' H' .non p q s .non
      | rt d st1 => exact fun hq => hq
      | bk env1 st1 => exact fun hq => hq.elim
      | ct env1 st1 => exact fun hq => hq.elim
      | ex x1 env1 st1 => exact fun hq α' σ' H' c dx p q s e rx => hq α' H' c dx p q s rx
      | no => exact fun hq => hq
    · match fl, hs with
      | .ret u, ⟨v, σ', H', J, rv, q⟩ => exact done J rv q
      | .next, ⟨σ', H', J, q⟩ => exact done (v := V.non) (u := Value.none) J rfl q
      | .brk, ⟨_, _, _, q⟩ => exact q.elim
      | .cont, ⟨_, _, _, q⟩ => exact q.elim
end
end DL
set_option Elab.async false
set_option linter.all false
set_option maxRecDepth 100000
namespace DL
open PySem PySem.Spec PyProof.Rows L2
section
variable {X : Cx} {W : WX} {pos : Pos}
/-! ### methods of lists -/
abbrev OM := D → List D → Sto → R D
def rDm (K : PySem.W.Frag) (f : OM) : V → List V → Hp → VK → Prop := fun x xs H Q => ∃ α st a ds, SR K α st H ∧ RD K α H a x ∧ RDs K α H ds xs ∧ Rw (f a ds st) fun d st' => Fin K α H Q d st'
def mMeth (f : OM) (mo : En → Sto → R D) (mr : En → Sto → R (List D)) (env : En) (st : Sto) : R D := (mo env st).bind fun o st1 => match o with
  | .ref r => match rdL st1 r with
    | some _ => (mr env st1).bind fun ds st2 => noEx (f (.ref r) ds st2)
    | none => .no
  | _ => .no
variable {o e : Expr} {es : List Expr} {mo : En → Sto → R D} {mr : En → Sto → R (List D)} {name : Str} {apos cpos : Pos} {id : String}
theorem de_meth {f : OM} (pa : PlainAttrs "list") (slot : Slot "list" name id) (hty : typeOf (.builtin id) = pure (.type "method_descriptor")) (hm : MtR X id (rDm X.K f)) (ho : DE X W o mo) (ha : DA X W (e :: es) mr)
    (hbase : attributeBase o name X.env (eval o X.env) = eval o X.env := by rfl)
    (hfew : ((backTo cpos (starEach (e :: es) X.env)).all (fun x => !x.1) && (backToKw cpos (keywordEach [] X.env)).all (fun x => x.1.isSome)
      && decide ((e :: es).length + ([] : List Keyword).length + (if ([] : List Keyword).isEmpty then 0 else 1) < 30)) = true := by rfl)
    (hline : (apos.endLine == cpos.line) = true := by rfl) (hs : starEach (e :: es) X.env = (false, eval e X.env) :: starEach es X.env := by rfl) (hplain : (backTo cpos (starEach es X.env)).any (·.1) = false := by rfl) :
    DE X W (.Call (.Attribute o name apos) (e :: es) [] cpos) (mMeth f mo mr) := by
  refine PE.weak (pe_bm pa slot hty hm ho ha hbase hfew hline hs hplain) fun σ H Q h => ?_
  obtain ⟨α, env, st, hE, hS, h⟩ := h
  refine ⟨α, env, st, hE, hS, h.bind.mono fun x st1 α1 H1 p1 k1 s1 h1 v rv => ?_⟩
  split at h1
  · rename_i r
    obtain ⟨a, rfl, ea⟩ := rv.ref_of
    split at h1
    · rename_i xs e1
      obtain ⟨vs, h0, r1⟩ := s1.l e1 ea
      refine ⟨.inl ⟨rfl, vs, h0⟩, α1, env, st1, hE.mono p1 k1, s1, h1.bind.mono fun ds st2 α2 H2 p2 k2 s2 h2 ws rws => ?_⟩
      exact ⟨α2, st2, .ref r, ds, s2, rv.mono p2 k2, rws, h2.rw.mono fun d st3 q α' H' w p k s rw => q α' H' p k s w rw⟩
    · exact h1.elim
  · exact h1.elim
def fAppend : OM := fun o ds st => match o, ds with
  | .ref r, [d] => match rdW st r with
    | some xs => if xs.length < sizeLine then .ok .non (st.set r (.lst (xs ++ [d]))) else .no
    | none => .no
  | _, _ => .no
theorem md_append : MtR X "list.append" (rDm X.K fAppend) := by
  intro pins s σ H x xs v us Q I rx rv h
  obtain ⟨α, st, a, ds, S, ra, rd, h⟩ := h
  unfold fAppend at h
  split at h
  · obtain ⟨p, rfl, ea⟩ := ra.ref_of
    obtain ⟨w, rfl, rw'⟩ := rd.one
    split at h
    · rename_i ys e1
      obtain ⟨c1, ws, hw, rr⟩ := S.w e1 ea
      split at h
      · rename_i hz
        exact mt_append pins s σ H _ _ v us Q I rx rv ⟨p, ws, w, rfl, rfl, hw, by rw [← rr.len]; exact hz, Fin.put h S c1 ea hw (rr.app (.cons rw' .nil)) .non⟩
      · exact h.elim
    · exact h.elim
  · exact h.elim
def fExtend : OM := fun o ds st => match o, ds with
  | .ref r, [.ref q] => match rdW st r, rdW st q with
    | some xs, some ys => if xs.length + ys.length ≤ sizeLine then .ok .non (st.set r (.lst (xs ++ ys))) else .no
    | _, _ => .no
  | _, _ => .no
theorem md_extend : MtR X "list.extend" (rDm X.K fExtend) := by
  intro pins s σ H x xs v us Q I rx rv h
  obtain ⟨α, st, a, ds, S, ra, rd, h⟩ := h
  unfold fExtend at h
  split at h
  · obtain ⟨p, rfl, ea⟩ := ra.ref_of
    obtain ⟨w, rfl, rw'⟩ := rd.one
    obtain ⟨q, rfl, eb⟩ := rw'.ref_of
    split at h
    · rename_i ys zs e1 e2
      obtain ⟨c1, ws, hw, rr⟩ := S.w e1 ea
      obtain ⟨c2, us2, hu, rr2⟩ := S.w e2 eb
      split at h
      · rename_i hz
        have l1 := rr.len
        have l2 := rr2.len
        exact mt_extend pins s σ H _ _ v us Q I rx rv ⟨p, q, ws, us2, rfl, rfl, hw, hu, by omega, Fin.put h S c1 ea hw (rr.app rr2) .non⟩
      · exact h.elim
    · exact h.elim
  · exact h.elim
def fPop : OM := fun o ds st => match o, ds with
  | .ref r, [.int i] => match rdW st r with
    | some xs => if -(2 ^ 63) ≤ i ∧ i < 2 ^ 63 then (match seqIndex? i xs.length with
      | some k => match xs[k]? with
        | some d => .ok d (st.set r (.lst (xs.eraseIdx k)))
        | none => .no
      | none => .no) else .no
    | none => .no
  | _, _ => .no
theorem md_pop : MtR X "list.pop" (rDm X.K fPop) := by
  intro pins s σ H x xs v us Q I rx rv h
  obtain ⟨α, st, a, ds, S, ra, rd, h⟩ := h
  unfold fPop at h
  split at h
  · obtain ⟨p, rfl, ea⟩ := ra.ref_of
    obtain ⟨w, rfl, rw'⟩ := rd.one
    have e2 := rw'.int_of; subst e2
    split at h
    · rename_i ys e1
      obtain ⟨c1, ws, hw, rr⟩ := S.w e1 ea
      split at h
      · rename_i hz
        split at h
        · rename_i k ek
          split at h
          · rename_i d ed
            obtain ⟨u, hu, ru⟩ := rr.getD ed
            exact mt_popAt pins s σ H _ _ v us Q I rx rv ⟨p, ws, _, k, u, rfl, rfl, hw, hz.1, hz.2, by rw [← rr.len]; exact ek, hu, Fin.put h S c1 ea hw (rr.erase k) ru⟩
          · exact h.elim
        · exact h.elim
      · exact h.elim
    · exact h.elim
  · exact h.elim
theorem de_append (ho : DE X W o mo) (ha : DA X W (e :: es) mr)
    (hbase : attributeBase o "append" X.env (eval o X.env) = eval o X.env := by rfl)
    (hfew : ((backTo cpos (starEach (e :: es) X.env)).all (fun x => !x.1) && (backToKw cpos (keywordEach [] X.env)).all (fun x => x.1.isSome)
      && decide ((e :: es).length + ([] : List Keyword).length + (if ([] : List Keyword).isEmpty then 0 else 1) < 30)) = true := by rfl)
    (hline : (apos.endLine == cpos.line) = true := by rfl) (hs : starEach (e :: es) X.env = (false, eval e X.env) :: starEach es X.env := by rfl) (hplain : (backTo cpos (starEach es X.env)).any (·.1) = false := by rfl) :
    DE X W (.Call (.Attribute o "append" apos) (e :: es) [] cpos) (mMeth fAppend mo mr) := de_meth PySem.F.plainAttrs_list PySem.F.slot_list_append PySem.F.type_list_append md_append ho ha hbase hfew hline hs hplain
theorem de_extend (ho : DE X W o mo) (ha : DA X W (e :: es) mr)
    (hbase : attributeBase o "extend" X.env (eval o X.env) = eval o X.env := by rfl)
    (hfew : ((backTo cpos (starEach (e :: es) X.env)).all (fun x => !x.1) && (backToKw cpos (keywordEach [] X.env)).all (fun x => x.1.isSome)
      && decide ((e :: es).length + ([] : List Keyword).length + (if ([] : List Keyword).isEmpty then 0 else 1) < 30)) = true := by rfl)
    (hline : (apos.endLine == cpos.line) = true := by rfl) (hs : starEach (e :: es) X.env = (false, eval e X.env) :: starEach es X.env := by rfl) (hplain : (backTo cpos (starEach es X.env)).any (·.1) = false := by rfl) :
    DE X W (.Call (.Attribute o "extend" apos) (e :: es) [] cpos) (mMeth fExtend mo mr) := de_meth PySem.F.plainAttrs_list PySem.F.slot_list_extend PySem.F.type_list_extend md_extend ho ha hbase hfew hline hs hplain
theorem de_pop (ho : DE X W o mo) (ha : DA X W (e :: es) mr)
    (hbase : attributeBase o "pop" X.env (eval o X.env) = eval o X.env := by rfl)
    (hfew : ((backTo cpos (starEach (e :: es) X.env)).all (fun x => !x.1) && (backToKw cpos (keywordEach [] X.env)).all (fun x => x.1.isSome)
      && decide ((e :: es).length + ([] : List Keyword).length + (if ([] : List Keyword).isEmpty then 0 else 1) < 30)) = true := by rfl)
    (hline : (apos.endLine == cpos.line) = true := by rfl) (hs : starEach (e :: es) X.env = (false, eval e X.env) :: starEach es X.env := by rfl) (hplain : (backTo cpos (starEach es X.env)).any (·.1) = false := by rfl) :
    DE X W (.Call (.Attribute o "pop" apos) (e :: es) [] cpos) (mMeth fPop mo mr) := de_meth PySem.F.plainAttrs_list PySem.F.slot_list_pop PySem.F.type_list_pop md_pop ho ha hbase hfew hline hs hplain

/-! ### in -/
def oIn : O2 := fun a b st => match toP st a, toP st b with
  | some p, some (.tuple qs) => if SeqAt.shaped p = true ∧ PyData.canLayAll0 qs = true then .ok (.bl (qs.any fun z => PyData.eqv z p)) st else .no
  | some p, some (.list qs) => if SeqAt.shaped p = true ∧ PyData.canLayAll0 qs = true then .ok (.bl (qs.any fun z => PyData.eqv z p)) st else .no
  | _, _ => .no
def oNotIn : O2 := fun a b st => match toP st a, toP st b with
  | some p, some (.tuple qs) => if SeqAt.shaped p = true ∧ PyData.canLayAll0 qs = true then .ok (.bl (!qs.any fun z => PyData.eqv z p)) st else .no
  | some p, some (.list qs) => if SeqAt.shaped p = true ∧ PyData.canLayAll0 qs = true then .ok (.bl (!qs.any fun z => PyData.eqv z p)) st else .no
  | _, _ => .no
theorem in_room {A : Around} {p : PyData} {qs : List PyData} (hs : SeqAt.shaped p = true) (hu : A.units + 66 < cLine) : A.units + 1 + min (PyData.depthAll qs) p.depth < cLine := by
  have h1 := SeqAt.depth_of_shaped hs
  have h2 : min (PyData.depthAll qs) p.depth ≤ p.depth := Nat.min_le_right _ _
  omega
theorem od_in (hu : X.A.units + 66 < cLine) : OD2 X (compareOp .In) oIn := by
  intro pins s σ H x y v u Q I rx ry h
  obtain ⟨α, st, a, b, S, ra, rb, h⟩ := h
  unfold oIn at h
  split at h
  · rename_i p qs e1 e2
    split at h
    · rename_i hs
      obtain ⟨as, r1⟩ := Dp.reads I p x v (dp_toP S e1 ra) rx
      obtain ⟨bs, r2⟩ := Dp.reads I (.tuple qs) y u (dp_toP S e2 rb) ry
      exact SeqAt.in_tuple_reads r2 r1 hs.2 (SeqAt.canLay_of_shaped hs.1) (in_room hs.1 hu) ⟨.bl _, H, I, rfl, Fin.here h S (.bl _)⟩
    · exact h.elim
  · rename_i p qs e1 e2
    split at h
    · rename_i hs
      obtain ⟨as, r1⟩ := Dp.reads I p x v (dp_toP S e1 ra) rx
      obtain ⟨bs, r2⟩ := Dp.reads I (.list qs) y u (dp_toP S e2 rb) ry
      exact SeqAt.in_list_reads r2 r1 hs.2 (SeqAt.canLay_of_shaped hs.1) (in_room hs.1 hu) ⟨.bl _, H, I, rfl, Fin.here h S (.bl _)⟩
    · exact h.elim
  · exact h.elim
theorem od_notin (hu : X.A.units + 66 < cLine) : OD2 X (compareOp .NotIn) oNotIn := by
  intro pins s σ H x y v u Q I rx ry h
  obtain ⟨α, st, a, b, S, ra, rb, h⟩ := h
  unfold oNotIn at h
  split at h
  · rename_i p qs e1 e2
    split at h
    · rename_i hs
      obtain ⟨as, r1⟩ := Dp.reads I p x v (dp_toP S e1 ra) rx
      obtain ⟨bs, r2⟩ := Dp.reads I (.tuple qs) y u (dp_toP S e2 rb) ry
      exact SeqAt.notIn_tuple_reads r2 r1 hs.2 (SeqAt.canLay_of_shaped hs.1) (in_room hs.1 hu) ⟨.bl _, H, I, rfl, Fin.here h S (.bl _)⟩
    · exact h.elim
  · rename_i p qs e1 e2
    split at h
    · rename_i hs
      obtain ⟨as, r1⟩ := Dp.reads I p x v (dp_toP S e1 ra) rx
      obtain ⟨bs, r2⟩ := Dp.reads I (.list qs) y u (dp_toP S e2 rb) ry
      exact SeqAt.notIn_list_reads r2 r1 hs.2 (SeqAt.canLay_of_shaped hs.1) (in_room hs.1 hu) ⟨.bl _, H, I, rfl, Fin.here h S (.bl _)⟩
    · exact h.elim
  · exact h.elim

/-! ### max, min of a list of ints -/
def maxI : List Int → Option Int
  | [] => none
  | x :: r => some (r.foldl max x)
def minI : List Int → Option Int
  | [] => none
  | x :: r => some (r.foldl min x)
theorem foldl_max_spec : ∀ (r : List Int) (x : Int), (r.foldl max x = x ∨ r.foldl max x ∈ r) ∧ x ≤ r.foldl max x ∧ ∀ y ∈ r, y ≤ r.foldl max x
  | [], x => by simp
  | z :: r, x => by
    obtain ⟨h1, h2, h3⟩ := foldl_max_spec r (max x z)
    simp only [List.foldl_cons, List.mem_cons]
    refine ⟨?_, by omega, fun y hy => ?_⟩
    · rcases h1 with h1 | h1
      · rw [h1]; omega
      · exact .inr (.inr h1)
    · rcases hy with rfl | hy
      · omega
      · exact h3 y hy
theorem foldl_min_spec : ∀ (r : List Int) (x : Int), (r.foldl min x = x ∨ r.foldl min x ∈ r) ∧ r.foldl min x ≤ x ∧ ∀ y ∈ r, r.foldl min x ≤ y
  | [], x => by simp
  | z :: r, x => by
    obtain ⟨h1, h2, h3⟩ := foldl_min_spec r (min x z)
    simp only [List.foldl_cons, List.mem_cons]
    refine ⟨?_, by omega, fun y hy => ?_⟩
    · rcases h1 with h1 | h1
      · rw [h1]; omega
      · exact .inr (.inr h1)
    · rcases hy with rfl | hy
      · omega
      · exact h3 y hy
theorem maxI_spec {ns : List Int} {m : Int} (h : maxI ns = some m) : m ∈ ns ∧ ∀ y ∈ ns, y ≤ m := by
  cases ns with
  | nil => cases h
  | cons x r =>
    cases h
    obtain ⟨h1, h2, h3⟩ := foldl_max_spec r x
    exact ⟨by simp only [List.mem_cons]; exact h1, by simp only [List.mem_cons]; rintro y (rfl | hy); exact h2; exact h3 y hy⟩
theorem minI_spec {ns : List Int} {m : Int} (h : minI ns = some m) : m ∈ ns ∧ ∀ y ∈ ns, m ≤ y := by
  cases ns with
  | nil => cases h
  | cons x r =>
    cases h
    obtain ⟨h1, h2, h3⟩ := foldl_min_spec r x
    exact ⟨by simp only [List.mem_cons]; exact h1, by simp only [List.mem_cons]; rintro y (rfl | hy); exact h2; exact h3 y hy⟩
def bMax1 : List D → Sto → R D := fun ds st => match ds with
  | [.ref r] => match ((rdL st r).bind intsOf).bind maxI with
    | some m => .ok (.int m) st
    | none => .no
  | _ => .no
def bMin1 : List D → Sto → R D := fun ds st => match ds with
  | [.ref r] => match ((rdL st r).bind intsOf).bind minI with
    | some m => .ok (.int m) st
    | none => .no
  | _ => .no
theorem cd_max1 (hc : X.calm = true) : CDs X (.builtin "max") bMax1 := by
  intro pins s σ H vs us Q I rv h
  obtain ⟨α, st, ds, S, rd, h⟩ := h
  unfold bMax1 at h
  split at h
  · split at h
    · rename_i m e
      obtain ⟨ns, e0, e3⟩ := Option.bind_eq_some_iff.mp e
      obtain ⟨xs, e1, e2⟩ := Option.bind_eq_some_iff.mp e0
      obtain ⟨v, rfl, r⟩ := rd.one
      obtain ⟨p, rfl, a1⟩ := r.ref_of
      obtain ⟨ws, h0, r1⟩ := S.l e1 a1
      rw [intsOf_map e2] at r1
      rw [r1.toInts] at h0
      obtain ⟨g1, g2⟩ := maxI_spec e3
      refine cr_max hc pins s σ H _ us Q I rv ⟨p, ns, rfl, h0, List.length_pos_of_mem g1, fun m' k1 k2 => ?_⟩
      have em : m' = m := by have := g2 m' k1; have := k2 m g1; omega
      subst em
      exact Fin.here h S (.int _)
    · exact h.elim
  · exact h.elim
theorem cd_min1 (hc : X.calm = true) : CDs X (.builtin "min") bMin1 := by
  intro pins s σ H vs us Q I rv h
  obtain ⟨α, st, ds, S, rd, h⟩ := h
  unfold bMin1 at h
  split at h
  · split at h
    · rename_i m e
      obtain ⟨ns, e0, e3⟩ := Option.bind_eq_some_iff.mp e
      obtain ⟨xs, e1, e2⟩ := Option.bind_eq_some_iff.mp e0
      obtain ⟨v, rfl, r⟩ := rd.one
      obtain ⟨p, rfl, a1⟩ := r.ref_of
      obtain ⟨ws, h0, r1⟩ := S.l e1 a1
      rw [intsOf_map e2] at r1
      rw [r1.toInts] at h0
      obtain ⟨g1, g2⟩ := minI_spec e3
      refine cr_min hc pins s σ H _ us Q I rv ⟨p, ns, rfl, h0, List.length_pos_of_mem g1, fun m' k1 k2 => ?_⟩
      have em : m' = m := by have := g2 m' k1; have := k2 m g1; omega
      subst em
      exact Fin.here h S (.int _)
    · exact h.elim
  · exact h.elim

/-! ### sorted, of ints and of pairs of ints -/
def insI (x : Int) : List Int → List Int
  | [] => [x]
  | y :: r => if x ≤ y then x :: y :: r else y :: insI x r
def sortI : List Int → List Int
  | [] => []
  | x :: r => insI x (sortI r)
theorem insI_perm (x : Int) : ∀ l : List Int, (insI x l).Perm (x :: l)
  | [] => List.Perm.refl _
  | y :: r => by
    unfold insI
    split
    · exact List.Perm.refl _
    · exact ((insI_perm x r).cons y).trans (List.Perm.swap x y r)
theorem sortI_perm : ∀ l : List Int, (sortI l).Perm l
  | [] => List.Perm.refl _
  | x :: r => (insI_perm x _).trans ((sortI_perm r).cons x)
theorem insI_sorted (x : Int) : ∀ l : List Int, l.Pairwise (· ≤ ·) → (insI x l).Pairwise (· ≤ ·)
  | [], _ => by simp [insI]
  | y :: r, h => by
    unfold insI
    have h1 := List.pairwise_cons.mp h
    split
    · rename_i hxy
      refine List.pairwise_cons.mpr ⟨fun z hz => ?_, h⟩
      rcases List.mem_cons.mp hz with rfl | hz
      · exact hxy
      · have := h1.1 z hz; omega
    · rename_i hxy
      refine List.pairwise_cons.mpr ⟨fun z hz => ?_, insI_sorted x r h1.2⟩
      have hz' := (insI_perm x r).mem_iff.mp hz
      rcases List.mem_cons.mp hz' with rfl | hz'
      · omega
      · exact h1.1 z hz'
theorem sortI_sorted : ∀ l : List Int, (sortI l).Pairwise (· ≤ ·)
  | [] => .nil
  | x :: r => insI_sorted x _ (sortI_sorted r)
theorem sorted_uniq : ∀ {l m : List Int}, l.Pairwise (· ≤ ·) → m.Pairwise (· ≤ ·) → l.Perm m → l = m
  | [], m, _, _, h => by simp [List.Perm.eq_nil h.symm]
  | x :: l, [], _, _, h => by simp at h
  | x :: l, y :: m, hl, hm, h => by
    have h1 := List.pairwise_cons.mp hl
    have h2 := List.pairwise_cons.mp hm
    have e : x = y := by
      have a : x ∈ y :: m := h.mem_iff.mp List.mem_cons_self
      have b : y ∈ x :: l := h.mem_iff.mpr List.mem_cons_self
      rcases List.mem_cons.mp a with a | a
      · exact a
      · rcases List.mem_cons.mp b with b | b
        · exact b.symm
        · have := h1.1 y b; have := h2.1 x a; omega
    subst e
    rw [sorted_uniq h1.2 h2.2 h.cons_inv]
def bSortedI : List D → Sto → R D := fun ds st => match ds with
  | [.ref r] => match (rdL st r).bind intsOf with
    | some ns => .ok (.ref st.length) (st ++ [.lst ((sortI ns).map D.int)])
    | none => .no
  | _ => .no
theorem cd_sortedI : CDs X (.builtin "sorted") bSortedI := by
  intro pins s σ H vs us Q I rv h
  obtain ⟨α, st, ds, S, rd, h⟩ := h
  unfold bSortedI at h
  split at h
  · split at h
    · rename_i ns e
      obtain ⟨xs, e1, e2⟩ := Option.bind_eq_some_iff.mp e
      obtain ⟨v, rfl, r⟩ := rd.one
      obtain ⟨p, rfl, a1⟩ := r.ref_of
      obtain ⟨ws, h0, r1⟩ := S.l e1 a1
      rw [intsOf_map e2] at r1
      rw [r1.toInts] at h0
      refine cr_sortedI pins s σ H _ us Q I rv ⟨p, ns, rfl, h0, fun ns' q k1 k2 hq => ?_⟩
      have en : ns' = sortI ns := sorted_uniq k2 (sortI_sorted ns) (k1.trans (sortI_perm ns).symm)
      subst en
      exact Fin.new h S (RDs.ints _) hq
    · exact h.elim
  · exact h.elim

/-! ### repr -/
def bRepr : List D → Sto → R D := fun ds st => match ds with
  | [.int i] => if i.natAbs.log2 < 1920 then .ok (.str (toString i)) st else .no
  | [.tup xs] => match toP st (.tup xs) with
    | some p => if SeqAt.shaped p = true ∧ p.showable = true ∧ p.shown.length ≤ sizeLine then .ok (.str p.shown) st else .no
    | none => .no
  | [.ref r] => match toP st (.ref r) with
    | some p => if SeqAt.shaped p = true ∧ p.showable = true ∧ p.shown.length ≤ sizeLine then .ok (.str p.shown) st else .no
    | none => .no
  | _ => .no
mutual
theorem noDict_of : ∀ (d : PyData), d.canLay0 = true → d.hasDict = false
  | .none, _ => by simp only [PyData.hasDict]
  | .bool _, _ => by simp only [PyData.hasDict]
  | .int _, _ => by simp only [PyData.hasDict]
  | .str _, _ => by simp only [PyData.hasDict]
  | .list xs, h => by simp only [PyData.hasDict]; exact noDicts_of xs (by simpa only [PyData.canLay0] using h)
  | .tuple xs, h => by simp only [PyData.hasDict]; exact noDicts_of xs (by simpa only [PyData.canLay0] using h)
  | .dict _, h => by simp [PyData.canLay0] at h
theorem noDicts_of : ∀ (ds : List PyData), PyData.canLayAll0 ds = true → PyData.hasDictAll ds = false
  | [], _ => by simp only [PyData.hasDictAll]
  | d :: ds, h => by
    simp only [PyData.canLayAll0, Bool.and_eq_true] at h
    simp only [PyData.hasDictAll, noDict_of d h.1, noDicts_of ds h.2, Bool.or_self]
end
theorem cd_repr (hg : X.A.guards = some []) (hu : X.A.units + 66 < cLine) : CDs X (.builtin "repr") bRepr := by
  intro pins s σ H vs us Q I rv h
  obtain ⟨α, st, ds, S, rd, h⟩ := h
  have main : ∀ (a : Addr) (d : D) (p : PyData) (v : V), v = .ref a → RD X.K α H d v → toP st d = some p → SeqAt.shaped p = true → p.showable = true → p.shown.length ≤ sizeLine → Vals [v] us → Fin X.K α H Q (.str p.shown) st → wpAny (model X.prog X.w) X.A (call (.builtin "repr") us) (EP X pins σ Q) X.xe s := by
    intro a d p v ev r e hs1 hs2 hs3 rv fin
    subst ev
    obtain ⟨u, rfl, ru⟩ := vals1 rv
    obtain ⟨as, r1⟩ := Dp.reads I p _ u (dp_toP S e r) ru
    cases ru
    have hd := SeqAt.depth_of_shaped hs1
    exact repr_of_reads' r1 hs2 (PyData.noDict_hsm (noDict_of p (SeqAt.canLay_of_shaped hs1))) hg (by omega) (fun _ _ e => e) (fun h' u tk hk => ⟨.str p.shown, H, I.kept hk, ⟨_, rfl⟩, Fin.here fin S (.str _)⟩) hs3
  unfold bRepr at h
  split at h
  · split at h
    · rename_i hz
      obtain ⟨v, rfl, r⟩ := rd.one
      have e := r.int_of; subst e
      exact SkE.call_repr_int pins s σ H _ us Q I rv ⟨_, rfl, hz, Fin.here h S (.str _)⟩
    · exact h.elim
  · split at h
    · rename_i p e
      split at h
      · rename_i hs
        obtain ⟨v, rfl, r⟩ := rd.one
        obtain ⟨a, _, ev, _, _⟩ := r.tup_of
        exact main a _ p v ev r e hs.1 hs.2.1 hs.2.2 rv h
      · exact h.elim
    · exact h.elim
  · split at h
    · rename_i p e
      split at h
      · rename_i hs
        obtain ⟨v, rfl, r⟩ := rd.one
        obtain ⟨a, ev, _⟩ := r.ref_of
        exact main a _ p v ev r e hs.1 hs.2.1 hs.2.2 rv h
      · exact h.elim
    · exact h.elim
  · exact h.elim

/-! ### tuple(range(..)), list(range(..)) -/
noncomputable def mTupRg (mr : En → Sto → R D) (env : En) (st : Sto) : R D := (mr env st).bind fun d st1 => match d with
  | .int n => if Mid n ∧ n.toNat ≤ 2 ^ 24 then .ok (.tup (rngD 0 n.toNat)) st1 else .no
  | _ => .no
noncomputable def mLstRg (mr : En → Sto → R D) (env : En) (st : Sto) : R D := (mr env st).bind fun d st1 => match d with
  | .int n => if Mid n ∧ n.toNat ≤ 2 ^ 24 then .ok (.ref st1.length) (st1 ++ [.lst (rngD 0 n.toNat)]) else .no
  | _ => .no
theorem rds_rg {K : PySem.W.Frag} {α : List Addr} {H : Hp} {n : Int} : RDs K α H (rngD 0 n.toNat) (rgV 0 n) := by
  have : ∀ (l : List Nat), RDs K α H (l.map fun i => D.int ((0 : Int) + (i : Nat))) (l.map fun i => V.int ((0 : Int) + (i : Nat))) := by
    intro l
    induction l with
    | nil => exact .nil
    | cons x l ih => exact .cons (.int _) ih
  have e : (n - 0).toNat = n.toNat := by omega
  unfold rngD rgV
  rw [e]
  exact this _
theorem de_tupRg {a : Expr} {ma : En → Sto → R D} {p p2 pos2 : Pos} (hc : X.calm = true) (hg : Gl X "tuple") (hm : X.mg "tuple" = none) (hg2 : Gl X "range") (hm2 : X.mg "range" = none) (ha : DE X W a ma)
    (na : starEach [a] X.env = (false, eval a X.env) :: starEach [] X.env := by rfl) (na2 : starEach [.Call (.Name "range" p2) [a] [] pos2] X.env = (false, eval (.Call (.Name "range" p2) [a] [] pos2) X.env) :: starEach [] X.env := by rfl) :
    DE X W (.Call (.Name "tuple" p) [.Call (.Name "range" p2) [a] [] pos2] [] pos) (mTupRg ma) := by
  refine PE.weak (pe_tupRg hc hg hm (prg_1 hg2 hm2 ha na) na2) fun σ H Q h => ?_
  obtain ⟨α, env, st, hE, hS, h⟩ := h
  refine ⟨α, env, st, hE, hS, h.bind.mono fun x st1 α1 H1 p1 k1 s1 h1 v rv => ?_⟩
  split at h1
  · split at h1
    · rename_i n hn
      refine ⟨n, rv.int_of, ⟨by decide, by decide, hn.1.1, hn.1.2, by have := hn.2; omega⟩, fun q hq => ?_⟩
      exact h1.at (List.prefix_refl _) (Keep.fresh hq) (s1.fresh hq) _ (.tup (SqT.of upd_same) rds_rg)
    · exact h1.elim
  · exact h1.elim
theorem de_lstRg {a : Expr} {ma : En → Sto → R D} {p p2 pos2 : Pos} (hc : X.calm = true) (hg : Gl X "list") (hm : X.mg "list" = none) (hg2 : Gl X "range") (hm2 : X.mg "range" = none) (ha : DE X W a ma)
    (na : starEach [a] X.env = (false, eval a X.env) :: starEach [] X.env := by rfl) (na2 : starEach [.Call (.Name "range" p2) [a] [] pos2] X.env = (false, eval (.Call (.Name "range" p2) [a] [] pos2) X.env) :: starEach [] X.env := by rfl) :
    DE X W (.Call (.Name "list" p) [.Call (.Name "range" p2) [a] [] pos2] [] pos) (mLstRg ma) := by
  refine PE.weak (pe_listRg hc hg hm (prg_1 hg2 hm2 ha na) na2) fun σ H Q h => ?_
  obtain ⟨α, env, st, hE, hS, h⟩ := h
  refine ⟨α, env, st, hE, hS, h.bind.mono fun x st1 α1 H1 p1 k1 s1 h1 v rv => ?_⟩
  split at h1
  · split at h1
    · rename_i n hn
      refine ⟨n, rv.int_of, ⟨by decide, by decide, hn.1.1, hn.1.2, by have := hn.2; omega⟩, fun q hq => ?_⟩
      refine h1.at (List.prefix_append _ [q]) (Keep.fresh hq) (s1.push hq rds_rg) _ (.ref ?_)
      rw [← s1.len, List.getElem?_concat_length]
    · exact h1.elim
  · exact h1.elim

/-! ### a def by its name -/
structure DefOk (P : Program) (w : World) (K : PySem.W.Frag) (mg : Str → Option Value) (base : Heap) (x : Str) (n k : Nat) (g : List D → Sto → R D) : Prop where
  ex : ∃ (f : Addr) (fd : FuncData) (ps : List Str), FnG P w K mg base k f fd ps (spD K n g) ∧ mg x = some (.ref f) ∧ PySem.W.keepIn K (.ref f) = true ∧ Binds K fd ps []
theorem de_f {x : Str} {p : Pos} {n j k : Nat} {g : List D → Sto → R D} (h : DefOk X.prog X.w X.K X.mg X.base x n j g) (hr : RG k X.A) (hle : j ≤ k) (hg : Gl X x) (tk : Takes X W) (ha : DA X W (e :: es) mr) (hn : (e :: es).length = n) (hl : AL n mr)
    (hdb : (x == ("__debug__" : Str)) = false := by decide) (he : starEach (e :: es) X.env = (false, eval e X.env) :: starEach es X.env := by rfl) (hpl : (backTo pos (starEach es X.env)).any (·.1) = false := by rfl) :
    DE X W (.Call (.Name x p) (e :: es) [] pos) (mCall g mr) := by
  obtain ⟨f, fd, ps, F, hm, hk, hb⟩ := h.ex
  exact de_call F (hr.mono hle) hg hm hk hb tk ha hn hl hdb he hpl
/-- how a def of the text stands behind the top -/
structure TopFn (K : PySem.W.Frag) (mg : Str → Option Value) (x : Str) (st : Stmt) (ps : List Str) : Prop where
  ex : ∃ (f : Addr) (fd : FuncData), Fun K x x st f fd ∧ mg x = some (.ref f) ∧ Binds K fd ps []
theorem fnG_no {P : Program} {w : World} {K : PySem.W.Frag} {mg : Str → Option Value} {base : Heap} {k n : Nat} {f : Addr} {fd : FuncData} {ps : List Str} (hn : ps.length = n) : FnG P w K mg base k f fd ps (spD K n fun _ _ => .no) :=
  ⟨fun vs H Q E h => h.1.trans hn.symm, fun A outer s H args us vs Q E hr e0 hb rv hsp => by
    obtain ⟨_, _, _, _, _, _, h⟩ := hsp
    exact h.elim⟩
theorem def_ok {P : Program} {w : World} {K : PySem.W.Frag} {mg : Str → Option Value} {base : Heap} {x : Str} {st : Stmt} {N ps : List Str} {k n : Nat} {body : En → Sto → RS} (T : TopFn K mg x st ps) (S : FnScope N ps (defScope st)) (hn : n = ps.length)
    (hbody : ∀ (f : Addr) (cdv : Value) (A : Around) (outer : List Env) (s : Shared) (H : Hp) (E : XK), RG k (A.deeper (envOfC x (defScope st) s.heap.objs.size f cdv)) → Takes (bodyX P w K mg base N x st f cdv A outer s H E) (fun c d _ H => E c d H) → PassesOwn (model P w) (A.deeper (envOfC x (defScope st) s.heap.objs.size f cdv)) (envOfC x (defScope st) s.heap.objs.size f cdv) (bodyX P w K mg base N x st f cdv A outer s H E).xe →
      DSs (bodyX P w K mg base N x st f cdv A outer s H E) (fun c d _ H => E c d H) (defBody st) body) : DefOk P w K mg base x n (k + 1) (mDef N.length body) := by
  obtain ⟨f, fd, F, hm, hb⟩ := T.ex
  exact ⟨f, fd, ps, fn_d F S hn fun cdv A outer s H E => hbody f cdv A outer s H E, hm, F.kp, hb⟩
/-- a def that calls itself: to a depth -/
theorem def_rec {P : Program} {w : World} {K : PySem.W.Frag} {mg : Str → Option Value} {base : Heap} {x : Str} {st : Stmt} {N ps : List Str} {k n : Nat} {g : Nat → List D → Sto → R D} {body : (List D → Sto → R D) → En → Sto → RS} (T : TopFn K mg x st ps) (S : FnScope N ps (defScope st)) (hn : n = ps.length)
    (g0 : g 0 = fun _ _ => .no) (gs : ∀ d, g (d + 1) = mDef N.length (body (g d)))
    (hbody : ∀ d, DefOk P w K mg base x n (k + d) (g d) → ∀ (f : Addr) (cdv : Value) (A : Around) (outer : List Env) (s : Shared) (H : Hp) (E : XK), RG (k + d) (A.deeper (envOfC x (defScope st) s.heap.objs.size f cdv)) → Takes (bodyX P w K mg base N x st f cdv A outer s H E) (fun c d _ H => E c d H) → PassesOwn (model P w) (A.deeper (envOfC x (defScope st) s.heap.objs.size f cdv)) (envOfC x (defScope st) s.heap.objs.size f cdv) (bodyX P w K mg base N x st f cdv A outer s H E).xe →
      DSs (bodyX P w K mg base N x st f cdv A outer s H E) (fun c d _ H => E c d H) (defBody st) (body (g d))) : ∀ d, DefOk P w K mg base x n (k + d) (g d) := by
  obtain ⟨f, fd, F, hm, hb⟩ := id T.ex
  intro d
  induction d with
  | zero => rw [g0]; exact ⟨f, fd, ps, fnG_no hn.symm, hm, F.kp, hb⟩
  | succ d ih =>
    rw [gs]
    exact def_ok T S hn (hbody d ih)
/-- an int of the module -/
theorem de_globI {x : Str} {i : Int} {p : Pos} (hg : Gl X x) (h : ∃ t, X.mg x = some (.int i t)) (hd : (x == ("__debug__" : Str)) = false := by decide) : DE X W (.Name x p) (mC (.int i)) := by
  obtain ⟨t, hm⟩ := h
  exact de_glob (v := .int i) hg hm ⟨t, rfl⟩ (fun _ _ => .int i) hd
/-- a tuple of the module -/
theorem de_globD {x : Str} {d : D} {p : Pos} (hg : Gl X x) (h : ∃ a, X.mg x = some (.ref a) ∧ ∀ α H, RD X.K α H d (.ref a)) (hd : (x == ("__debug__" : Str)) = false := by decide) : DE X W (.Name x p) (mC d) := by
  obtain ⟨a, hm, hr⟩ := h
  exact de_glob (v := .ref a) hg hm rfl hr hd
/-- x += y, ints -/
def oAddI : O2 := fun a b st => match a, b with
  | .int i, .int j => .ok (.int (i + j)) st
  | _, _ => .no
theorem pd_add : PIp X .Add (rD2 X.K oAddI) := by
  intro pins s σ H x y v u Q I rx ry h
  obtain ⟨α, st, a, b, S, ra, rb, h⟩ := h
  unfold oAddI at h
  split at h
  · have e1 := ra.int_of; have e2 := rb.int_of; subst e1; subst e2
    exact ip_add pins s σ H _ _ v u Q I rx ry ⟨_, _, rfl, rfl, Fin.here h S (.int _)⟩
  · exact h.elim
end
end DL
set_option Elab.async false
set_option linter.all false
set_option maxRecDepth 100000
namespace DL
open PySem PySem.Spec PyProof.Rows L2
theorem RG.u66 {k : Nat} {A : Around} (h : RG k A) : A.units + 66 < cLine := by have := h.r.un; omega

/-! ### sorted, pairs of ints -/
def mkP (p : Int × Int) : D := .tup [.int p.1, .int p.2]
def pairsOf : List D → Option (List (Int × Int))
  | [] => some []
  | .tup [.int i, .int j] :: r => (pairsOf r).map ((i, j) :: ·)
  | _ :: _ => none
theorem pairsOf_map : ∀ {ds : List D} {ps : List (Int × Int)}, pairsOf ds = some ps → ds = ps.map mkP
  | [], ps, h => by simp [pairsOf] at h; subst h; rfl
  | d :: r, ps, h => by
    unfold pairsOf at h
    split at h
    · rename_i e; cases e
    · rename_i i j r' e
      cases e
      cases q : pairsOf r with
      | none => rw [q] at h; cases h
      | some ms =>
        rw [q] at h
        cases h
        rw [pairsOf_map q]; rfl
    · cases h
@[simp] theorem pairsOf_pairs : ∀ ps : List (Int × Int), pairsOf (ps.map mkP) = some ps
  | [] => rfl
  | p :: ps => by simp [pairsOf, mkP, pairsOf_pairs ps] <;> (show (pairsOf (ps.map mkP)).map _ = _; rw [pairsOf_pairs ps]; rfl)
def leP (p q : Int × Int) : Bool := p.1 < q.1 || (p.1 == q.1 && p.2 ≤ q.2)
theorem leP_iff {p q : Int × Int} : leP p q = true ↔ p.1 < q.1 ∨ (p.1 = q.1 ∧ p.2 ≤ q.2) := by simp [leP]
def insP (x : Int × Int) : List (Int × Int) → List (Int × Int)
  | [] => [x]
  | y :: r => if leP x y = true then x :: y :: r else y :: insP x r
def sortP : List (Int × Int) → List (Int × Int)
  | [] => []
  | x :: r => insP x (sortP r)
abbrev SortedP (l : List (Int × Int)) : Prop := l.Pairwise fun x y => leP x y = true
theorem insP_perm (x : Int × Int) : ∀ l, (insP x l).Perm (x :: l)
  | [] => List.Perm.refl _
  | y :: r => by
    unfold insP
    split
    · exact List.Perm.refl _
    · exact ((insP_perm x r).cons y).trans (List.Perm.swap x y r)
theorem sortP_perm : ∀ l, (sortP l).Perm l
  | [] => List.Perm.refl _
  | x :: r => (insP_perm x _).trans ((sortP_perm r).cons x)
theorem leP_total {x y : Int × Int} (h : ¬ leP x y = true) : leP y x = true := by rw [leP_iff] at h ⊢; omega
theorem leP_trans {x y z : Int × Int} (h : leP x y = true) (h2 : leP y z = true) : leP x z = true := by rw [leP_iff] at *; omega
theorem leP_anti {x y : Int × Int} (h : leP x y = true) (h2 : leP y x = true) : x = y := by
  rw [leP_iff] at *
  exact Prod.ext (by omega) (by omega)
theorem insP_sorted (x : Int × Int) : ∀ l, SortedP l → SortedP (insP x l)
  | [], _ => by simp [insP]
  | y :: r, h => by
    unfold insP
    have h1 := List.pairwise_cons.mp h
    split
    · rename_i hxy
      refine List.pairwise_cons.mpr ⟨fun z hz => ?_, h⟩
      rcases List.mem_cons.mp hz with rfl | hz
      · exact hxy
      · exact leP_trans hxy (h1.1 z hz)
    · rename_i hxy
      refine List.pairwise_cons.mpr ⟨fun z hz => ?_, insP_sorted x r h1.2⟩
      rcases List.mem_cons.mp ((insP_perm x r).mem_iff.mp hz) with rfl | hz'
      · exact leP_total hxy
      · exact h1.1 z hz'
theorem sortP_sorted : ∀ l, SortedP (sortP l)
  | [] => .nil
  | x :: r => insP_sorted x _ (sortP_sorted r)
theorem sortedP_uniq : ∀ {l m : List (Int × Int)}, SortedP l → SortedP m → l.Perm m → l = m
  | [], m, _, _, h => by simp [List.Perm.eq_nil h.symm]
  | x :: l, [], _, _, h => by simp at h
  | x :: l, y :: m, hl, hm, h => by
    have h1 := List.pairwise_cons.mp hl
    have h2 := List.pairwise_cons.mp hm
    have e : x = y := by
      have a : x ∈ y :: m := h.mem_iff.mp List.mem_cons_self
      have b : y ∈ x :: l := h.mem_iff.mpr List.mem_cons_self
      rcases List.mem_cons.mp a with a | a
      · exact a
      · rcases List.mem_cons.mp b with b | b
        · exact b.symm
        · exact leP_anti (h1.1 y b) (h2.1 x a)
    subst e
    rw [sortedP_uniq h1.2 h2.2 h.cons_inv]
/-- the pair that stands at a value -/
def kH (h : Heap) (v : Value) : Int × Int := match v with
  | .ref a => match h.get? a with
    | some o => match o.data with
      | .seq items _ => match items.toList with
        | [.int i _, .int j _] => (i, j)
        | _ => (0, 0)
      | _ => (0, 0)
    | none => (0, 0)
  | _ => (0, 0)
/-! ### sorted of a tuple -/
section
open SrtO Srt
variable {prog : Program} {w : World} {A : Around} {E : Value → Shared → Prop} {s : Shared}
theorem collect_tup {l : Addr} {o : Obj} {n : Nat} {vs : List Value} {Q : List Value → Shared → Prop} (ho : s.heap.get? l = some o) (hc : o.cls = .type "tuple") (hd : o.data = .seq vs.toArray n) (hsz : vs.length ≤ sizeLine)
    (h : Q vs { s with heap := (s.heap.push (seqObj "list" #[] 0)).update s.heap.objs.size (Obj.mapSeq (· ++ vs.toArray)) }) : wpAny (model prog w) A (collect (.ref l)) Q E s := by
  have ho' : (s.heap.push (seqObj "list" #[] 0)).get? l = some o := Heap.get?_push_of_some _ ho
  have hn : (s.heap.push (seqObj "list" #[] 0)).get? s.heap.objs.size = some (seqObj "list" #[] 0) := Heap.get?_push_size _ rfl
  have ev : ((#[] : Array Value) ++ vs.toArray).toList = vs := by simp
  unfold collect
  refine wpAny_bind (wpAny_runValue (codeAny_builtin entry_proto_collect' ?_))
  show wpAny _ _ (do again (.builtin "list.__iadd__" ⟨[← newList [], .ref l], []⟩)) _ _ s
  refine wpAny_bind (wpAny_newList (wpAny_pure ⟨Code.quiet_builtin _ (by decide +kernel), codeAny_builtin entry_list_iadd' ?_⟩))
  show wpAny _ _ (Builtin.List.listExtendWith (.ref s.heap.objs.size) (.ref l) (.ref s.heap.objs.size)) _ _ { s with heap := s.heap.push (seqObj "list" #[] 0) }
  unfold Builtin.List.listExtendWith
  refine wpAny_bind (wpAny_typeOf (T := "tuple") ⟨o, ho', hc⟩ ?_)
  have ht : (Value.type "tuple" == Value.type "tuple") = true := by rfl
  rw [if_pos (by rw [ht]; simp)]
  refine wpAny_bind (listItems_at ho' hd ?_)
  refine wpAny_bind (listItems_at hn rfl ?_)
  rw [if_neg (by simp)]
  refine wpAny_bind (listUpdate_at hn rfl ?_ (Nat.zero_le _) (by show (#[] ++ vs.toArray).size ≤ sizeLine + 1; simp only [Array.size_append, List.size_toArray, List.length_nil]; omega))
  refine wpAny_pure ?_
  show wpAny (model prog w) A (do
      let o ← load s.heap.objs.size
      match o.data with
      | .seq xs _ => pure xs.toList
      | _ => unsupported "internal:collect") Q E { s with heap := (s.heap.push (seqObj "list" #[] 0)).update s.heap.objs.size (Obj.mapSeq (· ++ vs.toArray)) }
  refine wpAny_bind (wpAny_load (get?_update_seq hn _) ?_)
  show wpAny _ _ (pure ((#[] : Array Value) ++ vs.toArray).toList) Q E _
  rw [ev]
  exact wpAny_pure h
theorem sorted_ordT {l : Addr} {o : Obj} {n : Nat} {vs : List Value} {ltv : Value → Value → Bool} {Q : Value → Shared → Prop} (O : Swo ltv) (ho : s.heap.get? l = some o) (hc : o.cls = .type "tuple") (hd : o.data = .seq vs.toArray n) (hz : vs.length ≤ sizeLine)
    (hS : 2 ≤ vs.length → ∀ (h₁ : Heap) (a : Addr), h₁.get? a = some (seqObj "list" vs.toArray 0) → (∀ b o, s.heap.get? b = some o → b ≠ a ∧ h₁.get? b = some o) → SortableO prog w A.in1.in1 { s with heap := h₁ } a vs ltv)
    (h : ∀ out : List Value, Srtd ltv out → Stb ltv out vs → Q (.ref (s.heap.objs.size + 1)) { s with heap := sortedAll s.heap vs out.toArray }) :
    wpAny (model prog w) A (call (.builtin "sorted") [.ref l]) Q E s := by
  have hsz : ((s.heap.push (seqObj "list" #[] 0)).update s.heap.objs.size (Obj.mapSeq (· ++ vs.toArray))).objs.size = s.heap.objs.size + 1 := by
    rw [Heap.size_update, size_push']
  have hoL : (((s.heap.push (seqObj "list" #[] 0)).update s.heap.objs.size (Obj.mapSeq (· ++ vs.toArray))).push (seqObj "list" vs.toArray 0)).get? (s.heap.objs.size + 1) = some (seqObj "list" vs.toArray 0) := by
    rw [← hsz]; exact Heap.get?_push_size _ rfl
  refine Calls.call_function_entry kind_sorted plain_sorted entry_sorted (args_sorted1 _) ?_
  unfold Builtin.«sorted»
  refine wpAny_bind (m := checkCount "sorted" 1 1 _) (wpAny_pure ?_)
  refine wpAny_bind (collect_tup ho hc hd hz (wpAny_bind (wpAny_newList ?_ hz)))
  show wpAny _ _ _ _ _ { s with heap := ((s.heap.push (seqObj "list" #[] 0)).update s.heap.objs.size (Obj.mapSeq (· ++ vs.toArray))).push (seqObj "list" vs.toArray 0) }
  rw [hsz]
  refine wpAny_bind (wpAny_holding (wpAny_call_entry slot_list_sort ⟨_, hoL, rfl⟩ entry_list_sort (list_sort_ord O hoL hz (fun h2 => hS h2 _ _ hoL fun b o q => ?_) fun out hs hb => ⟨_, rfl, wpAny_pure ⟨_, rfl, h out hs hb⟩⟩) (args_list_sort _)))
  have hlt : b < s.heap.objs.size := Heap.lt_size q
  refine ⟨Nat.ne_of_lt (Nat.lt_succ_of_lt hlt), Heap.get?_push_of_some _ ?_⟩
  rw [Heap.get?_update_ne _ _ _ _ (Nat.ne_of_lt hlt)]
  exact Heap.get?_push_of_some _ q
theorem sorted_pairsT {l : Addr} {o : Obj} {n : Nat} {vs : List Value} {k : Value → Int × Int} {Q : Value → Shared → Prop} (ho : s.heap.get? l = some o) (hc : o.cls = .type "tuple") (hd : o.data = .seq vs.toArray n) (hz : vs.length ≤ sizeLine) (hp : ∀ v ∈ vs, IsPair s.heap v (k v).1 (k v).2)
    (h : ∀ (h' : Heap) (d : Addr) (out : List Value), Srtd (fun v u => lexB (k v) (k u)) out → Stb (fun v u => lexB (k v) (k u)) out vs → (∀ b o, s.heap.get? b = some o → h'.get? b = some o) → s.heap.objs.size ≤ d → (∃ n, h'.get? d = some (seqObj "list" out.toArray n)) → Q (.ref d) { s with heap := h' }) :
    wpAny (model prog w) A (call (.builtin "sorted") [.ref l]) Q E s := by
  refine sorted_ordT (swo_lex k) ho hc hd hz (fun h2 h₁ a ha kk => pairs_sortableO (s := { s with heap := h₁ }) (by omega) (fun v hm => (hp v hm).keeps fun b o e _ => (kk b o e).2) fun o e c => ?_) fun out hs hb => h _ _ out hs hb (fun b o e => sortedAll_old e) (Nat.le_succ _) (sortedAll_at s.heap vs out.toArray)
  have e' : some o = some (seqObj "list" vs.toArray 0) := e.symm.trans ha
  cases e'
  exact absurd (Value.type.inj c) (by decide)
end
section
variable {X : Cx}
theorem pairs_run {pins : List (Addr × Obj)} {s : Shared} {σ : L2.St} {H : Hp} {α : List Addr} (I : Inv X pins σ H s) : ∀ (ps : List (Int × Int)) (vs : List V) (us : List Value), RDs X.K α H (ps.map mkP) vs → Vals vs us →
    us.map (kH s.heap) = ps ∧ ∀ u ∈ us, ∃ p, u = Value.ref p ∧ RD X.K α H (mkP (kH s.heap u)) (.ref p) ∧ Srt.IsPair s.heap u (kH s.heap u).1 (kH s.heap u).2
  | [], vs, us, r, rv => by cases r; cases rv; exact ⟨rfl, fun u hu => by cases hu⟩
  | p :: ps, vs, us, r, rv => by
    obtain ⟨a, b⟩ := p
    cases r with
    | cons r1 r2 =>
      cases rv with
      | cons q1 q2 =>
        obtain ⟨h1, h2⟩ := pairs_run I ps _ _ r2 q2
        obtain ⟨ad, ws, rfl, t1, rr⟩ := RD.tup_of (xs := [.int a, .int b]) r1
        cases q1
        have ew : ws = [V.int a, V.int b] := RDs.toInts (ns := [a, b]) rr
        subst ew
        obtain ⟨its, ri, ⟨o, ho, hc, n, hd⟩, _⟩ := I.tuple t1
        obtain ⟨u1, u2, rfl, k1, k2⟩ := vals2 ri
        obtain ⟨t1', rfl⟩ := k1
        obtain ⟨t2', rfl⟩ := k2
        have e : kH s.heap (Value.ref ad) = (a, b) := by
          unfold kH
          simp only [ho, hd]
        refine ⟨by rw [List.map_cons, e, h1], fun u hu => ?_⟩
        rcases List.mem_cons.mp hu with rfl | hu
        · exact ⟨ad, rfl, by rw [e]; exact r1, by rw [e]; exact ⟨ad, o, t1', t2', n, rfl, ho, hc, hd⟩⟩
        · exact h2 u hu
theorem rds_back {K : PySem.W.Frag} {α : List Addr} {H : Hp} {k : Value → Int × Int} : ∀ (us : List Value), (∀ u ∈ us, ∃ p, u = Value.ref p ∧ RD K α H (mkP (k u)) (.ref p)) → RDs K α H ((us.map k).map mkP) (us.map backV)
  | [], _ => .nil
  | u :: us, h => by
    obtain ⟨p, rfl, r⟩ := h u List.mem_cons_self
    exact .cons r (rds_back us fun y hy => h y (List.mem_cons_of_mem _ hy))
def bSorted : List D → Sto → R D := fun ds st => match ds with
  | [.ref r] => match rdL st r with
    | some xs => match intsOf xs with
      | some ns => .ok (.ref st.length) (st ++ [.lst ((sortI ns).map D.int)])
      | none => match pairsOf xs with
        | some ps => .ok (.ref st.length) (st ++ [.lst ((sortP ps).map mkP)])
        | none => .no
    | none => .no
  | [.tup xs] => match intsOf xs with
    | some ns => .ok (.ref st.length) (st ++ [.lst ((sortI ns).map D.int)])
    | none => match pairsOf xs with
      | some ps => .ok (.ref st.length) (st ++ [.lst ((sortP ps).map mkP)])
      | none => .no
  | _ => .no
theorem cd_sortedP {pins : List (Addr × Obj)} {s : Shared} {σ : L2.St} {H : Hp} {us : List Value} {Q : VK} {α : List Addr} {st : Sto} {a : Addr} {ws : List V} {ps : List (Int × Int)} (I : Inv X pins σ H s) (S : SR X.K α st H) (rv : Vals [V.ref a] us) (h0 : SqL X.K H a ws)
    (r1 : RDs X.K α H (ps.map mkP) ws) (h : Fin X.K α H Q (.ref st.length) (st ++ [.lst ((sortP ps).map mkP)])) : wpAny (model X.prog X.w) X.A (call (.builtin "sorted") us) (EP X pins σ Q) X.xe s := by
  obtain ⟨u, rfl, ru⟩ := vals1 rv
  cases ru
  obtain ⟨its, ri, hl, hz⟩ := I.list h0
  obtain ⟨g1, g2⟩ := pairs_run I ps ws its r1 ri
  refine SrtO.sorted_pairsO (k := kH s.heap) hl.isList (by rw [← ri.length]; exact hz) (fun v hv => let ⟨_, _, _, q⟩ := g2 v hv; q) fun h' d out h1 h2 kp hd hn => ?_
  have mem : ∀ v ∈ out, v ∈ its := fun v hv => h2.perm.mem_iff.mp hv
  have e : out.map (kH s.heap) = sortP ps := by
    refine sortedP_uniq ?_ (sortP_sorted ps) ?_
    · refine List.pairwise_map.mpr (h1.imp fun {x y} hxy => ?_)
      have := SrtO.lexB_no.mp hxy
      rw [leP_iff]
      omega
    · refine ((h2.perm.map _).trans ?_).trans (sortP_perm ps).symm
      rw [g1]
  have rb : RDs X.K α H ((sortP ps).map mkP) (out.map backV) := by
    rw [← e]
    exact rds_back out fun v hv => let ⟨p, e1, e2, _⟩ := g2 v (mem v hv); ⟨p, e1, e2⟩
  obtain ⟨n, hn⟩ := hn
  have hrefs : ∀ v ∈ out, ∃ b, v = Value.ref b := fun v hv => let ⟨p, e1, _⟩ := g2 v (mem v hv); ⟨p, e1⟩
  refine ⟨.ref d, upd H d (.lst (out.map backV)), I.laid (t' := s.toks) kp hd (show ObjOk X.prog X.w _ _ _ (.lst (out.map backV)) from ⟨?_, out, n, vals_back hrefs, hn⟩), rfl, Fin.new h S rb (I.hok.fresh hd)⟩
  rw [List.length_map, h2.len, ← ri.length]
  exact hz
theorem cd_sortedT {pins : List (Addr × Obj)} {s : Shared} {σ : L2.St} {H : Hp} {us : List Value} {Q : VK} {α : List Addr} {st : Sto} {a : Addr} {ws : List V} {ps : List (Int × Int)} (I : Inv X pins σ H s) (S : SR X.K α st H) (rv : Vals [V.ref a] us) (h0 : SqT X.K H a ws)
    (r1 : RDs X.K α H (ps.map mkP) ws) (h : Fin X.K α H Q (.ref st.length) (st ++ [.lst ((sortP ps).map mkP)])) : wpAny (model X.prog X.w) X.A (call (.builtin "sorted") us) (EP X pins σ Q) X.xe s := by
  obtain ⟨u, rfl, ru⟩ := vals1 rv
  cases ru
  obtain ⟨its, ri, ⟨o, ho, hc, n0, hd0⟩, hz⟩ := I.tuple h0
  obtain ⟨g1, g2⟩ := pairs_run I ps ws its r1 ri
  refine sorted_pairsT (k := kH s.heap) ho hc hd0 (by rw [← ri.length]; exact hz) (fun v hv => let ⟨_, _, _, q⟩ := g2 v hv; q) fun h' d out h1 h2 kp hd hn => ?_
  have mem : ∀ v ∈ out, v ∈ its := fun v hv => h2.perm.mem_iff.mp hv
  have e : out.map (kH s.heap) = sortP ps := by
    refine sortedP_uniq ?_ (sortP_sorted ps) ?_
    · refine List.pairwise_map.mpr (h1.imp fun {x y} hxy => ?_)
      have := SrtO.lexB_no.mp hxy
      rw [leP_iff]
      omega
    · refine ((h2.perm.map _).trans ?_).trans (sortP_perm ps).symm
      rw [g1]
  have rb : RDs X.K α H ((sortP ps).map mkP) (out.map backV) := by
    rw [← e]
    exact rds_back out fun v hv => let ⟨p, e1, e2, _⟩ := g2 v (mem v hv); ⟨p, e1, e2⟩
  obtain ⟨n, hn⟩ := hn
  have hrefs : ∀ v ∈ out, ∃ b, v = Value.ref b := fun v hv => let ⟨p, e1, _⟩ := g2 v (mem v hv); ⟨p, e1⟩
  refine ⟨.ref d, upd H d (.lst (out.map backV)), I.laid (t' := s.toks) kp hd (show ObjOk X.prog X.w _ _ _ (.lst (out.map backV)) from ⟨?_, out, n, vals_back hrefs, hn⟩), rfl, Fin.new h S rb (I.hok.fresh hd)⟩
  rw [List.length_map, h2.len, ← ri.length]
  exact hz
theorem cd_sortedTI {pins : List (Addr × Obj)} {s : Shared} {σ : L2.St} {H : Hp} {us : List Value} {Q : VK} {α : List Addr} {st : Sto} {a : Addr} {ns : List Int} (I : Inv X pins σ H s) (S : SR X.K α st H) (rv : Vals [V.ref a] us) (h0 : SqT X.K H a (ns.map V.int))
    (h : Fin X.K α H Q (.ref st.length) (st ++ [.lst ((sortI ns).map D.int)])) : wpAny (model X.prog X.w) X.A (call (.builtin "sorted") us) (EP X pins σ Q) X.xe s := by
  obtain ⟨u, rfl, ru⟩ := vals1 rv
  cases ru
  obtain ⟨its, ri, ⟨o, ho, hc, n0, hd0⟩, hz⟩ := I.tuple h0
  have hi := ri.ints
  refine sorted_ordT SrtO.swo_int ho hc hd0 (by rw [← ri.length]; exact hz) (fun h2 h₁ a' _ _ => SrtO.ints_sortable hi h2) fun out h1 h2 => ?_
  obtain ⟨k1, k2, k3⟩ := SrtO.ints_out hi h1 h2
  have en : out.map SrtO.iv = sortI ns := sorted_uniq k3 (sortI_sorted ns) (k2.trans (sortI_perm ns).symm)
  rw [en] at k1
  obtain ⟨ep, he'⟩ := PyProof.Rows.sortedAll_at s.heap its out.toArray
  have hlen : ((sortI ns).map V.int).length ≤ sizeLine := by
    rw [List.length_map, (sortI_perm ns).length_eq]
    rw [List.length_map] at hz
    exact hz
  exact ⟨.ref _, upd H (s.heap.objs.size + 1) (.lst ((sortI ns).map V.int)), I.laid (t' := s.toks) (fun _ _ => PyProof.Rows.sortedAll_old) (Nat.le_succ _) ⟨hlen, out, ep, vals_of_ints k1, he'⟩, rfl, Fin.new h S (RDs.ints _) (I.hok.fresh (Nat.le_succ _))⟩
theorem cd_sorted : CDs X (.builtin "sorted") bSorted := by
  intro pins s σ H vs us Q I rv h
  obtain ⟨α, st, ds, S, rd, h⟩ := h
  unfold bSorted at h
  split at h
  · rename_i q
    split at h
    · rename_i xs e1
      obtain ⟨v, rfl, r⟩ := rd.one
      obtain ⟨p, rfl, a1⟩ := r.ref_of
      obtain ⟨ws, h0, r1⟩ := S.l e1 a1
      split at h
      · rename_i ns e2
        refine cd_sortedI pins s σ H _ us Q I rv ⟨α, st, [.ref q], S, rd, ?_⟩
        unfold bSortedI
        simp only [e1, e2, Option.bind_some]
        exact h
      · split at h
        · rename_i ps e3
          rw [pairsOf_map e3] at r1
          exact cd_sortedP I S rv h0 r1 h
        · exact h.elim
    · exact h.elim
  · split at h
    · rename_i ns e2
      obtain ⟨v, rfl, r⟩ := rd.one
      obtain ⟨p, ws, rfl, t1, r1⟩ := r.tup_of
      rw [intsOf_map e2] at r1
      rw [r1.toInts] at t1
      exact cd_sortedTI I S rv t1 h
    · split at h
      · rename_i ps e3
        obtain ⟨v, rfl, r⟩ := rd.one
        obtain ⟨p, ws, rfl, t1, r1⟩ := r.tup_of
        rw [pairsOf_map e3] at r1
        exact cd_sortedT I S rv t1 r1 h
      · exact h.elim
  · exact h.elim
end
end DL
set_option Elab.async false
set_option linter.all false
set_option maxRecDepth 100000
namespace DL
open PySem PySem.Spec PyProof.Rows L2

/-! ### the law's end -/
/-- what the law's def is asked for: a script that is only read -/
def spLaw (K : PySem.W.Frag) (f : List D → Sto → R D) : Sp := spD K 1 f
theorem script_sp {K : PySem.W.Frag} {f : List D → Sto → R D} {H : Hp} {a : Addr} {ns : List Int} (hO : Only H) (hS : SqL K H a (ns.map V.int)) (hf : ∃ st', f [.ref 0] [.fro (ns.map D.int)] = .ok (.bl true) st') : spLaw K f [.ref a] H (fun v _ => v = .bl true) fun _ _ _ => False := by
  obtain ⟨st', e⟩ := hf
  have hl : Locked K H a (ns.map V.int) := by
    rcases hS with (h | ⟨o, h⟩) | h
    · rcases hO a with q | ⟨o, xs, q⟩
      · rw [q] at h; cases h
      · rw [q] at h; cases h
    · exact .inl ⟨o, h⟩
    · exact .inr fun H' => .inr h
  refine ⟨rfl, [a], [.fro (ns.map D.int)], [.ref 0], ⟨rfl, fun i c hc => ?_, fun i j xs ys b h1 => ?_⟩, .cons (.ref rfl) .nil, ?_⟩
  · cases i with
    | zero => cases hc; exact ⟨a, rfl, _, hl, RDs.ints ns⟩
    | succ i => simp at hc
  · cases i with
    | zero => cases h1
    | succ i => simp at h1
  · rw [e]
    exact fun α' H' v _ _ _ r => r.bl_of
/-- the call of the law over the heap that the top left -/
theorem law_run {P : Program} {w : World} {K : PySem.W.Frag} {mg mb : Str → Option Value} {k : Nat} {fa a : Addr} {fd : FuncData} {x : Str} {sp : Sp} {s1 : Shared} {vs : List Value} {ns : List Int}
    (inK : K.In s1.heap) (gl : s1.heap.Ns mainGlobals mg) (bl : s1.heap.Ns builtinsNs mb) (bb : ∀ x : Str, x ≠ "__name__" → mb x = bootBuiltins x) (nol : s1.heap.NoLimit) (gens : s1.gens = #[])
    (ha : s1.heap.get? a = some { cls := .type "list", data := .seq vs.toArray }) (hi : IntsAre vs ns) (hz : ns.length ≤ sizeLine) (hr : Room k callerA)
    (F : ∀ base : Heap, K.In base → base.Ns mainGlobals mg → FnG P w K mg base k fa fd [x] sp) (hbind : ∀ (s : Shared) (u : Value), BindsTo s fd ⟨[u], []⟩ [(x, u)])
    (hsp : ∀ H : Hp, Only H → SqL K H a (ns.map V.int) → sp [.ref a] H (fun v _ => v = .bl true) fun _ _ _ => False) :
    codeAny (model P w) callerA (.call (.ref fa) ⟨[.ref a], []⟩) (fun r s' => r = .ok (.ret (.bool true)) ∧ OldK s1.heap s'.heap ∧ s'.os = s1.os ∧ AllBare s'.gens) s1 := by
  have rv : Vals (ns.map V.int) vs := vals_ints hi
  have go : ∀ H : Hp, Only H → SqL K H a (ns.map V.int) → HOk P w H s1.heap → (∀ b, H b ≠ none → b = a ∧ K.lookup a = none) →
      codeAny (model P w) callerA (.call (.ref fa) ⟨[.ref a], []⟩) (fun r s' => r = .ok (.ret (.bool true)) ∧ OldK s1.heap s'.heap ∧ s'.os = s1.os ∧ AllBare s'.gens) s1 := by
    intro H only sq hok near
    have free : ∀ {b : Addr} {o : Obj}, s1.heap.get? b = some o → (∀ z n, o.data ≠ .seq z n) → H b = none := by
      intro b o e d
      by_cases q : H b = none
      · exact q
      · obtain ⟨rfl, _⟩ := near b q
        rw [ha] at e
        cases e
        exact absurd rfl (d _ _)
    have ns_of : ∀ {b : Addr} {m : Str → Option Value}, s1.heap.Ns b m → (hidT s1.heap H).Ns b m := by
      intro b m hm
      obtain ⟨o, es, ep, e, d, r⟩ := hm
      exact ⟨o, es, ep, hidT_get e (free e fun z n q => by rw [d] at q; cases q), d, r⟩
    have kb : K.In (hidT s1.heap H) := fun b o e => by
      refine hidT_get (inK b o e) ?_
      by_cases q : H b = none
      · exact q
      · obtain ⟨rfl, z⟩ := near b q
        rw [z] at e
        cases e
    obtain ⟨mc, l1, l2⟩ := nol
    have md : Mod K mg (hidT s1.heap H) := ⟨kb, ns_of gl, ⟨mb, ns_of bl, bb⟩, ⟨mc, ns_of l1, l2⟩⟩
    have env : Env0 P w K mg (hidT s1.heap H) callerA [] s1 H := ⟨rfl, md, fun b o e => of_hidT e, Nat.le_of_eq (hidT_size _ _), trivial, fun b hb => (by cases hb), hok, .of_eq gens⟩
    have run := (F _ kb (ns_of gl)).run callerA [] s1 H ⟨[.ref a], []⟩ [.ref a] [.ref a] _ _ ⟨hr, rfl⟩ env (hbind s1 (.ref a)) (.cons rfl .nil) (hsp H only sq)
    refine codeAny_mono run fun r s' h => ?_
    match r, h with
    | .error e, h =>
      obtain ⟨_, _, _, _, _, _, _, _, _, _, _, _, z⟩ := h
      exact z.elim
    | .ok .next, h => exact h.elim
    | .ok .brk, h => exact h.elim
    | .ok .cont, h => exact h.elim
    | .ok (.ret u), ⟨v, H', os, bare, un, hok', rel, q⟩ =>
      subst q
      cases rel
      refine ⟨rfl, OldK.of_keep fun b o e => ?_, os, bare⟩
      rcases only b with z | ⟨ob, xs, z⟩
      · exact un.keep b o e z (fun z => by cases z) (by simp)
      · have h1 : s1.heap.get? b = some ob := (hok b _ z).1
        have h2 : s'.heap.get? b = some ob := (hok' b _ (un.frzs b ob _ z)).1
        rw [e] at h1
        cases h1
        exact h2
  by_cases hk : K.lookup a = none
  · let H : Hp := fun b => if b = a then some (.frz { cls := .type "list", data := .seq vs.toArray } (.lst (ns.map V.int))) else none
    have at_ : H a = some (.frz { cls := .type "list", data := .seq vs.toArray } (.lst (ns.map V.int))) := if_pos rfl
    refine go H (fun b => ?_) (.inl (.inr ⟨_, at_⟩)) (fun b u z => ?_) (fun b z => ⟨?_, hk⟩)
    · by_cases e : b = a
      · subst e; exact .inr ⟨_, _, at_⟩
      · exact .inl (if_neg e)
    · by_cases e : b = a
      · subst e
        rw [at_] at z
        cases z
        exact ⟨ha, by rw [List.length_map]; exact hz, vs, _, rv, ha⟩
      · rw [show H b = none from if_neg e] at z
        cases z
    · by_cases e : b = a
      · exact e
      · exact absurd (show H b = none from if_neg e) z
  · obtain ⟨o, ho⟩ := Option.ne_none_iff_exists'.mp hk
    have e := inK a o ho
    rw [ha] at e
    cases e
    refine go (fun _ => none) (fun _ => .inl rfl) (.inr ⟨_, vs.toArray, _, ho, rfl, rfl, rfl, by rw [List.size_toArray, hi.length]; exact hz, by simpa using rv⟩) (fun b u z => by cases z) fun b z => absurd rfl z
/-- the goal behind the head -/
theorem walk_d {l : PySem.W.OpenLaw} {n k : Nat} {q : Program} {loose : List Str} {XP : (Str → Option Value) → Heap → Prop} {YP : World → Heap → Prop} {d : DefRec} {K : Params → PySem.W.Frag} {x : Str} {f : List D → Sto → R D}
    (hn : l.most = some n) (hn2 : n ≤ sizeLine) (hdf : d.params.defaults = []) (hr : Room k callerA) (hY : ∀ (w : World) (h : Heap), YP w h → (K w.params).In h)
    (F : ∀ (w : World) (mg : Str → Option Value) (fa : Addr) (h : Heap), (K w.params).In h → h.Ns mainGlobals mg → mg d.name = some (.ref fa) →
      ∃ fd : FuncData, (∀ (s : Shared) (u : Value), BindsTo s fd ⟨[u], []⟩ [(x, u)]) ∧ ∀ base : Heap, (K w.params).In base → base.Ns mainGlobals mg → FnG l.prog w (K w.params) mg base k fa fd [x] (spLaw (K w.params) f))
    (main : ∀ ns : List Int, ns.length ≤ n → ∃ st', f [.ref 0] [.fro (ns.map D.int)] = .ok (.bl true) st') : PySem.W.WalkO q loose XP YP l.row.toRowW d [] (fun f vs => PySem.call f vs) := by
  refine Att.attach_call hn hdf fun w _ s1 mg mb fa o pm cd doc a vs ns G Y _ _ _ hmg hobj hints hlen hg => ?_
  obtain ⟨fd, hb, hF⟩ := F w mg fa _ (hY w _ Y) G.T.g hmg
  exact law_run (hY w _ Y) G.T.g G.T.b G.T.builtins G.T.nolimit hg hobj hints (Nat.le_trans hlen hn2) hr hF hb fun H hO hS => script_sp hO hS (main ns hlen)
theorem topFn_of {K : PySem.W.Frag} {h : Heap} {mg : Str → Option Value} {x : Str} {st : Stmt} {ps : List Str} {f : Addr} {oc : Value} {od an : Option Addr} {sl : Array (Option Value)} {kV dc pm cd ct : Value} (X : K.In h) (G : h.Ns mainGlobals mg)
    (a : PySem.W.nsIn K mainGlobals x = some (some (.ref f))) (l : K.lookup f = some ⟨oc, od, .func (PySem.W.fnOf x x (defArgs st) (defBody st) (defScope st) .none kV dc pm an cd ct), sl⟩) (c : PySem.W.codeIn K cd x = true) (k : PySem.W.keepIn K (.ref f) = true)
    (b : ∀ (kV doc pm : Value) (an : Option Addr) (cdv ct : Value) (us : List Value), us.length = ps.length → bindArgs (PySem.W.fnOf x x (defArgs st) (defBody st) (defScope st) .none kV doc pm an cdv ct) ⟨us, []⟩ = pure (ps.zip us)) : TopFn K mg x st ps :=
  have F := fun_mk (st := st) l c k
  ⟨f, _, F, PySem.W.mg_of X G a, F.binds b⟩
abbrev TopFnX {K : PySem.W.Frag} {h : Heap} (_ : K.In h) (mg : Str → Option Value) (x : Str) (st : Stmt) (ps : List Str) : Prop := TopFn K mg x st ps
/-- the law's own def -/
theorem law_of {P : Program} {w : World} {K : PySem.W.Frag} {h : Heap} {mg : Str → Option Value} {x p : Str} {st : Stmt} {fa f : Addr} {k : Nat} {g : List D → Sto → R D} {oc : Value} {od an : Option Addr} {sl : Array (Option Value)} {kV dc pm cd ct : Value} (X : K.In h) (G : h.Ns mainGlobals mg) (hmg : mg x = some (.ref fa))
    (a : PySem.W.nsIn K mainGlobals x = some (some (.ref f))) (l : K.lookup f = some ⟨oc, od, .func (PySem.W.fnOf x x (defArgs st) (defBody st) (defScope st) .none kV dc pm an cd ct), sl⟩) (c : PySem.W.codeIn K cd x = true) (kp : PySem.W.keepIn K (.ref f) = true)
    (b : ∀ (kV dc pm : Value) (an : Option Addr) (cd ct : Value) (s : Shared) (u : Value), BindsTo s (PySem.W.fnOf x x (defArgs st) (defBody st) (defScope st) .none kV dc pm an cd ct) ⟨[u], []⟩ [(p, u)])
    (all : ∀ (base : Heap) (fd : FuncData), Fun K x x st fa fd → FnG P w K mg base k fa fd [p] (spLaw K g)) :
    ∃ fd : FuncData, (∀ (s : Shared) (u : Value), BindsTo s fd ⟨[u], []⟩ [(p, u)]) ∧ ∀ base : Heap, K.In base → base.Ns mainGlobals mg → FnG P w K mg base k fa fd [p] (spLaw K g) := by
  have e := hmg.symm.trans (PySem.W.mg_of X G a)
  cases e
  exact ⟨_, fun s u => b kV dc pm an cd ct s u, fun base _ _ => all base _ (fun_mk (st := st) l c kp)⟩
end DL
set_option Elab.async false
set_option linter.all false
set_option maxRecDepth 100000
/-! Constant tables with text keys, told by the name that holds them; a call of a local name that holds one of the text's defs. -/
namespace DL
open PySem PySem.Spec PyProof.Rows L2

/-- an entry of a table as it stands, and what it stands for -/
structure EntOk (K : PySem.W.Frag) (w : World) (e : DictEntry) (q : Str × D) : Prop where
  key : ∃ t, e.key = .str q.1 t
  hash : e.hash = PyData.keyHash w.params q.1
  val : ∃ v, RelV v e.val ∧ ∀ α H, RD K α H q.2 v
inductive EntsOk (K : PySem.W.Frag) (w : World) : List DictEntry → List (Str × D) → Prop where
  | nil : EntsOk K w [] []
  | cons {e : DictEntry} {q : Str × D} {es : List DictEntry} {qs : List (Str × D)} : EntOk K w e q → EntsOk K w es qs → EntsOk K w (e :: es) (q :: qs)
theorem EntsOk.lit {K : PySem.W.Frag} {w : World} : ∀ {es : List DictEntry} {qs : List (Str × D)}, EntsOk K w es qs → PySem.W.KeysLit w.params es
  | _, _, .nil => trivial
  | _, _, .cons h r => ⟨let ⟨t, e⟩ := h.key; ⟨_, t, e, h.hash⟩, r.lit⟩
theorem EntsOk.find {K : PySem.W.Frag} {w : World} (z : Str) : ∀ {es : List DictEntry} {qs : List (Str × D)}, EntsOk K w es qs →
    match qs.find? (fun q => q.1 == z), es.find? (·.key.isStr z) with
    | some q, some e => ∃ v, RelV v e.val ∧ ∀ α H, RD K α H q.2 v
    | none, none => True
    | _, _ => False
  | _, _, .nil => trivial
  | _, _, .cons (e := e) (q := q) h r => by
    obtain ⟨t, ek⟩ := h.key
    have c : e.key.isStr z = (q.1 == z) := by rw [ek]; rfl
    rw [List.find?_cons, List.find?_cons, c]
    cases b : q.1 == z with
    | true => exact h.val
    | false => exact r.find z
theorem EntsOk.noRef {K : PySem.W.Frag} {w : World} : ∀ {es : List DictEntry} {qs : List (Str × D)}, EntsOk K w es qs → es.any (·.refKey) = false
  | _, _, .nil => rfl
  | _, _, .cons h r => by
    obtain ⟨t, ek⟩ := h.key
    rw [List.any_cons, r.noRef]
    unfold DictEntry.refKey
    rw [ek]; rfl
/-- the table that stands at a name of the text -/
structure TabOk (K : PySem.W.Frag) (w : World) (x : Str) (qs : List (Str × D)) : Prop where
  ex : ∃ (d : Addr) (es : Array DictEntry) (n : Nat), PySem.W.nsIn K mainGlobals x = some (some (.ref d)) ∧ K.lookup d = some ⟨.type "dict", none, .dict es n, #[]⟩ ∧ (d == sysModules) = false ∧ EntsOk K w es.toList qs
def tabAt (qs : List (Str × D)) (z : Str) : Option D := (qs.find? fun q => q.1 == z).map (·.2)
theorem TabOk.at_ {K : PySem.W.Frag} {w : World} {x : Str} {qs : List (Str × D)} {α : List Addr} {H : Hp} {v : V} (h : TabOk K w x qs) (r : RD K α H (.nam x) v) :
    ∃ d es n, v = .ref d ∧ KDict K w d es n ∧ ∀ z, match tabAt qs z with
      | some dv => ∃ u v, PySem.W.nsIn K d z = some (some u) ∧ RelV v u ∧ ∀ α H, RD K α H dv v
      | none => PySem.W.nsIn K d z = some none := by
  obtain ⟨d, es, n, h1, h2, h3, h4⟩ := h.ex
  cases r with
  | nam h1' =>
    rw [h1] at h1'
    cases h1'
    refine ⟨d, es, n, rfl, ⟨h2, h4.lit, h3⟩, fun z => ?_⟩
    have f := h4.find z
    have nr := h4.noRef
    unfold tabAt PySem.W.nsIn
    rw [h2]
    cases qq : qs.find? (fun q => q.1 == z) with
    | none =>
      cases qe : es.toList.find? (·.key.isStr z) with
      | none => simp only [Option.map_none, nr, Bool.false_eq_true, if_false, qe]
      | some e => rw [qq, qe] at f; exact f.elim
    | some q =>
      cases qe : es.toList.find? (·.key.isStr z) with
      | none => rw [qq, qe] at f; exact f.elim
      | some e =>
        rw [qq, qe] at f
        obtain ⟨v, r1, r2⟩ := f
        exact ⟨e.val, v, by simp only [qe], r1, r2⟩
/-- tables by their names -/
abbrev Tabs := List (Str × List (Str × D))
structure TabsOk (K : PySem.W.Frag) (w : World) (T : Tabs) : Prop where
  all : ∀ p ∈ T, TabOk K w p.1 p.2
def tabOf (T : Tabs) (x : Str) : Option (List (Str × D)) := (T.find? fun q => q.1 == x).map (·.2)
theorem TabsOk.of {K : PySem.W.Frag} {w : World} {T : Tabs} (h : TabsOk K w T) {x : Str} {qs : List (Str × D)} (e : tabOf T x = some qs) : TabOk K w x qs := by
  unfold tabOf at e
  cases q : T.find? (fun q => q.1 == x) with
  | none => rw [q] at e; cases e
  | some p =>
    rw [q] at e
    cases e
    have e0 : (p.1 == x) = true := by simpa using List.find?_some q
    have e1 : p.1 = x := eq_of_beq e0
    rw [← e1]
    exact h.all p (List.mem_of_find?_eq_some q)
def oInT (T : Tabs) : O2 := fun a b st => match a, b with
  | .str z, .nam x => match tabOf T x with
    | some qs => .ok (.bl (tabAt qs z).isSome) st
    | none => .no
  | _, _ => .no
def oNotInT (T : Tabs) : O2 := fun a b st => match a, b with
  | .str z, .nam x => match tabOf T x with
    | some qs => .ok (.bl (!(tabAt qs z).isSome)) st
    | none => .no
  | _, _ => .no
def oIxT (T : Tabs) : O2 := fun a b st => match a, b with
  | .nam x, .str z => match tabOf T x with
    | some qs => match tabAt qs z with
      | some d => .ok d st
      | none => .no
    | none => .no
  | _, _ => .no
section
variable {X : Cx} {W : WX} {T : Tabs} {pos : Pos}
theorem od_inT (hT : TabsOk X.K X.w T) : OD2 X (compareOp .In) (oInT T) := by
  intro pins s σ H x y v u Q I rx ry h
  obtain ⟨α, st, a, b, S, ra, rb, h⟩ := h
  unfold oInT at h
  split at h
  · rename_i z n
    split at h
    · rename_i qs e
      have e1 := ra.str_of; subst e1
      obtain ⟨d, es, m, rfl, kd, at_⟩ := (hT.of e).at_ rb
      have := at_ z
      revert this h
      cases tabAt qs z with
      | none => exact fun h q => op_in_kd kd pins s σ H _ _ v u Q I rx ry ⟨z, none, rfl, rfl, q, Fin.here h S (.bl _)⟩
      | some dv => exact fun h ⟨u0, v0, q, _⟩ => op_in_kd kd pins s σ H _ _ v u Q I rx ry ⟨z, some u0, rfl, rfl, q, Fin.here h S (.bl _)⟩
    · exact h.elim
  · exact h.elim
theorem od_notinT (hT : TabsOk X.K X.w T) : OD2 X (compareOp .NotIn) (oNotInT T) := by
  intro pins s σ H x y v u Q I rx ry h
  obtain ⟨α, st, a, b, S, ra, rb, h⟩ := h
  unfold oNotInT at h
  split at h
  · rename_i z n
    split at h
    · rename_i qs e
      have e1 := ra.str_of; subst e1
      obtain ⟨d, es, m, rfl, kd, at_⟩ := (hT.of e).at_ rb
      have := at_ z
      revert this h
      cases tabAt qs z with
      | none => exact fun h q => op_notIn_kd kd pins s σ H _ _ v u Q I rx ry ⟨z, none, rfl, rfl, q, Fin.here h S (.bl _)⟩
      | some dv => exact fun h ⟨u0, v0, q, _⟩ => op_notIn_kd kd pins s σ H _ _ v u Q I rx ry ⟨z, some u0, rfl, rfl, q, Fin.here h S (.bl _)⟩
    · exact h.elim
  · exact h.elim
theorem ix_dT (hT : TabsOk X.K X.w T) : IxR X (rD2 X.K (oIxT T)) := by
  intro value slice pins s σ H x y v u Q I rx ry h hsl
  obtain ⟨α, st, a, b, S, ra, rb, h⟩ := h
  unfold oIxT at h
  split at h
  · rename_i n z
    split at h
    · rename_i qs e
      have e1 := rb.str_of; subst e1
      obtain ⟨d, es, m, rfl, kd, at_⟩ := (hT.of e).at_ ra
      have := at_ z
      revert this h
      cases tabAt qs z with
      | none => exact fun h _ => h.elim
      | some dv => exact fun h ⟨u0, v0, q, rv, rd⟩ => ix_kdict value slice pins s σ H _ _ v u Q I rx ry ⟨d, z, v0, rfl, rfl, ⟨es, m, u0, kd.at_, kd.lit, q, rv⟩, Fin.here h S (rd _ _)⟩ hsl
    · exact h.elim
  · exact h.elim
theorem de_ixT (hT : TabsOk X.K X.w T) {a b : Expr} {ma mb : En → Sto → R D} (ha : DE X W a ma) (hb : DE X W b mb) (hs : PlainIx b) : DE X W (.Subscript a b pos) (m2 (oIxT T) ma mb) := PE.weak (pe_ix (ix_dT hT) ha hb hs) fun _ _ _ => two_of
/-- a name of the text that holds a table or a def, as a value -/
theorem de_globN {x : Str} (hg : Gl X x) (h : ∃ a, X.mg x = some (.ref a) ∧ PySem.W.nsIn X.K mainGlobals x = some (some (.ref a))) (hd : (x == ("__debug__" : Str)) = false := by decide) : DE X W (.Name x pos) (mC (.nam x)) := by
  obtain ⟨a, hm, hn⟩ := h
  exact de_glob (v := .ref a) hg hm rfl (fun _ _ => .nam hn) hd
/-- defs by their names -/
abbrev Defs := List (Str × (List D → Sto → R D))
def defAt (F : Defs) (z : Str) : Option (List D → Sto → R D) := (F.find? fun q => q.1 == z).map (·.2)
/-- what a call of a local name may meet -/
structure CalOk (P : Program) (w : World) (K : PySem.W.Frag) (mg : Str → Option Value) (base : Heap) (k n : Nat) (x : Str) (g : List D → Sto → R D) : Prop where
  ex : ∃ (f : Addr) (fd : FuncData) (ps : List Str), PySem.W.nsIn K mainGlobals x = some (some (.ref f)) ∧ FnG P w K mg base k f fd ps (spD K n g) ∧ PySem.W.keepIn K (.ref f) = true ∧ Binds K fd ps []
noncomputable def mCallL (F : Defs) (i : Nat) (mr : En → Sto → R (List D)) (env : En) (st : Sto) : R D := match env[i]? with
  | some (some (.nam x)) => match defAt F x with
    | some g => mCall g mr env st
    | none => .no
  | _ => .no
theorem de_callL {F : Defs} {k n i : Nat} (hF : ∀ p ∈ F, CalOk X.prog X.w X.K X.mg X.base k n p.1 p.2) {x : Str} {p : Pos} {e : Expr} {es : List Expr} {mr : En → Sto → R (List D)} (hr : RG k X.A) (hN : X.N[i]? = some x) (hv : Vis X.env.scope x) (tk : Takes X W)
    (ha : DA X W (e :: es) mr) (hl : AL n mr) (hdb : (x == ("__debug__" : Str)) = false := by decide) (hcd : (x == ("__classdict__" : Str)) = false := by decide) (he : starEach (e :: es) X.env = (false, eval e X.env) :: starEach es X.env := by rfl) (hpl : (backTo pos (starEach es X.env)).any (·.1) = false := by rfl) :
    DE X W (.Call (.Name x p) (e :: es) [] pos) (mCallL F i mr) := by
  refine ⟨fun pins s σ H Q I h => ?_⟩
  obtain ⟨α, env, st, hE, hS, h⟩ := h
  unfold mCallL at h
  split at h
  · rename_i nm ev
    split at h
    · rename_i g eg
      have hmem : (nm, g) ∈ F := by
        unfold defAt at eg
        cases q : F.find? (fun q => q.1 == nm) with
        | none => rw [q] at eg; cases eg
        | some p =>
          rw [q] at eg
          cases eg
          have e0 : (p.1 == nm) = true := by simpa using List.find?_some q
          have e1 : p.1 = nm := eq_of_beq e0
          rw [← e1]
          exact List.mem_of_find?_eq_some q
      obtain ⟨f, fd, ps, hn, Fn, hk, hb⟩ := (hF _ hmem).ex
      obtain ⟨v0, g1, g2⟩ := hE.2 i _ ev
      have ev0 : v0 = .ref f := by
        cases g2 with
        | nam h1 => rw [hn] at h1; cases h1; rfl
      subst ev0
      refine wpAny_Call_Name_kw (thn ((pe_var (pos := p) hN hv hdb hcd).run pins s σ H (fun v H1 => v = .ref f ∧ H1 = H) I ⟨.ref f, g1, rfl, rfl⟩) fun u s1 ⟨v, H1, I1, r1, q1⟩ => ?_)
      obtain ⟨rfl, rfl⟩ := q1
      cases r1
      refine PySem.W.callWith_K (h₀ := X.base) I.ok.mod.kin hk (thn (ha.run pos pins s1 σ _ (fun vs H1 => ∃ α1 ds st1, SR X.K α1 st1 H1 ∧ RDs X.K α1 H1 ds vs ∧ ds.length = n ∧ GoC X.K α1 H1 Q (WE W σ) (g ds st1)) I1 ⟨α, env, st, hE, hS, ?_⟩) fun us s2 h1 => ?_) he hpl
      · have hlen := hl env st
        have key := Go.bind h
        revert hlen key
        cases mr env st with
        | ok ds st1 => exact fun hlen key α1 H1 p1 k1 s1 vs rvs => ⟨α1, ds, st1, s1, rvs, hlen _ _ rfl, .of_go (key α1 H1 p1 k1 s1)⟩
        | ex x st1 => exact fun _ key => key
        | no => exact fun _ key => key
      · obtain ⟨vs, H1, I2, rv, α1, ds, st1, s1', rd, hlen, q⟩ := h1
        exact ⟨I2.kIn, run_fnG Fn hr hb (passAt tk σ) I2 rv ⟨by rw [← rd.len]; exact hlen, α1, st1, ds, s1', rd, q⟩⟩
    · exact h.elim
  · exact h.elim
/-- a name that the text binds to an object, known to both looks -/
theorem named_of {K : PySem.W.Frag} {h : Heap} {mg : Str → Option Value} {x : Str} {a : Addr} (KX : K.In h) (G : h.Ns mainGlobals mg) (e : PySem.W.nsIn K mainGlobals x = some (some (.ref a))) : ∃ a, mg x = some (.ref a) ∧ PySem.W.nsIn K mainGlobals x = some (some (.ref a)) := ⟨a, PySem.W.mg_of KX G e, e⟩
theorem CalOk.of {P : Program} {w : World} {K : PySem.W.Frag} {mg : Str → Option Value} {base : Heap} {j k n : Nat} {x : Str} {g : List D → Sto → R D} (h : DefOk P w K mg base x n j g) (hle : j ≤ k) (hn : ∃ a, mg x = some (.ref a) ∧ PySem.W.nsIn K mainGlobals x = some (some (.ref a))) : CalOk P w K mg base k n x g := by
  obtain ⟨f, fd, ps, F, hm, hk, hb⟩ := h.ex
  obtain ⟨a, ha, e⟩ := hn
  rw [hm] at ha
  cases ha
  exact ⟨f, fd, ps, e, F.mono hle, hk, hb⟩
/-- all that a table's names may call -/
abbrev CalsOk (P : Program) (w : World) (K : PySem.W.Frag) (mg : Str → Option Value) (base : Heap) (k n : Nat) (F : Defs) : Prop := ∀ p ∈ F, CalOk P w K mg base k n p.1 p.2
theorem cals_nil {P : Program} {w : World} {K : PySem.W.Frag} {mg : Str → Option Value} {base : Heap} {k n : Nat} : CalsOk P w K mg base k n [] := fun p hp => by cases hp
theorem cals_cons {P : Program} {w : World} {K : PySem.W.Frag} {mg : Str → Option Value} {base : Heap} {k n : Nat} {x : Str} {g : List D → Sto → R D} {F : Defs} (h : CalOk P w K mg base k n x g) (r : CalsOk P w K mg base k n F) : CalsOk P w K mg base k n ((x, g) :: F) := fun p hp => by
  rcases List.mem_cons.mp hp with e | hp
  · subst e; exact h
  · exact r p hp
theorem de_fL {F : Defs} {j k n i : Nat} (hF : CalsOk X.prog X.w X.K X.mg X.base j n F) {x : Str} {p : Pos} {e : Expr} {es : List Expr} {mr : En → Sto → R (List D)} (hr : RG k X.A) (hle : j ≤ k) (hN : X.N[i]? = some x) (hv : Vis X.env.scope x) (tk : Takes X W)
    (ha : DA X W (e :: es) mr) (hl : AL n mr) (hdb : (x == ("__debug__" : Str)) = false := by decide) (hcd : (x == ("__classdict__" : Str)) = false := by decide) (he : starEach (e :: es) X.env = (false, eval e X.env) :: starEach es X.env := by rfl) (hpl : (backTo pos (starEach es X.env)).any (·.1) = false := by rfl) :
    DE X W (.Call (.Name x p) (e :: es) [] pos) (mCallL F i mr) := de_callL hF (hr.mono hle) hN hv tk ha hl hdb hcd he hpl
theorem tab_of {K : PySem.W.Frag} {w : World} {x : Str} {qs : List (Str × D)} {d : Addr} {es : Array DictEntry} {n : Nat} (e1 : PySem.W.nsIn K mainGlobals x = some (some (.ref d))) (e2 : K.lookup d = some ⟨.type "dict", none, .dict es n, #[]⟩) (e3 : (d == sysModules) = false) (e4 : EntsOk K w es.toList qs) : TabOk K w x qs := ⟨d, es, n, e1, e2, e3, e4⟩
theorem tabs_nil {K : PySem.W.Frag} {w : World} : TabsOk K w [] := ⟨fun p hp => by cases hp⟩
theorem tabs_cons {K : PySem.W.Frag} {w : World} {x : Str} {qs : List (Str × D)} {T : Tabs} (h : TabOk K w x qs) (r : TabsOk K w T) : TabsOk K w ((x, qs) :: T) := ⟨fun p hp => by
  rcases List.mem_cons.mp hp with e | hp
  · subst e; exact h
  · exact r.all p hp⟩
end
end DL
set_option Elab.async false
set_option linter.all false
set_option maxRecDepth 100000
/-! least and greatest of a tuple or a list of ints, with default= too. -/
namespace DL
open PySem PySem.Spec PyProof.Rows L2 PySem.W
theorem alike_ints' (ns : List Int) : AlikeAll (ns.map PyData.int) := by
  refine ⟨fun x hx y hy => ?_, fun x hx e => ?_⟩
  · obtain ⟨i, _, rfl⟩ := List.mem_map.mp hx
    obtain ⟨j, _, rfl⟩ := List.mem_map.mp hy
    rfl
  · obtain ⟨i, _, rfl⟩ := List.mem_map.mp hx
    cases e
theorem depth_ints' : ∀ ns : List Int, PyData.depthAll (ns.map PyData.int) = 0
  | [] => rfl
  | n :: ns => by simp [PyData.depthAll, PyData.depth, depth_ints' ns]
theorem reads_ints {h : Heap} : ∀ {ns : List Int} {its : List Value}, Vals (ns.map V.int) its → ∃ as, ReadsAll h its (ns.map PyData.int) as
  | [], its, r => by cases r; exact ⟨_, .nil⟩
  | n :: ns, its, r => by
    cases r with
    | cons a b =>
      obtain ⟨as, q⟩ := reads_ints (h := h) b
      obtain ⟨t, rfl⟩ := a
      exact ⟨_, .cons (.int n t) q⟩
theorem read_int {h : Heap} {v : Value} {m : Int} {bs : List Addr} (r : Reads h v (.int m) bs) : ∃ t, v = .int m t := by
  cases r
  exact ⟨_, rfl⟩
section
variable {X : Cx}
/-- ints that can be walked: a list's, a tuple's -/
def intsAt (st : Sto) : D → Option (List Int)
  | .tup xs => intsOf xs
  | .ref r => (rdL st r).bind intsOf
  | _ => none
def bMinA : List D → Sto → R D := fun ds st => match ds with
  | [d] => match (intsAt st d).bind minI with
    | some m => .ok (.int m) st
    | none => .no
  | _ => .no
def bMaxA : List D → Sto → R D := fun ds st => match ds with
  | [d] => match (intsAt st d).bind maxI with
    | some m => .ok (.int m) st
    | none => .no
  | _ => .no
theorem ints_at {pins : List (Addr × Obj)} {s : Shared} {σ : L2.St} {H : Hp} {α : List Addr} {st : Sto} {d : D} {v : V} {ns : List Int} (I : Inv X pins σ H s) (S : SR X.K α st H) (r : RD X.K α H d v) (e : intsAt st d = some ns) :
    ∃ p its, v = .ref p ∧ Vals (ns.map V.int) its ∧ (s.heap.IsList p its.toArray ∨ s.heap.IsTuple p its.toArray) := by
  cases d with
  | tup xs =>
    obtain ⟨p, ws, rfl, t1, r1⟩ := r.tup_of
    have e' : intsOf xs = some ns := e
    rw [intsOf_map e'] at r1
    rw [r1.toInts] at t1
    obtain ⟨its, rv, ⟨o, ho, hc, n, hd⟩, _⟩ := I.tuple t1
    exact ⟨p, its, rfl, rv, .inr ⟨o, ho, hc, n, hd⟩⟩
  | ref q =>
    obtain ⟨p, rfl, a1⟩ := r.ref_of
    obtain ⟨xs, e1, e2⟩ := Option.bind_eq_some_iff.mp (show (rdL st q).bind intsOf = some ns from e)
    obtain ⟨ws, h0, r1⟩ := S.l e1 a1
    rw [intsOf_map e2] at r1
    rw [r1.toInts] at h0
    obtain ⟨its, rv, hl, _⟩ := I.list h0
    exact ⟨p, its, rfl, rv, .inl hl.isList⟩
  | _ => cases e
theorem cd_minA (hc : X.calm = true) (hu : X.A.units + 66 < cLine) : CDs X (.builtin "min") bMinA := by
  intro pins s σ H vs us Q I rv h
  obtain ⟨α, st, ds, S, rd, h⟩ := h
  unfold bMinA at h
  split at h
  · split at h
    · rename_i m e
      obtain ⟨ns, e0, e3⟩ := Option.bind_eq_some_iff.mp e
      obtain ⟨v, rfl, r⟩ := rd.one
      obtain ⟨p, its, rfl, rvs, c⟩ := ints_at I S r e0
      rw [Vals.ref1 rv]
      cases ns with
      | nil => cases e3
      | cons a l =>
        have em : m = l.foldl min a := (Option.some.inj e3).symm
        obtain ⟨as, ra⟩ := reads_ints (h := s.heap) rvs
        have hd : X.A.units + 1 + PyData.depthAll (PyData.int a :: l.map PyData.int) < cLine := by
          have := depth_ints' (a :: l)
          rw [List.map_cons] at this
          rw [this]; omega
        have fin : ∀ (i : Nat) v h' tk bs, its.toArray[i]? = some v → Reads h' v (minD (.int a) (l.map .int)) bs → (∀ b o, s.heap.get? b = some o → h'.get? b = some o) → EP X pins σ Q v { s with heap := h', toks := tk } := by
          intro i v h' tk bs _ r hk
          rw [minD_ints] at r
          obtain ⟨t, rfl⟩ := read_int r
          rw [← em]
          exact ⟨.int m, H, I.kept hk, ⟨t, rfl⟩, Fin.here h S (.int _)⟩
        rcases c with c | c
        · exact min_list_data (I.ok.hd hc) c (by simpa using ra) (alike_ints' (a :: l)) hd fin
        · exact min_tuple_data (I.ok.hd hc) c (by simpa using ra) (alike_ints' (a :: l)) hd fin
    · exact h.elim
  · exact h.elim
theorem cd_maxA (hc : X.calm = true) (hu : X.A.units + 66 < cLine) : CDs X (.builtin "max") bMaxA := by
  intro pins s σ H vs us Q I rv h
  obtain ⟨α, st, ds, S, rd, h⟩ := h
  unfold bMaxA at h
  split at h
  · split at h
    · rename_i m e
      obtain ⟨ns, e0, e3⟩ := Option.bind_eq_some_iff.mp e
      obtain ⟨v, rfl, r⟩ := rd.one
      obtain ⟨p, its, rfl, rvs, c⟩ := ints_at I S r e0
      rw [Vals.ref1 rv]
      cases ns with
      | nil => cases e3
      | cons a l =>
        have em : m = l.foldl max a := (Option.some.inj e3).symm
        obtain ⟨as, ra⟩ := reads_ints (h := s.heap) rvs
        have hd : X.A.units + 1 + PyData.depthAll (PyData.int a :: l.map PyData.int) < cLine := by
          have := depth_ints' (a :: l)
          rw [List.map_cons] at this
          rw [this]; omega
        have fin : ∀ (i : Nat) v h' tk bs, its.toArray[i]? = some v → Reads h' v (maxD (.int a) (l.map .int)) bs → (∀ b o, s.heap.get? b = some o → h'.get? b = some o) → EP X pins σ Q v { s with heap := h', toks := tk } := by
          intro i v h' tk bs _ r hk
          rw [maxD_ints] at r
          obtain ⟨t, rfl⟩ := read_int r
          rw [← em]
          exact ⟨.int m, H, I.kept hk, ⟨t, rfl⟩, Fin.here h S (.int _)⟩
        rcases c with c | c
        · exact max_list_data (I.ok.hd hc) c (by simpa using ra) (alike_ints' (a :: l)) hd fin
        · exact max_tuple_data (I.ok.hd hc) c (by simpa using ra) (alike_ints' (a :: l)) hd fin
    · exact h.elim
  · exact h.elim
end
end DL
set_option Elab.async false
set_option linter.all false
set_option maxRecDepth 100000
/-! Calls of built-ins with keywords; least and greatest with default=. -/
namespace DL
open PySem PySem.Spec PyProof.Rows L2 PySem.W
section
variable {X : Cx} {W : WX} {pos : Pos} {e : Expr} {es : List Expr} {kws : List Keyword} {me : En → Sto → R D} {mr mk : En → Sto → R (List D)}
abbrev DK (X : Cx) (W : WX) (kws : List Keyword) (m : En → Sto → R (List D)) : Prop := PK X kws (tA X.K W m)
theorem PK.weak {kws : List Keyword} {t t' : TA} (h : PK X kws t) (f : ∀ σ H Q, t' σ H Q → t σ H Q) : PK X kws t' := ⟨fun pos pins s σ H Q I hw => h.run pos pins s σ H Q I (f σ H Q hw)⟩
theorem dk_nil : DK X W [] aNil := by
  refine PK.weak pk_nil fun σ H Q h => ?_
  obtain ⟨α, env, st, hE, hS, h⟩ := h
  exact h.here hS _ .nil
theorem dk_cons {nm : Option Str} {kpos : Pos} (ha : DE X W e me) (hr : DK X W kws mk) : DK X W (⟨nm, e, kpos⟩ :: kws) (aCons me mk) := by
  refine PK.weak (pk_cons ha hr) fun σ H Q h => ?_
  obtain ⟨α, env, st, hE, hS, h⟩ := h
  refine ⟨α, env, st, hE, hS, h.bind.mono fun x st1 α1 H1 p1 k1 s1 h1 v rv => ?_⟩
  refine ⟨α1, env, st1, hE.mono p1 k1, s1, h1.bind.mono fun xs st2 α2 H2 p2 k2 s2 h2 vs rvs => ?_⟩
  exact h2.here s2 _ (.cons (rv.mono p2 k2) rvs)
def rDsK (K : PySem.W.Frag) (f : List D → List D → Sto → R D) : List V → List V → Hp → VK → Prop := fun vs ws H Q => ∃ α st ds es, SR K α st H ∧ RDs K α H ds vs ∧ RDs K α H es ws ∧ Rw (f ds es st) fun d st' => Fin K α H Q d st'
def mFnK (f : List D → List D → Sto → R D) (mr mk : En → Sto → R (List D)) (env : En) (st : Sto) : R D := (mr env st).bind fun xs st1 => (mk env st1).bind fun zs st2 => noEx (f xs zs st2)
theorem fnK_of {K : PySem.W.Frag} {f : List D → List D → Sto → R D} {σ : L2.St} {H : Hp} {Q : VK} (h : tE K W (mFnK f mr mk) σ H Q) : tCKw (rDsK K f) (tA K W mr) (tA K W mk) σ H Q := by
  obtain ⟨α, env, st, hE, hS, h⟩ := h
  refine ⟨α, env, st, hE, hS, h.bind.mono fun xs st1 α1 H1 p1 k1 s1 h1 vs rvs => ?_⟩
  refine ⟨α1, env, st1, hE.mono p1 k1, s1, h1.bind.mono fun zs st2 α2 H2 p2 k2 s2 h2 ws rws => ?_⟩
  exact ⟨α2, st2, xs, zs, s2, rvs.mono p2 k2, rws, h2.rw.mono fun d st3 q α' H' w p k s rw => q α' H' p k s w rw⟩
theorem de_callK {x : Str} {id : String} {ks : List Str} {f : List D → List D → Sto → R D} {p : Pos} (hc : CallRK X (.builtin id) ks (rDsK X.K f)) (hg : Gl X x) (hm : X.mg x = none) (hv : bootBuiltins x = some (.builtin id)) (ha : DA X W (e :: es) mr) (hk : DK X W kws mk) (hn : x ≠ "__name__" := by decide) (hdb : (x == ("__debug__" : Str)) = false := by decide)
    (he : backTo pos (starEach (e :: es) X.env) = (false, eval e X.env) :: backTo pos (starEach es X.env) := by rfl) (hpl : (backTo pos (starEach (e :: es) X.env)).any (·.1) = false := by rfl)
    (hall : (backToKw pos (keywordEach kws X.env)).all (·.1.isSome) = true := by rfl) (hnone : (backToKw pos (keywordEach kws X.env)).any (·.1.isNone) = false := by rfl) (hks : (backToKw pos (keywordEach kws X.env)).filterMap (·.1) = ks := by rfl) :
    DE X W (.Call (.Name x p) (e :: es) kws pos) (mFnK f mr mk) := PE.weak (pe_callBK hc hg hm hv ha hk hn hdb he hpl hall hnone hks) fun _ _ _ => fnK_of
def bMinK : List D → List D → Sto → R D := fun ds es st => match ds, es with
  | [d], [z] => match intsAt st d with
    | some ns => match minI ns with
      | some m => .ok (.int m) st
      | none => .ok z st
    | none => .no
  | _, _ => .no
def bMaxK : List D → List D → Sto → R D := fun ds es st => match ds, es with
  | [d], [z] => match intsAt st d with
    | some ns => match maxI ns with
      | some m => .ok (.int m) st
      | none => .ok z st
    | none => .no
  | _, _ => .no
theorem cdk_min (hc : X.calm = true) (hu : X.A.units + 66 < cLine) : CallRK X (.builtin "min") [Str.ofString "default"] (rDsK X.K bMinK) := by
  intro pins s σ H xs zs us ws Q I rv rw' h
  obtain ⟨α, st, ds, es, S, rd, re, h⟩ := h
  unfold bMinK at h
  split at h
  · rename_i d z
    split at h
    · rename_i ns e0
      obtain ⟨v, rfl, r⟩ := rd.one
      obtain ⟨v2, rfl, r2⟩ := re.one
      obtain ⟨p, its, rfl, rvs, c⟩ := ints_at I S r e0
      rw [Vals.ref1 rv]
      obtain ⟨u2, rfl, ru2⟩ := vals1 rw'
      obtain ⟨as, ra⟩ := reads_ints (h := s.heap) rvs
      have hd : X.A.units + 1 + PyData.depthAll (ns.map PyData.int) < cLine := by rw [depth_ints']; omega
      have f0 : ns.map PyData.int = [] → ∀ h' tk, (∀ b o, s.heap.get? b = some o → h'.get? b = some o) → EP X pins σ Q u2 { s with heap := h', toks := tk } := by
        intro en h' tk hk
        have en' : ns = [] := by simpa using en
        subst en'
        exact ⟨v2, H, I.kept hk, ru2, Fin.here h S r2⟩
      have f1 : ∀ (y : PyData) (ys : List PyData) (i : Nat) v h' tk bs, ns.map PyData.int = y :: ys → its.toArray[i]? = some v → Reads h' v (minD y ys) bs → (∀ b o, s.heap.get? b = some o → h'.get? b = some o) → EP X pins σ Q v { s with heap := h', toks := tk } := by
        intro y ys i v h' tk bs en _ r hk
        cases ns with
        | nil => cases en
        | cons a l =>
          cases en
          rw [minD_ints] at r
          obtain ⟨t, rfl⟩ := read_int r
          exact ⟨.int _, H, I.kept hk, ⟨t, rfl⟩, Fin.here h S (.int _)⟩
      rcases c with c | c
      · exact min_list_default (I.ok.hd hc) c (by simpa using ra) (alike_ints' ns) hd f0 f1
      · exact min_tuple_default (I.ok.hd hc) c (by simpa using ra) (alike_ints' ns) hd f0 f1
    · exact h.elim
  · exact h.elim
theorem cdk_max (hc : X.calm = true) (hu : X.A.units + 66 < cLine) : CallRK X (.builtin "max") [Str.ofString "default"] (rDsK X.K bMaxK) := by
  intro pins s σ H xs zs us ws Q I rv rw' h
  obtain ⟨α, st, ds, es, S, rd, re, h⟩ := h
  unfold bMaxK at h
  split at h
  · rename_i d z
    split at h
    · rename_i ns e0
      obtain ⟨v, rfl, r⟩ := rd.one
      obtain ⟨v2, rfl, r2⟩ := re.one
      obtain ⟨p, its, rfl, rvs, c⟩ := ints_at I S r e0
      rw [Vals.ref1 rv]
      obtain ⟨u2, rfl, ru2⟩ := vals1 rw'
      obtain ⟨as, ra⟩ := reads_ints (h := s.heap) rvs
      have hd : X.A.units + 1 + PyData.depthAll (ns.map PyData.int) < cLine := by rw [depth_ints']; omega
      have f0 : ns.map PyData.int = [] → ∀ h' tk, (∀ b o, s.heap.get? b = some o → h'.get? b = some o) → EP X pins σ Q u2 { s with heap := h', toks := tk } := by
        intro en h' tk hk
        have en' : ns = [] := by simpa using en
        subst en'
        exact ⟨v2, H, I.kept hk, ru2, Fin.here h S r2⟩
      have f1 : ∀ (y : PyData) (ys : List PyData) (i : Nat) v h' tk bs, ns.map PyData.int = y :: ys → its.toArray[i]? = some v → Reads h' v (maxD y ys) bs → (∀ b o, s.heap.get? b = some o → h'.get? b = some o) → EP X pins σ Q v { s with heap := h', toks := tk } := by
        intro y ys i v h' tk bs en _ r hk
        cases ns with
        | nil => cases en
        | cons a l =>
          cases en
          rw [maxD_ints] at r
          obtain ⟨t, rfl⟩ := read_int r
          exact ⟨.int _, H, I.kept hk, ⟨t, rfl⟩, Fin.here h S (.int _)⟩
      rcases c with c | c
      · exact max_list_default (I.ok.hd hc) c (by simpa using ra) (alike_ints' ns) hd f0 f1
      · exact max_tuple_default (I.ok.hd hc) c (by simpa using ra) (alike_ints' ns) hd f0 f1
    · exact h.elim
  · exact h.elim
end
end DL
set_option Elab.async false
set_option linter.all false
set_option maxRecDepth 100000
/-! A call whose callee is told by an expression (an entry of a table). -/
namespace DL
open PySem PySem.Spec PyProof.Rows L2 PySem.W StX
noncomputable def mCallE (F : Defs) (mf : En → Sto → R D) (mr : En → Sto → R (List D)) (env : En) (st : Sto) : R D := (mf env st).bind fun d st1 => match d with
  | .nam x => match defAt F x with
    | some g => mCall g mr env st1
    | none => .no
  | _ => .no
theorem defAt_mem {F : Defs} {nm : Str} {g : List D → Sto → R D} (eg : defAt F nm = some g) : (nm, g) ∈ F := by
  unfold defAt at eg
  cases q : F.find? (fun q => q.1 == nm) with
  | none => rw [q] at eg; cases eg
  | some p =>
    rw [q] at eg
    cases eg
    have e0 : (p.1 == nm) = true := by simpa using List.find?_some q
    have e1 : p.1 = nm := eq_of_beq e0
    rw [← e1]
    exact List.mem_of_find?_eq_some q
section
variable {X : Cx} {W : WX} {pos : Pos}
theorem de_fE {F : Defs} {j k n : Nat} (hF : CalsOk X.prog X.w X.K X.mg X.base j n F) {fe e : Expr} {es : List Expr} {mf : En → Sto → R D} {mr : En → Sto → R (List D)} (hf : DE X W fe mf) (hr : RG k X.A) (hle : j ≤ k) (tk : Takes X W)
    (ha : DA X W (e :: es) mr) (hl : AL n mr)
    (ht : eval (.Call fe (e :: es) [] pos) X.env = (do callWith pos (← eval fe X.env) [] (backTo pos (starEach (e :: es) X.env)) (backToKw pos (keywordEach [] X.env))) := by rfl)
    (he : starEach (e :: es) X.env = (false, eval e X.env) :: starEach es X.env := by rfl) (hpl : (backTo pos (starEach es X.env)).any (·.1) = false := by rfl) :
    DE X W (.Call fe (e :: es) [] pos) (mCallE F mf mr) := by
  refine ⟨fun pins s σ H Q I h => ?_⟩
  obtain ⟨α, env, st, hE, hS, h⟩ := h
  refine Call_ (thn (hf.run pins s σ H (fun v H1 => ∃ (f : Addr) (fd : FuncData) (ps : List Str) (g : List D → Sto → R D) (α1 : List Addr) (st1 : Sto), v = .ref f ∧ FnG X.prog X.w X.K X.mg X.base j f fd ps (spD X.K n g) ∧ PySem.W.keepIn X.K (.ref f) = true ∧ Binds X.K fd ps [] ∧
    ER X.K α1 env σ H1 ∧ SR X.K α1 st1 H1 ∧ Go X.K W α1 H1 σ (mCall g mr env st1) fun d _ α' H' => ∀ v, RD X.K α' H' d v → Q v H') I ⟨α, env, st, hE, hS, ?_⟩) fun u s1 ⟨v, H1, I1, r1, f, fd, ps, g, α1, st1, ev, Fn, hk, hb, hE1, hS1, q⟩ => ?_) ht
  · refine h.bind.mono fun d st1 α1 H1 p1 k1 s1 h1 v rv => ?_
    split at h1
    · rename_i nm
      split at h1
      · rename_i g eg
        obtain ⟨f, fd, ps, hn, Fn, hk, hb⟩ := (hF _ (defAt_mem eg)).ex
        cases rv with
        | nam h2 =>
          rw [hn] at h2
          cases h2
          exact ⟨f, fd, ps, g, α1, st1, rfl, Fn, hk, hb, hE.mono p1 k1, s1, h1⟩
      · exact h1.elim
    · exact h1.elim
  · subst ev
    obtain rfl : u = Value.ref f := r1
    refine PySem.W.callWith_K (h₀ := X.base) I1.ok.mod.kin hk (thn (ha.run pos pins s1 σ H1 (fun vs H2 => ∃ α2 ds st2, SR X.K α2 st2 H2 ∧ RDs X.K α2 H2 ds vs ∧ ds.length = n ∧ GoC X.K α2 H2 Q (WE W σ) (g ds st2)) I1 ⟨α1, env, st1, hE1, hS1, ?_⟩) fun us s2 h1 => ?_) he hpl
    · have hlen := hl env st1
      have key := Go.bind q
      revert hlen key
      cases mr env st1 with
      | ok ds st2 => exact fun hlen key α2 H2 p2 k2 s2 vs rvs => ⟨α2, ds, st2, s2, rvs, hlen _ _ rfl, .of_go (key α2 H2 p2 k2 s2)⟩
      | ex x st2 => exact fun _ key => key
      | no => exact fun _ key => key
    · obtain ⟨vs, H2, I2, rv, α2, ds, st2, s2', rd, hlen, q2⟩ := h1
      exact ⟨I2.kIn, run_fnG Fn (hr.mono hle) hb (passAt tk σ) I2 rv ⟨by rw [← rd.len]; exact hlen, α2, st2, ds, s2', rd, q2⟩⟩
end
end DL
set_option Elab.async false
set_option linter.all false
set_option maxRecDepth 100000
/-! isinstance of data and a built-in type. -/
namespace DL
open PySem PySem.Spec PyProof.Rows L2
def kinds6 : List String := ["NoneType", "bool", "int", "str", "tuple", "list"]
def types5 : List String := ["int", "str", "tuple", "bool", "list"]
def isT (n T : String) : Option Bool := if n ∈ kinds6 ∧ T ∈ types5 then some (n == T || (n == "bool" && T == "int")) else none
theorem kit_one {K : PySem.W.Frag} {n T : String} {b : Bool} (h : isT n T = some b) : PySem.W.kitOne K (.type n) (.type T) = some b := by
  unfold isT at h
  split at h
  · rename_i q
    obtain ⟨q1, q2⟩ := q
    cases h
    simp only [kinds6, types5, List.mem_cons, List.not_mem_nil, or_false] at q1 q2
    rcases q1 with rfl | rfl | rfl | rfl | rfl | rfl <;> rcases q2 with rfl | rfl | rfl | rfl | rfl <;> rfl
  · cases h
theorem tyx_tup {K : PySem.W.Frag} {H : Hp} {a : Addr} {xs : List V} (h : SqT K H a xs) : TyX K H (.ref a) (.type "tuple") := by
  rcases h with (h | ⟨o, h⟩) | h
  · exact .base (.tup h)
  · exact .fTuple h
  · obtain ⟨o, _, _, h1, h2, _⟩ := h
    exact .kTuple h1 h2
theorem tyx_lst {K : PySem.W.Frag} {H : Hp} {a : Addr} {xs : List V} (h : SqL K H a xs) : TyX K H (.ref a) (.type "list") := by
  rcases h with (h | ⟨o, h⟩) | h
  · exact .base (.lst h)
  · exact .base (.frz h)
  · obtain ⟨o, _, _, h1, h2, _⟩ := h
    exact .kList h1 h2
def bIsInst : List D → Sto → R D := fun ds st => match ds with
  | [d, .ty T] => match (kindD st d).bind fun n => isT n T with
    | some b => .ok (.bl b) st
    | none => .no
  | _ => .no
section
variable {X : Cx}
theorem tyx_of {α : List Addr} {H : Hp} {st : Sto} {d : D} {v : V} {n : String} (S : SR X.K α st H) (r : RD X.K α H d v) (e : kindD st d = some n) : TyX X.K H v (.type n) := by
  cases d with
  | non => cases r; cases e; exact .base .non
  | bl b => cases r; cases e; exact .base (.bl b)
  | int i => cases r; cases e; exact .base (.int i)
  | str x => cases r; cases e; exact .base (.str x)
  | tup xs =>
    cases e
    obtain ⟨p, ws, rfl, t1, r1⟩ := r.tup_of
    exact tyx_tup t1
  | ref q =>
    obtain ⟨p, rfl, a1⟩ := r.ref_of
    have e' : (match rdL st q with
      | some _ => some "list"
      | none => none) = some n := e
    split at e'
    · rename_i xs e1
      cases e'
      obtain ⟨ws, h0, r1⟩ := S.l e1 a1
      exact tyx_lst h0
    · cases e'
  | _ => cases e
theorem cd_isinst : CDs X (.builtin "isinstance") bIsInst := by
  intro pins s σ H vs us Q I rv h
  obtain ⟨α, st, ds, S, rd, h⟩ := h
  unfold bIsInst at h
  split at h
  · rename_i d T
    split at h
    · rename_i b e
      obtain ⟨n, e1, e2⟩ := Option.bind_eq_some_iff.mp e
      cases rd with
      | cons r1 rr =>
        cases rr with
        | cons r2 r3 =>
          cases r3
          have et := r2.ty_of
          subst et
          exact call_isi pins s σ H _ us Q I rv ⟨_, _, .type n, .type T, b, rfl, .ty T, tyx_of S r1 e1, kit_one e2, Fin.here h S (.bl _)⟩
    · exact h.elim
  · exact h.elim
end
end DL
set_option Elab.async false
set_option linter.all false
set_option maxRecDepth 100000
/-! a, b, .. = a tuple or a list of that length; the names of a table in their order. -/
namespace DL
open PySem PySem.Spec PyProof.Rows L2
section
variable {X : Cx} {W : WX} {pos : Pos}
theorem PG.either {e : Expr} {t t' : TG} (h : PG X e t) (h' : PG X e t') : PG X e (fun v σ H Q => t v σ H Q ∨ t' v σ H Q) := ⟨fun pins s σ H v u Q I r hw => hw.elim (h.run pins s σ H v u Q I r) (h'.run pins s σ H v u Q I r)⟩
def gSeq (gs : List D → En → Sto → Option (En × Sto)) (n : Nat) : GT := fun d env st => match d with
  | .tup xs => if xs.length = n then gs xs env st else none
  | .ref r => match rdL st r with
    | some xs => if xs.length = n then gs xs env st else none
    | none => none
  | _ => none
theorem dg_seq {es : List Expr} {k : Nat} {vs : List Nat} {gs : List D → En → Sto → Option (En × Sto)} {n : Nat} (hc : X.calm = true) (h : DGs X es vs gs)
    (hn : (assignEach es X.env).length = n := by rfl) (hst : (assignEach es X.env).findIdx? (·.1) = none := by rfl) : DG X (.Tuple es k pos) vs (gSeq gs n) := by
  refine PG.weak (PG.either (pg_tup hc h hn hst) (pg_lst hc h hn hst)) fun v σ H Q h => ?_
  obtain ⟨α, env, st, d, hE, hS, r, h⟩ := h
  unfold gSeq at h
  cases d with
  | tup xs =>
    obtain ⟨a, us, rfl, t1, r1⟩ := r.tup_of
    by_cases hl : xs.length = n
    · simp only [hl, if_true] at h
      exact .inl ⟨a, us, rfl, t1, by rw [← r1.len]; exact hl, α, env, st, xs, hE, hS, r1, h⟩
    · simp only [hl, if_false] at h
  | ref q =>
    obtain ⟨p, rfl, a1⟩ := r.ref_of
    cases e1 : rdL st q with
    | none => simp only [e1] at h
    | some xs =>
      obtain ⟨us, h0, r1⟩ := hS.l e1 a1
      by_cases hl : xs.length = n
      · simp only [e1, hl, if_true] at h
        exact .inr ⟨p, us, rfl, h0, by rw [← r1.len]; exact hl, α, env, st, xs, hE, hS, r1, h⟩
      · simp only [e1, hl, if_false] at h
  | _ => exact h.elim
end
end DL
set_option Elab.async false
set_option linter.all false
set_option maxRecDepth 100000
/-! A constant tuple of the module, by what stands there. -/
namespace DL
open PySem PySem.Spec PyProof.Rows L2
theorem glob_tup_of {K : PySem.W.Frag} {h : Heap} {mg : Str → Option Value} {x : Str} {a : Addr} {dd : Option Addr} {its : Array Value} {n : Nat} {sl : Array (Option Value)} {ds : List D} (KX : K.In h) (G : h.Ns mainGlobals mg) (e1 : PySem.W.nsIn K mainGlobals x = some (some (.ref a)))
    (e2 : K.lookup a = some ⟨.type "tuple", dd, .seq its n, sl⟩) (e3 : its.size ≤ sizeLine) (e4 : ∃ vs, Vals vs its.toList ∧ ∀ α H, RDs K α H ds vs) : ∃ a, mg x = some (.ref a) ∧ ∀ α H, RD K α H (.tup ds) (.ref a) := by
  obtain ⟨vs, h1, h2⟩ := e4
  exact ⟨a, PySem.W.mg_of KX G e1, fun α H => .tup (.inr ⟨_, its, n, e2, rfl, rfl, e3, h1⟩) (h2 α H)⟩
end DL
set_option Elab.async false
set_option linter.all false
set_option maxRecDepth 100000
/-! Two targets; x *= y; xs[::-1]. -/
namespace DL
open PySem PySem.Spec PyProof.Rows L2
section
variable {X : Cx} {W : WX} {pos : Pos} {e : Expr} {me : En → Sto → R D}
/-- t1 = t2 = e -/
def sAsg2 (m : En → Sto → R D) (g1 g2 : GT) (env : En) (st : Sto) : RS := (m env st).toS env fun d st1 => match g1 d env st1 with
  | some (env1, st2) => match g2 d env1 st2 with
    | some (env2, st3) => .nx env2 st3
    | none => .no
  | none => .no
theorem ds_asg2 {t1 t2 : Expr} {v1 v2 : List Nat} {g1 g2 : GT} (he : DE X W e me) (h1 : DG X t1 v1 g1) (h2 : DG X t2 v2 g2) (ha : (assignEach [t1, t2] X.env).map (·.2) = [assign t1 X.env, assign t2 X.env] := by rfl) (hw : swappedStores [t1, t2] e X.env = pure none := by rfl) :
    DS X W (.Assign [t1, t2] e pos) (sAsg2 me g1 g2) := by
  refine PS.weak (ps_asg2 he h1 h2 ha hw) fun Dn σ H h => ?_
  obtain ⟨α, env, st, hE, hS, h⟩ := h
  refine ⟨α, env, st, hE, hS, (h.toGo hE).mono fun d st1 α1 H1 p1 k1 s1 h1 v rv => ?_⟩
  refine ⟨α1, env, st1, d, hE.mono p1 k1, s1, rv, ?_⟩
  revert h1
  cases g1 d env st1 with
  | none => exact fun h => h
  | some p =>
    intro h1 α2 σ2 H2 p2 k2 s2 e2 _
    refine ⟨α2, p.1, p.2, d, e2, s2, rv.mono p2 k2, ?_⟩
    revert h1
    dsimp only
    cases g2 d p.1 p.2 with
    | none => exact fun h => h
    | some q => exact fun h1 α' σ' H' p k s e _ => h1 α' σ' H' (p2.trans p) (k2.trans k) s e
/-- x *= y, ints -/
def oMulI : O2 := fun a b st => match a, b with
  | .int i, .int j => if Small i ∨ Small j then .ok (.int (i * j)) st else .no
  | _, _ => .no
theorem pd_mul : PIp X .Mult (rD2 X.K oMulI) := by
  intro pins s σ H x y v u Q I rx ry h
  obtain ⟨α, st, a, b, S, ra, rb, h⟩ := h
  unfold oMulI at h
  split at h
  · have e1 := ra.int_of; have e2 := rb.int_of; subst e1; subst e2
    split at h
    · rename_i i j hs
      obtain ⟨t, rfl⟩ := rx
      obtain ⟨t', rfl⟩ := ry
      exact imul_int ⟨.int _, H, I.tok _, ⟨_, rfl⟩, Fin.here h S (.int _)⟩ (CMul.ok (show CMul i j from hs))
    · exact h.elim
  · exact h.elim
/-- xs[::-1] -/
def mRev (ma : En → Sto → R D) (env : En) (st : Sto) : R D := (ma env st).bind fun x st1 => match x with
  | .ref r => match rdL st1 r with
    | some xs => .ok (.ref st1.length) (st1 ++ [.lst xs.reverse])
    | none => .no
  | _ => .no
theorem de_revL {a : Expr} {ma : En → Sto → R D} {k : Nat} {p1 p2 p3 : Pos} (ha : DE X W a ma) : DE X W (.Subscript a (.Slice none none (some (.UnaryOp .USub (.Constant (.int 1) k p1) p2)) p3) pos) (mRev ma) := by
  refine PE.weak (pe_revL ha) fun σ H Q h => ?_
  obtain ⟨α, env, st, hE, hS, h⟩ := h
  refine ⟨α, env, st, hE, hS, h.bind.mono fun x st1 α1 H1 p1 k1 s1 h1 v rv => ?_⟩
  split at h1
  · rename_i r
    obtain ⟨q, rfl, a1⟩ := rv.ref_of
    split at h1
    · rename_i xs e1
      obtain ⟨us, h0, r1⟩ := s1.l e1 a1
      exact ⟨q, us, rfl, h0, fun p hp => lst_end s1 r1.rev hp h1⟩
    · exact h1.elim
  · exact h1.elim
end
end DL
namespace DL
open PySem PySem.Spec PyProof.Rows L2
section
variable {X : Cx} {W : WX} {pos : Pos} {a b c d : Expr} {ma mb mc md : En → Sto → R D}
/-- a op b op' c op'' d, as a test -/
def tChain3 (r r' r'' : R2) (ta tb tc td : TE) : TE := fun σ H Q => ta σ H fun x G1 => tb σ G1 fun y G2 => r x y G2 fun z G3 => ∃ k, z = .bl k ∧
  (if k = true then tc σ G3 fun w' G4 => r' y w' G4 fun z2 G5 => ∃ k2, z2 = .bl k2 ∧ (if k2 = true then td σ G5 fun u' G6 => r'' w' u' G6 Q else Q (.bl false) G5) else Q (.bl false) G3)
theorem pt_chain3 {op op' op'' : CmpOp} {r r' r'' : R2} {ta tb tc td : TE} (ho : OpR X (compareOp op) r) (ho' : OpR X (compareOp op') r') (ho'' : OpR X (compareOp op'') r'') (ha : PE X a ta) (hb : PE X b tb) (hc : PE X c tc) (hd : PE X d td)
    (hm : lastMarks [op, op', op''] [b, c, d] = false := by with_unfolding_all rfl) : PT X (.Compare a [op, op', op''] [b, c, d] pos) (tTest (tChain3 r r' r'' ta tb tc td)) := by
  refine ⟨fun pins s σ H Q I h => ?_⟩
  refine isTrue_chain (thn (ha.run pins s σ H _ I h) fun v t1 ⟨x, G1, J1, j1, u1⟩ => test_link (thn (hb.run pins t1 σ G1 _ J1 u1) fun u t2 ⟨y, G2, J2, j2, w2⟩ =>
    thn (ho pins t2 σ G2 x y v u _ J2 j1 j2 w2) fun d t3 ⟨z, G3, J3, j3, k, e, w3⟩ => ?_)) hm
  subst e
  cases j3
  refine wpAny_truthy_bool ?_
  cases k with
  | false =>
    obtain ⟨k', e', q'⟩ := w3
    cases e'
    exact ite_ff ⟨G3, J3, q'⟩
  | true =>
    refine ite_tt (test_link (thn (hc.run pins t3 σ G3 _ J3 w3) fun w' t4 ⟨z', G4, J4, j4, w4⟩ => thn (ho' pins t4 σ G4 y z' u w' _ J4 j2 j4 w4) fun d' t5 ⟨z2, G5, J5, j5, k2, e2, w5⟩ => ?_))
    subst e2
    cases j5
    refine wpAny_truthy_bool ?_
    cases k2 with
    | false =>
      obtain ⟨k', e', q'⟩ := w5
      cases e'
      exact ite_ff ⟨G5, J5, q'⟩
    | true =>
      refine ite_tt (test_last (thn (hd.run pins t5 σ G5 _ J5 w5) fun w2 t6 ⟨z6, G6, J6, j6, w6⟩ => thn (ho'' pins t6 σ G6 z' z6 w' w2 _ J6 j4 j6 w6) fun d'' t7 ⟨z7, G7, J7, j7, k3, e3, w7⟩ => ?_))
      subst e3
      cases j7
      exact wpAny_truthy_bool ⟨G7, J7, w7⟩
def mChain3 (f g h : O2) (ma mb mc md : En → Sto → R D) (env : En) (st : Sto) : R D := (ma env st).bind fun x st1 => (mb env st1).bind fun y st2 => (noEx (f x y st2)).bind fun z st3 => match z with
  | .bl true => (mc env st3).bind fun w st4 => (noEx (g y w st4)).bind fun z st5 => match z with
    | .bl true => (md env st5).bind fun u st6 => noEx (h w u st6)
    | .bl false => .ok (.bl false) st5
    | _ => .no
  | .bl false => .ok (.bl false) st3
  | _ => .no
theorem dt_chain3 {op op' op'' : CmpOp} {f g k : O2} (ho : OD2 X (compareOp op) f) (ho' : OD2 X (compareOp op') g) (ho'' : OD2 X (compareOp op'') k) (ha : DE X W a ma) (hb : DE X W b mb) (hc : DE X W c mc) (hd : DE X W d md)
    (hm : lastMarks [op, op', op''] [b, c, d] = false := by with_unfolding_all rfl) : DT X W (.Compare a [op, op', op''] [b, c, d] pos) (mB (mChain3 f g k ma mb mc md)) := by
  refine PT.weak (pt_chain3 ho ho' ho'' ha hb hc hd hm) fun σ H Q h => ?_
  obtain ⟨α, env, st, hE, hS, h⟩ := b_of h
  refine ⟨α, env, st, hE, hS, h.bind.mono fun x st1 α1 H1 p1 k1 s1 h1 v rv => ?_⟩
  refine ⟨α1, env, st1, hE.mono p1 k1, s1, h1.bind.mono fun y st2 α2 H2 p2 k2 s2 h2 u ru => ?_⟩
  refine ⟨α2, st2, x, y, s2, rv.mono p2 k2, ru, h2.bind.rw.mono fun d st3 q α3 H3 w p3 k3 s3 rw => ?_⟩
  have q3 := q α3 H3 p3 k3 s3
  split at q3
  · refine ⟨true, rw.bl_of, ?_⟩
    rw [if_pos rfl]
    refine ⟨α3, env, st3, ((hE.mono p1 k1).mono p2 k2).mono p3 k3, s3, q3.bind.mono fun w' st4 α4 H4 p4 k4 s4 h4 v' rv' => ?_⟩
    refine ⟨α4, st4, y, w', s4, (ru.mono p3 k3).mono p4 k4, rv', h4.bind.rw.mono fun d5 st5 q5 α5 H5 w5 p5 k5 s5 rw5 => ?_⟩
    have q6 := q5 α5 H5 p5 k5 s5
    split at q6
    · refine ⟨true, rw5.bl_of, ?_⟩
      rw [if_pos rfl]
      refine ⟨α5, env, st5, ((((hE.mono p1 k1).mono p2 k2).mono p3 k3).mono p4 k4).mono p5 k5, s5, q6.bind.mono fun w7 st7 α7 H7 p7 k7 s7 h7 v7 rv7 => ?_⟩
      exact ⟨α7, st7, w', w7, s7, (rv'.mono p5 k5).mono p7 k7, rv7, h7.rw.mono fun d st8 q α' H' w p k s rw => q α' H' p k s w rw⟩
    · refine ⟨false, rw5.bl_of, ?_⟩
      rw [if_neg Bool.false_ne_true]
      exact q6.here s5 _ (.bl false)
    · exact q6.elim
  · refine ⟨false, rw.bl_of, ?_⟩
    rw [if_neg Bool.false_ne_true]
    exact q3.here s3 _ (.bl false)
  · exact q3.elim
end
end DL
set_option Elab.async false
set_option linter.all false
set_option maxRecDepth 100000
/-! enumerate over a tuple. -/
namespace DL
open PySem PySem.Spec PyProof.Rows L2
abbrev tupIt (a : Addr) : Obj := { cls := .type "tuple_iterator", data := .fields #[.ref a, .int 0 0] }
abbrev enumOb (it : Addr) : Obj := { cls := .type "enumerate", data := .fields #[.none, .bool false, .ref it, rawInt 0, .none, .none] }
theorem enum_new (a : Addr) (ys : Array Value) : Meets (Builtin.«enumerate.__new__» ⟨[.type "enumerate", .ref a], []⟩) fun _ R s => s.heap.IsTuple a ys ∧
    R (.ok (.ret (.ref (s.heap.push (tupIt a)).objs.size))) { s with heap := (s.heap.push (tupIt a)).push (enumOb s.heap.objs.size) } :=
  .of_wp fun pr wo Ar Rr st0 hh => by
    obtain ⟨h0, gs, dr, tk, os⟩ := st0
    obtain ⟨ht, hr⟩ := hh
    have sub0 := sub_enumerate
    have htup : Heap.IsTuple (Shared.heap ⟨h0, gs, dr, tk, os⟩) a ys := ht
    wp_walk using wpAny_pyIter_tuple htup
    refine wpAny_stack_any fun stk => wpAny_pure ?_
    split
    · rename_i c _ _ _ _ _
      cases (c == Value.type "enumerate") <;> (wp_walk using wpAny_pyIter_tuple htup; exact ⟨_, rfl, hr⟩)
    · wp_walk using wpAny_pyIter_tuple htup
      exact ⟨_, rfl, hr⟩
theorem enum_call {pr : Program} {wo : World} {Ar : Around} {Er : Value → Shared → Prop} {s : Shared} {a : Addr} {ys : Array Value} {Q : Value → Shared → Prop} (ht : s.heap.IsTuple a ys)
    (q : ∀ h1, IsEnum h1 (s.heap.objs.size + 1) s.heap.objs.size 0 .none → h1.IsTupleIter s.heap.objs.size a 0 → (∀ b o, s.heap.get? b = some o → h1.get? b = some o) → Q (.ref (s.heap.objs.size + 1)) { s with heap := h1 }) :
    wpAny (model pr wo) Ar (call (.type "enumerate") [.ref a]) Q Er s := by
  refine callType_new F.called_enumerate (by decide) (F.typeCall_enumerate_1 _) (F.newCall_enumerate_1 _) (fun ob => F.args_object_init_2 ob _) F.entry_enumerate_new (enum_new a ys) ⟨ht, ?_⟩
  have z1 : (s.heap.push (tupIt a)).objs.size = s.heap.objs.size + 1 := Heap.size_push ..
  show _ ∧ _
  rw [z1]
  have e1 : IsEnum ((s.heap.push (tupIt a)).push (enumOb s.heap.objs.size)) (s.heap.objs.size + 1) s.heap.objs.size 0 .none := by
    have := Heap.get?_push_size (s.heap.push (tupIt a)) (o := enumOb s.heap.objs.size) rfl
    rw [z1] at this
    exact this
  exact ⟨⟨_, e1, rfl⟩, q _ e1 ⟨_, Heap.get?_push_of_some _ (Heap.get?_push_size _ rfl), rfl, rfl⟩ fun b o x => Heap.get?_push_of_some _ (Heap.get?_push_of_some _ x)⟩
/-- the tuple at a, each item in a new pair with its number -/
def IteT (K : PySem.W.Frag) (a : Addr) : It where
  go := fun i H => ∃ (xs : List V) (x : V), SqT K H a xs ∧ xs[i]? = some x
  yld := fun i H v H' => ∃ T x, v = .ref T ∧ H T = none ∧ H' = upd H T (.tup [.int (i : Nat), x]) ∧ ∀ xs, SqT K H a xs → xs[i]? = some x
  stop := fun i H => ∃ xs : List V, SqT K H a xs ∧ xs.length ≤ i
theorem enum_apart {h : Heap} {e it a : Addr} {i : Int} {k : Nat} {old : Value} {ys : Array Value} (he : IsEnum h e it i old) (hi : h.IsTupleIter it a k) (ht : h.IsTuple a ys) : e ≠ it ∧ e ∉ [it, a] ∧ a ≠ it := by
  obtain ⟨o1, e1, c1, _⟩ := hi
  obtain ⟨o2, e2, c2, _⟩ := ht
  have n1 : e ≠ it := fun q => by
    subst q
    unfold IsEnum at he
    rw [he] at e1; cases e1; injection c1 with z; exact absurd z (by decide)
  have n2 : e ≠ a := fun q => by
    subst q
    unfold IsEnum at he
    rw [he] at e2; cases e2; injection c2 with z; exact absurd z (by decide)
  refine ⟨n1, by simp [n1, n2], fun q => ?_⟩
  subst q
  rw [e1] at e2; cases e2; rw [c1] at c2; injection c2 with z; exact absurd z (by decide)
theorem enum_turn {P : Program} {w : World} {K : PySem.W.Frag} {elts : List Expr} {kk : Nat} {tpos : Pos} (a e it : Addr) :
    Turn P w K (.Tuple elts kk tpos) (IteT K a) [e, it] e (fun i h => (∃ old, IsEnum h e it ((i : Nat) : Int) old) ∧ h.IsTupleIter it a i) where
  mem := by simp
  obj := fun i h st b hb => by
    obtain ⟨⟨old, he⟩, o, ho, hc, hd⟩ := st
    rcases List.mem_cons.mp hb with q | q
    · rw [q]; exact ⟨_, he, fun v z => nomatch z⟩
    · exact ⟨o, by rw [List.mem_singleton.mp q]; exact ho, fun v z => by rw [hd] at z; cases z⟩
  keep := fun i h h' st k => ⟨⟨st.1.choose, k e (by simp) _ st.1.choose_spec⟩, st.2.at fun o q => k it (by simp) o q⟩
  item := by
    intro X hP hw hK hc i pins s σ H E I hf st hg
    subst hP hw hK
    obtain ⟨⟨old, he⟩, hit⟩ := st
    obtain ⟨xs, x, hq, hx⟩ := hg
    obtain ⟨its, rv, p0, hz⟩ := I.tuple hq
    have p : s.heap.IsTuple a its.toArray := p0
    obtain ⟨u, hu, ru⟩ := rv.get hx
    obtain ⟨n1, n2, n3⟩ := enum_apart he hit p
    have hlt : i < its.toArray.size := by
      have := (List.getElem?_eq_some_iff.mp hu).1
      simpa using this
    have le : e < s.heap.objs.size := Heap.lt_size he
    have lit : it < s.heap.objs.size := by obtain ⟨_, q, _⟩ := hit; exact Heap.lt_size q
    refine wpAny_pyNext_enum_itemC (Draws.tuple (A := X.A.in1) (show X.A.in1.handled = none from I.ok.hd hc) it a n3 its.toArray) he ⟨hit, p⟩ hlt n1 n2 fun u' h' tk hu' ho st' hT hsz hk => ?_
    have eu : u' = u := by
      rw [List.getElem?_toArray, hu] at hu'
      exact (Option.some.inj hu').symm
    subst eu
    refine ⟨_, rfl, wpAny_letOwnedTupleGo_enum (s := { s with heap := h', toks := tk + 1 }) ho fun h2 he2 sb => ?_⟩
    have hT2 : h2.get? s.heap.objs.size = some { cls := .type "tuple", data := .seq #[.int i tk, u'] } := (sb.2 _ (Nat.ne_of_gt le)).trans hT
    have ob : ObjOk X.prog X.w (upd H s.heap.objs.size (.tup [.int (i : Nat), x])) h2 s.heap.objs.size (.tup [.int (i : Nat), x]) :=
      ⟨by show 2 ≤ sizeLine; decide, [.int i tk, u'], .cons ⟨_, rfl⟩ (.cons ru .nil), ⟨_, hT2, rfl, _, rfl⟩⟩
    have I2 : Inv X pins σ (upd H s.heap.objs.size (.tup [.int (i : Nat), x])) { s with heap := h2, toks := tk + 1 } :=
      I.turnedNew (ch := [e, it]) (fun b o nb q => (sb.2 b (fun z => nb (by simp [z]))).trans (hk b o (fun z => nb (by simp [z])) (fun z => nb (by simp [z])) q)) hf (Nat.le_refl _) ob
    refine ⟨.ref s.heap.objs.size, _, I2, rfl, ⟨_, x, rfl, I.hok.fresh (Nat.le_refl _), rfl, fun ys hy => by rw [I.tuple_inj hy hq]; exact hx⟩, ⟨⟨u', ?_⟩, st'.1.at fun o q => (sb.2 it (Ne.symm n1)).trans q⟩, fun b hb => ?_⟩
    · rw [show ((i + 1 : Nat) : Int) = (i : Int) + 1 by omega]
      exact he2
    · have lb : b < s.heap.objs.size := by
        rcases List.mem_cons.mp hb with z | z
        · rw [z]; exact le
        · rw [List.mem_singleton.mp z]; exact lit
      rw [upd_ne (Nat.ne_of_lt lb)]
      exact (hf b hb).1
  done := by
    intro X hP hw hK hc i pins s σ H E I hf st hg
    subst hP hw hK
    obtain ⟨⟨old, he⟩, hit⟩ := st
    obtain ⟨xs, hq, hx⟩ := hg
    obtain ⟨its, rv, p0, hz⟩ := I.tuple hq
    have p : s.heap.IsTuple a its.toArray := p0
    obtain ⟨n1, n2, n3⟩ := enum_apart he hit p
    obtain ⟨f0, f1, f2, f3, f4, f5⟩ := hf it (by simp)
    have hl := rv.length
    have hT : s.TypeIs (.ref e) "enumerate" := ⟨_, he, rfl⟩
    have hend : its.toArray[i]? = none := by simp; omega
    unfold pyNext
    refine wpAny_bind (wpAny_attempt (wpAny_callSpecial?_slot (name := Str.ofString "__next__") hT F.slot_enumerate_next (wpAny_call_entry F.slot_enumerate_next hT F.entry_enumerate_next ?_ (F.args_enumerate_next_1 _))))
    show wpAny _ _ (field (.ref e) 2 >>= _) _ _ _
    refine wpAny_bind (wpAny_field he rfl (x := .ref it) rfl (wpAny_bind (wpAny_nextOf_tuple_end (I.ok.hd hc) hit p hend fun h' x e1 e2 => ?_)))
    obtain ⟨o, ho, hcl⟩ := e2
    refine wpAny_bind (wpAny_isInstance (T := "StopIteration") (b := true) ⟨o, ho, hcl⟩ isSubtype_stop (wpAny_pure ⟨rfl, ?_⟩))
    exact I.turned (t' := s.toks) (fun b o hb q => e1 b o hb q) f0 f1 f3 f4 f5
  self := fun A i s Q E st h => let ⟨⟨_, he⟩, _⟩ := st; wpAny_pyIter_enum he h
def iEnumT (K : PySem.W.Frag) (ta : TA) : TI := fun σ H R => ta σ H fun vs H1 => ∃ a xs, vs = [.ref a] ∧ SqT K H1 a xs ∧ R (IteT K a) H1
theorem pi_enumT {X : Cx} {e : Expr} {ta : TA} {p pos tpos : Pos} {elts : List Expr} {kk : Nat} (hg : Gl X "enumerate") (hm : X.mg "enumerate" = none) (ha : PA X [e] ta) (hs : starEach [e] X.env = [(false, eval e X.env)] := by rfl) :
    PI X (.Tuple elts kk tpos) (.Call (.Name "enumerate" p) [e] [] pos) (iEnumT X.K ta) := by
  refine ⟨fun pins s σ H R I h => Call_ (ld_blt I hg hm boot_enumerate (PyProof.Rows.callWith_type1 (thn (ha.run pos pins s σ H _ I h) fun us t ⟨vs, H1, I1, rr, q1⟩ => ?_) hs rfl))⟩
  obtain ⟨a, xs, ex, hq, q⟩ := q1
  subst ex
  cases rr with
  | cons r r' =>
    cases r'
    cases r
    obtain ⟨its, rv, p', hz⟩ := I1.tuple hq
    refine enum_call (show t.heap.IsTuple a its.toArray from p') fun h1 he hit hk => wpAny_pyIter_enum he ?_
    have I2 : Inv X pins σ H1 { t with heap := h1 } := I1.kept (t' := t.toks) hk
    refine ⟨t.heap.objs.size + 1, [t.heap.objs.size + 1, t.heap.objs.size], _, _, H1, rfl, I2, enum_turn a (t.heap.objs.size + 1) t.heap.objs.size, ⟨⟨.none, he⟩, hit⟩, fun b hb => ?_, q⟩
    have le : t.heap.objs.size ≤ b := by
      rcases List.mem_cons.mp hb with z | z
      · rw [z]; exact Nat.le_add_right _ _
      · rw [List.mem_singleton.mp z]; exact Nat.le_refl _
    exact I1.fpOk le (I1.hok.fresh le)
section
variable {X : Cx} {W : WX} {pos : Pos}
def enumD (xs : List D) : List D := xs.zipIdx.map fun p => .tup [.int (p.2 : Nat), p.1]
@[simp] theorem enumD_len (xs : List D) : (enumD xs).length = xs.length := by simp [enumD]
theorem enumD_get {xs : List D} {i : Nat} {d : D} (h : xs[i]? = some d) : (enumD xs)[i]? = some (.tup [.int (i : Nat), d]) := by simp [enumD, h]
theorem walkD_enumT {K : PySem.W.Frag} {α : List Addr} {H : Hp} {a : Addr} {xs : List D} {vs : List V} (h0 : SqT K H a vs) (hr : RDs K α H xs vs) : WalkD K (IteT K a) α H (enumD xs) none := by
  refine ⟨fun H' => SqT K H' a vs, fun i H1 v H2 => ∃ T x, v = .ref T ∧ H1 T = none ∧ H2 = upd H1 T (.tup [.int (i : Nat), x]) ∧ vs[i]? = some x, ⟨fun i H' hi q => ?_, fun H' q => ?_, fun i H1 x H2 hi q y => ?_⟩, fun α' st' H' p k s g => k.sqT h0, fun i H1 x H2 α' st' p k s g hi y => ?_⟩
  · have hl := hr.len
    rw [enumD_len] at hi
    exact ⟨vs, vs[i]'(by omega), q, by simp⟩
  · exact ⟨vs, q, by rw [enumD_len, hr.len]; exact Nat.le_refl _⟩
  · obtain ⟨T, z, e1, e2, e3, e4⟩ := y
    exact ⟨T, z, e1, e2, e3, e4 vs q⟩
  · obtain ⟨T, z, rfl, e2, rfl, e4⟩ := y
    obtain ⟨d, g1, g2⟩ := hr.get e4
    exact ⟨Keep.fresh e2, s.fresh e2, _, enumD_get g1, .tup (SqT.of upd_same) (.cons (.int _) (.cons ((g2.mono p k).mono (List.prefix_refl _) (Keep.fresh e2)) .nil))⟩
def iEnumerate (mr : En → Sto → R (List D)) : MI := fun env st => (mr env st).bind fun ds st1 => match ds with
  | [.tup xs] => .ok (enumD xs, none) st1
  | _ => .no
theorem di_enumerate {a : Expr} {mr : En → Sto → R (List D)} {p tpos : Pos} {elts : List Expr} {kk : Nat} (hg : Gl X "enumerate") (hm : X.mg "enumerate" = none) (ha : DA X W [a] mr) (hs : starEach [a] X.env = [(false, eval a X.env)] := by rfl) :
    DI X W (.Tuple elts kk tpos) (.Call (.Name "enumerate" p) [a] [] pos) (iEnumerate mr) := by
  refine PI.weak (pi_enumT hg hm ha hs) fun σ H Rr h => ?_
  obtain ⟨α, env, st, hE, hS, h⟩ := h
  refine ⟨α, env, st, hE, hS, h.bind.mono fun ds st1 α1 H1 p1 k1 s1 h1 vs rvs => ?_⟩
  split at h1
  · obtain ⟨v, rfl, r⟩ := rvs.one
    obtain ⟨b, us, rfl, t1, r1⟩ := r.tup_of
    exact ⟨b, us, rfl, t1, h1.here s1 _ (walkD_enumT t1 r1)⟩
  · exact h1.elim
end
end DL
set_option Elab.async false
set_option linter.all false
set_option maxRecDepth 10000
/-! Reasoning about mirrors: stores that grow, pools, loops. -/
namespace DL
open PySem PySem.Spec PyProof.Rows L2

/-! ### stores -/
abbrev Gr (st st' : Sto) : Prop := st <+: st'
theorem Gr.len {st st' : Sto} (h : Gr st st') : st.length ≤ st'.length := h.length_le
theorem Gr.get {st st' : Sto} (h : Gr st st') {i : Nat} (hi : i < st.length) : st'[i]? = st[i]? := by
  obtain ⟨t, rfl⟩ := h
  exact List.getElem?_append_left hi
theorem rdL_of {st st' : Sto} {r : Nat} (h : st'[r]? = st[r]?) : rdL st' r = rdL st r := by unfold rdL; rw [h]
theorem rdW_of {st st' : Sto} {r : Nat} (h : st'[r]? = st[r]?) : rdW st' r = rdW st r := by unfold rdW; rw [h]
theorem rdL_lt {st : Sto} {r : Nat} {xs : List D} (h : rdL st r = some xs) : r < st.length := by
  unfold rdL at h
  by_cases q : r < st.length
  · exact q
  · rw [List.getElem?_eq_none (by omega)] at h; cases h
theorem rdW_lt {st : Sto} {r : Nat} {xs : List D} (h : rdW st r = some xs) : r < st.length := by
  unfold rdW at h
  by_cases q : r < st.length
  · exact q
  · rw [List.getElem?_eq_none (by omega)] at h; cases h
theorem rdL_gr {st st' : Sto} {r : Nat} {xs : List D} (h : Gr st st') (e : rdL st r = some xs) : rdL st' r = some xs := by rw [rdL_of (h.get (rdL_lt e))]; exact e
theorem rdW_gr {st st' : Sto} {r : Nat} {xs : List D} (h : Gr st st') (e : rdW st r = some xs) : rdW st' r = some xs := by rw [rdW_of (h.get (rdW_lt e))]; exact e
@[simp] theorem rdL_new (st : Sto) (xs : List D) : rdL (st ++ [.lst xs]) st.length = some xs := by simp [rdL]
@[simp] theorem rdW_new (st : Sto) (xs : List D) : rdW (st ++ [.lst xs]) st.length = some xs := by simp [rdW]
theorem rdL_newG (st g : Sto) (xs : List D) : rdL (st ++ .lst xs :: g) st.length = some xs := by simp [rdL]
theorem rdW_newG (st g : Sto) (xs : List D) : rdW (st ++ .lst xs :: g) st.length = some xs := by simp [rdW]
theorem rdW_iff {st : Sto} {r : Nat} {xs : List D} : rdW st r = some xs ↔ st[r]? = some (.lst xs) := by
  unfold rdW
  constructor
  · intro h; split at h
    · cases h; assumption
    · cases h
  · intro h; rw [h]
theorem rdL_W {st : Sto} {r : Nat} {xs : List D} (h : rdW st r = some xs) : rdL st r = some xs := by
  rw [rdW_iff] at h
  simp [rdL, h]

/-! ### pools -/
def IsPool (st : Sto) (r : Nat) : Prop := ∃ a b c : Int, st[r]? = some (.lst [.int a, .int b, .int c])
/-- nothing old has changed but the pool -/
structure Ev (r : Nat) (st st' : Sto) : Prop where
  len : st.length ≤ st'.length
  same : ∀ i, i < st.length → i ≠ r → st'[i]? = st[i]?
  pool : IsPool st' r
theorem IsPool.lt {st : Sto} {r : Nat} (h : IsPool st r) : r < st.length := by
  obtain ⟨a, b, c, h⟩ := h
  exact (List.getElem?_eq_some_iff.mp h).1
theorem Ev.refl {r : Nat} {st : Sto} (h : IsPool st r) : Ev r st st := ⟨Nat.le_refl _, fun _ _ _ => rfl, h⟩
theorem Ev.trans {r : Nat} {st st' st'' : Sto} (a : Ev r st st') (b : Ev r st' st'') : Ev r st st'' :=
  ⟨Nat.le_trans a.len b.len, fun i hi hr => (b.same i (Nat.lt_of_lt_of_le hi a.len) hr).trans (a.same i hi hr), b.pool⟩
theorem Ev.gr {r : Nat} {st st' : Sto} (h : IsPool st r) (g : Gr st st') : Ev r st st' := by
  refine ⟨g.len, fun i hi _ => g.get hi, ?_⟩
  obtain ⟨a, b, c, e⟩ := h
  exact ⟨a, b, c, by rw [g.get (List.getElem?_eq_some_iff.mp e).1]; exact e⟩
theorem Ev.rdL {r q : Nat} {st st' : Sto} {xs : List D} (h : Ev r st st') (e : rdL st q = some xs) (hn : q ≠ r) : rdL st' q = some xs := by rw [rdL_of (h.same q (rdL_lt e) hn)]; exact e
theorem Ev.rdW {r q : Nat} {st st' : Sto} {xs : List D} (h : Ev r st st') (e : rdW st q = some xs) (hn : q ≠ r) : rdW st' q = some xs := by rw [rdW_of (h.same q (rdW_lt e) hn)]; exact e
/-- a change beyond what stood -/
theorem Ev.beyond {r q : Nat} {st st' : Sto} {c : Cl} (h : Ev r st st') (hq : st.length ≤ q) (hr : r < st.length) : Ev r st (st'.set q c) := by
  refine ⟨by rw [List.length_set]; exact h.len, fun i hi hn => ?_, ?_⟩
  · rw [List.getElem?_set_ne (by omega)]
    exact h.same i hi hn
  · obtain ⟨a, b, c', e⟩ := h.pool
    exact ⟨a, b, c', by rw [List.getElem?_set_ne (by omega)]; exact e⟩
theorem Gr.beyond {q : Nat} {st st' : Sto} {c : Cl} (h : Gr st st') (hq : st.length ≤ q) : Gr st (st'.set q c) := by
  obtain ⟨t, rfl⟩ := h
  rw [List.set_append_right _ _ hq]
  exact List.prefix_append _ _

/-! ### loops -/
theorem loopS_ok {ds : List D} {gd : Option Nat} {g : GT} {mb : En → Sto → RS} {env : En} {st : Sto} (I : Nat → En → Sto → Prop) (h0 : I 0 env st) (hg : ∀ i env st, i ≤ ds.length → I i env st → gOk ds gd st)
    (hs : ∀ i env st, (hi : i < ds.length) → I i env st → ∃ env1 st1 env2 st2, g ds[i] env st = some (env1, st1) ∧ mb env1 st1 = .nx env2 st2 ∧ I (i + 1) env2 st2) :
    ∃ env' st', loopS ds gd g mb ds env st = .nx env' st' ∧ I ds.length env' st' := by
  have key : ∀ (n i : Nat) (env : En) (st : Sto), i + n = ds.length → I i env st → ∃ env' st', loopS ds gd g mb (ds.drop i) env st = .nx env' st' ∧ I ds.length env' st' := by
    intro n
    induction n with
    | zero =>
      intro i env st e hI
      have ei : i = ds.length := by omega
      subst ei
      rw [List.drop_length]
      unfold loopS
      rw [if_pos (hg _ _ _ (Nat.le_refl _) hI)]
      exact ⟨env, st, rfl, hI⟩
    | succ n ih =>
      intro i env st e hI
      have hi : i < ds.length := by omega
      rw [List.drop_eq_getElem_cons hi]
      unfold loopS
      rw [if_pos (hg _ _ _ (by omega) hI)]
      obtain ⟨env1, st1, env2, st2, e1, e2, hI2⟩ := hs i env st hi hI
      simp only [e1, e2]
      exact ih (i + 1) env2 st2 (by omega) hI2
  have := key ds.length 0 env st (by omega) h0
  rwa [List.drop_zero] at this
/-- a comprehension, any turns: what is kept is told by I over the turn, what was made, the store -/
theorem loopC_ok {ds : List D} {gd : Option Nat} {g : GT} {mt : En → Sto → R Bool} {me : En → Sto → R D} {env0 : En} {r0 : Nat} {st : Sto} (I : Nat → List D → Sto → Prop) (h0 : I 0 [] st) (hw : ∀ i acc st, I i acc st → rdW st r0 = some acc ∧ acc.length ≤ i) (hz : ds.length < sizeLine)
    (hg : ∀ i acc st, i ≤ ds.length → I i acc st → gOk ds gd st)
    (hs : ∀ i acc st, (hi : i < ds.length) → I i acc st → ∃ env1 st1, g ds[i] env0 st = some (env1, st1) ∧ ((∃ st2, mt env1 st1 = .ok false st2 ∧ I (i + 1) acc st2) ∨
      ∃ st2 y st3, mt env1 st1 = .ok true st2 ∧ me env1 st2 = .ok y st3 ∧ rdW st3 r0 = some acc ∧ I (i + 1) (acc ++ [y]) (st3.set r0 (.lst (acc ++ [y]))))) :
    ∃ acc st', loopC ds gd g mt me env0 r0 ds st = .ok (.ref r0) st' ∧ I ds.length acc st' := by
  have key : ∀ (n i : Nat) (acc : List D) (st : Sto), i + n = ds.length → I i acc st → ∃ acc st', loopC ds gd g mt me env0 r0 (ds.drop i) st = .ok (.ref r0) st' ∧ I ds.length acc st' := by
    intro n
    induction n with
    | zero =>
      intro i acc st e hI
      have ei : i = ds.length := by omega
      subst ei
      rw [List.drop_length]
      unfold loopC
      rw [if_pos (hg _ _ _ (Nat.le_refl _) hI)]
      exact ⟨acc, st, rfl, hI⟩
    | succ n ih =>
      intro i acc st e hI
      have hi : i < ds.length := by omega
      rw [List.drop_eq_getElem_cons hi]
      unfold loopC
      rw [if_pos (hg _ _ _ (by omega) hI)]
      obtain ⟨env1, st1, e1, h | h⟩ := hs i acc st hi hI
      · obtain ⟨st2, e2, hI2⟩ := h
        simp only [e1, e2]
        exact ih (i + 1) acc st2 (by omega) hI2
      · obtain ⟨st2, y, st3, e2, e3, e4, hI2⟩ := h
        have hl : acc.length < sizeLine := by have := (hw i acc st hI).2; omega
        simp only [e1, e2, e3, e4, if_pos hl]
        exact ih (i + 1) (acc ++ [y]) _ (by omega) hI2
  have := key ds.length 0 [] st (by omega) h0
  rwa [List.drop_zero] at this
theorem gOk_gr {ds : List D} {gd : Option Nat} {st st' : Sto} (h : gOk ds gd st) (g : Gr st st') : gOk ds gd st' := by
  cases gd with
  | none => trivial
  | some r => exact rdL_gr g h
/-- a comprehension that changes nothing -/
theorem mLc_pure {mi : MI} {g : GT} {mt : En → Sto → R Bool} {me : En → Sto → R D} {vs : List Nat} {env : En} {st st1 : Sto} {ds : List D} {gd : Option Nat} (p : D → Bool) (f : D → D) (hi : mi env st = .ok (ds, gd) st1) (hg : gOk ds gd st1) (hz : ds.length < sizeLine)
    (hs : ∀ d ∈ ds, ∀ st', Gr st1 st' → ∃ env1, g d (wipeE env vs) st' = some (env1, st') ∧ ∃ st2, mt env1 st' = .ok (p d) st2 ∧ Gr st' st2 ∧ (p d = true → ∃ st3, me env1 st2 = .ok (f d) st3 ∧ Gr st2 st3)) :
    ∃ st', mLc mi g mt me vs env st = .ok (.ref st1.length) st' ∧ Gr (st1 ++ [.lst ((ds.filter p).map f)]) st' := by
  have main := loopC_ok (ds := ds) (gd := gd) (g := g) (mt := mt) (me := me) (env0 := wipeE env vs) (r0 := st1.length) (st := st1 ++ [.lst []]) (fun i acc st => acc = ((ds.take i).filter p).map f ∧ ∃ t, st = st1 ++ .lst acc :: t)
    ⟨rfl, [], rfl⟩ (by
      rintro i acc st ⟨rfl, t, rfl⟩
      refine ⟨rdW_newG _ _ _, ?_⟩
      rw [List.length_map]
      exact Nat.le_trans (List.length_filter_le _ _) (by rw [List.length_take]; omega)) hz (by
      rintro i acc st hi ⟨rfl, t, rfl⟩
      exact gOk_gr hg ⟨_, rfl⟩) (by
      rintro i acc st hi ⟨rfl, t, rfl⟩
      have mem : ds[i] ∈ ds := List.getElem_mem hi
      have tk : ds.take (i + 1) = ds.take i ++ [ds[i]] := by rw [List.take_add_one, List.getElem?_eq_getElem hi]; rfl
      obtain ⟨env1, e1, st2, e2, ⟨t2, g2⟩, h3⟩ := hs ds[i] mem (st1 ++ .lst (((ds.take i).filter p).map f) :: t) ⟨_, rfl⟩
      subst g2
      refine ⟨env1, _, e1, ?_⟩
      cases hp : p ds[i] with
      | false =>
        refine .inl ⟨_, by rw [hp] at e2; exact e2, ?_, t ++ t2, by simp⟩
        rw [tk, List.filter_append, List.filter_cons_of_neg (by rw [hp]; decide)]
        simp
      | true =>
        obtain ⟨st3, e3, ⟨t3, g3⟩⟩ := h3 hp
        subst g3
        have tk2 : ((ds.take (i + 1)).filter p).map f = ((ds.take i).filter p).map f ++ [f ds[i]] := by
          rw [tk, List.filter_append, List.filter_cons_of_pos hp]
          simp
        refine .inr ⟨_, _, _, by rw [hp] at e2; exact e2, e3, ?_, tk2.symm, t ++ t2 ++ t3, ?_⟩
        · simp only [List.append_assoc, List.cons_append]
          exact rdW_newG _ _ _
        · simp only [List.append_assoc, List.cons_append]
          rw [List.set_append_right _ _ (Nat.le_refl _), Nat.sub_self, List.set_cons_zero])
  obtain ⟨acc, st', e, rfl, t, rfl⟩ := main
  refine ⟨_, by unfold mLc; rw [hi]; exact e, ?_⟩
  rw [List.take_length]
  exact ⟨t, by simp⟩
/-- a comprehension whose elements take from a pool -/
theorem mLc_pool {mi : MI} {g : GT} {me : En → Sto → R D} {vs : List Nat} {env : En} {st st1 : Sto} {ds : List D} {gd : Option Nat} {r : Nat} (P : Nat → D → Prop) (hi : mi env st = .ok (ds, gd) st1) (hg : gOk ds gd st1) (hgr : gd ≠ some r) (hz : ds.length < sizeLine) (hp : IsPool st1 r)
    (hs : ∀ i (hi : i < ds.length) st', Ev r st1 st' → ∃ env1, g ds[i] (wipeE env vs) st' = some (env1, st') ∧ ∃ y st3, me env1 st' = .ok y st3 ∧ Ev r st' st3 ∧ P i y) :
    ∃ ys st', mLc mi g mYes me vs env st = .ok (.ref st1.length) st' ∧ rdW st' st1.length = some ys ∧ ys.length = ds.length ∧ (∀ i y, ys[i]? = some y → P i y) ∧ Ev r st1 st' := by
  have hr := hp.lt
  have main := loopC_ok (ds := ds) (gd := gd) (g := g) (mt := mYes) (me := me) (env0 := wipeE env vs) (r0 := st1.length) (st := st1 ++ [.lst []]) (fun i acc st => rdW st st1.length = some acc ∧ acc.length = i ∧ (∀ j y, acc[j]? = some y → P j y) ∧ Ev r st1 st)
    ⟨rdW_new _ _, rfl, fun j y h => by simp at h, Ev.gr hp (List.prefix_append _ _)⟩ (fun i acc st h => ⟨h.1, by omega⟩) hz (by
      rintro i acc st hi ⟨h1, h2, h3, h4⟩
      cases gd with
      | none => trivial
      | some q => exact h4.rdL hg (fun e => hgr (by rw [e]))) (by
      rintro i acc st hi ⟨h1, h2, h3, h4⟩
      obtain ⟨env1, e1, y, st3, e2, e3, e4⟩ := hs i hi st h4
      have w3 : rdW st3 st1.length = some acc := e3.rdW h1 (by omega)
      refine ⟨env1, st, e1, .inr ⟨st, y, st3, rfl, e2, w3, ?_, by simp [h2], fun j z hj => ?_, (h4.trans e3).beyond (Nat.le_refl _) hr⟩⟩
      · rw [rdW_iff, List.getElem?_set_self (rdW_lt w3)]
      · by_cases hj2 : j < acc.length
        · rw [List.getElem?_append_left hj2] at hj
          exact h3 j z hj
        · have hl := (List.getElem?_eq_some_iff.mp hj).1
          have ej : j = acc.length := by simp at hl; omega
          subst ej
          rw [List.getElem?_concat_length] at hj
          cases hj
          rw [h2]
          exact e4)
  obtain ⟨acc, st', e, h⟩ := main
  exact ⟨acc, st', by unfold mLc; rw [hi]; exact e, h.1, h.2.1, h.2.2.1, h.2.2.2⟩
end DL
set_option Elab.async false
set_option linter.all false
set_option maxRecDepth 10000
/-! Ends of comprehensions, indices, equality of leaves: free of any program. -/
namespace DL
open PySem PySem.Spec PyProof.Rows L2
theorem ixN_at {n : Nat} {i : Nat} (h : i < n) : ixN n (i : Int) = some i := by
  unfold ixN
  rw [if_pos (Int.natCast_nonneg i), if_pos (by exact_mod_cast h)]
  simp
theorem atI_at {xs : List D} {i : Nat} {d : D} (h : xs[i]? = some d) : L2.atI xs (i : Int) = some d := L2.atI_nat h
@[simp] theorem atI0 (a : D) (r : List D) : L2.atI (a :: r) 0 = some a := L2.atI_nat (j := 0) rfl
@[simp] theorem atI1 (a b : D) (r : List D) : L2.atI (a :: b :: r) 1 = some b := L2.atI_nat (j := 1) rfl
@[simp] theorem atI2 (a b c : D) (r : List D) : L2.atI (a :: b :: c :: r) 2 = some c := L2.atI_nat (j := 2) rfl
@[simp] theorem ixN30 : ixN 3 0 = some 0 := rfl
@[simp] theorem ixN32 : ixN 3 2 = some 2 := rfl
theorem blsOf_all {ds : List D} (h : ∀ d ∈ ds, d = .bl true) : ∃ bs, blsOf ds = some bs ∧ bs.all id = true := by
  induction ds with
  | nil => exact ⟨[], rfl, rfl⟩
  | cons d r ih =>
    obtain ⟨bs, e, a⟩ := ih fun x hx => h x (List.mem_cons_of_mem _ hx)
    have := h d List.mem_cons_self
    subst this
    exact ⟨true :: bs, by simp [blsOf, e], by simp [a]⟩
theorem rdL_of_new {st st' : Sto} {xs : List D} (h : Gr (st ++ [.lst xs]) st') : rdL st' st.length = some xs := rdL_gr h (rdL_new _ _)
theorem all_true {mi : MI} {g : GT} {me : En → Sto → R D} {vs : List Nat} {env : En} {st st1 : Sto} {ds : List D} {gd : Option Nat} (hi : mi env st = .ok (ds, gd) st1) (hg : gOk ds gd st1) (hz : ds.length < sizeLine)
    (hs : ∀ d ∈ ds, ∀ st', Gr st1 st' → ∃ env1, g d (wipeE env vs) st' = some (env1, st') ∧ ∃ st3, me env1 st' = .ok (.bl true) st3 ∧ Gr st' st3) :
    ∃ st', mLc mi g mYes me vs env st = .ok (.ref st1.length) st' ∧ bAll [.ref st1.length] st' = .ok (.bl true) st' ∧ Gr st1 st' := by
  obtain ⟨st', e, h⟩ := mLc_pure (mt := mYes) (me := me) (vs := vs) (fun _ => true) (fun _ => .bl true) hi hg hz fun d hd st' g' => by
    obtain ⟨env1, e1, st3, e2, g3⟩ := hs d hd st' g'
    exact ⟨env1, e1, st', rfl, List.prefix_refl _, fun _ => ⟨st3, e2, g3⟩⟩
  have r := rdL_of_new h
  obtain ⟨bs, eb, ab⟩ := blsOf_all (ds := (ds.filter fun _ => true).map fun _ => D.bl true) (by intro d hd; obtain ⟨_, _, rfl⟩ := List.mem_map.mp hd; rfl)
  refine ⟨st', e, ?_, (List.prefix_append _ _).trans h⟩
  simp only [bAll, r, Option.bind_some, eb, ab]
@[simp] theorem oEq_int (a b : Int) (st : Sto) : oEq (.int a) (.int b) st = .ok (.bl (decide (a = b))) st := by
  have r4 : ∀ n : Int, toP st (.int n) = some (.int n) := fun n => rfl
  have r5 : PyData.eqv (.int a) (.int b) = decide (a = b) := by simp only [PyData.eqv]; rw [Bool.eq_iff_iff]; simp
  have r6 : ∀ n : Int, SeqAt.shaped (.int n) = true := fun n => by simp [SeqAt.shaped, PyData.canLay0, PyData.depth]
  simp [oEq, r4, r5, r6]
theorem rdW_set {st : Sto} {r : Nat} {xs ys : List D} (h : rdW st r = some xs) : rdW (st.set r (.lst ys)) r = some ys := by
  rw [rdW_iff, List.getElem?_set_self (rdW_lt h)]
theorem rdW_setne {st : Sto} {r q : Nat} {xs : List D} {c : Cl} (n : r ≠ q) (h : rdW st r = some xs) : rdW (st.set q c) r = some xs := by
  rw [rdW_iff, List.getElem?_set_ne (Ne.symm n)]
  exact rdW_iff.mp h
theorem rng_of {n : Nat} {d : D} (h : d ∈ rngD 0 n) : ∃ i : Nat, i < n ∧ d = .int (i : Nat) := by
  obtain ⟨i, hi, rfl⟩ := List.mem_map.mp h
  exact ⟨i, List.mem_range.mp hi, by rw [Int.zero_add]⟩
theorem iRng1_nat {mr : En → Sto → R (List D)} {env : En} {st st1 : Sto} {n : Nat} (e : mr env st = .ok [.int n] st1) (hm : Mid (n : Int)) : DL.iRng1 mr env st = .ok (rngD 0 n, none) st1 := by
  unfold DL.iRng1
  rw [e]
  simp only [R.bind]
  rw [if_pos hm, Int.toNat_natCast]
@[simp] theorem rngD_len (lo : Int) (n : Nat) : (rngD lo n).length = n := by simp [rngD]
theorem rngD_get {n i : Nat} (h : i < (rngD 0 n).length) : (rngD 0 n)[i] = .int (i : Nat) := by simp [rngD]
def isLeaf : D → Bool
  | .int _ => true
  | .non => true
  | .bl _ => true
  | _ => false
theorem leaf_pd {d : D} (h : isLeaf d = true) : ∃ p, (∀ rd, pd rd d = some p) ∧ p.canLay0 = true ∧ p.depth = 0 ∧ PyData.eqv p p = true := by
  cases d with
  | int i => exact ⟨.int i, fun _ => rfl, rfl, rfl, by simp [PyData.eqv]⟩
  | non => exact ⟨.none, fun _ => rfl, rfl, rfl, rfl⟩
  | bl b => exact ⟨.bool b, fun _ => rfl, rfl, rfl, by simp [PyData.eqv]⟩
  | _ => cases h
theorem leafs_pd : ∀ {ds : List D}, (∀ d ∈ ds, isLeaf d = true) → ∃ ps, (∀ rd, pds rd ds = some ps) ∧ PyData.canLayAll0 ps = true ∧ PyData.depthAll ps = 0 ∧ PyData.eqvAll ps ps = true
  | [], _ => ⟨[], fun _ => rfl, rfl, rfl, rfl⟩
  | d :: ds, h => by
    obtain ⟨p, a1, a2, a3, a4⟩ := leaf_pd (h d List.mem_cons_self)
    obtain ⟨ps, b1, b2, b3, b4⟩ := leafs_pd fun x hx => h x (List.mem_cons_of_mem _ hx)
    exact ⟨p :: ps, fun rd => by simp [pds, a1 rd, b1 rd], by simp [PyData.canLayAll0, a2, b2], by simp [PyData.depthAll, a3, b3], by simp [PyData.eqvAll, a4, b4]⟩
theorem oNe_leaf {d : D} (h : isLeaf d = true) (st : Sto) : oNe d d st = .ok (.bl false) st := by
  obtain ⟨p, a1, a2, a3, a4⟩ := leaf_pd h
  have r : SeqAt.shaped p = true := by simp [SeqAt.shaped, a2, a3]
  simp [oNe, toP, a1, r, a4]
theorem oNe_tup {ds : List D} (h : ∀ d ∈ ds, isLeaf d = true) (st : Sto) : oNe (.tup ds) (.tup ds) st = .ok (.bl false) st := by
  obtain ⟨p, a1, a2, a3, a4⟩ := leafs_pd h
  have r : SeqAt.shaped (.tuple p) = true := by simp [SeqAt.shaped, PyData.canLay0, PyData.depth, a2, a3]
  simp [oNe, toP, pd, a1, r, PyData.eqv, a4]
theorem toP_ref {ds : List D} (h : ∀ d ∈ ds, isLeaf d = true) : ∃ ps, (∀ st r, rdL st r = some ds → toP st (.ref r) = some (.list ps)) ∧ SeqAt.shaped (.list ps) = true ∧ PyData.eqvAll ps ps = true ∧ (ds = [] → ps = []) ∧ (ds ≠ [] → ps ≠ []) := by
  obtain ⟨p, a1, a2, a3, a4⟩ := leafs_pd h
  refine ⟨p, fun st r e => by simp [toP, pd, rdP, e, a1], by simp [SeqAt.shaped, PyData.canLay0, PyData.depth, a2, a3], a4, fun e => ?_, fun e q => ?_⟩
  · subst e; have := a1 fun _ => none; simp [pds] at this; exact this
  · subst q
    obtain ⟨d, r, rfl⟩ := List.exists_cons_of_ne_nil e
    have := a1 fun _ => none
    unfold pds at this
    split at this <;> cases this
theorem oNe_ref {ds : List D} {st : Sto} {a b : Nat} (h : ∀ d ∈ ds, isLeaf d = true) (ha : rdL st a = some ds) (hb : rdL st b = some ds) : oNe (.ref a) (.ref b) st = .ok (.bl false) st := by
  obtain ⟨p, a1, a2, a3, _⟩ := toP_ref h
  simp [oNe, a1 _ _ ha, a1 _ _ hb, a2, PyData.eqv, a3]
theorem oEq_nils {st : Sto} {a b : Nat} (ha : rdL st a = some []) (hb : rdL st b = some []) : oEq (.ref a) (.ref b) st = .ok (.bl true) st := by
  obtain ⟨p, a1, a2, a3, _⟩ := toP_ref (ds := []) (by simp)
  simp [oEq, a1 _ _ ha, a1 _ _ hb, a2, PyData.eqv, a3]
theorem oEq_nil {ds : List D} {st : Sto} {a b : Nat} (h : ∀ d ∈ ds, isLeaf d = true) (hn : ds ≠ []) (ha : rdL st a = some ds) (hb : rdL st b = some []) : oEq (.ref a) (.ref b) st = .ok (.bl false) st := by
  obtain ⟨p, a1, a2, a3, _, a5⟩ := toP_ref h
  obtain ⟨q, b1, b2, b3, b4, _⟩ := toP_ref (ds := []) (by simp)
  have := a5 hn
  have eq := b4 rfl
  subst eq
  obtain ⟨x, r, rfl⟩ := List.exists_cons_of_ne_nil this
  simp [oEq, a1 _ _ ha, b1 _ _ hb, a2, b2, PyData.eqv, PyData.eqvAll]
theorem oEq_pair (a b c d : Int) (st : Sto) : oEq (.tup [.int a, .int b]) (.tup [.int c, .int d]) st = .ok (.bl (decide (a = c ∧ b = d))) st := by
  have r4 : ∀ n m : Int, toP st (.tup [.int n, .int m]) = some (.tuple [.int n, .int m]) := fun n m => rfl
  have r5 : PyData.eqv (.tuple [.int a, .int b]) (.tuple [.int c, .int d]) = decide (a = c ∧ b = d) := by
    rw [Bool.eq_iff_iff]
    simp [PyData.eqv, PyData.eqvAll]
  have r6 : ∀ n m : Int, SeqAt.shaped (.tuple [.int n, .int m]) = true := fun n m => by
    simp [SeqAt.shaped, PyData.canLay0, PyData.canLayAll0, PyData.depth, PyData.depthAll]
  simp [oEq, r4, r5, r6]
theorem sFor_rng {mr : En → Sto → R (List D)} {g : GT} {mb : En → Sto → RS} {env env' : En} {st st1 st' : Sto} {n : Nat} (e : mr env st = .ok [.int n] st1) (hm : Mid (n : Int)) (h : loopS (rngD 0 n) none g mb (rngD 0 n) env st1 = .nx env' st') : sFor (DL.iRng1 mr) g mb env st = .nx env' st' := by
  unfold sFor
  rw [iRng1_nat e hm]
  exact h
theorem leaf_ints {xs : List Int} : ∀ d ∈ xs.map D.int, isLeaf d = true := fun d hd => by
  obtain ⟨x, _, rfl⟩ := List.mem_map.mp hd; rfl
def intD : D → Int
  | .int i => i
  | _ => 0
theorem ints_filter {p : Int → Bool} {q : D → Bool} {f : D → D} {g : Int → D} (xs : List Int) (hp : ∀ x, q (.int x) = p x) (hf : ∀ x, f (.int x) = g x) : ((xs.map D.int).filter q).map f = (xs.filter p).map g := by
  rw [List.filter_map, List.map_map]
  have e : (q ∘ D.int) = p := funext hp
  rw [e]
  exact List.map_congr_left fun x _ => hf x
/-- a comprehension over the neighbours of a seat -/
theorem over_row {xs : List Int} (hx : xs.length < 1000) {mi : MI} {i : Nat} {vs : List Nat} {me : En → Sto → R D} {env : En} (f : Int → D) {st st1 : Sto} (hi : mi env st = .ok (xs.map D.int, none) st1)
    (hs : ∀ y ∈ xs, ∀ st', Gr st1 st' → me ((wipeE env vs).set i (some (.int y))) st' = .ok (f y) st') :
    ∃ st', mLc mi (gN i) mYes me vs env st = .ok (.ref st1.length) st' ∧ Gr st1 st' ∧ rdW st' st1.length = some (xs.map f) := by
  have hz : (1000 : Nat) < sizeLine := by decide
  obtain ⟨st2, e2, g2⟩ := mLc_pure (mi := mi) (g := gN i) (mt := mYes) (me := me) (vs := vs) (env := env) (st := st) (st1 := st1) (ds := xs.map D.int) (gd := none) (fun d => true) (fun d => f (intD d)) hi trivial (by simp; omega) (by
    intro d hd st' g'
    obtain ⟨y, hy, rfl⟩ := List.mem_map.mp hd
    exact ⟨_, rfl, st', rfl, List.prefix_refl _, fun _ => ⟨st', hs y hy st' g', List.prefix_refl _⟩⟩)
  refine ⟨st2, e2, (List.prefix_append _ _).trans g2, ?_⟩
  rw [ints_filter (p := fun _ => true) (g := f) _ (fun _ => rfl) (fun _ => rfl), List.filter_eq_self.mpr (fun _ _ => rfl)] at g2
  exact rdW_gr g2 (rdW_new _ _)
theorem seq_assoc {a b c : En → Sto → RS} {env : En} {st : Sto} : sSeq a (sSeq b c) env st = sSeq (sSeq a b) c env st := by
  unfold sSeq
  cases a env st <;> rfl
theorem seq_nx {a b : En → Sto → RS} {env env' : En} {st st' : Sto} (h : a env st = .nx env' st') : sSeq a b env st = b env' st' := by
  unfold sSeq; rw [h]; rfl
end DL
set_option Elab.async false
set_option linter.all false
set_option maxRecDepth 10000
/-! Texts of data: how long they are at most. -/
namespace DL
open PySem PySem.Spec PyProof.Rows L2
theorem piled_le {ts : List Str} {B : Nat} (h : ∀ t ∈ ts, t.length ≤ B) : (PySem.piled ts) ≤ ts.length * (B + 2) := by
  induction ts with
  | nil => simp [PySem.piled]
  | cons t r ih =>
    have h1 := h t List.mem_cons_self
    have h2 := ih fun x hx => h x (List.mem_cons_of_mem _ hx)
    rw [PySem.piled_cons, List.length_cons, Nat.add_mul]
    omega
theorem tupleText_le {ts : List Str} {B : Nat} (h : ∀ t ∈ ts, t.length ≤ B) : (PySem.tupleText ts).length ≤ ts.length * (B + 2) + 3 := by
  have h1 := piled_le h
  unfold PySem.tupleText
  rw [strLen_append, strLen_append]
  have e1 : ((("(" : String) : Str)).length = 1 := rfl
  have e3 : (((if ts.length == 1 then ",)" else ")" : String) : Str)).length ≤ 2 := by split <;> decide
  rw [e1]
  by_cases q : ts = []
  · subst q
    have : (Str.join ", " []).length = 0 := rfl
    omega
  · have := PySem.join_length_add ts q
    omega
theorem strOk_append {a b : Str} (h : PyData.strOk a = true) (h' : PyData.strOk b = true) : PyData.strOk (a ++ b) = true := by
  unfold PyData.strOk at *
  rw [PySem.Str.cps_append, Array.all_append, h, h']
  rfl
theorem strOk_join {sep : Str} (hs : PyData.strOk sep = true) : ∀ {ts : List Str}, (∀ t ∈ ts, PyData.strOk t = true) → PyData.strOk (Str.join sep ts) = true
  | [], _ => by show PyData.strOk Str.empty = true; decide +kernel
  | [x], h => h x List.mem_cons_self
  | x :: y :: r, h => by
    show PyData.strOk (x ++ sep ++ Str.join sep (y :: r)) = true
    exact strOk_append (strOk_append (h x List.mem_cons_self) hs) (strOk_join hs fun t ht => h t (List.mem_cons_of_mem _ ht))
theorem strOk_tupleText {ts : List Str} (h : ∀ t ∈ ts, PyData.strOk t = true) : PyData.strOk (PySem.tupleText ts) = true := by
  unfold PySem.tupleText
  refine strOk_append (strOk_append (by decide +kernel) (strOk_join (by decide +kernel) h)) ?_
  split <;> decide +kernel
end DL
set_option Elab.async false
set_option linter.all false
/-! Rows of marks: figures, their numbers. -/
namespace Pt
/-- row j of all rows of k marks below n -/
def dig (n : Nat) : Nat → Nat → List Int
  | 0, _ => []
  | k + 1, j => dig n k (j / n) ++ [((j % n : Nat) : Int)]
@[simp] theorem dig_len (n : Nat) : ∀ k j, (dig n k j).length = k
  | 0, _ => rfl
  | k + 1, j => by simp [dig, dig_len n k]
theorem dig_mem {n : Nat} (hn : 0 < n) : ∀ {k j : Nat} {x : Int}, x ∈ dig n k j → 0 ≤ x ∧ x < n
  | 0, _, _, h => by simp [dig] at h
  | k + 1, j, x, h => by
    rw [dig, List.mem_append, List.mem_singleton] at h
    rcases h with h | h
    · exact dig_mem hn h
    · subst h
      have := Nat.mod_lt j hn
      omega
def val (n : Nat) (a : Int) (r : List Int) : Int := r.foldl (fun a x => a * n + x) a
theorem val_bd {n : Nat} (hn : 0 < n) : ∀ {r : List Int} {a : Int} {m : Nat}, (∀ x ∈ r, 0 ≤ x ∧ x < n) → 0 ≤ a → a < m → 0 ≤ val n a r ∧ val n a r < ((m * n ^ r.length : Nat) : Int)
  | [], a, m, _, h0, h1 => by simpa [val] using ⟨h0, h1⟩
  | x :: r, a, m, h, h0, h1 => by
    have hx := h x List.mem_cons_self
    have b0 : 0 ≤ a * n := Int.mul_nonneg h0 (by omega)
    have b1 : a * n + x < ((m * n : Nat) : Int) := by
      have : (a + 1) * n ≤ (m : Int) * n := Int.mul_le_mul_of_nonneg_right (by omega) (by omega)
      rw [Int.add_mul, Int.one_mul] at this
      push_cast
      omega
    have := val_bd hn (r := r) (a := a * n + x) (m := m * n) (fun y hy => h y (List.mem_cons_of_mem _ hy)) (by omega) b1
    have e : m * n ^ (x :: r).length = m * n * n ^ r.length := by
      rw [List.length_cons, Nat.pow_succ, Nat.mul_comm (n ^ r.length) n, Nat.mul_assoc]
    rw [e]
    exact this
theorem dig_head {n : Nat} (hn : 0 < n) : ∀ (k j : Nat), j < n ^ (k + 1) → (dig n (k + 1) j)[0]? = some (((j / n ^ k : Nat) : Int))
  | 0, j, h => by
    have : j < n := by simpa using h
    simp [dig, Nat.mod_eq_of_lt this]
  | k + 1, j, h => by
    rw [dig, List.getElem?_append_left (by simp)]
    have h2 : j / n < n ^ (k + 1) := by
      rw [Nat.div_lt_iff_lt_mul hn]
      rw [Nat.pow_succ] at h
      exact h
    rw [dig_head hn k (j / n) h2, Nat.div_div_eq_div_mul]
    rw [Nat.pow_succ, Nat.mul_comm]
theorem rows_more {n k q : Nat} (hn : 0 < n) : (List.range (q * n)).map (dig n (k + 1)) ++ (List.range n).map (fun i => dig n k q ++ [((i : Nat) : Int)]) = (List.range ((q + 1) * n)).map (dig n (k + 1)) := by
  rw [Nat.add_mul, Nat.one_mul, List.range_add, List.map_append, List.map_map]
  congr 1
  refine List.map_congr_left fun i hi => ?_
  rw [List.mem_range] at hi
  simp only [Function.comp, dig]
  rw [Nat.add_comm, Nat.add_mul_div_right _ _ hn, Nat.div_eq_of_lt hi, Nat.zero_add, Nat.add_mul_mod_self_right, Nat.mod_eq_of_lt hi]
end Pt
namespace Pt
/-- a rising row below n has at most n numbers -/
theorem rise_len : ∀ {n : Nat} {r : List Int}, r.Pairwise (· < ·) → (∀ x ∈ r, 0 ≤ x ∧ x < (n : Int)) → r.length ≤ n := by
  intro n
  induction n with
  | zero =>
    intro r _ h
    cases r with
    | nil => exact Nat.le_refl _
    | cons x r => have := h x List.mem_cons_self; omega
  | succ n ih =>
    intro r p h
    cases e : r.getLast? with
    | none =>
      rw [List.getLast?_eq_none_iff] at e
      subst e; exact Nat.zero_le _
    | some z =>
      obtain ⟨q, rfl⟩ := List.getLast?_eq_some_iff.mp e
      have p2 := List.pairwise_append.mp p
      have := ih (r := q) p2.1 fun x hx => by
        have h1 := h x (by simp [hx])
        have h2 := h z (by simp)
        have h3 := p2.2.2 x hx z (by simp)
        omega
      simp; omega
end Pt
set_option Elab.async false
set_option linter.all false
set_option maxRecDepth 100000
set_option maxHeartbeats 2000000
namespace Pr
open PySem PySem.Spec PyProof.Rows L2 DL
def topS (i : Nat) : Stmt := PySem.Challenge.pw_comeright_k50_moves_told.main.body.getD i (.Pass ⟨0, 0, 0, 0⟩)
abbrev d_TABS : Tabs := []
structure Txt (K : PySem.W.Frag) (w : World) (mg : Str → Option Value) : Prop where
  tabs : TabsOk K w d_TABS
  b_range : mg "range" = none
  b_type : mg "type" = none
  b_tuple : mg "tuple" = none
  b_len : mg "len" = none
  b_enumerate : mg "enumerate" = none
  b_int : mg "int" = none
  b_abs : mg "abs" = none
  b_repr : mg "repr" = none
  b_max : mg "max" = none
  b_min : mg "min" = none
  c_MOST_LOOKS : ∃ t, mg "MOST_LOOKS" = some (.int 5 t)
  c_LEAST_SIZE : ∃ t, mg "LEAST_SIZE" = some (.int 2 t)
  c_MOST_SIZE : ∃ t, mg "MOST_SIZE" = some (.int 9 t)
  c_MOST_HANDS : ∃ t, mg "MOST_HANDS" = some (.int 6 t)
  c_MOST_STANDINGS : ∃ t, mg "MOST_STANDINGS" = some (.int 729 t)
abbrev TxtX {K : PySem.W.Frag} {h : Heap} (_ : K.In h) (w : World) (mg : Str → Option Value) : Prop := Txt K w mg
section
variable {P : Program} {w : World} {K : PySem.W.Frag} {mg : Str → Option Value} {base : Heap}
/-! ### power -/
abbrev s_power : Stmt := topS 11
abbrev N_power : List Str := ["size", "many", "told", "_"]
theorem S_power : FnScope N_power ["size", "many"] (defScope s_power) := ⟨rfl, rfl, rfl, by decide +kernel, rfl, by decide +kernel, by decide +kernel⟩
noncomputable abbrev L1_power : En → Sto → RS :=
 (sAug 2 (mVar 0) oMulI)
noncomputable def b_power : En → Sto → RS :=
 (sSeq (sAsg (mC (.int 1)) (gN 2))
 (sSeq (sFor (iRng1 (aCons (mVar 1) aNil)) (gN 3)
  L1_power)
 (sRet (mVar 2))))
noncomputable def f_power : List D → Sto → R D := mDef 4 b_power
theorem ok_power (T : Txt K w mg) (Tf : TopFn K mg "power" s_power ["size", "many"])  : DefOk P w K mg base "power" 2 1 f_power := by
  have S := S_power
  refine def_ok (N := N_power) Tf S rfl (body := b_power) fun f cdv A outer s H E rg tk hp => ?_
  exact (dss_cons (ds_set (i := 2) S.nd rfl (by first | exact Or.inl rfl | exact Or.inr rfl) de_int)
 (dss_cons (ds_for (vs := [3]) hp rfl (di_rng1 (by rfl) T.b_range (da_cons (de_var 1) da_nil)) (dg_name (i := 3) S.nd rfl (by first | exact Or.inl rfl | exact Or.inr rfl))
  (dss_one (ds_aug (i := 2) S.nd rfl (by first | exact Or.inl rfl | exact Or.inr rfl) (de_var 0) pd_mul)))
 (dss_one (ds_ret (de_var 2)))))
/-! ### are_looks -/
abbrev s_are_looks : Stmt := topS 12
abbrev N_are_looks : List Str := ["many", "seat", "thing", "at", "other"]
theorem S_are_looks : FnScope N_are_looks ["many", "seat", "thing"] (defScope s_are_looks) := ⟨rfl, rfl, rfl, by decide +kernel, rfl, by decide +kernel, by decide +kernel⟩
noncomputable abbrev L1_are_looks : En → Sto → RS :=
 (sIf (tmOr (mB (m2 oIsNot (mFn bType (aCons (mVar 4) aNil)) (mC (.ty "int")))) (tmOr (tmNot (mB (mChain oLe oLtT (mC (.int 0)) (mVar 4) (mVar 0)))) (tmOr (mB (m2 oEq (mVar 4) (mVar 1))) (mB (m2 oIn (mVar 4) (mSl (mVar 2) pNone (pSome (mVar 3))))))))
  (sRet (mC (.bl false)))
  sNil)
noncomputable def b_are_looks : En → Sto → RS :=
 (sSeq (sIf (tmOr (mB (m2 oIsNot (mFn bType (aCons (mVar 2) aNil)) (mC (.ty "tuple")))) (mB (m2 oGt (mFn bLen (aCons (mVar 2) aNil)) (mC (.int 5)))))
  (sRet (mC (.bl false)))
  sNil)
 (sSeq (sFor (iEnumerate (aCons (mVar 2) aNil)) (DL.gTup (gsCons (gN 3) (gsCons (gN 4) gsNil)) 2)
  L1_are_looks)
 (sRet (mC (.bl true)))))
noncomputable def f_are_looks : List D → Sto → R D := mDef 5 b_are_looks
theorem ok_are_looks (T : Txt K w mg) (Tf : TopFn K mg "are_looks" s_are_looks ["many", "seat", "thing"])  : DefOk P w K mg base "are_looks" 3 1 f_are_looks := by
  have S := S_are_looks
  refine def_ok (N := N_are_looks) Tf S rfl (body := b_are_looks) fun f cdv A outer s H E rg tk hp => ?_
  exact (dss_cons (ds_if (dt_w (dw_or (dt_cmp (od_isnot) (de_callTy cd_type (by rfl) T.b_type (by decide +kernel) (da_cons (de_var 2) da_nil)) (de_ty (by rfl) T.b_tuple (by decide +kernel)) (nomark _)) (dw_or1 (dt_cmp (od_gt) (de_callB cd_len (by rfl) T.b_len (by decide +kernel) (da_cons (de_var 2) da_nil)) (de_globI (by rfl) T.c_MOST_LOOKS) (nomark _)))))
  (dss_one (ds_ret de_bl))
  dss_nil)
 (dss_cons (ds_for (vs := [3, 4]) hp rfl (di_enumerate (by rfl) T.b_enumerate (da_cons (de_var 2) da_nil)) (dg_tup rfl (dgs_cons (dg_name (i := 3) S.nd rfl (by first | exact Or.inl rfl | exact Or.inr rfl)) (dgs_cons (dg_name (i := 4) S.nd rfl (by first | exact Or.inl rfl | exact Or.inr rfl)) dgs_nil)))
  (dss_one (ds_if (dt_w (dw_or (dt_cmp (od_isnot) (de_callTy cd_type (by rfl) T.b_type (by decide +kernel) (da_cons (de_var 4) da_nil)) (de_ty (by rfl) T.b_int (by decide +kernel)) (nomark _)) (dw_or (dt_not (dt_chain (od_le) (od_ltT rg.r.units0) de_int (de_var 4) (de_var 0))) (dw_or (dt_cmp ((od_eq rg.r.units)) (de_var 4) (de_var 1) (nomark _)) (dw_or1 (dt_cmp ((od_in rg.u66)) (de_var 4) (de_sl (de_var 2) dp_none (dp_some (de_var 3))) (by with_unfolding_all rfl)))))))
  (dss_one (ds_ret de_bl))
  dss_nil)))
 (dss_one (ds_ret de_bl))))
/-! ### are_moves -/
abbrev s_are_moves : Stmt := topS 13
abbrev N_are_moves : List Str := ["size", "views", "thing", "alike", "at", "marks", "own", "ahead", "mark"]
theorem S_are_moves : FnScope N_are_moves ["size", "views", "thing"] (defScope s_are_moves) := ⟨rfl, rfl, rfl, by decide +kernel, rfl, by decide +kernel, by decide +kernel⟩
noncomputable abbrev L1_are_moves : En → Sto → RS :=
 (sSeq (sIf (tmOr (mB (m2 oIsNot (mFn bType (aCons (mVar 8) aNil)) (mC (.ty "int")))) (tmOr (tmNot (mB (mChain oLtT oLtT (mVar 7) (mVar 8) (mVar 0)))) (mB (m2 oEq (mVar 8) (mVar 6)))))
  (sRet (mC (.bl false)))
  sNil)
 (sAsg (mVar 8) (gN 7)))
noncomputable abbrev L2_are_moves : En → Sto → RS :=
 (sSeq (sIf (mB (m2 oIsNot (mFn bType (aCons (mVar 5) aNil)) (mC (.ty "tuple"))))
  (sRet (mC (.bl false)))
  sNil)
 (sSeq (sAsg (m2 oDiv (mVar 4) (mVar 3)) (gN 6))
 (sSeq (sAsg (m1 oNeg (mC (.int 1))) (gN 7))
 (sFor (iVal (mVar 5)) (gN 8)
  L1_are_moves))))
noncomputable def b_are_moves : En → Sto → RS :=
 (sSeq (sIf (tmOr (mB (m2 oIsNot (mFn bType (aCons (mVar 2) aNil)) (mC (.ty "tuple")))) (mB (m2 oNe (mFn bLen (aCons (mVar 2) aNil)) (mVar 1))))
  (sRet (mC (.bl false)))
  sNil)
 (sSeq (sAsg (m2 oDiv (mVar 1) (mVar 0)) (gN 3))
 (sSeq (sFor (iEnumerate (aCons (mVar 2) aNil)) (DL.gTup (gsCons (gN 4) (gsCons (gN 5) gsNil)) 2)
  L2_are_moves)
 (sRet (mC (.bl true))))))
noncomputable def f_are_moves : List D → Sto → R D := mDef 9 b_are_moves
theorem ok_are_moves (T : Txt K w mg) (Tf : TopFn K mg "are_moves" s_are_moves ["size", "views", "thing"])  : DefOk P w K mg base "are_moves" 3 1 f_are_moves := by
  have S := S_are_moves
  refine def_ok (N := N_are_moves) Tf S rfl (body := b_are_moves) fun f cdv A outer s H E rg tk hp => ?_
  exact (dss_cons (ds_if (dt_w (dw_or (dt_cmp (od_isnot) (de_callTy cd_type (by rfl) T.b_type (by decide +kernel) (da_cons (de_var 2) da_nil)) (de_ty (by rfl) T.b_tuple (by decide +kernel)) (nomark _)) (dw_or1 (dt_cmp ((od_ne rg.r.units)) (de_callB cd_len (by rfl) T.b_len (by decide +kernel) (da_cons (de_var 2) da_nil)) (de_var 1) (nomark _)))))
  (dss_one (ds_ret de_bl))
  dss_nil)
 (dss_cons (ds_set (i := 3) S.nd rfl (by first | exact Or.inl rfl | exact Or.inr rfl) (de_bin od_div (de_var 1) (de_var 0)))
 (dss_cons (ds_for (vs := [4, 5]) hp rfl (di_enumerate (by rfl) T.b_enumerate (da_cons (de_var 2) da_nil)) (dg_tup rfl (dgs_cons (dg_name (i := 4) S.nd rfl (by first | exact Or.inl rfl | exact Or.inr rfl)) (dgs_cons (dg_name (i := 5) S.nd rfl (by first | exact Or.inl rfl | exact Or.inr rfl)) dgs_nil)))
  (dss_cons (ds_if (dt_cmp (od_isnot) (de_callTy cd_type (by rfl) T.b_type (by decide +kernel) (da_cons (de_var 5) da_nil)) (de_ty (by rfl) T.b_tuple (by decide +kernel)) (nomark _))
  (dss_one (ds_ret de_bl))
  dss_nil)
 (dss_cons (ds_set (i := 6) S.nd rfl (by first | exact Or.inl rfl | exact Or.inr rfl) (de_bin od_div (de_var 4) (de_var 3)))
 (dss_cons (ds_set (i := 7) S.nd rfl (by first | exact Or.inl rfl | exact Or.inr rfl) (de_un od_neg de_int))
 (dss_one (ds_for (vs := [8]) hp rfl (di_val (de_var 5)) (dg_name (i := 8) S.nd rfl (by first | exact Or.inl rfl | exact Or.inr rfl))
  (dss_cons (ds_if (dt_w (dw_or (dt_cmp (od_isnot) (de_callTy cd_type (by rfl) T.b_type (by decide +kernel) (da_cons (de_var 8) da_nil)) (de_ty (by rfl) T.b_int (by decide +kernel)) (nomark _)) (dw_or (dt_not (dt_chain (od_ltT rg.r.units0) (od_ltT rg.r.units0) (de_var 7) (de_var 8) (de_var 0))) (dw_or1 (dt_cmp ((od_eq rg.r.units)) (de_var 8) (de_var 6) (nomark _))))))
  (dss_one (ds_ret de_bl))
  dss_nil)
 (dss_one (ds_set (i := 7) S.nd rfl (by first | exact Or.inl rfl | exact Or.inr rfl) (de_var 8))))))))))
 (dss_one (ds_ret de_bl)))))
/-! ### is_size -/
abbrev s_is_size : Stmt := topS 14
abbrev N_is_size : List Str := ["thing"]
theorem S_is_size : FnScope N_is_size ["thing"] (defScope s_is_size) := ⟨rfl, rfl, rfl, by decide +kernel, rfl, by decide +kernel, by decide +kernel⟩
noncomputable def b_is_size : En → Sto → RS :=
 (sRet (mAnd (m2 oIs (mFn bType (aCons (mVar 0) aNil)) (mC (.ty "int"))) (mChain oLe oLe (mC (.int 2)) (mVar 0) (mC (.int 9)))))
noncomputable def f_is_size : List D → Sto → R D := mDef 1 b_is_size
theorem ok_is_size (T : Txt K w mg) (Tf : TopFn K mg "is_size" s_is_size ["thing"])  : DefOk P w K mg base "is_size" 1 1 f_is_size := by
  have S := S_is_size
  refine def_ok (N := N_is_size) Tf S rfl (body := b_is_size) fun f cdv A outer s H E rg tk hp => ?_
  exact (dss_one (ds_ret (de_and (de_cmp (od_is) (de_callTy cd_type (by rfl) T.b_type (by decide +kernel) (da_cons (de_var 0) da_nil)) (de_ty (by rfl) T.b_int (by decide +kernel)) (nomark _)) (de_one (de_chain (od_le) (od_le) (de_globI (by rfl) T.c_LEAST_SIZE) (de_var 0) (de_globI (by rfl) T.c_MOST_SIZE))))))
/-! ### is_table -/
abbrev s_is_table : Stmt := topS 15
abbrev N_is_table : List Str := ["thing", "size", "seats", "seat", "hand"]
theorem S_is_table : FnScope N_is_table ["thing"] (defScope s_is_table) := ⟨rfl, rfl, rfl, by decide +kernel, rfl, by decide +kernel, by decide +kernel⟩
noncomputable abbrev L1_is_table : En → Sto → RS :=
 (sSeq (sIf (tmOr (mB (m2 oIsNot (mFn bType (aCons (mVar 4) aNil)) (mC (.ty "tuple")))) (tmOr (mB (m2 oNe (mFn bLen (aCons (mVar 4) aNil)) (mC (.int 2)))) (tmNot (mB (mCall f_are_looks (aCons (mFn bLen (aCons (mVar 2) aNil)) (aCons (mVar 3) (aCons (m2 oIx (mVar 4) (mC (.int 0))) aNil))))))))
  (sRet (mC (.bl false)))
  sNil)
 (sIf (tmNot (mB (mCall f_are_moves (aCons (mVar 1) (aCons (mCall f_power (aCons (mVar 1) (aCons (m2 oAdd (mC (.int 1)) (mFn bLen (aCons (m2 oIx (mVar 4) (mC (.int 0))) aNil))) aNil))) (aCons (m2 oIx (mVar 4) (mC (.int 1))) aNil))))))
  (sRet (mC (.bl false)))
  sNil))
noncomputable def b_is_table : En → Sto → RS :=
 (sSeq (sIf (tmOr (mB (m2 oIsNot (mFn bType (aCons (mVar 0) aNil)) (mC (.ty "tuple")))) (mB (m2 oNe (mFn bLen (aCons (mVar 0) aNil)) (mC (.int 2)))))
  (sRet (mC (.bl false)))
  sNil)
 (sSeq (sAsg (mVar 0) (DL.gTup (gsCons (gN 1) (gsCons (gN 2) gsNil)) 2))
 (sSeq (sIf (tmOr (tmNot (mB (mCall f_is_size (aCons (mVar 1) aNil)))) (tmOr (mB (m2 oIsNot (mFn bType (aCons (mVar 2) aNil)) (mC (.ty "tuple")))) (tmNot (mB (mChain oLe oLe (mC (.int 1)) (mFn bLen (aCons (mVar 2) aNil)) (mC (.int 6)))))))
  (sRet (mC (.bl false)))
  sNil)
 (sSeq (sIf (mB (m2 oGt (mCall f_power (aCons (mVar 1) (aCons (mFn bLen (aCons (mVar 2) aNil)) aNil))) (mC (.int 729))))
  (sRet (mC (.bl false)))
  sNil)
 (sSeq (sFor (iEnumerate (aCons (mVar 2) aNil)) (DL.gTup (gsCons (gN 3) (gsCons (gN 4) gsNil)) 2)
  L1_is_table)
 (sRet (mC (.bl true))))))))
noncomputable def f_is_table : List D → Sto → R D := mDef 5 b_is_table
theorem ok_is_table (T : Txt K w mg) (Tf : TopFn K mg "is_table" s_is_table ["thing"]) (h_is_size : DefOk P w K mg base "is_size" 1 1 f_is_size) (h_power : DefOk P w K mg base "power" 2 1 f_power) (h_are_looks : DefOk P w K mg base "are_looks" 3 1 f_are_looks) (h_are_moves : DefOk P w K mg base "are_moves" 3 1 f_are_moves) : DefOk P w K mg base "is_table" 1 2 f_is_table := by
  have S := S_is_table
  refine def_ok (N := N_is_table) Tf S rfl (body := b_is_table) fun f cdv A outer s H E rg tk hp => ?_
  exact (dss_cons (ds_if (dt_w (dw_or (dt_cmp (od_isnot) (de_callTy cd_type (by rfl) T.b_type (by decide +kernel) (da_cons (de_var 0) da_nil)) (de_ty (by rfl) T.b_tuple (by decide +kernel)) (nomark _)) (dw_or1 (dt_cmp ((od_ne rg.r.units)) (de_callB cd_len (by rfl) T.b_len (by decide +kernel) (da_cons (de_var 0) da_nil)) de_int (nomark _)))))
  (dss_one (ds_ret de_bl))
  dss_nil)
 (dss_cons (ds_asg (vs := [1, 2]) (de_var 0) (dg_tup rfl (dgs_cons (dg_name (i := 1) S.nd rfl (by first | exact Or.inl rfl | exact Or.inr rfl)) (dgs_cons (dg_name (i := 2) S.nd rfl (by first | exact Or.inl rfl | exact Or.inr rfl)) dgs_nil))))
 (dss_cons (ds_if (dt_w (dw_or (dt_not (dt_val (de_f h_is_size rg (by omega) (by rfl) tk (da_cons (de_var 1) da_nil) rfl (al_cons al_nil)))) (dw_or (dt_cmp (od_isnot) (de_callTy cd_type (by rfl) T.b_type (by decide +kernel) (da_cons (de_var 2) da_nil)) (de_ty (by rfl) T.b_tuple (by decide +kernel)) (nomark _)) (dw_or1 (dt_not (dt_chain (od_le) (od_le) de_int (de_callB cd_len (by rfl) T.b_len (by decide +kernel) (da_cons (de_var 2) da_nil)) (de_globI (by rfl) T.c_MOST_HANDS)))))))
  (dss_one (ds_ret de_bl))
  dss_nil)
 (dss_cons (ds_if (dt_cmp (od_gt) (de_f h_power rg (by omega) (by rfl) tk (da_cons (de_var 1) (da_cons (de_callB cd_len (by rfl) T.b_len (by decide +kernel) (da_cons (de_var 2) da_nil)) da_nil)) rfl (al_cons (al_cons al_nil))) (de_globI (by rfl) T.c_MOST_STANDINGS) (nomark _))
  (dss_one (ds_ret de_bl))
  dss_nil)
 (dss_cons (ds_for (vs := [3, 4]) hp rfl (di_enumerate (by rfl) T.b_enumerate (da_cons (de_var 2) da_nil)) (dg_tup rfl (dgs_cons (dg_name (i := 3) S.nd rfl (by first | exact Or.inl rfl | exact Or.inr rfl)) (dgs_cons (dg_name (i := 4) S.nd rfl (by first | exact Or.inl rfl | exact Or.inr rfl)) dgs_nil)))
  (dss_cons (ds_if (dt_w (dw_or (dt_cmp (od_isnot) (de_callTy cd_type (by rfl) T.b_type (by decide +kernel) (da_cons (de_var 4) da_nil)) (de_ty (by rfl) T.b_tuple (by decide +kernel)) (nomark _)) (dw_or (dt_cmp ((od_ne rg.r.units)) (de_callB cd_len (by rfl) T.b_len (by decide +kernel) (da_cons (de_var 4) da_nil)) de_int (nomark _)) (dw_or1 (dt_not (dt_val (de_f h_are_looks rg (by omega) (by rfl) tk (da_cons (de_callB cd_len (by rfl) T.b_len (by decide +kernel) (da_cons (de_var 2) da_nil)) (da_cons (de_var 3) (da_cons (de_ix (de_var 4) de_int (fun _ _ => rfl)) da_nil))) rfl (al_cons (al_cons (al_cons al_nil))))))))))
  (dss_one (ds_ret de_bl))
  dss_nil)
 (dss_one (ds_if (dt_not (dt_val (de_f h_are_moves rg (by omega) (by rfl) tk (da_cons (de_var 1) (da_cons (de_f h_power rg (by omega) (by rfl) tk (da_cons (de_var 1) (da_cons (de_bin od_add de_int (de_callB cd_len (by rfl) T.b_len (by decide +kernel) (da_cons (de_ix (de_var 4) de_int (fun _ _ => rfl)) da_nil))) da_nil)) rfl (al_cons (al_cons al_nil))) (da_cons (de_ix (de_var 4) de_int (fun _ _ => rfl)) da_nil))) rfl (al_cons (al_cons (al_cons al_nil))))))
  (dss_one (ds_ret de_bl))
  dss_nil))))
 (dss_one (ds_ret de_bl)))))))
/-! ### need_table -/
abbrev s_need_table : Stmt := topS 16
abbrev N_need_table : List Str := ["table"]
theorem S_need_table : FnScope N_need_table ["table"] (defScope s_need_table) := ⟨rfl, rfl, rfl, by decide +kernel, rfl, by decide +kernel, by decide +kernel⟩
noncomputable def b_need_table : En → Sto → RS :=
 (sIf (tmNot (mB (mCall f_is_table (aCons (mVar 0) aNil))))
  sNo
  sNil)
noncomputable def f_need_table : List D → Sto → R D := mDef 1 b_need_table
theorem ok_need_table (T : Txt K w mg) (Tf : TopFn K mg "need_table" s_need_table ["table"]) (h_is_table : DefOk P w K mg base "is_table" 1 2 f_is_table) : DefOk P w K mg base "need_table" 1 3 f_need_table := by
  have S := S_need_table
  refine def_ok (N := N_need_table) Tf S rfl (body := b_need_table) fun f cdv A outer s H E rg tk hp => ?_
  exact (dss_one (ds_if (dt_not (dt_val (de_f h_is_table rg (by omega) (by rfl) tk (da_cons (de_var 0) da_nil) rfl (al_cons al_nil))))
  (dss_one ds_never)
  dss_nil))
/-! ### stands_in -/
abbrev s_stands_in : Stmt := topS 19
abbrev N_stands_in : List Str := ["table", "thing", "size", "seats", "mark"]
theorem S_stands_in : FnScope N_stands_in ["table", "thing"] (defScope s_stands_in) := ⟨rfl, rfl, rfl, by decide +kernel, rfl, by decide +kernel, by decide +kernel⟩
noncomputable abbrev L1_stands_in : En → Sto → RS :=
 (sIf (tmOr (mB (m2 oIsNot (mFn bType (aCons (mVar 4) aNil)) (mC (.ty "int")))) (tmNot (mB (mChain oLe oLtT (mC (.int 0)) (mVar 4) (mVar 2)))))
  (sRet (mC (.bl false)))
  sNil)
noncomputable def b_stands_in : En → Sto → RS :=
 (sSeq (sAsg (mVar 0) (DL.gTup (gsCons (gN 2) (gsCons (gN 3) gsNil)) 2))
 (sSeq (sIf (tmOr (mB (m2 oIsNot (mFn bType (aCons (mVar 1) aNil)) (mC (.ty "tuple")))) (mB (m2 oNe (mFn bLen (aCons (mVar 1) aNil)) (mFn bLen (aCons (mVar 3) aNil)))))
  (sRet (mC (.bl false)))
  sNil)
 (sSeq (sFor (iVal (mVar 1)) (gN 4)
  L1_stands_in)
 (sRet (mC (.bl true))))))
noncomputable def f_stands_in : List D → Sto → R D := mDef 5 b_stands_in
theorem ok_stands_in (T : Txt K w mg) (Tf : TopFn K mg "stands_in" s_stands_in ["table", "thing"])  : DefOk P w K mg base "stands_in" 2 1 f_stands_in := by
  have S := S_stands_in
  refine def_ok (N := N_stands_in) Tf S rfl (body := b_stands_in) fun f cdv A outer s H E rg tk hp => ?_
  exact (dss_cons (ds_asg (vs := [2, 3]) (de_var 0) (dg_tup rfl (dgs_cons (dg_name (i := 2) S.nd rfl (by first | exact Or.inl rfl | exact Or.inr rfl)) (dgs_cons (dg_name (i := 3) S.nd rfl (by first | exact Or.inl rfl | exact Or.inr rfl)) dgs_nil))))
 (dss_cons (ds_if (dt_w (dw_or (dt_cmp (od_isnot) (de_callTy cd_type (by rfl) T.b_type (by decide +kernel) (da_cons (de_var 1) da_nil)) (de_ty (by rfl) T.b_tuple (by decide +kernel)) (nomark _)) (dw_or1 (dt_cmp ((od_ne rg.r.units)) (de_callB cd_len (by rfl) T.b_len (by decide +kernel) (da_cons (de_var 1) da_nil)) (de_callB cd_len (by rfl) T.b_len (by decide +kernel) (da_cons (de_var 3) da_nil)) (nomark _)))))
  (dss_one (ds_ret de_bl))
  dss_nil)
 (dss_cons (ds_for (vs := [4]) hp rfl (di_val (de_var 1)) (dg_name (i := 4) S.nd rfl (by first | exact Or.inl rfl | exact Or.inr rfl))
  (dss_one (ds_if (dt_w (dw_or (dt_cmp (od_isnot) (de_callTy cd_type (by rfl) T.b_type (by decide +kernel) (da_cons (de_var 4) da_nil)) (de_ty (by rfl) T.b_int (by decide +kernel)) (nomark _)) (dw_or1 (dt_not (dt_chain (od_le) (od_ltT rg.r.units0) de_int (de_var 4) (de_var 2))))))
  (dss_one (ds_ret de_bl))
  dss_nil)))
 (dss_one (ds_ret de_bl)))))
/-! ### need_standing -/
abbrev s_need_standing : Stmt := topS 17
abbrev N_need_standing : List Str := ["table", "standing"]
theorem S_need_standing : FnScope N_need_standing ["table", "standing"] (defScope s_need_standing) := ⟨rfl, rfl, rfl, by decide +kernel, rfl, by decide +kernel, by decide +kernel⟩
noncomputable def b_need_standing : En → Sto → RS :=
 (sIf (tmNot (mB (mCall f_stands_in (aCons (mVar 0) (aCons (mVar 1) aNil)))))
  sNo
  sNil)
noncomputable def f_need_standing : List D → Sto → R D := mDef 2 b_need_standing
theorem ok_need_standing (T : Txt K w mg) (Tf : TopFn K mg "need_standing" s_need_standing ["table", "standing"]) (h_stands_in : DefOk P w K mg base "stands_in" 2 1 f_stands_in) : DefOk P w K mg base "need_standing" 2 2 f_need_standing := by
  have S := S_need_standing
  refine def_ok (N := N_need_standing) Tf S rfl (body := b_need_standing) fun f cdv A outer s H E rg tk hp => ?_
  exact (dss_one (ds_if (dt_not (dt_val (de_f h_stands_in rg (by omega) (by rfl) tk (da_cons (de_var 0) (da_cons (de_var 1) da_nil)) rfl (al_cons (al_cons al_nil)))))
  (dss_one ds_never)
  dss_nil))
/-! ### need_hand -/
abbrev s_need_hand : Stmt := topS 18
abbrev N_need_hand : List Str := ["table", "seat", "standing"]
theorem S_need_hand : FnScope N_need_hand ["table", "seat", "standing"] (defScope s_need_hand) := ⟨rfl, rfl, rfl, by decide +kernel, rfl, by decide +kernel, by decide +kernel⟩
noncomputable def b_need_hand : En → Sto → RS :=
 (sSeq (sExpr (mCall f_need_table (aCons (mVar 0) aNil)))
 (sSeq (sIf (tmOr (mB (m2 oIsNot (mFn bType (aCons (mVar 1) aNil)) (mC (.ty "int")))) (tmNot (mB (mChain oLe oLtT (mC (.int 0)) (mVar 1) (mFn bLen (aCons (m2 oIx (mVar 0) (mC (.int 1))) aNil))))))
  sNo
  sNil)
 (sExpr (mCall f_need_standing (aCons (mVar 0) (aCons (mVar 2) aNil))))))
noncomputable def f_need_hand : List D → Sto → R D := mDef 3 b_need_hand
theorem ok_need_hand (T : Txt K w mg) (Tf : TopFn K mg "need_hand" s_need_hand ["table", "seat", "standing"]) (h_need_table : DefOk P w K mg base "need_table" 1 3 f_need_table) (h_need_standing : DefOk P w K mg base "need_standing" 2 2 f_need_standing) : DefOk P w K mg base "need_hand" 3 4 f_need_hand := by
  have S := S_need_hand
  refine def_ok (N := N_need_hand) Tf S rfl (body := b_need_hand) fun f cdv A outer s H E rg tk hp => ?_
  exact (dss_cons (ds_expr (de_f h_need_table rg (by omega) (by rfl) tk (da_cons (de_var 0) da_nil) rfl (al_cons al_nil)))
 (dss_cons (ds_if (dt_w (dw_or (dt_cmp (od_isnot) (de_callTy cd_type (by rfl) T.b_type (by decide +kernel) (da_cons (de_var 1) da_nil)) (de_ty (by rfl) T.b_int (by decide +kernel)) (nomark _)) (dw_or1 (dt_not (dt_chain (od_le) (od_ltT rg.r.units0) de_int (de_var 1) (de_callB cd_len (by rfl) T.b_len (by decide +kernel) (da_cons (de_ix (de_var 0) de_int (fun _ _ => rfl)) da_nil)))))))
  (dss_one ds_never)
  dss_nil)
 (dss_one (ds_expr (de_f h_need_standing rg (by omega) (by rfl) tk (da_cons (de_var 0) (da_cons (de_var 2) da_nil)) rfl (al_cons (al_cons al_nil)))))))
/-! ### moves_at -/
abbrev s_moves_at : Stmt := topS 20
abbrev N_moves_at : List Str := ["table", "seat", "standing", "size", "seats", "looks", "rows", "at", "other"]
theorem S_moves_at : FnScope N_moves_at ["table", "seat", "standing"] (defScope s_moves_at) := ⟨rfl, rfl, rfl, by decide +kernel, rfl, by decide +kernel, by decide +kernel⟩
noncomputable abbrev L1_moves_at : En → Sto → RS :=
 (sAsg (m2 oAdd (m2 oMul (mVar 7) (mVar 3)) (m2 oIx (mVar 2) (mVar 8))) (gN 7))
noncomputable def b_moves_at : En → Sto → RS :=
 (sSeq (sAsg (mVar 0) (DL.gTup (gsCons (gN 3) (gsCons (gN 4) gsNil)) 2))
 (sSeq (sAsg (m2 oIx (mVar 4) (mVar 1)) (DL.gTup (gsCons (gN 5) (gsCons (gN 6) gsNil)) 2))
 (sSeq (sAsg (m2 oIx (mVar 2) (mVar 1)) (gN 7))
 (sSeq (sFor (iVal (mVar 5)) (gN 8)
  L1_moves_at)
 (sRet (m2 oIx (mVar 6) (mVar 7)))))))
noncomputable def f_moves_at : List D → Sto → R D := mDef 9 b_moves_at
theorem ok_moves_at (T : Txt K w mg) (Tf : TopFn K mg "moves_at" s_moves_at ["table", "seat", "standing"])  : DefOk P w K mg base "moves_at" 3 1 f_moves_at := by
  have S := S_moves_at
  refine def_ok (N := N_moves_at) Tf S rfl (body := b_moves_at) fun f cdv A outer s H E rg tk hp => ?_
  exact (dss_cons (ds_asg (vs := [3, 4]) (de_var 0) (dg_tup rfl (dgs_cons (dg_name (i := 3) S.nd rfl (by first | exact Or.inl rfl | exact Or.inr rfl)) (dgs_cons (dg_name (i := 4) S.nd rfl (by first | exact Or.inl rfl | exact Or.inr rfl)) dgs_nil))))
 (dss_cons (ds_asg (vs := [5, 6]) (de_ix (de_var 4) (de_var 1) (fun _ _ => rfl)) (dg_tup rfl (dgs_cons (dg_name (i := 5) S.nd rfl (by first | exact Or.inl rfl | exact Or.inr rfl)) (dgs_cons (dg_name (i := 6) S.nd rfl (by first | exact Or.inl rfl | exact Or.inr rfl)) dgs_nil))))
 (dss_cons (ds_set (i := 7) S.nd rfl (by first | exact Or.inl rfl | exact Or.inr rfl) (de_ix (de_var 2) (de_var 1) (fun _ _ => rfl)))
 (dss_cons (ds_for (vs := [8]) hp rfl (di_val (de_var 5)) (dg_name (i := 8) S.nd rfl (by first | exact Or.inl rfl | exact Or.inr rfl))
  (dss_one (ds_set (i := 7) S.nd rfl (by first | exact Or.inl rfl | exact Or.inr rfl) (de_bin od_add (de_bin od_mul (de_var 7) (de_var 3)) (de_ix (de_var 2) (de_var 8) (fun _ _ => rfl))))))
 (dss_one (ds_ret (de_ix (de_var 6) (de_var 7) (fun _ _ => rfl))))))))
/-! ### able_at -/
abbrev s_able_at : Stmt := topS 21
abbrev N_able_at : List Str := ["table", "standing", "seat"]
theorem S_able_at : FnScope N_able_at ["table", "standing"] (defScope s_able_at) := ⟨rfl, rfl, rfl, by decide +kernel, rfl, by decide +kernel, by decide +kernel⟩
noncomputable abbrev C1_able_at : En → Sto → R Bool :=
 (mB (m2 oNe (mCall f_moves_at (aCons (mVar 0) (aCons (mVar 2) (aCons (mVar 1) aNil)))) (mTup aNil)))
noncomputable abbrev E1_able_at : En → Sto → R D :=
 (mVar 2)
noncomputable def b_able_at : En → Sto → RS :=
 (sRet (mLc (iRng1 (aCons (mFn bLen (aCons (mVar 1) aNil)) aNil)) (gN 2) C1_able_at E1_able_at [2]))
noncomputable def f_able_at : List D → Sto → R D := mDef 3 b_able_at
theorem ok_able_at (T : Txt K w mg) (Tf : TopFn K mg "able_at" s_able_at ["table", "standing"]) (h_moves_at : DefOk P w K mg base "moves_at" 3 1 f_moves_at) : DefOk P w K mg base "able_at" 2 2 f_able_at := by
  have S := S_able_at
  refine def_ok (N := N_able_at) Tf S rfl (body := b_able_at) fun f cdv A outer s H E rg tk hp => ?_
  exact (dss_one (ds_ret (de_lc rfl S.nd (di_rng1 (by rfl) T.b_range (da_cons (de_callB cd_len (by rfl) T.b_len (by decide +kernel) (da_cons (de_var 1) da_nil)) da_nil)) (blkOk_by (by kernel_rfl)) (own := [("seat", 2)]) (ts := [2]) (by decide) (fun _ _ _ _ _ => (dg_name (i := 2) S.nd rfl (by first | exact Or.inl rfl | exact Or.inr rfl))) (fun _ _ _ _ _ => have tk := takes0; (dts_one (dt_cmp ((od_ne rg.r.units)) (de_f h_moves_at rg (by omega) (by rfl) tk (da_cons (de_var 0) (da_cons (de_var 2) (da_cons (de_var 1) da_nil))) rfl (al_cons (al_cons (al_cons al_nil)))) (de_tup da_nil) (nomark _)))) (fun _ _ _ _ _ => (de_var 2)))))
/-! ### view -/
abbrev s_view : Stmt := topS 22
abbrev N_view : List Str := ["table", "seat", "standing", "looks", "_", "other"]
theorem S_view : FnScope N_view ["table", "seat", "standing"] (defScope s_view) := ⟨rfl, rfl, rfl, by decide +kernel, rfl, by decide +kernel, by decide +kernel⟩
noncomputable abbrev E1_view : En → Sto → R D :=
 (m2 oIx (mVar 2) (mVar 5))
noncomputable def b_view : En → Sto → RS :=
 (sSeq (sExpr (mCall f_need_hand (aCons (mVar 0) (aCons (mVar 1) (aCons (mVar 2) aNil)))))
 (sSeq (sAsg (m2 oIx (m2 oIx (mVar 0) (mC (.int 1))) (mVar 1)) (DL.gTup (gsCons (gN 3) (gsCons (gN 4) gsNil)) 2))
 (sRet (m2 oAdd (mTup (aCons (m2 oIx (mVar 2) (mVar 1)) aNil)) (mFn bTuple (aCons (mLc (iVal (mVar 3)) (gN 5) mYes E1_view [5]) aNil))))))
noncomputable def f_view : List D → Sto → R D := mDef 6 b_view
theorem ok_view (T : Txt K w mg) (Tf : TopFn K mg "view" s_view ["table", "seat", "standing"]) (h_need_hand : DefOk P w K mg base "need_hand" 3 4 f_need_hand) : DefOk P w K mg base "view" 3 5 f_view := by
  have S := S_view
  refine def_ok (N := N_view) Tf S rfl (body := b_view) fun f cdv A outer s H E rg tk hp => ?_
  exact (dss_cons (ds_expr (de_f h_need_hand rg (by omega) (by rfl) tk (da_cons (de_var 0) (da_cons (de_var 1) (da_cons (de_var 2) da_nil))) rfl (al_cons (al_cons (al_cons al_nil)))))
 (dss_cons (ds_asg (vs := [3, 4]) (de_ix (de_ix (de_var 0) de_int (fun _ _ => rfl)) (de_var 1) (fun _ _ => rfl)) (dg_tup rfl (dgs_cons (dg_name (i := 3) S.nd rfl (by first | exact Or.inl rfl | exact Or.inr rfl)) (dgs_cons (dg_name (i := 4) S.nd rfl (by first | exact Or.inl rfl | exact Or.inr rfl)) dgs_nil))))
 (dss_one (ds_ret (de_bin od_add (de_tup (da_cons (de_ix (de_var 2) (de_var 1) (fun _ _ => rfl)) da_nil)) (de_callTy cd_tuple (by rfl) T.b_tuple (by decide +kernel) (da_cons (de_lc rfl S.nd (di_val (de_var 3)) (blkOk_by (by kernel_rfl)) (own := [("other", 5)]) (ts := [5]) (by decide) (fun _ _ _ _ _ => (dg_name (i := 5) S.nd rfl (by first | exact Or.inl rfl | exact Or.inr rfl))) (fun _ _ _ _ _ => dts_nil) (fun _ _ _ _ _ => (de_ix (de_var 2) (de_var 5) (fun _ _ => rfl)))) da_nil)))))))
/-! ### moves -/
abbrev s_moves : Stmt := topS 23
abbrev N_moves : List Str := ["table", "seat", "standing"]
theorem S_moves : FnScope N_moves ["table", "seat", "standing"] (defScope s_moves) := ⟨rfl, rfl, rfl, by decide +kernel, rfl, by decide +kernel, by decide +kernel⟩
noncomputable def b_moves : En → Sto → RS :=
 (sSeq (sExpr (mCall f_need_hand (aCons (mVar 0) (aCons (mVar 1) (aCons (mVar 2) aNil)))))
 (sRet (mCall f_moves_at (aCons (mVar 0) (aCons (mVar 1) (aCons (mVar 2) aNil))))))
noncomputable def f_moves : List D → Sto → R D := mDef 3 b_moves
theorem ok_moves (T : Txt K w mg) (Tf : TopFn K mg "moves" s_moves ["table", "seat", "standing"]) (h_need_hand : DefOk P w K mg base "need_hand" 3 4 f_need_hand) (h_moves_at : DefOk P w K mg base "moves_at" 3 1 f_moves_at) : DefOk P w K mg base "moves" 3 5 f_moves := by
  have S := S_moves
  refine def_ok (N := N_moves) Tf S rfl (body := b_moves) fun f cdv A outer s H E rg tk hp => ?_
  exact (dss_cons (ds_expr (de_f h_need_hand rg (by omega) (by rfl) tk (da_cons (de_var 0) (da_cons (de_var 1) (da_cons (de_var 2) da_nil))) rfl (al_cons (al_cons (al_cons al_nil)))))
 (dss_one (ds_ret (de_f h_moves_at rg (by omega) (by rfl) tk (da_cons (de_var 0) (da_cons (de_var 1) (da_cons (de_var 2) da_nil))) rfl (al_cons (al_cons (al_cons al_nil)))))))
/-! ### able_seats -/
abbrev s_able_seats : Stmt := topS 24
abbrev N_able_seats : List Str := ["table", "standing"]
theorem S_able_seats : FnScope N_able_seats ["table", "standing"] (defScope s_able_seats) := ⟨rfl, rfl, rfl, by decide +kernel, rfl, by decide +kernel, by decide +kernel⟩
noncomputable def b_able_seats : En → Sto → RS :=
 (sSeq (sExpr (mCall f_need_table (aCons (mVar 0) aNil)))
 (sSeq (sExpr (mCall f_need_standing (aCons (mVar 0) (aCons (mVar 1) aNil))))
 (sRet (mFn bTuple (aCons (mCall f_able_at (aCons (mVar 0) (aCons (mVar 1) aNil))) aNil)))))
noncomputable def f_able_seats : List D → Sto → R D := mDef 2 b_able_seats
theorem ok_able_seats (T : Txt K w mg) (Tf : TopFn K mg "able_seats" s_able_seats ["table", "standing"]) (h_need_table : DefOk P w K mg base "need_table" 1 3 f_need_table) (h_need_standing : DefOk P w K mg base "need_standing" 2 2 f_need_standing) (h_able_at : DefOk P w K mg base "able_at" 2 2 f_able_at) : DefOk P w K mg base "able_seats" 2 4 f_able_seats := by
  have S := S_able_seats
  refine def_ok (N := N_able_seats) Tf S rfl (body := b_able_seats) fun f cdv A outer s H E rg tk hp => ?_
  exact (dss_cons (ds_expr (de_f h_need_table rg (by omega) (by rfl) tk (da_cons (de_var 0) da_nil) rfl (al_cons al_nil)))
 (dss_cons (ds_expr (de_f h_need_standing rg (by omega) (by rfl) tk (da_cons (de_var 0) (da_cons (de_var 1) da_nil)) rfl (al_cons (al_cons al_nil))))
 (dss_one (ds_ret (de_callTy cd_tuple (by rfl) T.b_tuple (by decide +kernel) (da_cons (de_f h_able_at rg (by omega) (by rfl) tk (da_cons (de_var 0) (da_cons (de_var 1) da_nil)) rfl (al_cons (al_cons al_nil))) da_nil))))))
/-! ### _law_pool -/
abbrev s_law_pool : Stmt := topS 26
abbrev N_law_pool : List Str := ["cells", "k", "cell", "great", "mixed"]
theorem S_law_pool : FnScope N_law_pool ["cells", "k"] (defScope s_law_pool) := ⟨rfl, rfl, rfl, by decide +kernel, rfl, by decide +kernel, by decide +kernel⟩
noncomputable def b_law_pool : En → Sto → RS :=
 (sSeq (sAsg (mIf (mB (m2 oLtT (mVar 1) (mFn bLen (aCons (mVar 0) aNil)))) (m2 oIx (mVar 0) (mVar 1)) (mC (.int 0))) (gN 2))
 (sSeq (sAsg (mFn bAbs (aCons (mVar 2) aNil)) (gN 3))
 (sSeq (sAsg (m2 oMod (m2 oAdd (m2 oAdd (m2 oAdd (m2 oMul (m2 oMod (mVar 3) (mC (.int 2147483629))) (mC (.int 48271))) (m2 oMul (mC (.int 977)) (mVar 1))) (m2 oMul (mC (.int 2)) (mFn bInt (aCons (m2 oLtT (mVar 2) (mC (.int 0))) aNil)))) (mC (.int 5))) (mC (.int 2147483647))) (gN 4))
 (sRet (mLst (aCons (mIf (mB (m2 oGe (mVar 3) (m2 oPow (mC (.int 10)) (mC (.int 18))))) (m2 oSub (mVar 3) (m2 oPow (mC (.int 10)) (mC (.int 18)))) (mC (.int 0))) (aCons (mVar 4) (aCons (mC (.int 0)) aNil))))))))
noncomputable def f_law_pool : List D → Sto → R D := mDef 5 b_law_pool
theorem ok_law_pool (T : Txt K w mg) (Tf : TopFn K mg "_law_pool" s_law_pool ["cells", "k"])  : DefOk P w K mg base "_law_pool" 2 1 f_law_pool := by
  have S := S_law_pool
  refine def_ok (N := N_law_pool) Tf S rfl (body := b_law_pool) fun f cdv A outer s H E rg tk hp => ?_
  exact (dss_cons (ds_set (i := 2) S.nd rfl (by first | exact Or.inl rfl | exact Or.inr rfl) (de_if (dt_cmp (od_ltT rg.r.units0) (de_var 1) (de_callB cd_len (by rfl) T.b_len (by decide +kernel) (da_cons (de_var 0) da_nil)) (nomark _)) (de_ix (de_var 0) (de_var 1) (fun _ _ => rfl)) de_int))
 (dss_cons (ds_set (i := 3) S.nd rfl (by first | exact Or.inl rfl | exact Or.inr rfl) (de_callB cd_abs (by rfl) T.b_abs (by decide +kernel) (da_cons (de_var 2) da_nil)))
 (dss_cons (ds_set (i := 4) S.nd rfl (by first | exact Or.inl rfl | exact Or.inr rfl) (de_bin od_mod (de_bin od_add (de_bin od_add (de_bin od_add (de_bin od_mul (de_bin od_mod (de_var 3) de_int) de_int) (de_bin od_mul de_int (de_var 1))) (de_bin od_mul de_int (de_callTy cd_int (by rfl) T.b_int (by decide +kernel) (da_cons (de_cmp (od_ltT rg.r.units0) (de_var 2) de_int (nomark _)) da_nil)))) de_int) de_int))
 (dss_one (ds_ret (de_lst (da_cons (de_if (dt_cmp (od_ge) (de_var 3) (de_bin od_pow de_int de_int) (nomark _)) (de_bin od_sub (de_var 3) (de_bin od_pow de_int de_int)) de_int) (da_cons (de_var 4) (da_cons de_int da_nil)))))))))
/-! ### _law_take -/
abbrev s_law_take : Stmt := topS 27
abbrev N_law_take : List Str := ["pool", "many", "found", "one", "two"]
theorem S_law_take : FnScope N_law_take ["pool", "many"] (defScope s_law_take) := ⟨rfl, rfl, rfl, by decide +kernel, rfl, by decide +kernel, by decide +kernel⟩
noncomputable def b_law_take : En → Sto → RS :=
 (sSeq (sIf (mB (m2 oGt (m2 oIx (mVar 0) (mC (.int 0))) (mC (.int 0))))
  (sSeq (sAsg (m2 oMod (m2 oIx (mVar 0) (mC (.int 0))) (mVar 1)) (gN 2))
 (sSeq (sAsg (m2 oDiv (m2 oIx (mVar 0) (mC (.int 0))) (mVar 1)) (gSet (mVar 0) (mC (.int 0))))
 (sRet (mVar 2))))
  sNil)
 (sSeq (sAsg (m2 oAdd (m2 oIx (mVar 0) (mC (.int 2))) (mC (.int 1))) (gSet (mVar 0) (mC (.int 2))))
 (sSeq (sAsg (m2 oMod (m2 oAdd (m2 oIx (mVar 0) (mC (.int 1))) (m2 oMul (mC (.int 1000003)) (m2 oIx (mVar 0) (mC (.int 2))))) (mC (.int 2305843009213693951))) (gN 3))
 (sSeq (sAsg (m2 oMod (m2 oAdd (m2 oMul (m2 oMod (m2 oMul (mVar 3) (mVar 3)) (mC (.int 2305843009213693921))) (mVar 3)) (m2 oMul (mC (.int 8191)) (m2 oIx (mVar 0) (mC (.int 2))))) (mC (.int 2305843009213693907))) (gN 4))
 (sRet (m2 oMod (m2 oDiv (mVar 4) (mC (.int 4096))) (mVar 1)))))))
noncomputable def f_law_take : List D → Sto → R D := mDef 5 b_law_take
theorem ok_law_take (T : Txt K w mg) (Tf : TopFn K mg "_law_take" s_law_take ["pool", "many"])  : DefOk P w K mg base "_law_take" 2 1 f_law_take := by
  have S := S_law_take
  refine def_ok (N := N_law_take) Tf S rfl (body := b_law_take) fun f cdv A outer s H E rg tk hp => ?_
  exact (dss_cons (ds_if (dt_cmp (od_gt) (de_ix (de_var 0) de_int (fun _ _ => rfl)) de_int (nomark _))
  (dss_cons (ds_set (i := 2) S.nd rfl (by first | exact Or.inl rfl | exact Or.inr rfl) (de_bin od_mod (de_ix (de_var 0) de_int (fun _ _ => rfl)) (de_var 1)))
 (dss_cons (ds_asg (vs := []) (de_bin od_div (de_ix (de_var 0) de_int (fun _ _ => rfl)) (de_var 1)) (dg_set (W := W0) (de_var 0) de_int))
 (dss_one (ds_ret (de_var 2)))))
  dss_nil)
 (dss_cons (ds_asg (vs := []) (de_bin od_add (de_ix (de_var 0) de_int (fun _ _ => rfl)) de_int) (dg_set (W := W0) (de_var 0) de_int))
 (dss_cons (ds_set (i := 3) S.nd rfl (by first | exact Or.inl rfl | exact Or.inr rfl) (de_bin od_mod (de_bin od_add (de_ix (de_var 0) de_int (fun _ _ => rfl)) (de_bin od_mul de_int (de_ix (de_var 0) de_int (fun _ _ => rfl)))) de_int))
 (dss_cons (ds_set (i := 4) S.nd rfl (by first | exact Or.inl rfl | exact Or.inr rfl) (de_bin od_mod (de_bin od_add (de_bin od_mul (de_bin od_mod (de_bin od_mul (de_var 3) (de_var 3)) de_int) (de_var 3)) (de_bin od_mul de_int (de_ix (de_var 0) de_int (fun _ _ => rfl)))) de_int))
 (dss_one (ds_ret (de_bin od_mod (de_bin od_div (de_var 4) de_int) (de_var 1))))))))
/-! ### _law_rows -/
abbrev s_law_rows : Stmt := topS 28
abbrev N_law_rows : List Str := ["size", "many", "found", "turn", "more", "row", "mark"]
theorem S_law_rows : FnScope N_law_rows ["size", "many"] (defScope s_law_rows) := ⟨rfl, rfl, rfl, by decide +kernel, rfl, by decide +kernel, by decide +kernel⟩
noncomputable abbrev E1_law_rows : En → Sto → R D :=
 (m2 oAdd (mVar 5) (mTup (aCons (mVar 6) aNil)))
noncomputable abbrev L1_law_rows : En → Sto → RS :=
 (sExpr (mMeth fExtend (mVar 4) (aCons (mLc (iRng1 (aCons (mVar 0) aNil)) (gN 6) mYes E1_law_rows [6]) aNil)))
noncomputable abbrev L2_law_rows : En → Sto → RS :=
 (sSeq (sAsg (mLst aNil) (gN 4))
 (sSeq (sFor (iVal (mVar 2)) (gN 5)
  L1_law_rows)
 (sAsg (mVar 4) (gN 2))))
noncomputable def b_law_rows : En → Sto → RS :=
 (sSeq (sAsg (mLst (aCons (mTup aNil) aNil)) (gN 2))
 (sSeq (sFor (iRng1 (aCons (mVar 1) aNil)) (gN 3)
  L2_law_rows)
 (sRet (mVar 2))))
noncomputable def f_law_rows : List D → Sto → R D := mDef 7 b_law_rows
theorem ok_law_rows (T : Txt K w mg) (Tf : TopFn K mg "_law_rows" s_law_rows ["size", "many"])  : DefOk P w K mg base "_law_rows" 2 1 f_law_rows := by
  have S := S_law_rows
  refine def_ok (N := N_law_rows) Tf S rfl (body := b_law_rows) fun f cdv A outer s H E rg tk hp => ?_
  exact (dss_cons (ds_set (i := 2) S.nd rfl (by first | exact Or.inl rfl | exact Or.inr rfl) (de_lst (da_cons (de_tup da_nil) da_nil)))
 (dss_cons (ds_for (vs := [3]) hp rfl (di_rng1 (by rfl) T.b_range (da_cons (de_var 1) da_nil)) (dg_name (i := 3) S.nd rfl (by first | exact Or.inl rfl | exact Or.inr rfl))
  (dss_cons (ds_set (i := 4) S.nd rfl (by first | exact Or.inl rfl | exact Or.inr rfl) (de_lst da_nil))
 (dss_cons (ds_for (vs := [5]) hp rfl (di_val (de_var 2)) (dg_name (i := 5) S.nd rfl (by first | exact Or.inl rfl | exact Or.inr rfl))
  (dss_one (ds_expr (de_extend (de_var 4) (da_cons (de_lc rfl S.nd (di_rng1 (by rfl) T.b_range (da_cons (de_var 0) da_nil)) (blkOk_by (by kernel_rfl)) (own := [("mark", 6)]) (ts := [6]) (by decide) (fun _ _ _ _ _ => (dg_name (i := 6) S.nd rfl (by first | exact Or.inl rfl | exact Or.inr rfl))) (fun _ _ _ _ _ => dts_nil) (fun _ _ _ _ _ => (de_bin od_add (de_var 5) (de_tup (da_cons (de_var 6) da_nil))))) da_nil)))))
 (dss_one (ds_set (i := 2) S.nd rfl (by first | exact Or.inl rfl | exact Or.inr rfl) (de_var 4))))))
 (dss_one (ds_ret (de_var 2)))))
/-! ### _law_few -/
abbrev s_law_few : Stmt := topS 29
abbrev N_law_few : List Str := ["pool", "some"]
theorem S_law_few : FnScope N_law_few ["pool"] (defScope s_law_few) := ⟨rfl, rfl, rfl, by decide +kernel, rfl, by decide +kernel, by decide +kernel⟩
noncomputable def b_law_few : En → Sto → RS :=
 (sSeq (sAsg (mLst (aCons (mTup (aCons (mC (.int 2)) (aCons (mC (.int 1)) aNil))) (aCons (mTup (aCons (mC (.int 2)) (aCons (mC (.int 2)) aNil))) (aCons (mTup (aCons (mC (.int 2)) (aCons (mC (.int 3)) aNil))) (aCons (mTup (aCons (mC (.int 2)) (aCons (mC (.int 4)) aNil))) (aCons (mTup (aCons (mC (.int 3)) (aCons (mC (.int 1)) aNil))) (aCons (mTup (aCons (mC (.int 3)) (aCons (mC (.int 2)) aNil))) (aCons (mTup (aCons (mC (.int 3)) (aCons (mC (.int 3)) aNil))) (aCons (mTup (aCons (mC (.int 4)) (aCons (mC (.int 2)) aNil))) (aCons (mTup (aCons (mC (.int 5)) (aCons (mC (.int 1)) aNil))) (aCons (mTup (aCons (mC (.int 9)) (aCons (mC (.int 1)) aNil))) (aCons (mTup (aCons (mC (.int 2)) (aCons (mC (.int 5)) aNil))) (aCons (mTup (aCons (mC (.int 4)) (aCons (mC (.int 1)) aNil))) (aCons (mTup (aCons (mC (.int 2)) (aCons (mC (.int 6)) aNil))) aNil)))))))))))))) (gN 1))
 (sRet (m2 oIx (m2 oAdd (mVar 1) (mLst (aCons (mTup (aCons (mC (.int 3)) (aCons (mC (.int 4)) aNil))) (aCons (mTup (aCons (mC (.int 7)) (aCons (mC (.int 2)) aNil))) (aCons (mTup (aCons (mC (.int 8)) (aCons (mC (.int 1)) aNil))) aNil))))) (mCall f_law_take (aCons (mVar 0) (aCons (mC (.int 16)) aNil))))))
noncomputable def f_law_few : List D → Sto → R D := mDef 2 b_law_few
theorem ok_law_few (T : Txt K w mg) (Tf : TopFn K mg "_law_few" s_law_few ["pool"]) (h_law_take : DefOk P w K mg base "_law_take" 2 1 f_law_take) : DefOk P w K mg base "_law_few" 1 2 f_law_few := by
  have S := S_law_few
  refine def_ok (N := N_law_few) Tf S rfl (body := b_law_few) fun f cdv A outer s H E rg tk hp => ?_
  exact (dss_cons (ds_set (i := 1) S.nd rfl (by first | exact Or.inl rfl | exact Or.inr rfl) (de_lst (da_cons (de_tup (da_cons de_int (da_cons de_int da_nil))) (da_cons (de_tup (da_cons de_int (da_cons de_int da_nil))) (da_cons (de_tup (da_cons de_int (da_cons de_int da_nil))) (da_cons (de_tup (da_cons de_int (da_cons de_int da_nil))) (da_cons (de_tup (da_cons de_int (da_cons de_int da_nil))) (da_cons (de_tup (da_cons de_int (da_cons de_int da_nil))) (da_cons (de_tup (da_cons de_int (da_cons de_int da_nil))) (da_cons (de_tup (da_cons de_int (da_cons de_int da_nil))) (da_cons (de_tup (da_cons de_int (da_cons de_int da_nil))) (da_cons (de_tup (da_cons de_int (da_cons de_int da_nil))) (da_cons (de_tup (da_cons de_int (da_cons de_int da_nil))) (da_cons (de_tup (da_cons de_int (da_cons de_int da_nil))) (da_cons (de_tup (da_cons de_int (da_cons de_int da_nil))) da_nil)))))))))))))))
 (dss_one (ds_ret (de_ix (de_bin od_add (de_var 1) (de_lst (da_cons (de_tup (da_cons de_int (da_cons de_int da_nil))) (da_cons (de_tup (da_cons de_int (da_cons de_int da_nil))) (da_cons (de_tup (da_cons de_int (da_cons de_int da_nil))) da_nil))))) (de_f h_law_take rg (by omega) (by rfl) tk (da_cons (de_var 0) (da_cons de_int da_nil)) rfl (al_cons (al_cons al_nil))) (fun _ _ => rfl)))))
/-! ### _law_near -/
abbrev s_law_near : Stmt := topS 30
abbrev N_law_near : List Str := ["pool", "seat", "many", "left", "other", "found", "turn"]
theorem S_law_near : FnScope N_law_near ["pool", "seat", "many"] (defScope s_law_near) := ⟨rfl, rfl, rfl, by decide +kernel, rfl, by decide +kernel, by decide +kernel⟩
noncomputable abbrev C1_law_near : En → Sto → R Bool :=
 (mB (m2 oNe (mVar 4) (mVar 1)))
noncomputable abbrev E1_law_near : En → Sto → R D :=
 (mVar 4)
noncomputable abbrev L1_law_near : En → Sto → RS :=
 (sExpr (mMeth fAppend (mVar 5) (aCons (mMeth fPop (mVar 3) (aCons (mCall f_law_take (aCons (mVar 0) (aCons (mFn bLen (aCons (mVar 3) aNil)) aNil))) aNil)) aNil)))
noncomputable def b_law_near : En → Sto → RS :=
 (sSeq (sAsg (mLc (iRng1 (aCons (mVar 2) aNil)) (gN 4) C1_law_near E1_law_near [4]) (gN 3))
 (sSeq (sAsg (mLst aNil) (gN 5))
 (sSeq (sFor (iRng1 (aCons (mCall f_law_take (aCons (mVar 0) (aCons (m2 oAdd (mFn bLen (aCons (mVar 3) aNil)) (mC (.int 1))) aNil))) aNil)) (gN 6)
  L1_law_near)
 (sRet (mFn bTuple (aCons (mVar 5) aNil))))))
noncomputable def f_law_near : List D → Sto → R D := mDef 7 b_law_near
theorem ok_law_near (T : Txt K w mg) (Tf : TopFn K mg "_law_near" s_law_near ["pool", "seat", "many"]) (h_law_take : DefOk P w K mg base "_law_take" 2 1 f_law_take) : DefOk P w K mg base "_law_near" 3 2 f_law_near := by
  have S := S_law_near
  refine def_ok (N := N_law_near) Tf S rfl (body := b_law_near) fun f cdv A outer s H E rg tk hp => ?_
  exact (dss_cons (by first | exact (ds_setLc (i := 3) rfl S.nd rfl rfl (sw_true rfl rfl rfl (by decide +kernel)) (di_rng1 (by rfl) T.b_range (da_cons (de_var 2) da_nil)) (blkOk_by (by kernel_rfl)) (own := [("other", 4)]) (ts := [4]) (by decide) (fun _ _ _ _ _ => (dg_name (i := 4) S.nd rfl (by first | exact Or.inl rfl | exact Or.inr rfl))) (fun _ _ _ _ _ => (dts_one (dt_cmp ((od_ne rg.r.units)) (de_var 4) (de_var 1) (nomark _)))) (fun _ _ _ _ _ => (de_var 4))) | exact (ds_set (i := 3) S.nd rfl (by first | exact Or.inl rfl | exact Or.inr rfl) (de_lc rfl S.nd (di_rng1 (by rfl) T.b_range (da_cons (de_var 2) da_nil)) (blkOk_by (by kernel_rfl)) (own := [("other", 4)]) (ts := [4]) (by decide) (fun _ _ _ _ _ => (dg_name (i := 4) S.nd rfl (by first | exact Or.inl rfl | exact Or.inr rfl))) (fun _ _ _ _ _ => (dts_one (dt_cmp ((od_ne rg.r.units)) (de_var 4) (de_var 1) (nomark _)))) (fun _ _ _ _ _ => (de_var 4)))))
 (dss_cons (ds_set (i := 5) S.nd rfl (by first | exact Or.inl rfl | exact Or.inr rfl) (de_lst da_nil))
 (dss_cons (ds_for (vs := [6]) hp rfl (di_rng1 (by rfl) T.b_range (da_cons (de_f h_law_take rg (by omega) (by rfl) tk (da_cons (de_var 0) (da_cons (de_bin od_add (de_callB cd_len (by rfl) T.b_len (by decide +kernel) (da_cons (de_var 3) da_nil)) de_int) da_nil)) rfl (al_cons (al_cons al_nil))) da_nil)) (dg_name (i := 6) S.nd rfl (by first | exact Or.inl rfl | exact Or.inr rfl))
  (dss_one (ds_expr (de_append (de_var 5) (da_cons (de_pop (de_var 3) (da_cons (de_f h_law_take rg (by omega) (by rfl) tk (da_cons (de_var 0) (da_cons (de_callB cd_len (by rfl) T.b_len (by decide +kernel) (da_cons (de_var 3) da_nil)) da_nil)) rfl (al_cons (al_cons al_nil))) da_nil)) da_nil)))))
 (dss_one (ds_ret (de_callTy cd_tuple (by rfl) T.b_tuple (by decide +kernel) (da_cons (de_var 5) da_nil)))))))
/-! ### _law_marks -/
abbrev s_law_marks : Stmt := topS 31
abbrev N_law_marks : List Str := ["pool", "size", "own", "often", "mark"]
theorem S_law_marks : FnScope N_law_marks ["pool", "size", "own", "often"] (defScope s_law_marks) := ⟨rfl, rfl, rfl, by decide +kernel, rfl, by decide +kernel, by decide +kernel⟩
noncomputable abbrev C1_law_marks : En → Sto → R Bool :=
 (tmAnd (mB (m2 oNe (mVar 4) (mVar 2))) (mB (m2 oEq (mCall f_law_take (aCons (mVar 0) (aCons (mVar 3) aNil))) (mC (.int 0)))))
noncomputable abbrev E1_law_marks : En → Sto → R D :=
 (mVar 4)
noncomputable def b_law_marks : En → Sto → RS :=
 (sRet (mFn bTuple (aCons (mLc (iRng1 (aCons (mVar 1) aNil)) (gN 4) C1_law_marks E1_law_marks [4]) aNil)))
noncomputable def f_law_marks : List D → Sto → R D := mDef 5 b_law_marks
theorem ok_law_marks (T : Txt K w mg) (Tf : TopFn K mg "_law_marks" s_law_marks ["pool", "size", "own", "often"]) (h_law_take : DefOk P w K mg base "_law_take" 2 1 f_law_take) : DefOk P w K mg base "_law_marks" 4 2 f_law_marks := by
  have S := S_law_marks
  refine def_ok (N := N_law_marks) Tf S rfl (body := b_law_marks) fun f cdv A outer s H E rg tk hp => ?_
  exact (dss_one (ds_ret (de_callTy cd_tuple (by rfl) T.b_tuple (by decide +kernel) (da_cons (de_lc rfl S.nd (di_rng1 (by rfl) T.b_range (da_cons (de_var 1) da_nil)) (blkOk_by (by kernel_rfl)) (own := [("mark", 4)]) (ts := [4]) (by decide) (fun _ _ _ _ _ => (dg_name (i := 4) S.nd rfl (by first | exact Or.inl rfl | exact Or.inr rfl))) (fun _ _ _ _ _ => have tk := takes0; (dts_one (dt_w (dw_and (dt_cmp ((od_ne rg.r.units)) (de_var 4) (de_var 2) (nomark _)) (dw_and1 (dt_cmp ((od_eq rg.r.units)) (de_f h_law_take rg (by omega) (by rfl) tk (da_cons (de_var 0) (da_cons (de_var 3) da_nil)) rfl (al_cons (al_cons al_nil))) de_int (nomark _))))))) (fun _ _ _ _ _ => (de_var 4))) da_nil))))
/-! ### _law_table -/
abbrev s_law_table : Stmt := topS 32
abbrev N_law_table : List Str := ["pool", "size", "many", "often", "found", "seat", "near", "row"]
theorem S_law_table : FnScope N_law_table ["pool", "size", "many"] (defScope s_law_table) := ⟨rfl, rfl, rfl, by decide +kernel, rfl, by decide +kernel, by decide +kernel⟩
noncomputable abbrev E1_law_table : En → Sto → R D :=
 (mCall f_law_marks (aCons (mVar 0) (aCons (mVar 1) (aCons (m2 oIx (mVar 7) (mC (.int 0))) (aCons (mVar 3) aNil)))))
noncomputable abbrev L1_law_table : En → Sto → RS :=
 (sSeq (sAsg (mCall f_law_near (aCons (mVar 0) (aCons (mVar 5) (aCons (mVar 2) aNil)))) (gN 6))
 (sExpr (mMeth fAppend (mVar 4) (aCons (mTup (aCons (mVar 6) (aCons (mFn bTuple (aCons (mLc (iVal (mCall f_law_rows (aCons (mVar 1) (aCons (m2 oAdd (mC (.int 1)) (mFn bLen (aCons (mVar 6) aNil))) aNil)))) (gN 7) mYes E1_law_table [7]) aNil)) aNil))) aNil))))
noncomputable def b_law_table : En → Sto → RS :=
 (sSeq (sAsg (m2 oIx (mLst (aCons (mC (.int 1)) (aCons (mC (.int 2)) (aCons (mC (.int 3)) (aCons (mC (.int 5)) aNil))))) (mCall f_law_take (aCons (mVar 0) (aCons (mC (.int 4)) aNil)))) (gN 3))
 (sSeq (sAsg (mLst aNil) (gN 4))
 (sSeq (sFor (iRng1 (aCons (mVar 2) aNil)) (gN 5)
  L1_law_table)
 (sRet (mTup (aCons (mVar 1) (aCons (mFn bTuple (aCons (mVar 4) aNil)) aNil)))))))
noncomputable def f_law_table : List D → Sto → R D := mDef 8 b_law_table
theorem ok_law_table (T : Txt K w mg) (Tf : TopFn K mg "_law_table" s_law_table ["pool", "size", "many"]) (h_law_take : DefOk P w K mg base "_law_take" 2 1 f_law_take) (h_law_near : DefOk P w K mg base "_law_near" 3 2 f_law_near) (h_law_rows : DefOk P w K mg base "_law_rows" 2 1 f_law_rows) (h_law_marks : DefOk P w K mg base "_law_marks" 4 2 f_law_marks) : DefOk P w K mg base "_law_table" 3 3 f_law_table := by
  have S := S_law_table
  refine def_ok (N := N_law_table) Tf S rfl (body := b_law_table) fun f cdv A outer s H E rg tk hp => ?_
  exact (dss_cons (ds_set (i := 3) S.nd rfl (by first | exact Or.inl rfl | exact Or.inr rfl) (de_ix (de_lst (da_cons de_int (da_cons de_int (da_cons de_int (da_cons de_int da_nil))))) (de_f h_law_take rg (by omega) (by rfl) tk (da_cons (de_var 0) (da_cons de_int da_nil)) rfl (al_cons (al_cons al_nil))) (fun _ _ => rfl)))
 (dss_cons (ds_set (i := 4) S.nd rfl (by first | exact Or.inl rfl | exact Or.inr rfl) (de_lst da_nil))
 (dss_cons (ds_for (vs := [5]) hp rfl (di_rng1 (by rfl) T.b_range (da_cons (de_var 2) da_nil)) (dg_name (i := 5) S.nd rfl (by first | exact Or.inl rfl | exact Or.inr rfl))
  (dss_cons (ds_set (i := 6) S.nd rfl (by first | exact Or.inl rfl | exact Or.inr rfl) (de_f h_law_near rg (by omega) (by rfl) tk (da_cons (de_var 0) (da_cons (de_var 5) (da_cons (de_var 2) da_nil))) rfl (al_cons (al_cons (al_cons al_nil)))))
 (dss_one (ds_expr (de_append (de_var 4) (da_cons (de_tup (da_cons (de_var 6) (da_cons (de_callTy cd_tuple (by rfl) T.b_tuple (by decide +kernel) (da_cons (de_lc rfl S.nd (di_val (de_f h_law_rows rg (by omega) (by rfl) tk (da_cons (de_var 1) (da_cons (de_bin od_add de_int (de_callB cd_len (by rfl) T.b_len (by decide +kernel) (da_cons (de_var 6) da_nil))) da_nil)) rfl (al_cons (al_cons al_nil)))) (blkOk_by (by kernel_rfl)) (own := [("row", 7)]) (ts := [7]) (by decide) (fun _ _ _ _ _ => (dg_name (i := 7) S.nd rfl (by first | exact Or.inl rfl | exact Or.inr rfl))) (fun _ _ _ _ _ => dts_nil) (fun _ _ _ _ _ => have tk := takes0; (de_f h_law_marks rg (by omega) (by rfl) tk (da_cons (de_var 0) (da_cons (de_var 1) (da_cons (de_ix (de_var 7) de_int (fun _ _ => rfl)) (da_cons (de_var 3) da_nil)))) rfl (al_cons (al_cons (al_cons (al_cons al_nil))))))) da_nil)) da_nil))) da_nil))))))
 (dss_one (ds_ret (de_tup (da_cons (de_var 1) (da_cons (de_callTy cd_tuple (by rfl) T.b_tuple (by decide +kernel) (da_cons (de_var 4) da_nil)) da_nil))))))))
/-! ### _law_moves -/
abbrev s_law_moves : Stmt := topS 33
abbrev N_law_moves : List Str := ["table", "seat", "standing", "near", "rows", "place", "other"]
theorem S_law_moves : FnScope N_law_moves ["table", "seat", "standing"] (defScope s_law_moves) := ⟨rfl, rfl, rfl, by decide +kernel, rfl, by decide +kernel, by decide +kernel⟩
noncomputable abbrev L1_law_moves : En → Sto → RS :=
 (sAsg (m2 oAdd (m2 oMul (mVar 5) (m2 oIx (mVar 0) (mC (.int 0)))) (m2 oIx (mVar 2) (mVar 6))) (gN 5))
noncomputable def b_law_moves : En → Sto → RS :=
 (sSeq (sAsg (m2 oIx (m2 oIx (mVar 0) (mC (.int 1))) (mVar 1)) (DL.gTup (gsCons (gN 3) (gsCons (gN 4) gsNil)) 2))
 (sSeq (sAsg (m2 oIx (mVar 2) (mVar 1)) (gN 5))
 (sSeq (sFor (iVal (mVar 3)) (gN 6)
  L1_law_moves)
 (sRet (m2 oIx (mVar 4) (mVar 5))))))
noncomputable def f_law_moves : List D → Sto → R D := mDef 7 b_law_moves
theorem ok_law_moves (T : Txt K w mg) (Tf : TopFn K mg "_law_moves" s_law_moves ["table", "seat", "standing"])  : DefOk P w K mg base "_law_moves" 3 1 f_law_moves := by
  have S := S_law_moves
  refine def_ok (N := N_law_moves) Tf S rfl (body := b_law_moves) fun f cdv A outer s H E rg tk hp => ?_
  exact (dss_cons (ds_asg (vs := [3, 4]) (de_ix (de_ix (de_var 0) de_int (fun _ _ => rfl)) (de_var 1) (fun _ _ => rfl)) (dg_tup rfl (dgs_cons (dg_name (i := 3) S.nd rfl (by first | exact Or.inl rfl | exact Or.inr rfl)) (dgs_cons (dg_name (i := 4) S.nd rfl (by first | exact Or.inl rfl | exact Or.inr rfl)) dgs_nil))))
 (dss_cons (ds_set (i := 5) S.nd rfl (by first | exact Or.inl rfl | exact Or.inr rfl) (de_ix (de_var 2) (de_var 1) (fun _ _ => rfl)))
 (dss_cons (ds_for (vs := [6]) hp rfl (di_val (de_var 3)) (dg_name (i := 6) S.nd rfl (by first | exact Or.inl rfl | exact Or.inr rfl))
  (dss_one (ds_set (i := 5) S.nd rfl (by first | exact Or.inl rfl | exact Or.inr rfl) (de_bin od_add (de_bin od_mul (de_var 5) (de_ix (de_var 0) de_int (fun _ _ => rfl))) (de_ix (de_var 2) (de_var 6) (fun _ _ => rfl))))))
 (dss_one (ds_ret (de_ix (de_var 4) (de_var 5) (fun _ _ => rfl)))))))
/-! ### _law_seen_right -/
abbrev s_law_seen_right : Stmt := topS 34
abbrev N_law_seen_right : List Str := ["table", "standing", "able", "seat", "due", "some", "near", "rows", "other"]
theorem S_law_seen_right : FnScope N_law_seen_right ["table", "standing"] (defScope s_law_seen_right) := ⟨rfl, rfl, rfl, by decide +kernel, rfl, by decide +kernel, by decide +kernel⟩
noncomputable abbrev E1_law_seen_right : En → Sto → R D :=
 (m2 oIx (mVar 1) (mVar 8))
noncomputable abbrev L1_law_seen_right : En → Sto → RS :=
 (sSeq (sAsg (m2 oAdd (mTup (aCons (m2 oIx (mVar 1) (mVar 3)) aNil)) (mFn bTuple (aCons (mLc (iVal (mVar 6)) (gN 8) mYes E1_law_seen_right [8]) aNil))) (gN 4))
 (sSeq (sAsg (mCall f_law_moves (aCons (mVar 0) (aCons (mVar 3) (aCons (mVar 1) aNil)))) (gN 5))
 (sSeq (sIf (tmOr (mB (m2 oNe (mFn bRepr (aCons (mCall f_view (aCons (mVar 0) (aCons (mVar 3) (aCons (mVar 1) aNil)))) aNil)) (mFn bRepr (aCons (mVar 4) aNil)))) (mB (m2 oNe (mFn bRepr (aCons (mCall f_moves (aCons (mVar 0) (aCons (mVar 3) (aCons (mVar 1) aNil)))) aNil)) (mFn bRepr (aCons (mVar 5) aNil)))))
  (sRet (mC (.bl false)))
  sNil)
 (sExpr (mMeth fExtend (mVar 2) (aCons (m2 oMul (mLst (aCons (mVar 3) aNil)) (mFn bInt (aCons (m2 oNe (mVar 5) (mTup aNil)) aNil))) aNil))))))
noncomputable def b_law_seen_right : En → Sto → RS :=
 (sSeq (sAsg (mLst aNil) (gN 2))
 (sSeq (sFor (iEnumerate (aCons (m2 oIx (mVar 0) (mC (.int 1))) aNil)) (DL.gTup (gsCons (gN 3) (gsCons (DL.gTup (gsCons (gN 6) (gsCons (gN 7) gsNil)) 2) gsNil)) 2)
  L1_law_seen_right)
 (sRet (m2 oEq (mFn bRepr (aCons (mCall f_able_seats (aCons (mVar 0) (aCons (mVar 1) aNil))) aNil)) (mFn bRepr (aCons (mFn bTuple (aCons (mVar 2) aNil)) aNil))))))
noncomputable def f_law_seen_right : List D → Sto → R D := mDef 9 b_law_seen_right
theorem ok_law_seen_right (T : Txt K w mg) (Tf : TopFn K mg "_law_seen_right" s_law_seen_right ["table", "standing"]) (h_law_moves : DefOk P w K mg base "_law_moves" 3 1 f_law_moves) (h_view : DefOk P w K mg base "view" 3 5 f_view) (h_moves : DefOk P w K mg base "moves" 3 5 f_moves) (h_able_seats : DefOk P w K mg base "able_seats" 2 4 f_able_seats) : DefOk P w K mg base "_law_seen_right" 2 6 f_law_seen_right := by
  have S := S_law_seen_right
  refine def_ok (N := N_law_seen_right) Tf S rfl (body := b_law_seen_right) fun f cdv A outer s H E rg tk hp => ?_
  exact (dss_cons (ds_set (i := 2) S.nd rfl (by first | exact Or.inl rfl | exact Or.inr rfl) (de_lst da_nil))
 (dss_cons (ds_for (vs := [3, 6, 7]) hp rfl (di_enumerate (by rfl) T.b_enumerate (da_cons (de_ix (de_var 0) de_int (fun _ _ => rfl)) da_nil)) (dg_tup rfl (dgs_cons (dg_name (i := 3) S.nd rfl (by first | exact Or.inl rfl | exact Or.inr rfl)) (dgs_cons (dg_tup rfl (dgs_cons (dg_name (i := 6) S.nd rfl (by first | exact Or.inl rfl | exact Or.inr rfl)) (dgs_cons (dg_name (i := 7) S.nd rfl (by first | exact Or.inl rfl | exact Or.inr rfl)) dgs_nil))) dgs_nil)))
  (dss_cons (ds_set (i := 4) S.nd rfl (by first | exact Or.inl rfl | exact Or.inr rfl) (de_bin od_add (de_tup (da_cons (de_ix (de_var 1) (de_var 3) (fun _ _ => rfl)) da_nil)) (de_callTy cd_tuple (by rfl) T.b_tuple (by decide +kernel) (da_cons (de_lc rfl S.nd (di_val (de_var 6)) (blkOk_by (by kernel_rfl)) (own := [("other", 8)]) (ts := [8]) (by decide) (fun _ _ _ _ _ => (dg_name (i := 8) S.nd rfl (by first | exact Or.inl rfl | exact Or.inr rfl))) (fun _ _ _ _ _ => dts_nil) (fun _ _ _ _ _ => (de_ix (de_var 1) (de_var 8) (fun _ _ => rfl)))) da_nil))))
 (dss_cons (ds_set (i := 5) S.nd rfl (by first | exact Or.inl rfl | exact Or.inr rfl) (de_f h_law_moves rg (by omega) (by rfl) tk (da_cons (de_var 0) (da_cons (de_var 3) (da_cons (de_var 1) da_nil))) rfl (al_cons (al_cons (al_cons al_nil)))))
 (dss_cons (ds_if (dt_w (dw_or (dt_cmp ((od_ne rg.r.units)) (de_callB (cd_repr rg.g rg.u66) (by rfl) T.b_repr (by decide +kernel) (da_cons (de_f h_view rg (by omega) (by rfl) tk (da_cons (de_var 0) (da_cons (de_var 3) (da_cons (de_var 1) da_nil))) rfl (al_cons (al_cons (al_cons al_nil)))) da_nil)) (de_callB (cd_repr rg.g rg.u66) (by rfl) T.b_repr (by decide +kernel) (da_cons (de_var 4) da_nil)) (nomark _)) (dw_or1 (dt_cmp ((od_ne rg.r.units)) (de_callB (cd_repr rg.g rg.u66) (by rfl) T.b_repr (by decide +kernel) (da_cons (de_f h_moves rg (by omega) (by rfl) tk (da_cons (de_var 0) (da_cons (de_var 3) (da_cons (de_var 1) da_nil))) rfl (al_cons (al_cons (al_cons al_nil)))) da_nil)) (de_callB (cd_repr rg.g rg.u66) (by rfl) T.b_repr (by decide +kernel) (da_cons (de_var 5) da_nil)) (nomark _)))))
  (dss_one (ds_ret de_bl))
  dss_nil)
 (dss_one (ds_expr (de_extend (de_var 2) (da_cons (de_bin od_mul (de_lst (da_cons (de_var 3) da_nil)) (de_callTy cd_int (by rfl) T.b_int (by decide +kernel) (da_cons (de_cmp ((od_ne rg.r.units)) (de_var 5) (de_tup da_nil) (nomark _)) da_nil))) da_nil))))))))
 (dss_one (ds_ret (de_cmp ((od_eq rg.r.units)) (de_callB (cd_repr rg.g rg.u66) (by rfl) T.b_repr (by decide +kernel) (da_cons (de_f h_able_seats rg (by omega) (by rfl) tk (da_cons (de_var 0) (da_cons (de_var 1) da_nil)) rfl (al_cons (al_cons al_nil))) da_nil)) (de_callB (cd_repr rg.g rg.u66) (by rfl) T.b_repr (by decide +kernel) (da_cons (de_callTy cd_tuple (by rfl) T.b_tuple (by decide +kernel) (da_cons (de_var 2) da_nil)) da_nil)) (nomark _))))))
/-! ### law -/
abbrev s_law : Stmt := topS 35
abbrev N_law : List Str := ["script", "k", "pool", "table", "held", "rows", "some", "standing", "size", "many", "turn"]
theorem S_law : FnScope N_law ["script"] (defScope s_law) := ⟨rfl, rfl, rfl, by decide +kernel, rfl, by decide +kernel, by decide +kernel⟩
noncomputable abbrev E1_law : En → Sto → R D :=
 (m2 oIx (mVar 5) (mCall f_law_take (aCons (mVar 2) (aCons (mFn bLen (aCons (mVar 5) aNil)) aNil))))
noncomputable abbrev L1_law : En → Sto → RS :=
 (sIf (tmNot (mB (mCall f_law_seen_right (aCons (mVar 3) (aCons (mVar 7) aNil)))))
  (sRet (mC (.bl false)))
  sNil)
noncomputable abbrev L2_law : En → Sto → RS :=
 (sSeq (sAsg (mCall f_law_pool (aCons (mVar 0) (aCons (mVar 1) aNil))) (gN 2))
 (sSeq (sAsg (mCall f_law_few (aCons (mVar 2) aNil)) (DL.gTup (gsCons (gN 8) (gsCons (gN 9) gsNil)) 2))
 (sSeq (sAsg (mCall f_law_table (aCons (mVar 2) (aCons (mVar 8) (aCons (mVar 9) aNil)))) (gN 3))
 (sSeq (sAsg (mFn bRepr (aCons (mVar 3) aNil)) (gN 4))
 (sSeq (sAsg (mCall f_law_rows (aCons (mVar 8) (aCons (mVar 9) aNil))) (gN 5))
 (sSeq (sAsg (m2 oAdd (mLst (aCons (m2 oIx (mVar 5) (mC (.int 0))) (aCons (m2 oIx (mVar 5) (m1 oNeg (mC (.int 1)))) aNil))) (mLc (iRng1 (aCons (mC (.int 14)) aNil)) (gN 10) mYes E1_law [10])) (gN 6))
 (sSeq (sFor (iVal (mVar 6)) (gN 7)
  L1_law)
 (sSeq (sFor (iVal (mSl (mRev (mVar 6)) pNone (pSome (mC (.int 3))))) (gN 7)
  L1_law)
 (sIf (mB (m2 oNe (mFn bRepr (aCons (mVar 3) aNil)) (mVar 4)))
  (sRet (mC (.bl false)))
  sNil)))))))))
noncomputable def b_law : En → Sto → RS :=
 (sSeq (sFor (iRng1 (aCons (mFn bMax2 (aCons (mC (.int 1)) (aCons (mFn bMin2 (aCons (mC (.int 12)) (aCons (mFn bLen (aCons (mVar 0) aNil)) aNil))) aNil))) aNil)) (gN 1)
  L2_law)
 (sRet (mC (.bl true))))
noncomputable def f_law : List D → Sto → R D := mDef 11 b_law
theorem okF_law {f : Addr} {fd : FuncData} (T : Txt K w mg) (Tf : Fun K "law" "law" s_law f fd) (h_law_pool : DefOk P w K mg base "_law_pool" 2 1 f_law_pool) (h_law_few : DefOk P w K mg base "_law_few" 1 2 f_law_few) (h_law_table : DefOk P w K mg base "_law_table" 3 3 f_law_table) (h_law_rows : DefOk P w K mg base "_law_rows" 2 1 f_law_rows) (h_law_take : DefOk P w K mg base "_law_take" 2 1 f_law_take) (h_law_seen_right : DefOk P w K mg base "_law_seen_right" 2 6 f_law_seen_right) : FnG P w K mg base 7 f fd ["script"] (spD K 1 f_law) := by
  have S := S_law
  refine fn_d (N := N_law) (body := b_law) Tf S rfl fun cdv A outer s H E rg tk hp => ?_
  exact (dss_cons (ds_for (vs := [1]) hp rfl (di_rng1 (by rfl) T.b_range (da_cons (de_callB (cd_max2 rfl) (by rfl) T.b_max (by decide +kernel) (da_cons de_int (da_cons (de_callB (cd_min2 rfl) (by rfl) T.b_min (by decide +kernel) (da_cons de_int (da_cons (de_callB cd_len (by rfl) T.b_len (by decide +kernel) (da_cons (de_var 0) da_nil)) da_nil))) da_nil))) da_nil)) (dg_name (i := 1) S.nd rfl (by first | exact Or.inl rfl | exact Or.inr rfl))
  (dss_cons (ds_set (i := 2) S.nd rfl (by first | exact Or.inl rfl | exact Or.inr rfl) (de_f h_law_pool rg (by omega) (by rfl) tk (da_cons (de_var 0) (da_cons (de_var 1) da_nil)) rfl (al_cons (al_cons al_nil))))
 (dss_cons (ds_asg (vs := [8, 9]) (de_f h_law_few rg (by omega) (by rfl) tk (da_cons (de_var 2) da_nil) rfl (al_cons al_nil)) (dg_tup rfl (dgs_cons (dg_name (i := 8) S.nd rfl (by first | exact Or.inl rfl | exact Or.inr rfl)) (dgs_cons (dg_name (i := 9) S.nd rfl (by first | exact Or.inl rfl | exact Or.inr rfl)) dgs_nil))))
 (dss_cons (ds_set (i := 3) S.nd rfl (by first | exact Or.inl rfl | exact Or.inr rfl) (de_f h_law_table rg (by omega) (by rfl) tk (da_cons (de_var 2) (da_cons (de_var 8) (da_cons (de_var 9) da_nil))) rfl (al_cons (al_cons (al_cons al_nil)))))
 (dss_cons (ds_set (i := 4) S.nd rfl (by first | exact Or.inl rfl | exact Or.inr rfl) (de_callB (cd_repr rg.g rg.u66) (by rfl) T.b_repr (by decide +kernel) (da_cons (de_var 3) da_nil)))
 (dss_cons (ds_set (i := 5) S.nd rfl (by first | exact Or.inl rfl | exact Or.inr rfl) (de_f h_law_rows rg (by omega) (by rfl) tk (da_cons (de_var 8) (da_cons (de_var 9) da_nil)) rfl (al_cons (al_cons al_nil))))
 (dss_cons (ds_set (i := 6) S.nd rfl (by first | exact Or.inl rfl | exact Or.inr rfl) (de_bin od_add (de_lst (da_cons (de_ix (de_var 5) de_int (fun _ _ => rfl)) (da_cons (de_ix (de_var 5) (de_un od_neg de_int) (fun _ _ => rfl)) da_nil))) (de_lc rfl S.nd (di_rng1 (by rfl) T.b_range (da_cons de_int da_nil)) (blkOk_by (by kernel_rfl)) (own := [("turn", 10)]) (ts := [10]) (by decide) (fun _ _ _ _ _ => (dg_name (i := 10) S.nd rfl (by first | exact Or.inl rfl | exact Or.inr rfl))) (fun _ _ _ _ _ => dts_nil) (fun _ _ _ _ _ => have tk := takes0; (de_ix (de_var 5) (de_f h_law_take rg (by omega) (by rfl) tk (da_cons (de_var 2) (da_cons (de_callB cd_len (by rfl) T.b_len (by decide +kernel) (da_cons (de_var 5) da_nil)) da_nil)) rfl (al_cons (al_cons al_nil))) (fun _ _ => rfl))))))
 (dss_cons (ds_for (vs := [7]) hp rfl (di_val (de_var 6)) (dg_name (i := 7) S.nd rfl (by first | exact Or.inl rfl | exact Or.inr rfl))
  (dss_one (ds_if (dt_not (dt_val (de_f h_law_seen_right rg (by omega) (by rfl) tk (da_cons (de_var 3) (da_cons (de_var 7) da_nil)) rfl (al_cons (al_cons al_nil)))))
  (dss_one (ds_ret de_bl))
  dss_nil)))
 (dss_cons (ds_for (vs := [7]) hp rfl (di_val (de_sl (de_revL (de_var 6)) dp_none (dp_some de_int))) (dg_name (i := 7) S.nd rfl (by first | exact Or.inl rfl | exact Or.inr rfl))
  (dss_one (ds_if (dt_not (dt_val (de_f h_law_seen_right rg (by omega) (by rfl) tk (da_cons (de_var 3) (da_cons (de_var 7) da_nil)) rfl (al_cons (al_cons al_nil)))))
  (dss_one (ds_ret de_bl))
  dss_nil)))
 (dss_one (ds_if (dt_cmp ((od_ne rg.r.units)) (de_callB (cd_repr rg.g rg.u66) (by rfl) T.b_repr (by decide +kernel) (da_cons (de_var 3) da_nil)) (de_var 4) (nomark _))
  (dss_one (ds_ret de_bl))
  dss_nil)))))))))))
 (dss_one (ds_ret de_bl)))
theorem all_ok {f : Addr} {fd : FuncData} (T : Txt K w mg) (T_power : TopFn K mg "power" s_power ["size", "many"]) (T_are_looks : TopFn K mg "are_looks" s_are_looks ["many", "seat", "thing"]) (T_are_moves : TopFn K mg "are_moves" s_are_moves ["size", "views", "thing"]) (T_is_size : TopFn K mg "is_size" s_is_size ["thing"]) (T_is_table : TopFn K mg "is_table" s_is_table ["thing"]) (T_need_table : TopFn K mg "need_table" s_need_table ["table"]) (T_stands_in : TopFn K mg "stands_in" s_stands_in ["table", "thing"]) (T_need_standing : TopFn K mg "need_standing" s_need_standing ["table", "standing"]) (T_need_hand : TopFn K mg "need_hand" s_need_hand ["table", "seat", "standing"]) (T_moves_at : TopFn K mg "moves_at" s_moves_at ["table", "seat", "standing"]) (T_able_at : TopFn K mg "able_at" s_able_at ["table", "standing"]) (T_view : TopFn K mg "view" s_view ["table", "seat", "standing"]) (T_moves : TopFn K mg "moves" s_moves ["table", "seat", "standing"]) (T_able_seats : TopFn K mg "able_seats" s_able_seats ["table", "standing"]) (T_law_pool : TopFn K mg "_law_pool" s_law_pool ["cells", "k"]) (T_law_take : TopFn K mg "_law_take" s_law_take ["pool", "many"]) (T_law_rows : TopFn K mg "_law_rows" s_law_rows ["size", "many"]) (T_law_few : TopFn K mg "_law_few" s_law_few ["pool"]) (T_law_near : TopFn K mg "_law_near" s_law_near ["pool", "seat", "many"]) (T_law_marks : TopFn K mg "_law_marks" s_law_marks ["pool", "size", "own", "often"]) (T_law_table : TopFn K mg "_law_table" s_law_table ["pool", "size", "many"]) (T_law_moves : TopFn K mg "_law_moves" s_law_moves ["table", "seat", "standing"]) (T_law_seen_right : TopFn K mg "_law_seen_right" s_law_seen_right ["table", "standing"]) (F : Fun K "law" "law" s_law f fd) : FnG P w K mg base 7 f fd ["script"] (spD K 1 f_law) := by
  have h_power := ok_power (P := P) (w := w) (base := base) T T_power 
  have h_are_looks := ok_are_looks (P := P) (w := w) (base := base) T T_are_looks 
  have h_are_moves := ok_are_moves (P := P) (w := w) (base := base) T T_are_moves 
  have h_is_size := ok_is_size (P := P) (w := w) (base := base) T T_is_size 
  have h_is_table := ok_is_table (P := P) (w := w) (base := base) T T_is_table h_is_size h_power h_are_looks h_are_moves
  have h_need_table := ok_need_table (P := P) (w := w) (base := base) T T_need_table h_is_table
  have h_stands_in := ok_stands_in (P := P) (w := w) (base := base) T T_stands_in 
  have h_need_standing := ok_need_standing (P := P) (w := w) (base := base) T T_need_standing h_stands_in
  have h_need_hand := ok_need_hand (P := P) (w := w) (base := base) T T_need_hand h_need_table h_need_standing
  have h_moves_at := ok_moves_at (P := P) (w := w) (base := base) T T_moves_at 
  have h_able_at := ok_able_at (P := P) (w := w) (base := base) T T_able_at h_moves_at
  have h_view := ok_view (P := P) (w := w) (base := base) T T_view h_need_hand
  have h_moves := ok_moves (P := P) (w := w) (base := base) T T_moves h_need_hand h_moves_at
  have h_able_seats := ok_able_seats (P := P) (w := w) (base := base) T T_able_seats h_need_table h_need_standing h_able_at
  have h_law_pool := ok_law_pool (P := P) (w := w) (base := base) T T_law_pool 
  have h_law_take := ok_law_take (P := P) (w := w) (base := base) T T_law_take 
  have h_law_rows := ok_law_rows (P := P) (w := w) (base := base) T T_law_rows 
  have h_law_few := ok_law_few (P := P) (w := w) (base := base) T T_law_few h_law_take
  have h_law_near := ok_law_near (P := P) (w := w) (base := base) T T_law_near h_law_take
  have h_law_marks := ok_law_marks (P := P) (w := w) (base := base) T T_law_marks h_law_take
  have h_law_table := ok_law_table (P := P) (w := w) (base := base) T T_law_table h_law_take h_law_near h_law_rows h_law_marks
  have h_law_moves := ok_law_moves (P := P) (w := w) (base := base) T T_law_moves 
  have h_law_seen_right := ok_law_seen_right (P := P) (w := w) (base := base) T T_law_seen_right h_law_moves h_view h_moves h_able_seats
  exact okF_law T F h_law_pool h_law_few h_law_table h_law_rows h_law_take h_law_seen_right
end
end Pr

set_option Elab.async false
set_option linter.all false
set_option maxRecDepth 10000
namespace Pr
open PySem PySem.Spec PyProof.Rows L2 DL
/-! ### pools of draws -/
theorem pool_spec (ns : List Int) (c k : Nat) (st : Sto) (hc : rdL st c = some (ns.map D.int)) :
    ∃ a b : Int, f_law_pool [.ref c, .int k] st = .ok (.ref st.length) (st ++ [.lst [.int a, .int b, .int 0]]) := by
  have hz : (3 : Nat) ≤ sizeLine := by decide
  by_cases hk : (k : Int) < ns.length
  · have hk' : k < ns.length := by exact_mod_cast hk
    have e : L2.atI (ns.map D.int) (k : Int) = some (.int ns[k]) := atI_at (by rw [List.getElem?_map, List.getElem?_eq_getElem hk']; rfl)
    by_cases hg : (1000000000000000000 : Int) ≤ (if ns[k] < 0 then -ns[k] else ns[k])
    · exact ⟨_, _, by simp [f_law_pool, b_law_pool, mDef, sRet, sRetN, sSeq, sNil, sIf, sAsg, sExpr, sPar, sAug, sNo, mAnd, mOr, mNot, mIf, m2, m1, mChain, mFn, mCall, mMeth, aCons, aNil, mVar, mC, mB, tmAnd, tmOr, tmNot, mTup, mLst, mSl, pNone, pSome, R.bind, R.toS, RS.seq, noEx, gN, gSet, DL.gTup, gsCons, gsNil, bType, kindD, bLen, bAbs, bInt, bMax2, bMin2, bTuple, bList, itemsD, oAdd, oSub, oMul, oDiv, oMod, oPow, oNeg, oLt, oLe, oGt, oGe, oLtT, oIs, oIsNot, DL.isNon, oIx, oAddI, sAsg2, oMulI, mChain3, hc, hk, hk', e, hg, Small, hz]; exact ⟨rfl, rfl⟩⟩
    · exact ⟨_, _, by simp [f_law_pool, b_law_pool, mDef, sRet, sRetN, sSeq, sNil, sIf, sAsg, sExpr, sPar, sAug, sNo, mAnd, mOr, mNot, mIf, m2, m1, mChain, mFn, mCall, mMeth, aCons, aNil, mVar, mC, mB, tmAnd, tmOr, tmNot, mTup, mLst, mSl, pNone, pSome, R.bind, R.toS, RS.seq, noEx, gN, gSet, DL.gTup, gsCons, gsNil, bType, kindD, bLen, bAbs, bInt, bMax2, bMin2, bTuple, bList, itemsD, oAdd, oSub, oMul, oDiv, oMod, oPow, oNeg, oLt, oLe, oGt, oGe, oLtT, oIs, oIsNot, DL.isNon, oIx, oAddI, sAsg2, oMulI, mChain3, hc, hk, hk', e, hg, Small, hz]; exact ⟨rfl, rfl⟩⟩
  · have hk' : ¬ k < ns.length := by exact_mod_cast hk
    exact ⟨_, _, by simp [f_law_pool, b_law_pool, mDef, sRet, sRetN, sSeq, sNil, sIf, sAsg, sExpr, sPar, sAug, sNo, mAnd, mOr, mNot, mIf, m2, m1, mChain, mFn, mCall, mMeth, aCons, aNil, mVar, mC, mB, tmAnd, tmOr, tmNot, mTup, mLst, mSl, pNone, pSome, R.bind, R.toS, RS.seq, noEx, gN, gSet, DL.gTup, gsCons, gsNil, bType, kindD, bLen, bAbs, bInt, bMax2, bMin2, bTuple, bList, itemsD, oAdd, oSub, oMul, oDiv, oMod, oPow, oNeg, oLt, oLe, oGt, oGe, oLtT, oIs, oIsNot, DL.isNon, oIx, oAddI, sAsg2, oMulI, mChain3, hc, hk, hk', Small, hz]; exact ⟨rfl, rfl⟩⟩
theorem take_spec (r : Nat) (m : Int) (st : Sto) (h : IsPool st r) (h0 : 0 < m) (h1 : m < 1073741824) : ∃ v st', f_law_take [.ref r, .int m] st = .ok (.int v) st' ∧ 0 ≤ v ∧ v < m ∧ Ev r st st' := by
  obtain ⟨a, b, c, e⟩ := h
  have hr : r < st.length := (List.getElem?_eq_some_iff.mp e).1
  have e1 : rdL st r = some [.int a, .int b, .int c] := by simp [rdL, e]
  have e2 : rdW st r = some [.int a, .int b, .int c] := by simp [rdW, e]
  have ev : ∀ a b c : Int, Ev r st (st.set r (.lst [.int a, .int b, .int c])) := fun a b c => ⟨by simp, fun i hi hn => List.getElem?_set_ne (Ne.symm hn), a, b, c, List.getElem?_set_self hr⟩
  by_cases hp : 0 < a
  · refine ⟨a % m, _, by simp [f_law_take, b_law_take, mDef, sRet, sRetN, sSeq, sNil, sIf, sAsg, sExpr, sPar, sAug, sNo, mAnd, mOr, mNot, mIf, m2, m1, mChain, mFn, mCall, mMeth, aCons, aNil, mVar, mC, mB, tmAnd, tmOr, tmNot, mTup, mLst, mSl, pNone, pSome, R.bind, R.toS, RS.seq, noEx, gN, gSet, DL.gTup, gsCons, gsNil, bType, kindD, bLen, bAbs, bInt, bMax2, bMin2, bTuple, bList, itemsD, oAdd, oSub, oMul, oDiv, oMod, oPow, oNeg, oLt, oLe, oGt, oGe, oLtT, oIs, oIsNot, DL.isNon, oIx, oAddI, sAsg2, oMulI, mChain3, e1, e2, hp, h0, h1]; rfl, Int.emod_nonneg _ (by omega), Int.emod_lt_of_pos _ h0, ev _ _ _⟩
  · have g1 : ∀ x y z : Int, rdL (st.set r (.lst [.int x, .int y, .int z])) r = some [.int x, .int y, .int z] := fun x y z => by simp [rdL, hr]
    have g2 : ∀ x y z : Int, rdW (st.set r (.lst [.int x, .int y, .int z])) r = some [.int x, .int y, .int z] := fun x y z => by simp [rdW, hr]
    have s1 : ∀ x : Int, Small (x % 2305843009213693951) := fun x => by
      have := Int.emod_nonneg x (b := 2305843009213693951) (by decide)
      have := Int.emod_lt_of_pos x (b := 2305843009213693951) (by decide)
      unfold Small; omega
    have s2 : Small 1000003 := by decide
    have s3 : Small 8191 := by decide
    refine ⟨_ % m, _, by simp [f_law_take, b_law_take, mDef, sRet, sRetN, sSeq, sNil, sIf, sAsg, sExpr, sPar, sAug, sNo, mAnd, mOr, mNot, mIf, m2, m1, mChain, mFn, mCall, mMeth, aCons, aNil, mVar, mC, mB, tmAnd, tmOr, tmNot, mTup, mLst, mSl, pNone, pSome, R.bind, R.toS, RS.seq, noEx, gN, gSet, DL.gTup, gsCons, gsNil, bType, kindD, bLen, bAbs, bInt, bMax2, bMin2, bTuple, bList, itemsD, oAdd, oSub, oMul, oDiv, oMod, oPow, oNeg, oLt, oLe, oGt, oGe, oLtT, oIs, oIsNot, DL.isNon, oIx, oAddI, sAsg2, oMulI, mChain3, e1, e2, hp, h0, g1, g2, s1, s2, s3]; exact ⟨rfl, rfl⟩, Int.emod_nonneg _ (by omega), Int.emod_lt_of_pos _ h0, ev _ _ _⟩
theorem take_of {r : Nat} {m : Int} {st : Sto} (h : IsPool st r) (h0 : 0 < m) (h1 : m < 1073741824) : ∃ v st', f_law_take [.ref r, .int m] st = .ok (.int v) st' ∧ 0 ≤ v ∧ v < m ∧ Ev r st st' := take_spec r m st h h0 h1
end Pr
set_option Elab.async false
set_option linter.all false
set_option maxRecDepth 10000
namespace DL
open PySem PySem.Spec PyProof.Rows L2
theorem sFor_enum {mr : En → Sto → R (List D)} {g : GT} {mb : En → Sto → RS} {env env' : En} {st st1 st' : Sto} {xs : List D} (e : mr env st = .ok [.tup xs] st1) (h : loopS (enumD xs) none g mb (enumD xs) env st1 = .nx env' st') : sFor (DL.iEnumerate mr) g mb env st = .nx env' st' := by
  simp only [sFor, DL.iEnumerate, e, R.bind, R.toS]
  exact h
theorem sFor_tup {m : En → Sto → R D} {g : GT} {mb : En → Sto → RS} {env env' : En} {st st1 st' : Sto} {xs : List D} (e : m env st = .ok (.tup xs) st1) (h : loopS xs none g mb xs env st1 = .nx env' st') : sFor (DL.iVal m) g mb env st = .nx env' st' := by
  simp only [sFor, DL.iVal, e, R.bind, R.toS]
  exact h
theorem sFor_lst {m : En → Sto → R D} {g : GT} {mb : En → Sto → RS} {env env' : En} {st st1 st' : Sto} {xs : List D} {r : Nat} (e : m env st = .ok (.ref r) st1) (er : rdL st1 r = some xs) (h : loopS xs (some r) g mb xs env st1 = .nx env' st') : sFor (DL.iVal m) g mb env st = .nx env' st' := by
  simp only [sFor, DL.iVal, e, er, R.bind, R.toS]
  exact h
theorem enumD_at {xs : List D} {i : Nat} (h : i < (enumD xs).length) : (enumD xs)[i] = .tup [.int (i : Nat), xs[i]'(by simpa using h)] := by
  have := enumD_get (xs := xs) (i := i) (d := xs[i]'(by simpa using h)) (by simp)
  rw [List.getElem?_eq_getElem h] at this
  exact Option.some.inj this
theorem cutD_take {xs : List D} {i : Nat} (h : i ≤ xs.length) : DL.cutD xs none (some (i : Int)) = xs.take i := by
  unfold DL.cutD
  have : ¬ ((i : Int) < 0) := by omega
  simp [HT.sIx, this]
/-- x in a row of ints -/
theorem pds_ints (rd : Nat → Option PyData) : ∀ ys : List Int, pds rd (ys.map .int) = some (ys.map .int)
  | [] => rfl
  | y :: ys => by simp [pds, pd, pds_ints rd ys]
theorem lay_ints : ∀ ys : List Int, PyData.canLayAll0 (ys.map .int) = true
  | [] => rfl
  | y :: ys => by simp [PyData.canLayAll0, PyData.canLay0, lay_ints ys]
theorem oIn_ints (x : Int) (ys : List Int) (st : Sto) : oIn (.int x) (.tup (ys.map .int)) st = .ok (.bl (decide (x ∈ ys))) st := by
  have r4 : toP st (.int x) = some (.int x) := rfl
  have r5 : toP st (.tup (ys.map .int)) = some (.tuple (ys.map .int)) := by simp [toP, pd, pds_ints]
  have r6 : SeqAt.shaped (.int x) = true := by simp [SeqAt.shaped, PyData.canLay0, PyData.depth]
  have r7 : ((ys.map PyData.int).any fun z => PyData.eqv z (.int x)) = decide (x ∈ ys) := by
    rw [Bool.eq_iff_iff, List.any_eq_true, decide_eq_true_iff]
    constructor
    · rintro ⟨_, ha, e⟩
      obtain ⟨a, h, rfl⟩ := List.mem_map.mp ha
      simp [PyData.eqv] at e
      subst e
      exact h
    · intro h
      exact ⟨_, List.mem_map.mpr ⟨x, h, rfl⟩, by simp [PyData.eqv]⟩
  simp [oIn, r4, r5, r6, lay_ints, r7]
end DL
namespace Pr
open PySem PySem.Spec PyProof.Rows L2 DL
abbrev Hand := List Int × List (List Int)
abbrev dR (xs : List Int) : D := .tup (xs.map .int)
def hD (h : Hand) : D := .tup [dR h.1, .tup (h.2.map dR)]
def tD (n : Nat) (hs : List Hand) : D := .tup [.int n, .tup (hs.map hD)]
/-- a hand of a table -/
structure HdOk (n m s : Nat) (h : Hand) : Prop where
  len : h.1.length ≤ 5
  near : ∀ x : Int, x ∈ h.1 → 0 ≤ x ∧ x < (m : Int) ∧ x ≠ (s : Int)
  nd : h.1.Nodup
  rows : h.2.length = n ^ (1 + h.1.length)
  may : ∀ j r, h.2[j]? = some r → r.Pairwise (· < ·) ∧ ∀ x : Int, x ∈ r → 0 ≤ x ∧ x < (n : Int) ∧ x ≠ ((j / n ^ h.1.length : Nat) : Int)
structure TbOk (n : Nat) (hs : List Hand) : Prop where
  n2 : 2 ≤ n
  n9 : n ≤ 9
  m1 : 1 ≤ hs.length
  m6 : hs.length ≤ 6
  few : n ^ hs.length ≤ 729
  hand : ∀ s h, hs[s]? = some h → HdOk n hs.length s h
theorem power_ok {n k : Nat} (hn : n ≤ 9) (hk : k ≤ 6) (st : Sto) : f_power [.int n, .int k] st = .ok (.int ((n ^ k : Nat) : Int)) st := by
  have hm : Mid (k : Int) := by unfold Mid; omega
  have hs : Small (n : Int) := by unfold Small; omega
  have step : ∀ (x : Int) (q : Option D), L1_power [some (.int n), some (.int k), some (.int x), q] st = .nx [some (.int n), some (.int k), some (.int (x * n)), q] st := fun x q => by simp [L1_power, mDef, sRet, sRetN, sSeq, sNil, sIf, sAsg, sExpr, sPar, sAug, sNo, mAnd, mOr, mNot, mIf, m2, m1, mChain, mFn, mCall, mMeth, aCons, aNil, mVar, mC, mB, tmAnd, tmOr, tmNot, mTup, mLst, mSl, pNone, pSome, R.bind, R.toS, RS.seq, noEx, gN, gSet, DL.gTup, gsCons, gsNil, bType, kindD, bLen, bAbs, bInt, bMax2, bMin2, bTuple, bList, itemsD, oAdd, oSub, oMul, oDiv, oMod, oPow, oNeg, oLt, oLe, oGt, oGe, oLtT, oIs, oIsNot, DL.isNon, oIx, oAddI, sAsg2, oMulI, mChain3, hs]
  obtain ⟨env', st', e, q, rfl, rfl⟩ := loopS_ok (ds := rngD 0 k) (gd := none) (g := gN 3) (mb := L1_power) (env := [some (.int n), some (.int k), some (.int 1), none]) (st := st)
    (fun i env st' => ∃ q, env = [some (.int n), some (.int k), some (.int ((n ^ i : Nat) : Int)), q] ∧ st = st') ⟨none, by simp, rfl⟩ (fun _ _ _ _ _ => trivial) (by
      rintro i env st' hi ⟨q, rfl, rfl⟩
      rw [rngD_get hi]
      exact ⟨_, _, _, _, rfl, step _ _, _, by rw [Nat.pow_succ, Int.natCast_mul], rfl⟩)
  rw [rngD_len] at e
  have e0 := sFor_rng (mr := aCons (mVar 1) aNil) (g := gN 3) (mb := L1_power) (env := [some (.int n), some (.int k), some (.int 1), none]) (st := st) (st1 := st) (n := k) (by simp [mDef, sRet, sRetN, sSeq, sNil, sIf, sAsg, sExpr, sPar, sAug, sNo, mAnd, mOr, mNot, mIf, m2, m1, mChain, mFn, mCall, mMeth, aCons, aNil, mVar, mC, mB, tmAnd, tmOr, tmNot, mTup, mLst, mSl, pNone, pSome, R.bind, R.toS, RS.seq, noEx, gN, gSet, DL.gTup, gsCons, gsNil, bType, kindD, bLen, bAbs, bInt, bMax2, bMin2, bTuple, bList, itemsD, oAdd, oSub, oMul, oDiv, oMod, oPow, oNeg, oLt, oLe, oGt, oGe, oLtT, oIs, oIsNot, DL.isNon, oIx, oAddI, sAsg2, oMulI, mChain3]) hm e
  simp [f_power, b_power, mDef, sRet, sRetN, sSeq, sNil, sIf, sAsg, sExpr, sPar, sAug, sNo, mAnd, mOr, mNot, mIf, m2, m1, mChain, mFn, mCall, mMeth, aCons, aNil, mVar, mC, mB, tmAnd, tmOr, tmNot, mTup, mLst, mSl, pNone, pSome, R.bind, R.toS, RS.seq, noEx, gN, gSet, DL.gTup, gsCons, gsNil, bType, kindD, bLen, bAbs, bInt, bMax2, bMin2, bTuple, bList, itemsD, oAdd, oSub, oMul, oDiv, oMod, oPow, oNeg, oLt, oLe, oGt, oGe, oLtT, oIs, oIsNot, DL.isNon, oIx, oAddI, sAsg2, oMulI, mChain3, e0]
theorem looks_ok {m s : Nat} {xs : List Int} (hl : xs.length ≤ 5) (hx : ∀ x : Int, x ∈ xs → 0 ≤ x ∧ x < (m : Int) ∧ x ≠ (s : Int)) (nd : xs.Nodup) (st : Sto) : f_are_looks [.int m, .int s, dR xs] st = .ok (.bl true) st := by
  obtain ⟨env', st', e, q, q', rfl, rfl⟩ := loopS_ok (ds := enumD (xs.map .int)) (gd := none) (g := DL.gTup (gsCons (gN 3) (gsCons (gN 4) gsNil)) 2) (mb := L1_are_looks) (env := [some (.int m), some (.int s), some (dR xs), none, none]) (st := st)
    (fun i env st' => ∃ q q', env = [some (.int m), some (.int s), some (dR xs), q, q'] ∧ st = st') ⟨none, none, rfl, rfl⟩ (fun _ _ _ _ _ => trivial) (by
      rintro i env st' hi ⟨q, q', rfl, rfl⟩
      have hi' : i < xs.length := by simpa using hi
      rw [enumD_at hi, List.getElem_map]
      have h1 := hx xs[i] (List.getElem_mem hi')
      have h2 : decide (xs[i] ∈ xs.take i) = false := by
        rw [decide_eq_false_iff_not]
        intro h
        obtain ⟨j, hj, ej⟩ := List.mem_take_iff_getElem.mp h
        exact absurd ej (List.pairwise_iff_getElem.mp nd j i (by omega) hi' (by omega))
      have h3 : oIn (.int xs[i]) (.tup ((xs.map D.int).take i)) st = .ok (.bl false) st := by
        rw [← List.map_take, oIn_ints, h2]
      have h4 : DL.cutD (xs.map D.int) none (some (i : Int)) = (xs.map D.int).take i := cutD_take (by simpa using Nat.le_of_lt hi')
      have step : L1_are_looks [some (.int m), some (.int s), some (dR xs), some (.int i), some (.int xs[i])] st = .nx [some (.int m), some (.int s), some (dR xs), some (.int i), some (.int xs[i])] st := by
        simp [L1_are_looks, mDef, sRet, sRetN, sSeq, sNil, sIf, sAsg, sExpr, sPar, sAug, sNo, mAnd, mOr, mNot, mIf, m2, m1, mChain, mFn, mCall, mMeth, aCons, aNil, mVar, mC, mB, tmAnd, tmOr, tmNot, mTup, mLst, mSl, pNone, pSome, R.bind, R.toS, RS.seq, noEx, gN, gSet, DL.gTup, gsCons, gsNil, bType, kindD, bLen, bAbs, bInt, bMax2, bMin2, bTuple, bList, itemsD, oAdd, oSub, oMul, oDiv, oMod, oPow, oNeg, oLt, oLe, oGt, oGe, oLtT, oIs, oIsNot, DL.isNon, oIx, oAddI, sAsg2, oMulI, mChain3, h1, oSl, h4, h3]
      exact ⟨_, _, _, _, rfl, step, _, _, rfl, rfl⟩)
  have e0 := sFor_enum (mr := aCons (mVar 2) aNil) (g := DL.gTup (gsCons (gN 3) (gsCons (gN 4) gsNil)) 2) (mb := L1_are_looks) (env := [some (.int m), some (.int s), some (dR xs), none, none]) (st := st) (st1 := st) (xs := xs.map .int) (by simp [mDef, sRet, sRetN, sSeq, sNil, sIf, sAsg, sExpr, sPar, sAug, sNo, mAnd, mOr, mNot, mIf, m2, m1, mChain, mFn, mCall, mMeth, aCons, aNil, mVar, mC, mB, tmAnd, tmOr, tmNot, mTup, mLst, mSl, pNone, pSome, R.bind, R.toS, RS.seq, noEx, gN, gSet, DL.gTup, gsCons, gsNil, bType, kindD, bLen, bAbs, bInt, bMax2, bMin2, bTuple, bList, itemsD, oAdd, oSub, oMul, oDiv, oMod, oPow, oNeg, oLt, oLe, oGt, oGe, oLtT, oIs, oIsNot, DL.isNon, oIx, oAddI, sAsg2, oMulI, mChain3]) e
  have hl' : ¬ (5 : Int) < xs.length := by omega
  simp [f_are_looks, b_are_looks, mDef, sRet, sRetN, sSeq, sNil, sIf, sAsg, sExpr, sPar, sAug, sNo, mAnd, mOr, mNot, mIf, m2, m1, mChain, mFn, mCall, mMeth, aCons, aNil, mVar, mC, mB, tmAnd, tmOr, tmNot, mTup, mLst, mSl, pNone, pSome, R.bind, R.toS, RS.seq, noEx, gN, gSet, DL.gTup, gsCons, gsNil, bType, kindD, bLen, bAbs, bInt, bMax2, bMin2, bTuple, bList, itemsD, oAdd, oSub, oMul, oDiv, oMod, oPow, oNeg, oLt, oLe, oGt, oGe, oLtT, oIs, oIsNot, DL.isNon, oIx, oAddI, sAsg2, oMulI, mChain3, e0, hl']
theorem oNe_int (a b : Int) (st : Sto) : oNe (.int a) (.int b) st = .ok (.bl (!decide (a = b))) st := by
  have r4 : ∀ n : Int, toP st (.int n) = some (.int n) := fun n => rfl
  have r5 : PyData.eqv (.int a) (.int b) = decide (a = b) := by simp only [PyData.eqv]; rw [Bool.eq_iff_iff]; simp
  have r6 : ∀ n : Int, SeqAt.shaped (.int n) = true := fun n => by simp [SeqAt.shaped, PyData.canLay0, PyData.depth]
  simp [oNe, r4, r5, r6]
/-- one view's marks -/
theorem marks_ok {n : Nat} {own : Int} {r : List Int} (h1 : r.Pairwise (· < ·)) (h2 : ∀ x : Int, x ∈ r → 0 ≤ x ∧ x < (n : Int) ∧ x ≠ own) {v : Int} {T : D} {al : Int} {at' : Int} (st : Sto) (q8 : Option D) :
    ∃ q7 q8', loopS (r.map D.int) none (gN 8) L1_are_moves (r.map D.int) [some (.int n), some (.int v), some T, some (.int al), some (.int at'), some (dR r), some (.int own), some (.int (-1)), q8] st = .nx [some (.int n), some (.int v), some T, some (.int al), some (.int at'), some (dR r), some (.int own), q7, q8'] st := by
  obtain ⟨env', st', e, a, q, rfl, rfl, _⟩ := loopS_ok (ds := r.map D.int) (gd := none) (g := gN 8) (mb := L1_are_moves) (env := [some (.int n), some (.int v), some T, some (.int al), some (.int at'), some (dR r), some (.int own), some (.int (-1)), q8]) (st := st)
    (fun i env st' => ∃ (a : Int) (q : Option D), env = [some (.int n), some (.int v), some T, some (.int al), some (.int at'), some (dR r), some (.int own), some (.int a), q] ∧ st = st' ∧ ∀ x ∈ r.drop i, a < x) ⟨-1, q8, rfl, rfl, fun x hx => by have := h2 x (by simpa using hx); omega⟩ (fun _ _ _ _ _ => trivial) (by
      rintro i env st' hi ⟨a, q, rfl, rfl, ha⟩
      have hi' : i < r.length := by simpa using hi
      rw [List.getElem_map]
      have m1 := h2 r[i] (List.getElem_mem hi')
      have m2' : a < r[i] := ha _ (by rw [List.drop_eq_getElem_cons hi']; exact List.mem_cons_self)
      have step : L1_are_moves [some (.int n), some (.int v), some T, some (.int al), some (.int at'), some (dR r), some (.int own), some (.int a), some (.int r[i])] st = .nx [some (.int n), some (.int v), some T, some (.int al), some (.int at'), some (dR r), some (.int own), some (.int r[i]), some (.int r[i])] st := by
        simp [L1_are_moves, mDef, sRet, sRetN, sSeq, sNil, sIf, sAsg, sExpr, sPar, sAug, sNo, mAnd, mOr, mNot, mIf, m2, m1, mChain, mFn, mCall, mMeth, aCons, aNil, mVar, mC, mB, tmAnd, tmOr, tmNot, mTup, mLst, mSl, pNone, pSome, R.bind, R.toS, RS.seq, noEx, gN, gSet, DL.gTup, gsCons, gsNil, bType, kindD, bLen, bAbs, bInt, bMax2, bMin2, bTuple, bList, itemsD, oAdd, oSub, oMul, oDiv, oMod, oPow, oNeg, oLt, oLe, oGt, oGe, oLtT, oIs, oIsNot, DL.isNon, oIx, oAddI, sAsg2, oMulI, mChain3, m1, m2']
      refine ⟨_, _, _, _, rfl, step, _, _, rfl, rfl, fun x hx => ?_⟩
      obtain ⟨j, hj, rfl⟩ := List.mem_iff_getElem.mp hx
      rw [List.getElem_drop]
      exact List.pairwise_iff_getElem.mp h1 i (i + 1 + j) hi' (by rw [List.length_drop] at hj; omega) (by omega))
  exact ⟨_, _, e⟩
theorem moves_ok {n m s : Nat} {h : Hand} (hn : 2 ≤ n) (hn9 : n ≤ 9) (H : HdOk n m s h) (st : Sto) : f_are_moves [.int n, .int ((n ^ (1 + h.1.length) : Nat) : Int), .tup (h.2.map dR)] st = .ok (.bl true) st := by
  have hp : 0 < n ^ h.1.length := Nat.pow_pos (by omega)
  have hal : ((n ^ (1 + h.1.length) : Nat) : Int) / (n : Int) = ((n ^ h.1.length : Nat) : Int) := by
    rw [Nat.add_comm, Nat.pow_succ, Int.natCast_mul]
    exact Int.mul_ediv_cancel _ (by omega)
  have hb : n ^ h.1.length < 1073741824 := by
    have h1 : n ^ h.1.length ≤ 9 ^ h.1.length := Nat.pow_le_pow_left hn9 _
    have h2 : 9 ^ h.1.length ≤ 9 ^ 5 := Nat.pow_le_pow_right (by decide) H.len
    have : (9 : Nat) ^ 5 < 1073741824 := by decide
    omega
  generalize hA : n ^ h.1.length = A at *
  generalize hV : ((n ^ (1 + h.1.length) : Nat) : Int) = V at *
  obtain ⟨env', st', e, q4, q5, q6, q7, q8, rfl, rfl⟩ := loopS_ok (ds := enumD (h.2.map dR)) (gd := none) (g := DL.gTup (gsCons (gN 4) (gsCons (gN 5) gsNil)) 2) (mb := L2_are_moves) (env := [some (.int n), some (.int V), some (.tup (h.2.map dR)), some (.int A), none, none, none, none, none]) (st := st)
    (fun i env st' => ∃ q4 q5 q6 q7 q8, env = [some (.int n), some (.int V), some (.tup (h.2.map dR)), some (.int A), q4, q5, q6, q7, q8] ∧ st = st') ⟨none, none, none, none, none, rfl, rfl⟩ (fun _ _ _ _ _ => trivial) (by
      rintro i env st' hi ⟨q4, q5, q6, q7, q8, rfl, rfl⟩
      have hi' : i < h.2.length := by simpa using hi
      rw [enumD_at hi, List.getElem_map]
      have mk := H.may i h.2[i] (by simp [hi'])
      rw [hA] at mk
      obtain ⟨p7, p8, e1⟩ := marks_ok mk.1 mk.2 (v := V) (T := .tup (h.2.map dR)) (al := A) (at' := i) st q8
      have e2 := sFor_tup (m := mVar 5) (g := gN 8) (mb := L1_are_moves) (env := [some (.int n), some (.int V), some (.tup (h.2.map dR)), some (.int A), some (.int (i : Nat)), some (dR h.2[i]), some (.int ((i / A : Nat) : Int)), some (.int (-1)), q8]) (st := st) (st1 := st) (by simp [mDef, sRet, sRetN, sSeq, sNil, sIf, sAsg, sExpr, sPar, sAug, sNo, mAnd, mOr, mNot, mIf, m2, m1, mChain, mFn, mCall, mMeth, aCons, aNil, mVar, mC, mB, tmAnd, tmOr, tmNot, mTup, mLst, mSl, pNone, pSome, R.bind, R.toS, RS.seq, noEx, gN, gSet, DL.gTup, gsCons, gsNil, bType, kindD, bLen, bAbs, bInt, bMax2, bMin2, bTuple, bList, itemsD, oAdd, oSub, oMul, oDiv, oMod, oPow, oNeg, oLt, oLe, oGt, oGe, oLtT, oIs, oIsNot, DL.isNon, oIx, oAddI, sAsg2, oMulI, mChain3]) e1
      have ed : ((i : Nat) : Int) / (A : Int) = ((i / A : Nat) : Int) := by simp
      have a0 : (0 : Int) < A ∧ (A : Int) < 1073741824 := by omega
      have step : L2_are_moves [some (.int n), some (.int V), some (.tup (h.2.map dR)), some (.int A), some (.int (i : Nat)), some (dR h.2[i]), q6, q7, q8] st = .nx [some (.int n), some (.int V), some (.tup (h.2.map dR)), some (.int A), some (.int (i : Nat)), some (dR h.2[i]), some (.int ((i / A : Nat) : Int)), p7, p8] st := by
        rw [← e2]
        simp [L2_are_moves, mDef, sRet, sRetN, sSeq, sNil, sIf, sAsg, sExpr, sPar, sAug, sNo, mAnd, mOr, mNot, mIf, m2, m1, mChain, mFn, mCall, mMeth, aCons, aNil, mVar, mC, mB, tmAnd, tmOr, tmNot, mTup, mLst, mSl, pNone, pSome, R.bind, R.toS, RS.seq, noEx, gN, gSet, DL.gTup, gsCons, gsNil, bType, kindD, bLen, bAbs, bInt, bMax2, bMin2, bTuple, bList, itemsD, oAdd, oSub, oMul, oDiv, oMod, oPow, oNeg, oLt, oLe, oGt, oGe, oLtT, oIs, oIsNot, DL.isNon, oIx, oAddI, sAsg2, oMulI, mChain3, hp, a0.2]
      exact ⟨_, _, _, _, rfl, step, _, _, _, _, _, rfl, rfl⟩)
  have e0 := sFor_enum (mr := aCons (mVar 2) aNil) (g := DL.gTup (gsCons (gN 4) (gsCons (gN 5) gsNil)) 2) (mb := L2_are_moves) (env := [some (.int n), some (.int V), some (.tup (h.2.map dR)), some (.int A), none, none, none, none, none]) (st := st) (st1 := st) (xs := h.2.map dR) (by simp [mDef, sRet, sRetN, sSeq, sNil, sIf, sAsg, sExpr, sPar, sAug, sNo, mAnd, mOr, mNot, mIf, m2, m1, mChain, mFn, mCall, mMeth, aCons, aNil, mVar, mC, mB, tmAnd, tmOr, tmNot, mTup, mLst, mSl, pNone, pSome, R.bind, R.toS, RS.seq, noEx, gN, gSet, DL.gTup, gsCons, gsNil, bType, kindD, bLen, bAbs, bInt, bMax2, bMin2, bTuple, bList, itemsD, oAdd, oSub, oMul, oDiv, oMod, oPow, oNeg, oLt, oLe, oGt, oGe, oLtT, oIs, oIsNot, DL.isNon, oIx, oAddI, sAsg2, oMulI, mChain3]) e
  have hr : ((h.2.length : Nat) : Int) = V := by rw [H.rows]; exact hV
  have n0 : (0 : Int) < n ∧ (n : Int) < 1073741824 := by omega
  have n1 : 0 < n := by omega
  simp [f_are_moves, b_are_moves, mDef, sRet, sRetN, sSeq, sNil, sIf, sAsg, sExpr, sPar, sAug, sNo, mAnd, mOr, mNot, mIf, m2, m1, mChain, mFn, mCall, mMeth, aCons, aNil, mVar, mC, mB, tmAnd, tmOr, tmNot, mTup, mLst, mSl, pNone, pSome, R.bind, R.toS, RS.seq, noEx, gN, gSet, DL.gTup, gsCons, gsNil, bType, kindD, bLen, bAbs, bInt, bMax2, bMin2, bTuple, bList, itemsD, oAdd, oSub, oMul, oDiv, oMod, oPow, oNeg, oLt, oLe, oGt, oGe, oLtT, oIs, oIsNot, DL.isNon, oIx, oAddI, sAsg2, oMulI, mChain3, oNe_int, hr, n1, n0.2, hal, e0]
end Pr
set_option Elab.async false
set_option linter.all false
set_option maxRecDepth 10000
namespace Pr
open PySem PySem.Spec PyProof.Rows L2 DL
theorem table_ok {n : Nat} {hs : List Hand} (T : TbOk n hs) (st : Sto) : f_is_table [tD n hs] st = .ok (.bl true) st := by
  have n2 := T.n2; have n9 := T.n9; have m1 := T.m1; have m6 := T.m6
  have hz : f_is_size [.int n] st = .ok (.bl true) st := by
    have a1 : (2 : Int) ≤ n := by omega
    have a2 : (n : Int) ≤ 9 := by omega
    simp [f_is_size, b_is_size, mDef, sRet, sRetN, sSeq, sNil, sIf, sAsg, sExpr, sPar, sAug, sNo, mAnd, mOr, mNot, mIf, m2, m1, mChain, mFn, mCall, mMeth, aCons, aNil, mVar, mC, mB, tmAnd, tmOr, tmNot, mTup, mLst, mSl, pNone, pSome, R.bind, R.toS, RS.seq, noEx, gN, gSet, DL.gTup, gsCons, gsNil, bType, kindD, bLen, bAbs, bInt, bMax2, bMin2, bTuple, bList, itemsD, oAdd, oSub, oMul, oDiv, oMod, oPow, oNeg, oLt, oLe, oGt, oGe, oLtT, oIs, oIsNot, DL.isNon, oIx, oAddI, sAsg2, oMulI, mChain3, a1, a2]
  have hp := power_ok (n := n) (k := hs.length) n9 m6 st
  have hf : ¬ (729 : Int) < ((n ^ hs.length : Nat) : Int) := by have := T.few; omega
  obtain ⟨env', st', e, q3, q4, rfl, rfl⟩ := loopS_ok (ds := enumD (hs.map hD)) (gd := none) (g := DL.gTup (gsCons (gN 3) (gsCons (gN 4) gsNil)) 2) (mb := L1_is_table) (env := [some (tD n hs), some (.int n), some (.tup (hs.map hD)), none, none]) (st := st)
    (fun i env st' => ∃ (q3 q4 : Option D), env = [some (tD n hs), some (.int n), some (.tup (hs.map hD)), q3, q4] ∧ st = st') ⟨none, none, rfl, rfl⟩ (fun _ _ _ _ _ => trivial) (by
      rintro i env st' hi ⟨q3, q4, rfl, rfl⟩
      have hi' : i < hs.length := by simpa using hi
      rw [enumD_at hi, List.getElem_map]
      have H := T.hand i hs[i] (by simp [hi'])
      have e1 := looks_ok H.len H.near H.nd st
      have e2 := moves_ok n2 n9 H st
      have e3 := power_ok (n := n) (k := 1 + hs[i].1.length) n9 (by have := H.len; omega) st
      rw [Int.natCast_add] at e3
      have step : L1_is_table [some (tD n hs), some (.int n), some (.tup (hs.map hD)), some (.int (i : Nat)), some (hD hs[i])] st = .nx [some (tD n hs), some (.int n), some (.tup (hs.map hD)), some (.int (i : Nat)), some (hD hs[i])] st := by
        simp [L1_is_table, mDef, sRet, sRetN, sSeq, sNil, sIf, sAsg, sExpr, sPar, sAug, sNo, mAnd, mOr, mNot, mIf, m2, m1, mChain, mFn, mCall, mMeth, aCons, aNil, mVar, mC, mB, tmAnd, tmOr, tmNot, mTup, mLst, mSl, pNone, pSome, R.bind, R.toS, RS.seq, noEx, gN, gSet, DL.gTup, gsCons, gsNil, bType, kindD, bLen, bAbs, bInt, bMax2, bMin2, bTuple, bList, itemsD, oAdd, oSub, oMul, oDiv, oMod, oPow, oNeg, oLt, oLe, oGt, oGe, oLtT, oIs, oIsNot, DL.isNon, oIx, oAddI, sAsg2, oMulI, mChain3, hD, oNe_int] at e1 e2 e3 ⊢
        simp [e1, e2, e3]
      exact ⟨_, _, _, _, rfl, step, _, _, rfl, rfl⟩)
  have e0 := sFor_enum (mr := aCons (mVar 2) aNil) (g := DL.gTup (gsCons (gN 3) (gsCons (gN 4) gsNil)) 2) (mb := L1_is_table) (env := [some (tD n hs), some (.int n), some (.tup (hs.map hD)), none, none]) (st := st) (st1 := st) (xs := hs.map hD) (by simp [mDef, sRet, sRetN, sSeq, sNil, sIf, sAsg, sExpr, sPar, sAug, sNo, mAnd, mOr, mNot, mIf, m2, m1, mChain, mFn, mCall, mMeth, aCons, aNil, mVar, mC, mB, tmAnd, tmOr, tmNot, mTup, mLst, mSl, pNone, pSome, R.bind, R.toS, RS.seq, noEx, gN, gSet, DL.gTup, gsCons, gsNil, bType, kindD, bLen, bAbs, bInt, bMax2, bMin2, bTuple, bList, itemsD, oAdd, oSub, oMul, oDiv, oMod, oPow, oNeg, oLt, oLe, oGt, oGe, oLtT, oIs, oIsNot, DL.isNon, oIx, oAddI, sAsg2, oMulI, mChain3]) e
  have b1 : (1 : Int) ≤ hs.length := by omega
  have b2 : (hs.length : Int) ≤ 6 := by omega
  unfold tD at e0 ⊢
  simp [f_is_table, b_is_table, mDef, sRet, sRetN, sSeq, sNil, sIf, sAsg, sExpr, sPar, sAug, sNo, mAnd, mOr, mNot, mIf, m2, m1, mChain, mFn, mCall, mMeth, aCons, aNil, mVar, mC, mB, tmAnd, tmOr, tmNot, mTup, mLst, mSl, pNone, pSome, R.bind, R.toS, RS.seq, noEx, gN, gSet, DL.gTup, gsCons, gsNil, bType, kindD, bLen, bAbs, bInt, bMax2, bMin2, bTuple, bList, itemsD, oAdd, oSub, oMul, oDiv, oMod, oPow, oNeg, oLt, oLe, oGt, oGe, oLtT, oIs, oIsNot, DL.isNon, oIx, oAddI, sAsg2, oMulI, mChain3, oNe_int, hz, hp, e0, b1, b2] at hf ⊢
  simp [Int.not_lt.mpr hf, e0]
theorem need_table_ok {n : Nat} {hs : List Hand} (T : TbOk n hs) (st : Sto) : f_need_table [tD n hs] st = .ok .non st := by
  have := table_ok T st
  simp [f_need_table, b_need_table, mDef, sRet, sRetN, sSeq, sNil, sIf, sAsg, sExpr, sPar, sAug, sNo, mAnd, mOr, mNot, mIf, m2, m1, mChain, mFn, mCall, mMeth, aCons, aNil, mVar, mC, mB, tmAnd, tmOr, tmNot, mTup, mLst, mSl, pNone, pSome, R.bind, R.toS, RS.seq, noEx, gN, gSet, DL.gTup, gsCons, gsNil, bType, kindD, bLen, bAbs, bInt, bMax2, bMin2, bTuple, bList, itemsD, oAdd, oSub, oMul, oDiv, oMod, oPow, oNeg, oLt, oLe, oGt, oGe, oLtT, oIs, oIsNot, DL.isNon, oIx, oAddI, sAsg2, oMulI, mChain3, this]
/-- a standing -/
structure StOk (n m : Nat) (xs : List Int) : Prop where
  len : xs.length = m
  bd : ∀ x : Int, x ∈ xs → 0 ≤ x ∧ x < (n : Int)
theorem stands_ok {n : Nat} {hs : List Hand} {xs : List Int} (S : StOk n hs.length xs) (st : Sto) : f_stands_in [tD n hs, dR xs] st = .ok (.bl true) st := by
  obtain ⟨env', st', e, q, rfl, rfl⟩ := loopS_ok (ds := xs.map D.int) (gd := none) (g := gN 4) (mb := L1_stands_in) (env := [some (tD n hs), some (dR xs), some (.int n), some (.tup (hs.map hD)), none]) (st := st)
    (fun i env st' => ∃ (q : Option D), env = [some (tD n hs), some (dR xs), some (.int n), some (.tup (hs.map hD)), q] ∧ st = st') ⟨none, rfl, rfl⟩ (fun _ _ _ _ _ => trivial) (by
      rintro i env st' hi ⟨q, rfl, rfl⟩
      have hi' : i < xs.length := by simpa using hi
      rw [List.getElem_map]
      have h1 := S.bd xs[i] (List.getElem_mem hi')
      have step : L1_stands_in [some (tD n hs), some (dR xs), some (.int n), some (.tup (hs.map hD)), some (.int xs[i])] st = .nx [some (tD n hs), some (dR xs), some (.int n), some (.tup (hs.map hD)), some (.int xs[i])] st := by
        simp [L1_stands_in, mDef, sRet, sRetN, sSeq, sNil, sIf, sAsg, sExpr, sPar, sAug, sNo, mAnd, mOr, mNot, mIf, m2, m1, mChain, mFn, mCall, mMeth, aCons, aNil, mVar, mC, mB, tmAnd, tmOr, tmNot, mTup, mLst, mSl, pNone, pSome, R.bind, R.toS, RS.seq, noEx, gN, gSet, DL.gTup, gsCons, gsNil, bType, kindD, bLen, bAbs, bInt, bMax2, bMin2, bTuple, bList, itemsD, oAdd, oSub, oMul, oDiv, oMod, oPow, oNeg, oLt, oLe, oGt, oGe, oLtT, oIs, oIsNot, DL.isNon, oIx, oAddI, sAsg2, oMulI, mChain3, h1]
      exact ⟨_, _, _, _, rfl, step, _, rfl, rfl⟩)
  have e0 := sFor_tup (m := mVar 1) (g := gN 4) (mb := L1_stands_in) (env := [some (tD n hs), some (dR xs), some (.int n), some (.tup (hs.map hD)), none]) (st := st) (st1 := st) (xs := xs.map D.int) (by simp [mDef, sRet, sRetN, sSeq, sNil, sIf, sAsg, sExpr, sPar, sAug, sNo, mAnd, mOr, mNot, mIf, m2, m1, mChain, mFn, mCall, mMeth, aCons, aNil, mVar, mC, mB, tmAnd, tmOr, tmNot, mTup, mLst, mSl, pNone, pSome, R.bind, R.toS, RS.seq, noEx, gN, gSet, DL.gTup, gsCons, gsNil, bType, kindD, bLen, bAbs, bInt, bMax2, bMin2, bTuple, bList, itemsD, oAdd, oSub, oMul, oDiv, oMod, oPow, oNeg, oLt, oLe, oGt, oGe, oLtT, oIs, oIsNot, DL.isNon, oIx, oAddI, sAsg2, oMulI, mChain3]) e
  unfold tD at e0 ⊢
  simp [f_stands_in, b_stands_in, mDef, sRet, sRetN, sSeq, sNil, sIf, sAsg, sExpr, sPar, sAug, sNo, mAnd, mOr, mNot, mIf, m2, m1, mChain, mFn, mCall, mMeth, aCons, aNil, mVar, mC, mB, tmAnd, tmOr, tmNot, mTup, mLst, mSl, pNone, pSome, R.bind, R.toS, RS.seq, noEx, gN, gSet, DL.gTup, gsCons, gsNil, bType, kindD, bLen, bAbs, bInt, bMax2, bMin2, bTuple, bList, itemsD, oAdd, oSub, oMul, oDiv, oMod, oPow, oNeg, oLt, oLe, oGt, oGe, oLtT, oIs, oIsNot, DL.isNon, oIx, oAddI, sAsg2, oMulI, mChain3, oNe_int, S.len, e0]
theorem need_standing_ok {n : Nat} {hs : List Hand} {xs : List Int} (S : StOk n hs.length xs) (st : Sto) : f_need_standing [tD n hs, dR xs] st = .ok .non st := by
  have := stands_ok S st
  simp [f_need_standing, b_need_standing, mDef, sRet, sRetN, sSeq, sNil, sIf, sAsg, sExpr, sPar, sAug, sNo, mAnd, mOr, mNot, mIf, m2, m1, mChain, mFn, mCall, mMeth, aCons, aNil, mVar, mC, mB, tmAnd, tmOr, tmNot, mTup, mLst, mSl, pNone, pSome, R.bind, R.toS, RS.seq, noEx, gN, gSet, DL.gTup, gsCons, gsNil, bType, kindD, bLen, bAbs, bInt, bMax2, bMin2, bTuple, bList, itemsD, oAdd, oSub, oMul, oDiv, oMod, oPow, oNeg, oLt, oLe, oGt, oGe, oLtT, oIs, oIsNot, DL.isNon, oIx, oAddI, sAsg2, oMulI, mChain3, this]
theorem need_hand_ok {n : Nat} {hs : List Hand} {xs : List Int} (T : TbOk n hs) (S : StOk n hs.length xs) {s : Nat} (h : s < hs.length) (st : Sto) : f_need_hand [tD n hs, .int s, dR xs] st = .ok .non st := by
  have e1 := need_table_ok T st
  have e2 := need_standing_ok S st
  have h' : (s : Int) < hs.length := by omega
  have ix : ∀ st : Sto, oIx (tD n hs) (.int 1) st = .ok (.tup (hs.map hD)) st := fun st => by simp [tD, oIx]
  simp [f_need_hand, b_need_hand, sSeq, sExpr, sIf, sNil, mCall, mFn, m2, mC, mVar, aCons, aNil, tmOr, tmNot, mB, mChain, mDef, R.bind, R.toS, RS.seq, noEx, e1, e2, ix, bLen, bType, kindD, oIsNot, oLe, oLtT, h, DL.isNon]
/-- the marks to which a seat may move -/
def mvs (n : Nat) (h : Hand) (s : Nat) (xs : List Int) : List Int := (h.2[(Pt.val n (xs.getD s 0) (h.1.map fun o => xs.getD o.toNat 0)).toNat]?).getD []
theorem st_at {n m : Nat} {xs : List Int} (S : StOk n m xs) {s : Nat} (h : s < m) : ∃ x : Int, xs[s]? = some x ∧ xs.getD s 0 = x ∧ 0 ≤ x ∧ x < (n : Int) := by
  have hl : s < xs.length := by rw [S.len]; exact h
  have b := S.bd xs[s] (List.getElem_mem hl)
  exact ⟨xs[s], by simp [hl], by simp [hl], b.1, b.2⟩
theorem at_ok {n m : Nat} {xs : List Int} (S : StOk n m xs) {o : Int} (h0 : 0 ≤ o) (h1 : o < m) : L2.atI (xs.map D.int) o = some (.int (xs.getD o.toNat 0)) := by
  obtain ⟨k, rfl⟩ : ∃ k : Nat, o = k := ⟨o.toNat, by omega⟩
  obtain ⟨x, e1, e2, _⟩ := st_at S (s := k) (by omega)
  rw [Int.toNat_natCast, e2]
  exact atI_at (by rw [List.getElem?_map, e1]; rfl)
theorem tab_ix {n : Nat} {hs : List Hand} {s : Nat} (h : s < hs.length) : L2.atI (hs.map hD) (s : Int) = some (hD hs[s]) := atI_at (by simp [h])
/-- what the walk over the looks reckons -/
theorem val_at {n : Nat} {hs : List Hand} {xs : List Int} (T : TbOk n hs) (S : StOk n hs.length xs) {s : Nat} (h : s < hs.length) :
    ∃ k : Nat, Pt.val n (xs.getD s 0) (hs[s].1.map fun o => xs.getD o.toNat 0) = k ∧ hs[s].2[k]? = some (mvs n hs[s] s xs) := by
  have H := T.hand s hs[s] (by simp [h])
  have n2 := T.n2
  obtain ⟨x, _, e2, b0, b1⟩ := st_at S h
  have := Pt.val_bd (n := n) (by omega) (r := hs[s].1.map fun o => xs.getD o.toNat 0) (a := xs.getD s 0) (m := n) (by
    intro y hy
    obtain ⟨o, ho, rfl⟩ := List.mem_map.mp hy
    have hb := H.near o ho
    obtain ⟨z, _, f2, c0, c1⟩ := st_at S (s := o.toNat) (by omega)
    rw [f2]; exact ⟨c0, c1⟩) (by rw [e2]; exact b0) (by rw [e2]; exact b1)
  rw [List.length_map] at this
  obtain ⟨k, hk⟩ : ∃ k : Nat, Pt.val n (xs.getD s 0) (hs[s].1.map fun o => xs.getD o.toNat 0) = k := ⟨_, (Int.toNat_of_nonneg this.1).symm⟩
  refine ⟨k, hk, ?_⟩
  have hl : k < hs[s].2.length := by
    rw [H.rows, Nat.add_comm, Nat.pow_succ, Nat.mul_comm]
    have := this.2
    rw [hk] at this
    omega
  unfold mvs
  rw [hk, Int.toNat_natCast]
  simp [hl]
theorem moves_at_ok {n : Nat} {hs : List Hand} {xs : List Int} (T : TbOk n hs) (S : StOk n hs.length xs) {s : Nat} (h : s < hs.length) (st : Sto) : f_moves_at [tD n hs, .int s, dR xs] st = .ok (dR (mvs n hs[s] s xs)) st := by
  have H := T.hand s hs[s] (by simp [h])
  have n9 := T.n9
  obtain ⟨k, ek, er⟩ := val_at T S h
  have sn : Small (n : Int) := by unfold Small; omega
  obtain ⟨env', st', e, q, rfl, rfl⟩ := loopS_ok (ds := hs[s].1.map D.int) (gd := none) (g := gN 8) (mb := L1_moves_at) (env := [some (tD n hs), some (.int s), some (dR xs), some (.int n), some (.tup (hs.map hD)), some (dR hs[s].1), some (.tup (hs[s].2.map dR)), some (.int (xs.getD s 0)), none]) (st := st)
    (fun i env st' => ∃ (q : Option D), env = [some (tD n hs), some (.int s), some (dR xs), some (.int n), some (.tup (hs.map hD)), some (dR hs[s].1), some (.tup (hs[s].2.map dR)), some (.int (Pt.val n (xs.getD s 0) ((hs[s].1.take i).map fun o => xs.getD o.toNat 0))), q] ∧ st = st') ⟨none, rfl, rfl⟩ (fun _ _ _ _ _ => trivial) (by
      rintro i env st' hi ⟨q, rfl, rfl⟩
      have hi' : i < hs[s].1.length := by simpa using hi
      rw [List.getElem_map]
      have hb := H.near hs[s].1[i] (List.getElem_mem hi')
      have ea := at_ok S hb.1 hb.2.1
      generalize hv : Pt.val n (xs.getD s 0) ((hs[s].1.take i).map fun o => xs.getD o.toNat 0) = v
      have ev : Pt.val n (xs.getD s 0) ((hs[s].1.take (i + 1)).map fun o => xs.getD o.toNat 0) = v * n + xs.getD hs[s].1[i].toNat 0 := by
        rw [List.take_add_one, List.getElem?_eq_getElem hi', ← hv]
        unfold Pt.val
        rw [List.map_append, List.foldl_append]
        rfl
      have step : L1_moves_at [some (tD n hs), some (.int s), some (dR xs), some (.int n), some (.tup (hs.map hD)), some (dR hs[s].1), some (.tup (hs[s].2.map dR)), some (.int v), some (.int hs[s].1[i])] st = .nx [some (tD n hs), some (.int s), some (dR xs), some (.int n), some (.tup (hs.map hD)), some (dR hs[s].1), some (.tup (hs[s].2.map dR)), some (.int (v * n + xs.getD hs[s].1[i].toNat 0)), some (.int hs[s].1[i])] st := by
        simp only [L1_moves_at, mDef, sRet, sRetN, sSeq, sNil, sIf, sAsg, sExpr, sPar, sAug, sNo, mAnd, mOr, mNot, mIf, m2, m1, mChain, mFn, mCall, mMeth, aCons, aNil, mVar, mC, mB, tmAnd, tmOr, tmNot, mTup, mLst, mSl, pNone, pSome, R.bind, R.toS, RS.seq, noEx, gN, gSet, DL.gTup, gsCons, gsNil, bType, kindD, bLen, bAbs, bInt, bMax2, bMin2, bTuple, bList, itemsD, oAdd, oSub, oMul, oDiv, oMod, oPow, oNeg, oLt, oLe, oGt, oGe, oLtT, oIs, oIsNot, DL.isNon, oIx, oAddI, sAsg2, oMulI, mChain3, List.getElem?_cons_zero, List.getElem?_cons_succ, ea, sn, or_true, if_true, List.set_cons_zero, List.set_cons_succ]
      exact ⟨_, _, _, _, rfl, step, _, by rw [ev], rfl⟩)
  rw [List.length_map, List.take_length, ek] at e
  have e0 := sFor_tup (m := mVar 5) (g := gN 8) (mb := L1_moves_at) (env := [some (tD n hs), some (.int s), some (dR xs), some (.int n), some (.tup (hs.map hD)), some (dR hs[s].1), some (.tup (hs[s].2.map dR)), some (.int (xs.getD s 0)), none]) (st := st) (st1 := st) (xs := hs[s].1.map D.int) (by simp [mDef, sRet, sRetN, sSeq, sNil, sIf, sAsg, sExpr, sPar, sAug, sNo, mAnd, mOr, mNot, mIf, m2, m1, mChain, mFn, mCall, mMeth, aCons, aNil, mVar, mC, mB, tmAnd, tmOr, tmNot, mTup, mLst, mSl, pNone, pSome, R.bind, R.toS, RS.seq, noEx, gN, gSet, DL.gTup, gsCons, gsNil, bType, kindD, bLen, bAbs, bInt, bMax2, bMin2, bTuple, bList, itemsD, oAdd, oSub, oMul, oDiv, oMod, oPow, oNeg, oLt, oLe, oGt, oGe, oLtT, oIs, oIsNot, DL.isNon, oIx, oAddI, sAsg2, oMulI, mChain3]) e
  have a1 : L2.atI (hs.map hD) (s : Int) = some (hD hs[s]) := tab_ix (n := n) h
  have a2 := at_ok S (o := (s : Int)) (by omega) (by omega)
  rw [Int.toNat_natCast] at a2
  have a3 : L2.atI (hs[s].2.map dR) (k : Int) = some (dR (mvs n hs[s] s xs)) := atI_at (by rw [List.getElem?_map, er]; rfl)
  unfold f_moves_at mDef b_moves_at
  have hT : tD n hs = .tup [.int n, .tup (hs.map hD)] := rfl
  simp only [sSeq, sAsg, sRet, mVar, m2, oIx, R.bind, R.toS, RS.seq, noEx, DL.gTup, gsCons, gsNil, gN, hT, hD, List.map_cons, List.map_nil, List.length_cons, List.length_nil, List.replicate, List.cons_append, List.nil_append, Nat.reduceSub, Nat.reduceAdd, List.getElem?_cons_zero, List.getElem?_cons_succ, List.set_cons_zero, List.set_cons_succ, if_true, a1, a2] at e0 ⊢
  simp only [e0, R.bind, a3, R.toS, List.getElem?_cons_zero, List.getElem?_cons_succ]
end Pr
set_option Elab.async false
set_option linter.all false
set_option maxRecDepth 10000
namespace Pr
open PySem PySem.Spec PyProof.Rows L2 DL
theorem law_moves_ok {n : Nat} {hs : List Hand} {xs : List Int} (T : TbOk n hs) (S : StOk n hs.length xs) {s : Nat} (h : s < hs.length) (st : Sto) : f_law_moves [tD n hs, .int s, dR xs] st = .ok (dR (mvs n hs[s] s xs)) st := by
  have H := T.hand s hs[s] (by simp [h])
  have n9 := T.n9
  obtain ⟨k, ek, er⟩ := val_at T S h
  have sn : Small (n : Int) := by unfold Small; omega
  have ix0 : ∀ st : Sto, oIx (tD n hs) (.int 0) st = .ok (.int n) st := fun st => by simp [tD, oIx]
  obtain ⟨env', st', e, q, rfl, rfl⟩ := loopS_ok (ds := hs[s].1.map D.int) (gd := none) (g := gN 6) (mb := L1_law_moves) (env := [some (tD n hs), some (.int s), some (dR xs), some (dR hs[s].1), some (.tup (hs[s].2.map dR)), some (.int (xs.getD s 0)), none]) (st := st)
    (fun i env st' => ∃ (q : Option D), env = [some (tD n hs), some (.int s), some (dR xs), some (dR hs[s].1), some (.tup (hs[s].2.map dR)), some (.int (Pt.val n (xs.getD s 0) ((hs[s].1.take i).map fun o => xs.getD o.toNat 0))), q] ∧ st = st') ⟨none, rfl, rfl⟩ (fun _ _ _ _ _ => trivial) (by
      rintro i env st' hi ⟨q, rfl, rfl⟩
      have hi' : i < hs[s].1.length := by simpa using hi
      rw [List.getElem_map]
      have hb := H.near hs[s].1[i] (List.getElem_mem hi')
      have ea := at_ok S hb.1 hb.2.1
      generalize hv : Pt.val n (xs.getD s 0) ((hs[s].1.take i).map fun o => xs.getD o.toNat 0) = v
      have ev : Pt.val n (xs.getD s 0) ((hs[s].1.take (i + 1)).map fun o => xs.getD o.toNat 0) = v * n + xs.getD hs[s].1[i].toNat 0 := by
        rw [List.take_add_one, List.getElem?_eq_getElem hi', ← hv]
        unfold Pt.val
        rw [List.map_append, List.foldl_append]
        rfl
      have step : L1_law_moves [some (tD n hs), some (.int s), some (dR xs), some (dR hs[s].1), some (.tup (hs[s].2.map dR)), some (.int v), some (.int hs[s].1[i])] st = .nx [some (tD n hs), some (.int s), some (dR xs), some (dR hs[s].1), some (.tup (hs[s].2.map dR)), some (.int (v * n + xs.getD hs[s].1[i].toNat 0)), some (.int hs[s].1[i])] st := by
        simp only [L1_law_moves, sAsg, m2, mVar, mC, R.bind, R.toS, noEx, gN, ix0, oMul, oAdd, List.getElem?_cons_zero, List.getElem?_cons_succ, sn, or_true, if_true, List.set_cons_zero, List.set_cons_succ]
        simp only [oIx, ea]
      exact ⟨_, _, _, _, rfl, step, _, by rw [ev], rfl⟩)
  rw [List.length_map, List.take_length, ek] at e
  have e0 := sFor_tup (m := mVar 3) (g := gN 6) (mb := L1_law_moves) (env := [some (tD n hs), some (.int s), some (dR xs), some (dR hs[s].1), some (.tup (hs[s].2.map dR)), some (.int (xs.getD s 0)), none]) (st := st) (st1 := st) (xs := hs[s].1.map D.int) (by simp [mDef, sRet, sRetN, sSeq, sNil, sIf, sAsg, sExpr, sPar, sAug, sNo, mAnd, mOr, mNot, mIf, m2, m1, mChain, mFn, mCall, mMeth, aCons, aNil, mVar, mC, mB, tmAnd, tmOr, tmNot, mTup, mLst, mSl, pNone, pSome, R.bind, R.toS, RS.seq, noEx, gN, gSet, DL.gTup, gsCons, gsNil, bType, kindD, bLen, bAbs, bInt, bMax2, bMin2, bTuple, bList, itemsD, oAdd, oSub, oMul, oDiv, oMod, oPow, oNeg, oLt, oLe, oGt, oGe, oLtT, oIs, oIsNot, DL.isNon, oIx, oAddI, sAsg2, oMulI, mChain3]) e
  have a1 : L2.atI (hs.map hD) (s : Int) = some (hD hs[s]) := tab_ix (n := n) h
  have a2 := at_ok S (o := (s : Int)) (by omega) (by omega)
  rw [Int.toNat_natCast] at a2
  have a3 : L2.atI (hs[s].2.map dR) (k : Int) = some (dR (mvs n hs[s] s xs)) := atI_at (by rw [List.getElem?_map, er]; rfl)
  unfold f_law_moves mDef b_law_moves
  have ix1 : ∀ st : Sto, oIx (tD n hs) (.int 1) st = .ok (.tup (hs.map hD)) st := fun st => by simp [tD, oIx]
  simp only [sSeq, sAsg, sRet, mVar, mC, m2, ix1, R.bind, R.toS, RS.seq, noEx, DL.gTup, gsCons, gsNil, gN, hD, List.map_cons, List.map_nil, List.length_cons, List.length_nil, List.replicate, List.cons_append, List.nil_append, Nat.reduceSub, Nat.reduceAdd, List.getElem?_cons_zero, List.getElem?_cons_succ, List.set_cons_zero, List.set_cons_succ, if_true]
  simp only [oIx, a1, a2, hD, R.bind, R.toS, RS.seq, noEx, DL.gTup, gsCons, gsNil, gN, List.length_cons, List.length_nil, Nat.reduceAdd, List.getElem?_cons_zero, List.getElem?_cons_succ, List.set_cons_zero, List.set_cons_succ, if_true, e0, a3]
/-- what a seat sees -/
def vw (h : Hand) (s : Nat) (xs : List Int) : List Int := xs.getD s 0 :: h.1.map fun o => xs.getD o.toNat 0
theorem over_looks {n : Nat} {hs : List Hand} {xs : List Int} (T : TbOk n hs) (S : StOk n hs.length xs) {s : Nat} (h : s < hs.length) {i j : Nat} {env : En} {m : En → Sto → R D} {st : Sto} (hm : ∀ st, m env st = .ok (dR hs[s].1) st) (hij : i ≠ j) (hl : j < env.length) (ei : env[i]? = some (some (dR xs))) :
    ∃ st', mFn bTuple (aCons (mLc (DL.iVal m) (gN j) mYes (m2 oIx (mVar i) (mVar j)) [j]) aNil) env st = .ok (dR (hs[s].1.map fun o => xs.getD o.toNat 0)) st' ∧ Gr st st' := by
  have H := T.hand s hs[s] (by simp [h])
  have hz : (1000 : Nat) ≤ sizeLine := by decide
  obtain ⟨st', e, g, w⟩ := over_row (xs := hs[s].1) (by have := H.len; omega) (mi := DL.iVal m) (i := j) (vs := [j]) (me := m2 oIx (mVar i) (mVar j)) (env := env) (fun o => .int (xs.getD o.toNat 0)) (st := st) (st1 := st) (by simp [DL.iVal, hm, R.bind]) (by
    intro y hy st1 g1
    have hb := H.near y hy
    have ea := at_ok S hb.1 hb.2.1
    have a1 : (List.set (wipeE env [j]) j (some (D.int y)))[i]? = some (some (dR xs)) := by simp [wipeE, hij, Ne.symm hij, ei]
    have a2 : (List.set (wipeE env [j]) j (some (D.int y)))[j]? = some (some (.int y)) := by simp [wipeE, hl]
    simp only [m2, mVar, a1, a2, R.bind, oIx, ea, noEx])
  refine ⟨st', ?_, g⟩
  have e1 : (hs[s].1.map fun o => D.int (xs.getD o.toNat 0)) = (hs[s].1.map fun o => xs.getD o.toNat 0).map D.int := by rw [List.map_map]; rfl
  rw [e1] at w
  simp only [mFn, aCons, aNil, e, R.bind, bTuple, itemsD, rdL_W w, noEx]
theorem view_ok {n : Nat} {hs : List Hand} {xs : List Int} (T : TbOk n hs) (S : StOk n hs.length xs) {s : Nat} (h : s < hs.length) (st : Sto) : ∃ st', f_view [tD n hs, .int s, dR xs] st = .ok (dR (vw hs[s] s xs)) st' ∧ Gr st st' := by
  have H := T.hand s hs[s] (by simp [h])
  have hz : (1000 : Nat) ≤ sizeLine := by decide
  have e1 := need_hand_ok T S h st
  have a1 : L2.atI (hs.map hD) (s : Int) = some (hD hs[s]) := tab_ix (n := n) h
  have a2 := at_ok S (o := (s : Int)) (by omega) (by omega)
  rw [Int.toNat_natCast] at a2
  obtain ⟨st', e2, g⟩ := over_looks (n := n) (m := mVar 3) (i := 2) (j := 5) (env := [some (tD n hs), some (.int s), some (dR xs), some (dR hs[s].1), some (.tup (hs[s].2.map dR)), none]) (st := st) T S h (fun st => by simp [mVar]) (by decide) (by simp) (by rfl)
  refine ⟨st', ?_, g⟩
  have ix1 : ∀ st : Sto, oIx (tD n hs) (.int 1) st = .ok (.tup (hs.map hD)) st := fun st => by simp [tD, oIx]
  have e2' : mFn bTuple (aCons (mLc (DL.iVal (mVar 3)) (gN 5) mYes E1_view [5]) aNil) [some (tD n hs), some (.int s), some (dR xs), some (dR hs[s].1), some (.tup (hs[s].2.map dR)), none] st = _ := e2
  have l1 : 1 + (hs[s].1.map fun o => xs.getD o.toNat 0).length ≤ sizeLine := by rw [List.length_map]; have := H.len; omega
  have l0 : (1 : Nat) ≤ sizeLine := by omega
  have e3 : aCons (m2 oIx (mVar 2) (mVar 1)) aNil [some (tD n hs), some (.int s), some (dR xs), some (dR hs[s].1), some (.tup (hs[s].2.map dR)), none] st = .ok [.int (xs.getD s 0)] st := by
    simp only [aCons, aNil, m2, mVar, oIx, a2, noEx, R.bind, List.getElem?_cons_zero, List.getElem?_cons_succ]
  have l2 : [D.int (xs.getD s 0)].length ≤ sizeLine := by simp; omega
  unfold f_view mDef b_view
  simp only [sSeq, sExpr, sAsg, sRet, mCall, mVar, mC, m2, aCons, aNil, e1, ix1, R.bind, R.toS, RS.seq, noEx, List.map_cons, List.map_nil, List.length_cons, List.length_nil, List.replicate, List.cons_append, List.nil_append, Nat.reduceSub, Nat.reduceAdd, List.getElem?_cons_zero, List.getElem?_cons_succ]
  simp only [oIx, a1, a2, hD, noEx, R.bind, R.toS, RS.seq, DL.gTup, gsCons, gsNil, gN, List.length_cons, List.length_nil, Nat.reduceAdd, if_true, List.getElem?_cons_zero, List.getElem?_cons_succ, List.set_cons_zero, List.set_cons_succ, mTup, l0, e2']
  simp only [oAdd, List.length_cons, List.length_nil, Nat.zero_add, List.length_map] at l1 ⊢
  simp only [e3, List.length_cons, List.length_nil, Nat.zero_add, l0, if_true, e2', List.length_map, l1]
  rfl
theorem moves_fn_ok {n : Nat} {hs : List Hand} {xs : List Int} (T : TbOk n hs) (S : StOk n hs.length xs) {s : Nat} (h : s < hs.length) (st : Sto) : f_moves [tD n hs, .int s, dR xs] st = .ok (dR (mvs n hs[s] s xs)) st := by
  have e1 := need_hand_ok T S h st
  have e2 := moves_at_ok T S h st
  simp [f_moves, b_moves, mDef, sRet, sRetN, sSeq, sNil, sIf, sAsg, sExpr, sPar, sAug, sNo, mAnd, mOr, mNot, mIf, m2, m1, mChain, mFn, mCall, mMeth, aCons, aNil, mVar, mC, mB, tmAnd, tmOr, tmNot, mTup, mLst, mSl, pNone, pSome, R.bind, R.toS, RS.seq, noEx, gN, gSet, DL.gTup, gsCons, gsNil, bType, kindD, bLen, bAbs, bInt, bMax2, bMin2, bTuple, bList, itemsD, oAdd, oSub, oMul, oDiv, oMod, oPow, oNeg, oLt, oLe, oGt, oGe, oLtT, oIs, oIsNot, DL.isNon, oIx, oAddI, sAsg2, oMulI, mChain3, e1, e2]
theorem oNe_nil (ys : List Int) (st : Sto) : oNe (dR ys) (.tup []) st = .ok (.bl (!ys.isEmpty)) st := by
  have r4 : ∀ zs : List Int, toP st (dR zs) = some (.tuple (zs.map .int)) := fun zs => by simp [toP, pd, pds_ints]
  have r6 : ∀ zs : List Int, SeqAt.shaped (.tuple (zs.map .int)) = true := fun zs => by
    have : PyData.depthAll (zs.map .int) = 0 := by
      induction zs with
      | nil => rfl
      | cons z zs ih => simp [PyData.depthAll, PyData.depth, ih]
    simp [SeqAt.shaped, PyData.canLay0, lay_ints, PyData.depth, this]
  have r5 : PyData.eqv (.tuple (ys.map .int)) (.tuple ([] : List PyData)) = ys.isEmpty := by
    cases ys <;> simp [PyData.eqv, PyData.eqvAll]
  have q : toP st (.tup []) = some (.tuple []) := rfl
  have r7 := r6 []
  rw [List.map_nil] at r7
  simp only [oNe, r4, q, r6, r7, r5, and_self, if_true]
noncomputable def ableB (n : Nat) (hs : List Hand) (xs : List Int) (s : Nat) : Bool := !(mvs n (hs.getD s ([], [])) s xs).isEmpty
noncomputable def able (n : Nat) (hs : List Hand) (xs : List Int) : List Int := ((List.range hs.length).filter (ableB n hs xs)).map fun s => ((s : Nat) : Int)
end Pr
set_option Elab.async false
set_option linter.all false
set_option maxRecDepth 10000
namespace Pr
open PySem PySem.Spec PyProof.Rows L2 DL
theorem hs_get {hs : List Hand} {s : Nat} (h : s < hs.length) : hs.getD s ([], []) = hs[s] := by simp [h]
theorem able_at_ok {n : Nat} {hs : List Hand} {xs : List Int} (T : TbOk n hs) (S : StOk n hs.length xs) (st : Sto) : ∃ r st', f_able_at [tD n hs, dR xs] st = .ok (.ref r) st' ∧ Gr st st' ∧ rdL st' r = some ((able n hs xs).map D.int) := by
  have m6 := T.m6
  have hm : Mid (hs.length : Int) := by unfold Mid; omega
  have hz : (1000 : Nat) < sizeLine := by decide
  obtain ⟨st', e, g⟩ := mLc_pure (mi := DL.iRng1 (aCons (mFn bLen (aCons (mVar 1) aNil)) aNil)) (g := gN 2) (mt := C1_able_at) (me := mVar 2) (vs := [2]) (env := [some (tD n hs), some (dR xs), none]) (st := st) (st1 := st) (ds := rngD 0 hs.length) (gd := none) (fun d => ableB n hs xs (DL.intD d).toNat) (fun d => d)
    (iRng1_nat (by simp [mDef, sRet, sRetN, sSeq, sNil, sIf, sAsg, sExpr, sPar, sAug, sNo, mAnd, mOr, mNot, mIf, m2, m1, mChain, mFn, mCall, mMeth, aCons, aNil, mVar, mC, mB, tmAnd, tmOr, tmNot, mTup, mLst, mSl, pNone, pSome, R.bind, R.toS, RS.seq, noEx, gN, gSet, DL.gTup, gsCons, gsNil, bType, kindD, bLen, bAbs, bInt, bMax2, bMin2, bTuple, bList, itemsD, oAdd, oSub, oMul, oDiv, oMod, oPow, oNeg, oLt, oLe, oGt, oGe, oLtT, oIs, oIsNot, DL.isNon, oIx, oAddI, sAsg2, oMulI, mChain3, S.len]) hm) trivial (by simp; omega) (by
      intro d hd st1 g1
      obtain ⟨s, hs', rfl⟩ := rng_of hd
      have e1 := moves_at_ok T S hs' st1
      have e2 := oNe_nil (mvs n hs[s] s xs) st1
      refine ⟨[some (tD n hs), some (dR xs), some (.int (s : Nat))], rfl, st1, ?_, List.prefix_refl _, fun _ => ⟨st1, rfl, List.prefix_refl _⟩⟩
      simp [C1_able_at, mB, m2, mCall, mTup, aCons, aNil, mVar, R.bind, noEx, e1, e2, DL.intD, ableB, hs'])
  refine ⟨st.length, st', ?_, (List.prefix_append _ _).trans g, ?_⟩
  · have e' : mLc (DL.iRng1 (aCons (mFn bLen (aCons (mVar 1) aNil)) aNil)) (gN 2) C1_able_at (mVar 2) [2] [some (tD n hs), some (dR xs), none] st = _ := e
    unfold f_able_at mDef b_able_at
    simp only [sRet, R.toS, List.map_cons, List.map_nil, List.length_cons, List.length_nil, List.replicate, List.cons_append, List.nil_append, Nat.reduceSub, Nat.reduceAdd]
    rw [e']
  · rw [rdL_of_new g]
    unfold able rngD
    rw [List.filter_map, List.map_map, List.map_map]
    congr 1
    simp [Function.comp_def, DL.intD]
theorem able_seats_ok {n : Nat} {hs : List Hand} {xs : List Int} (T : TbOk n hs) (S : StOk n hs.length xs) (st : Sto) : ∃ st', f_able_seats [tD n hs, dR xs] st = .ok (dR (able n hs xs)) st' ∧ Gr st st' := by
  obtain ⟨r, st', e, g, er⟩ := able_at_ok T S st
  have e1 := need_table_ok T st
  have e2 := need_standing_ok S st
  refine ⟨st', ?_, g⟩
  simp [f_able_seats, b_able_seats, mDef, sRet, sRetN, sSeq, sNil, sIf, sAsg, sExpr, sPar, sAug, sNo, mAnd, mOr, mNot, mIf, m2, m1, mChain, mFn, mCall, mMeth, aCons, aNil, mVar, mC, mB, tmAnd, tmOr, tmNot, mTup, mLst, mSl, pNone, pSome, R.bind, R.toS, RS.seq, noEx, gN, gSet, DL.gTup, gsCons, gsNil, bType, kindD, bLen, bAbs, bInt, bMax2, bMin2, bTuple, bList, itemsD, oAdd, oSub, oMul, oDiv, oMod, oPow, oNeg, oLt, oLe, oGt, oGe, oLtT, oIs, oIsNot, DL.isNon, oIx, oAddI, sAsg2, oMulI, mChain3, e1, e2, e, er]
/-! ### texts of rows, of tables -/
theorem shaped_rows (zs : List Int) : SeqAt.shaped (.tuple (zs.map .int)) = true := by
  have : PyData.depthAll (zs.map .int) = 0 := by
    induction zs with
    | nil => rfl
    | cons z zs ih => simp [PyData.depthAll, PyData.depth, ih]
  simp [SeqAt.shaped, PyData.canLay0, lay_ints, PyData.depth, this]
end Pr
set_option Elab.async false
set_option linter.all false
set_option maxRecDepth 10000
namespace DL
open PySem PySem.Spec PyProof.Rows L2
theorem pds_map {β : Type} (rd : Nat → Option PyData) {f : β → D} {g : β → PyData} : ∀ {xs : List β}, (∀ x ∈ xs, pd rd (f x) = some (g x)) → pds rd (xs.map f) = some (xs.map g)
  | [], _ => rfl
  | x :: xs, h => by
    have h1 := h x List.mem_cons_self
    have h2 := pds_map rd (xs := xs) fun y hy => h y (List.mem_cons_of_mem _ hy)
    simp [pds, h1, h2]
theorem shown_map {β : Type} {g : β → PyData} : ∀ {xs : List β}, PyData.shownAll (xs.map g) = xs.map fun x => (g x).shown
  | [] => rfl
  | x :: xs => by simp [PyData.shownAll, shown_map (xs := xs)]
theorem lay_map {β : Type} {g : β → PyData} : ∀ {xs : List β}, (∀ x ∈ xs, (g x).canLay0 = true) → PyData.canLayAll0 (xs.map g) = true
  | [], _ => rfl
  | x :: xs, h => by simp [PyData.canLayAll0, h x List.mem_cons_self, lay_map (xs := xs) fun y hy => h y (List.mem_cons_of_mem _ hy)]
theorem depth_map {β : Type} {g : β → PyData} {k : Nat} : ∀ {xs : List β}, (∀ x ∈ xs, (g x).depth ≤ k) → PyData.depthAll (xs.map g) ≤ k
  | [], _ => Nat.zero_le _
  | x :: xs, h => by
    have h1 := h x List.mem_cons_self
    have h2 := depth_map (xs := xs) fun y hy => h y (List.mem_cons_of_mem _ hy)
    simp only [List.map_cons, PyData.depthAll]
    omega
theorem showable_map {β : Type} {g : β → PyData} : ∀ {xs : List β}, (∀ x ∈ xs, (g x).showable = true) → PyData.showableAll (xs.map g) = true
  | [], _ => rfl
  | x :: xs, h => by simp [PyData.showableAll, h x List.mem_cons_self, showable_map (xs := xs) fun y hy => h y (List.mem_cons_of_mem _ hy)]
/-- a small number's text -/
theorem shown_ok {i : Int} (h0 : 0 ≤ i) (h1 : i < 100) : PyData.strOk (PyData.int i).shown = true := by
  obtain ⟨k, rfl⟩ : ∃ k : Nat, i = k := ⟨i.toNat, by omega⟩
  have hk : k < 100 := by omega
  have all : ∀ k : _root_.Fin 100, PyData.strOk (PyData.int ((k : Nat) : Int)).shown = true := by decide +kernel
  exact all ⟨k, hk⟩
theorem shown_small {i : Int} (h0 : 0 ≤ i) (h1 : i < 100) : (PyData.int i).shown.length ≤ 2 ∧ (PyData.int i).showable = true := by
  obtain ⟨k, rfl⟩ : ∃ k : Nat, i = k := ⟨i.toNat, by omega⟩
  have hk : k < 100 := by omega
  have all : ∀ k : _root_.Fin 100, (PyData.int ((k : Nat) : Int)).shown.length ≤ 2 ∧ (PyData.int ((k : Nat) : Int)).showable = true := by decide +kernel
  exact all ⟨k, hk⟩
end DL
namespace Pr
open PySem PySem.Spec PyProof.Rows L2 DL
abbrev pR (xs : List Int) : PyData := .tuple (xs.map .int)
abbrev pH (h : Hand) : PyData := .tuple [pR h.1, .tuple (h.2.map pR)]
abbrev pT (n : Nat) (hs : List Hand) : PyData := .tuple [.int n, .tuple (hs.map pH)]
theorem pd_dR (rd : Nat → Option PyData) (xs : List Int) : pd rd (dR xs) = some (pR xs) := by simp [pd, pds_ints]
theorem pd_hD (rd : Nat → Option PyData) (h : Hand) : pd rd (hD h) = some (pH h) := by
  have : pds rd (h.2.map dR) = some (h.2.map pR) := pds_map rd fun x _ => pd_dR rd x
  simp [hD, pd, pds, pds_ints, this]
theorem pd_tD (rd : Nat → Option PyData) (n : Nat) (hs : List Hand) : pd rd (tD n hs) = some (pT n hs) := by
  have : pds rd (hs.map hD) = some (hs.map pH) := pds_map rd fun x _ => pd_hD rd x
  simp [tD, pd, pds, this]
theorem row_show {xs : List Int} {L : Nat} (h : ∀ x : Int, x ∈ xs → 0 ≤ x ∧ x < 100) (hl : xs.length ≤ L) : (pR xs).shown.length ≤ L * 4 + 3 ∧ (pR xs).showable = true := by
  refine ⟨?_, by simpa [PyData.showable] using showable_map fun x hx => (shown_small (h x hx).1 (h x hx).2).2⟩
  have := tupleText_le (ts := PyData.shownAll (xs.map .int)) (B := 2) (by
    rw [shown_map]
    intro t ht
    obtain ⟨x, hx, rfl⟩ := List.mem_map.mp ht
    exact (shown_small (h x hx).1 (h x hx).2).1)
  rw [shown_map, List.length_map] at this
  have e : (pR xs).shown = PySem.tupleText (xs.map fun x => (PyData.int x).shown) := by rw [PyData.shown, shown_map]
  rw [e]
  have : xs.length * 4 ≤ L * 4 := Nat.mul_le_mul_right 4 hl
  omega
theorem row_ok {xs : List Int} (h : ∀ x : Int, x ∈ xs → 0 ≤ x ∧ x < 100) : PyData.strOk (pR xs).shown = true := by
  have e : (pR xs).shown = PySem.tupleText (xs.map fun x => (PyData.int x).shown) := by rw [PyData.shown, shown_map]
  rw [e]
  refine strOk_tupleText fun t ht => ?_
  obtain ⟨x, hx, rfl⟩ := List.mem_map.mp ht
  exact shown_ok (h x hx).1 (h x hx).2
theorem repr_row {xs : List Int} (h : ∀ x : Int, x ∈ xs → 0 ≤ x ∧ x < 100) (hl : xs.length ≤ 1000) (st : Sto) : bRepr [dR xs] st = .ok (.str (pR xs).shown) st := by
  obtain ⟨a, b⟩ := row_show h hl
  have hz : (4003 : Nat) ≤ sizeLine := by decide
  have c : (pR xs).shown.length ≤ sizeLine := by omega
  have e : toP st (dR xs) = some (pR xs) := pd_dR _ xs
  simp only [bRepr, e, shaped_rows, b, c, and_self, if_true]
theorem hand_ok {n m s : Nat} {h : Hand} (H : HdOk n m s h) (n9 : n ≤ 9) (m6 : m ≤ 6) : PyData.strOk (pH h).shown = true := by
  have h1 := row_ok (xs := h.1) (fun x hx => by have := H.near x hx; omega)
  have hrow : ∀ r ∈ h.2, PyData.strOk (pR r).shown = true := fun r hr => by
    obtain ⟨j, hj, rfl⟩ := List.mem_iff_getElem.mp hr
    have mk := H.may j h.2[j] (by simp [hj])
    exact row_ok (fun x hx => by have := mk.2 x hx; omega)
  have e2 : (PyData.tuple (h.2.map pR)).shown = PySem.tupleText (PyData.shownAll (h.2.map pR)) := by rw [PyData.shown]
  have h2 : PyData.strOk (PyData.tuple (h.2.map pR)).shown = true := by
    rw [e2, shown_map]
    refine strOk_tupleText fun t ht => ?_
    obtain ⟨r, hr, rfl⟩ := List.mem_map.mp ht
    exact hrow r hr
  have e3 : (pH h).shown = PySem.tupleText (PyData.shownAll [pR h.1, .tuple (h.2.map pR)]) := by rw [PyData.shown]
  rw [e3]
  refine strOk_tupleText fun t ht => ?_
  simp only [PyData.shownAll] at ht
  rcases List.mem_cons.mp ht with q | q
  · rw [q]; exact h1
  · rw [List.mem_singleton.mp q]; exact h2
theorem table_text_ok {n : Nat} {hs : List Hand} (T : TbOk n hs) : PyData.strOk (pT n hs).shown = true := by
  have n9 := T.n9
  have h2 : PyData.strOk (PyData.tuple (hs.map pH)).shown = true := by
    have e2 : (PyData.tuple (hs.map pH)).shown = PySem.tupleText (PyData.shownAll (hs.map pH)) := by rw [PyData.shown]
    rw [e2, shown_map]
    refine strOk_tupleText fun t ht => ?_
    obtain ⟨r, hr, rfl⟩ := List.mem_map.mp ht
    obtain ⟨j, hj, rfl⟩ := List.mem_iff_getElem.mp hr
    exact hand_ok (T.hand j hs[j] (by simp [hj])) n9 T.m6
  have e3 : (pT n hs).shown = PySem.tupleText (PyData.shownAll [PyData.int n, .tuple (hs.map pH)]) := by rw [PyData.shown]
  rw [e3]
  refine strOk_tupleText fun t ht => ?_
  simp only [PyData.shownAll] at ht
  rcases List.mem_cons.mp ht with q | q
  · rw [q]; exact shown_ok (by omega) (by omega)
  · rw [List.mem_singleton.mp q]; exact h2
theorem hand_show {n m s : Nat} {h : Hand} (H : HdOk n m s h) (hn : 2 ≤ n) (n9 : n ≤ 9) (m6 : m ≤ 6) (hm : 1 ≤ m) (few : n ^ m ≤ 729) (hl : h.1.length < m) : (pH h).shown.length ≤ 70000 ∧ (pH h).showable = true := by
  have hlen := H.len
  have h1 := row_show (xs := h.1) (L := 5) (fun x hx => by have := H.near x hx; omega) hlen
  have hr : h.2.length ≤ 729 := by
    rw [H.rows]
    exact Nat.le_trans (Nat.pow_le_pow_right (by omega) (by omega)) few
  have hrow : ∀ r ∈ h.2, (pR r).shown.length ≤ 9 * 4 + 3 ∧ (pR r).showable = true := fun r hr => by
    obtain ⟨j, hj, rfl⟩ := List.mem_iff_getElem.mp hr
    have mk := H.may j h.2[j] (by simp [hj])
    refine row_show (fun x hx => by have := mk.2 x hx; omega) ?_
    have := Pt.rise_len (n := 9) mk.1 (fun x hx => by have := mk.2 x hx; omega)
    exact this
  have h2 := tupleText_le (ts := PyData.shownAll (h.2.map pR)) (B := 39) (by
    rw [shown_map]
    intro t ht
    obtain ⟨r, hr, rfl⟩ := List.mem_map.mp ht
    exact (hrow r hr).1)
  have s2 : PyData.showable (.tuple (h.2.map pR)) = true := by
    simpa [PyData.showable] using showable_map (g := pR) fun r hr => (hrow r hr).2
  have e2 : (PyData.tuple (h.2.map pR)).shown = PySem.tupleText (PyData.shownAll (h.2.map pR)) := by rw [PyData.shown]
  rw [shown_map, List.length_map] at h2
  rw [shown_map] at e2
  have l2 : (PyData.tuple (h.2.map pR)).shown.length ≤ 30000 := by rw [e2]; omega
  refine ⟨?_, by rw [pH, PyData.showable]; simp only [PyData.showableAll, h1.2, s2, Bool.and_self]⟩
  have h3 := tupleText_le (ts := PyData.shownAll [pR h.1, .tuple (h.2.map pR)]) (B := 30000) (by
    simp only [PyData.shownAll]
    intro t ht
    rcases List.mem_cons.mp ht with q | q
    · rw [q]; omega
    · rw [List.mem_singleton.mp q]; exact l2)
  have e3 : (pH h).shown = PySem.tupleText (PyData.shownAll [pR h.1, .tuple (h.2.map pR)]) := by rw [PyData.shown]
  rw [e3]
  simp only [PyData.shownAll, List.length_cons, List.length_nil] at h3 ⊢
  omega
theorem repr_table {n : Nat} {hs : List Hand} (T : TbOk n hs) (hl : ∀ (s : Nat) (h : Hand), hs[s]? = some h → h.1.length < hs.length) (st : Sto) : bRepr [tD n hs] st = .ok (.str (pT n hs).shown) st := by
  have n2 := T.n2; have n9 := T.n9; have m1 := T.m1; have m6 := T.m6
  have hh : ∀ h ∈ hs, (pH h).shown.length ≤ 70000 ∧ (pH h).showable = true := fun h hm => by
    obtain ⟨j, hj, rfl⟩ := List.mem_iff_getElem.mp hm
    exact hand_show (T.hand j hs[j] (by simp [hj])) n2 n9 m6 m1 T.few (hl j hs[j] (by simp [hj]))
  have h2 := tupleText_le (ts := PyData.shownAll (hs.map pH)) (B := 70000) (by
    rw [shown_map]
    intro t ht
    obtain ⟨r, hr, rfl⟩ := List.mem_map.mp ht
    exact (hh r hr).1)
  have e2 : (PyData.tuple (hs.map pH)).shown = PySem.tupleText (PyData.shownAll (hs.map pH)) := by rw [PyData.shown]
  rw [shown_map, List.length_map] at h2
  rw [shown_map] at e2
  have s2 : PyData.showable (.tuple (hs.map pH)) = true := by
    simpa [PyData.showable] using showable_map (g := pH) fun r hr => (hh r hr).2
  have l2 : (PyData.tuple (hs.map pH)).shown.length ≤ 500000 := by
    rw [e2]
    have : hs.length * (70000 + 2) ≤ 6 * (70000 + 2) := Nat.mul_le_mul_right _ m6
    omega
  have sn := shown_small (i := (n : Int)) (by omega) (by omega)
  have s3 : (pT n hs).showable = true := by rw [pT, PyData.showable]; simp only [PyData.showableAll, sn.2, s2, Bool.and_self]
  have h3 := tupleText_le (ts := PyData.shownAll [PyData.int n, .tuple (hs.map pH)]) (B := 500000) (by
    simp only [PyData.shownAll]
    intro t ht
    rcases List.mem_cons.mp ht with q | q
    · rw [q]; have := sn.1; omega
    · rw [List.mem_singleton.mp q]; exact l2)
  have e3 : (pT n hs).shown = PySem.tupleText (PyData.shownAll [PyData.int n, .tuple (hs.map pH)]) := by rw [PyData.shown]
  have hz : (1100000 : Nat) ≤ sizeLine := by decide
  have c : (pT n hs).shown.length ≤ sizeLine := by
    rw [e3]
    simp only [PyData.shownAll, List.length_cons, List.length_nil] at h3 ⊢
    omega
  have dR' : ∀ xs : List Int, (pR xs).depth ≤ 1 := fun xs => by
    have : PyData.depthAll (xs.map .int) ≤ 0 := depth_map fun x _ => Nat.le_refl _
    simp only [PyData.depth]; omega
  have dH' : ∀ h : Hand, (pH h).depth ≤ 3 := fun h => by
    have a := dR' h.1
    have b : PyData.depthAll (h.2.map pR) ≤ 1 := depth_map fun x _ => dR' x
    simp only [pH, PyData.depth, PyData.depthAll] at a ⊢; omega
  have lR : ∀ xs : List Int, (pR xs).canLay0 = true := fun xs => by rw [pR, PyData.canLay0]; exact lay_ints xs
  have lH : ∀ h : Hand, (pH h).canLay0 = true := fun h => by
    have b : PyData.canLayAll0 (h.2.map pR) = true := lay_map fun x _ => lR x
    simp only [pH, PyData.canLay0, PyData.canLayAll0, lay_ints, b, Bool.and_self]
  have sh : SeqAt.shaped (pT n hs) = true := by
    have a : PyData.depthAll (hs.map pH) ≤ 3 := depth_map fun x _ => dH' x
    have b : PyData.canLayAll0 (hs.map pH) = true := lay_map fun x _ => lH x
    unfold SeqAt.shaped
    rw [Bool.and_eq_true, decide_eq_true_iff]
    refine ⟨by simp only [pT, PyData.canLay0, PyData.canLayAll0, b, Bool.and_self], ?_⟩
    simp only [pT, PyData.depth, PyData.depthAll]; omega
  have e : toP st (.tup [.int n, .tup (hs.map hD)]) = some (pT n hs) := pd_tD _ n hs
  have := (show bRepr [.tup [.int n, .tup (hs.map hD)]] st = .ok (.str (pT n hs).shown) st by simp only [bRepr, e, sh, s3, c, and_self, if_true])
  exact this
end Pr
set_option Elab.async false
set_option linter.all false
set_option maxRecDepth 10000
namespace Pr
open PySem PySem.Spec PyProof.Rows L2 DL
theorem oNe_str {x : Str} (hx : PyData.strOk x = true) (st : Sto) : oNe (.str x) (.str x) st = .ok (.bl false) st := by
  have r4 : toP st (.str x) = some (.str x) := rfl
  have r5 : PyData.eqv (.str x) (.str x) = true := by simp [PyData.eqv]
  have r6 : SeqAt.shaped (.str x) = true := by simp [SeqAt.shaped, PyData.canLay0, PyData.depth, hx]
  simp [oNe, r4, r5, r6]
theorem oEq_str {x : Str} (hx : PyData.strOk x = true) (st : Sto) : oEq (.str x) (.str x) st = .ok (.bl true) st := by
  have r4 : toP st (.str x) = some (.str x) := rfl
  have r5 : PyData.eqv (.str x) (.str x) = true := by simp [PyData.eqv]
  have r6 : SeqAt.shaped (.str x) = true := by simp [SeqAt.shaped, PyData.canLay0, PyData.depth, hx]
  simp [oEq, r4, r5, r6]
section
variable {n : Nat} {hs : List Hand} {xs : List Int}
theorem vw_bd (T : TbOk n hs) (S : StOk n hs.length xs) {s : Nat} (h : s < hs.length) : (∀ x : Int, x ∈ vw hs[s] s xs → 0 ≤ x ∧ x < 100) ∧ (vw hs[s] s xs).length ≤ 1000 := by
  have H := T.hand s hs[s] (by simp [h])
  have n9 := T.n9
  refine ⟨fun x hx => ?_, by have := H.len; simp [vw]; omega⟩
  rcases List.mem_cons.mp hx with q | q
  · obtain ⟨z, _, f2, c0, c1⟩ := st_at S h
    rw [q, f2]; omega
  · obtain ⟨o, ho, rfl⟩ := List.mem_map.mp q
    have hb := H.near o ho
    obtain ⟨z, _, f2, c0, c1⟩ := st_at S (s := o.toNat) (by omega)
    rw [f2]; omega
theorem mvs_bd (T : TbOk n hs) (S : StOk n hs.length xs) {s : Nat} (h : s < hs.length) : (∀ x : Int, x ∈ mvs n hs[s] s xs → 0 ≤ x ∧ x < 100) ∧ (mvs n hs[s] s xs).length ≤ 1000 := by
  have H := T.hand s hs[s] (by simp [h])
  have n9 := T.n9
  obtain ⟨k, ek, er⟩ := val_at T S h
  have mk := H.may k _ er
  refine ⟨fun x hx => by have := mk.2 x hx; omega, ?_⟩
  have := Pt.rise_len (n := 9) mk.1 (fun x hx => by have := mk.2 x hx; omega)
  omega
theorem seen_turn (T : TbOk n hs) (S : StOk n hs.length xs) {i : Nat} (h : i < hs.length) {r0 : Nat} {acc : List Int} {st : Sto} (w : rdW st r0 = some (acc.map D.int)) (ha : acc.length ≤ 6) {q4 q5 q8 : Option D} :
    ∃ st2, L1_law_seen_right [some (tD n hs), some (dR xs), some (.ref r0), some (.int i), q4, q5, some (dR hs[i].1), some (.tup (hs[i].2.map dR)), q8] st = .nx [some (tD n hs), some (dR xs), some (.ref r0), some (.int i), some (dR (vw hs[i] i xs)), some (dR (mvs n hs[i] i xs)), some (dR hs[i].1), some (.tup (hs[i].2.map dR)), q8] st2 ∧
      ∃ st1, Gr st st1 ∧ st2 = st1.set r0 (.lst ((acc ++ if ableB n hs xs i then [(i : Int)] else []).map D.int)) := by
  have hz : (1000 : Nat) ≤ sizeLine := by decide
  have l0 : (1 : Nat) ≤ sizeLine := by omega
  have H := T.hand i hs[i] (by simp [h])
  have hlen := H.len
  have a2 := at_ok S (o := (i : Int)) (by omega) (by omega)
  rw [Int.toNat_natCast] at a2
  obtain ⟨st1, e1, g1⟩ := over_looks (n := n) (m := mVar 6) (i := 1) (j := 8) (env := [some (tD n hs), some (dR xs), some (.ref r0), some (.int i), q4, q5, some (dR hs[i].1), some (.tup (hs[i].2.map dR)), q8]) (st := st) T S h (fun st => by simp [mVar]) (by decide) (by simp) (by rfl)
  have e1' : mFn bTuple (aCons (mLc (DL.iVal (mVar 6)) (gN 8) mYes E1_law_seen_right [8]) aNil) [some (tD n hs), some (dR xs), some (.ref r0), some (.int i), q4, q5, some (dR hs[i].1), some (.tup (hs[i].2.map dR)), q8] st = _ := e1
  have e2 := law_moves_ok T S h st1
  obtain ⟨st2, e3, g2⟩ := view_ok T S h st1
  have e4 := moves_fn_ok T S h st2
  have b1 := vw_bd T S h
  have b2 := mvs_bd T S h
  have p1 := repr_row b1.1 b1.2
  have p2 := repr_row b2.1 b2.2
  have w2 : rdW st2 r0 = some (acc.map D.int) := rdW_gr (g1.trans g2) w
  have hl1 : 1 + hs[i].1.length ≤ sizeLine := by omega
  have eD : m2 oAdd (mTup (aCons (m2 oIx (mVar 1) (mVar 3)) aNil)) (mFn bTuple (aCons (mLc (DL.iVal (mVar 6)) (gN 8) mYes E1_law_seen_right [8]) aNil)) [some (tD n hs), some (dR xs), some (.ref r0), some (.int i), q4, q5, some (dR hs[i].1), some (.tup (hs[i].2.map dR)), q8] st = .ok (dR (vw hs[i] i xs)) st1 := by
    have e0 : mTup (aCons (m2 oIx (mVar 1) (mVar 3)) aNil) [some (tD n hs), some (dR xs), some (.ref r0), some (.int i), q4, q5, some (dR hs[i].1), some (.tup (hs[i].2.map dR)), q8] st = .ok (.tup [.int (xs.getD i 0)]) st := by
      simp only [mTup, aCons, aNil, m2, mVar, oIx, a2, noEx, R.bind, List.getElem?_cons_zero, List.getElem?_cons_succ, List.length_cons, List.length_nil, Nat.zero_add, l0, if_true]
    have : ∀ (ma mb : En → Sto → R D) (env : En) (a b : D) (s1 s2 s3 : Sto), ma env s1 = .ok a s2 → mb env s2 = .ok b s3 → m2 oAdd ma mb env s1 = noEx (oAdd a b s3) := fun ma mb env a b s1 s2 s3 h1 h2 => by simp only [m2, h1, h2, R.bind]
    rw [this _ _ _ _ _ _ _ _ e0 e1']
    simp only [oAdd, List.length_cons, List.length_nil, List.length_map, Nat.zero_add, hl1, if_true, noEx]
    rfl
  have e5 := oNe_nil (mvs n hs[i] i xs)
  have eab : ableB n hs xs i = !(mvs n hs[i] i xs).isEmpty := by unfold ableB; rw [hs_get h]
  have c1 := row_ok b1.1
  have c2 := row_ok b2.1
  have n1 := oNe_str c1
  have n2 := oNe_str c2
  have l6 : acc.length + 1 ≤ sizeLine := by omega
  have l7 : acc.length ≤ sizeLine := by omega
  have k0 : Small 0 := by decide
  have k1 : Small 1 := by decide
  have r2 : rdL st2 r0 = some (acc.map D.int) := rdL_W w2
  by_cases q : (mvs n hs[i] i xs).isEmpty = true
  · rw [eab, q]
    let st3 := st2 ++ [Cl.lst [.int (i : Nat)], Cl.lst []]
    have g3 : Gr st2 st3 := List.prefix_append _ _
    have w3 : rdW (st2 ++ [Cl.lst [.int (i : Nat)], Cl.lst []]) r0 = some (acc.map D.int) := rdW_gr g3 w2
    refine ⟨st3.set r0 (.lst (acc.map D.int)), ?_, st3, (g1.trans g2).trans g3, by simp⟩
    have w4 : rdW (st2 ++ [Cl.lst [.int (i : Nat)], Cl.lst []]) (st2.length + 1) = some [] := by simp [rdW]
    unfold L1_law_seen_right
    simp only [sSeq, sAsg, eD, R.toS, RS.seq, gN, List.set_cons_zero, List.set_cons_succ]
    simp only [sIf, tmOr, mB, m2, mFn, mCall, aCons, aNil, mVar, R.bind, noEx, R.toS, RS.seq, List.getElem?_cons_zero, List.getElem?_cons_succ, List.set_cons_zero, List.set_cons_succ, e2, e3, e4, p1, p2, n1, n2, Bool.false_eq_true, if_false, sNil]
    simp [sExpr, mMeth, m2, mLst, mFn, mTup, aCons, aNil, mVar, R.bind, R.toS, noEx, l0, e5, q, bInt, oMul, k0, fExtend, r2, w3, w4, l7, st3]
  · have q' : (mvs n hs[i] i xs).isEmpty = false := by simpa using q
    rw [eab, q']
    let st3 := st2 ++ [Cl.lst [.int (i : Nat)], Cl.lst [.int (i : Nat)]]
    have g3 : Gr st2 st3 := List.prefix_append _ _
    have w3 : rdW (st2 ++ [Cl.lst [.int (i : Nat)], Cl.lst [.int (i : Nat)]]) r0 = some (acc.map D.int) := rdW_gr g3 w2
    refine ⟨st3.set r0 (.lst ((acc ++ [(i : Int)]).map D.int)), ?_, st3, (g1.trans g2).trans g3, by simp⟩
    have w4 : rdW (st2 ++ [Cl.lst [.int (i : Nat)], Cl.lst [.int (i : Nat)]]) (st2.length + 1) = some [.int (i : Nat)] := by simp [rdW]
    unfold L1_law_seen_right
    simp only [sSeq, sAsg, eD, R.toS, RS.seq, gN, List.set_cons_zero, List.set_cons_succ]
    simp only [sIf, tmOr, mB, m2, mFn, mCall, aCons, aNil, mVar, R.bind, noEx, R.toS, RS.seq, List.getElem?_cons_zero, List.getElem?_cons_succ, List.set_cons_zero, List.set_cons_succ, e2, e3, e4, p1, p2, n1, n2, Bool.false_eq_true, if_false, sNil]
    simp [sExpr, mMeth, m2, mLst, mFn, mTup, aCons, aNil, mVar, R.bind, R.toS, noEx, l0, e5, q', bInt, oMul, k1, fExtend, r2, w3, w4, l6, st3]
end
end Pr
set_option Elab.async false
set_option linter.all false
set_option maxRecDepth 10000
namespace Pr
open PySem PySem.Spec PyProof.Rows L2 DL
section
variable {n : Nat} {hs : List Hand} {xs : List Int}
theorem able_bd (T : TbOk n hs) : (∀ x : Int, x ∈ able n hs xs → 0 ≤ x ∧ x < 100) ∧ (able n hs xs).length ≤ 1000 := by
  have m6 := T.m6
  refine ⟨fun x hx => ?_, ?_⟩
  · obtain ⟨s, hs', rfl⟩ := List.mem_map.mp hx
    have := (List.mem_filter.mp hs').1
    rw [List.mem_range] at this
    omega
  · unfold able
    rw [List.length_map]
    have := List.length_filter_le (ableB n hs xs) (List.range hs.length)
    rw [List.length_range] at this
    omega
theorem seen_ok (T : TbOk n hs) (S : StOk n hs.length xs) (st : Sto) : ∃ st', f_law_seen_right [tD n hs, dR xs] st = .ok (.bl true) st' ∧ Gr st st' := by
  have m6 := T.m6
  have l0 : (0 : Nat) ≤ sizeLine := Nat.zero_le _
  obtain ⟨env', st', e, q3, q4, q5, q6, q7, q8, rfl, g, w⟩ := loopS_ok (ds := enumD (hs.map hD)) (gd := none) (g := DL.gTup (gsCons (gN 3) (gsCons (DL.gTup (gsCons (gN 6) (gsCons (gN 7) gsNil)) 2) gsNil)) 2) (mb := L1_law_seen_right) (env := [some (tD n hs), some (dR xs), some (.ref st.length), none, none, none, none, none, none]) (st := st ++ [Cl.lst []])
    (fun i env st' => ∃ (q3 q4 q5 q6 q7 q8 : Option D), env = [some (tD n hs), some (dR xs), some (.ref st.length), q3, q4, q5, q6, q7, q8] ∧ Gr st st' ∧ rdW st' st.length = some ((((List.range i).filter (ableB n hs xs)).map fun s => ((s : Nat) : Int)).map D.int))
    ⟨none, none, none, none, none, none, rfl, List.prefix_append _ _, by simp⟩ (fun _ _ _ _ _ => trivial) (by
      rintro i env st' hi ⟨q3, q4, q5, q6, q7, q8, rfl, g, w⟩
      have hi' : i < hs.length := by simpa using hi
      rw [enumD_at hi, List.getElem_map]
      have hl : (((List.range i).filter (ableB n hs xs)).map fun s => ((s : Nat) : Int)).length ≤ 6 := by
        rw [List.length_map]
        have := List.length_filter_le (ableB n hs xs) (List.range i)
        rw [List.length_range] at this
        omega
      obtain ⟨st2, e, st1, g1, e2⟩ := seen_turn T S hi' w hl (q4 := q4) (q5 := q5) (q8 := q8)
      refine ⟨_, _, _, _, rfl, e, _, _, _, _, _, _, rfl, ?_, ?_⟩
      · rw [e2]
        exact Gr.beyond (show Gr st st1 from g.trans g1) (Nat.le_refl _)
      · have w1 := rdW_gr g1 w
        rw [e2, rdW_set w1, List.range_succ, List.filter_append, List.map_append]
        congr 2
        by_cases q : ableB n hs xs i = true <;> simp [q])
  rw [enumD_len, List.length_map] at w
  have ix1 : ∀ st : Sto, oIx (tD n hs) (.int 1) st = .ok (.tup (hs.map hD)) st := fun st => by simp [tD, oIx]
  have e0 := sFor_enum (mr := aCons (m2 oIx (mVar 0) (mC (.int 1))) aNil) (g := DL.gTup (gsCons (gN 3) (gsCons (DL.gTup (gsCons (gN 6) (gsCons (gN 7) gsNil)) 2) gsNil)) 2) (mb := L1_law_seen_right) (env := [some (tD n hs), some (dR xs), some (.ref st.length), none, none, none, none, none, none]) (st := st ++ [Cl.lst []]) (st1 := st ++ [Cl.lst []]) (xs := hs.map hD) (by simp only [aCons, aNil, m2, mVar, mC, R.bind, noEx, ix1, List.getElem?_cons_zero]) e
  obtain ⟨st2, e1, g2⟩ := able_seats_ok T S st'
  have w2 : rdL st2 st.length = some ((able n hs xs).map D.int) := rdL_W (rdW_gr g2 w)
  have b := able_bd (xs := xs) T
  have p := repr_row b.1 b.2
  have c := oEq_str (row_ok b.1)
  refine ⟨st2, ?_, g.trans g2⟩
  unfold f_law_seen_right mDef b_law_seen_right
  simp only [sSeq, sAsg, mLst, aNil, R.bind, R.toS, RS.seq, List.length_nil, l0, if_true, gN, List.map_cons, List.map_nil, List.length_cons, List.replicate, List.cons_append, List.nil_append, Nat.reduceSub, Nat.reduceAdd, List.set_cons_zero, List.set_cons_succ] at e0 ⊢
  simp only [e0]
  simp only [sRet, m2, mFn, mCall, aCons, aNil, mVar, R.bind, R.toS, noEx, List.getElem?_cons_zero, List.getElem?_cons_succ, e1, p, bTuple, itemsD, w2, c]
end
end Pr
set_option Elab.async false
set_option linter.all false
set_option maxRecDepth 10000
namespace Pr
open PySem PySem.Spec PyProof.Rows L2 DL
abbrev F (n k j : Nat) : D := dR (Pt.dig n k j)
theorem rows_turn {n k i : Nat} {rf rm : Nat} (n1 : 1 ≤ n) (hb : (i + 1) * n ≤ 10000) {st : Sto} {q1 q3 q6 : Option D} (w : rdW st rm = some ((List.range (i * n)).map (F n (k + 1)))) (hk : k ≤ 1000) :
    ∃ st2, L1_law_rows [some (.int n), q1, some (.ref rf), q3, some (.ref rm), some (F n k i), q6] st = .nx [some (.int n), q1, some (.ref rf), q3, some (.ref rm), some (F n k i), q6] st2 ∧ ∃ st1, Gr st st1 ∧ st2 = st1.set rm (.lst ((List.range ((i + 1) * n)).map (F n (k + 1)))) := by
  have hz : (20000 : Nat) ≤ sizeLine := by decide
  have hn : n ≤ 10000 := Nat.le_trans (Nat.le_mul_of_pos_left n (by omega)) hb
  have hm : Mid (n : Int) := by unfold Mid; omega
  have hb2 : i * n + n ≤ 10000 := by rw [Nat.add_mul, Nat.one_mul] at hb; exact hb
  obtain ⟨st1, e1, g1⟩ := mLc_pure (mi := DL.iRng1 (aCons (mVar 0) aNil)) (g := gN 6) (mt := mYes) (me := E1_law_rows) (vs := [6]) (env := [some (.int n), q1, some (.ref rf), q3, some (.ref rm), some (F n k i), q6]) (st := st) (st1 := st) (ds := rngD 0 n) (gd := none) (fun _ => true) (fun d => .tup ((Pt.dig n k i).map D.int ++ [d]))
    (iRng1_nat (by simp [mDef, sRet, sRetN, sSeq, sNil, sIf, sAsg, sExpr, sPar, sAug, sNo, mAnd, mOr, mNot, mIf, m2, m1, mChain, mFn, mCall, mMeth, aCons, aNil, mVar, mC, mB, tmAnd, tmOr, tmNot, mTup, mLst, mSl, pNone, pSome, R.bind, R.toS, RS.seq, noEx, gN, gSet, DL.gTup, gsCons, gsNil, bType, kindD, bLen, bAbs, bInt, bMax2, bMin2, bTuple, bList, itemsD, oAdd, oSub, oMul, oDiv, oMod, oPow, oNeg, oLt, oLe, oGt, oGe, oLtT, oIs, oIsNot, DL.isNon, oIx, oAddI, sAsg2, oMulI, mChain3]) hm) trivial (by simp; omega) (by
      intro d hd st1 g1
      obtain ⟨s, hs', rfl⟩ := rng_of hd
      refine ⟨[some (.int n), q1, some (.ref rf), q3, some (.ref rm), some (F n k i), some (.int (s : Nat))], rfl, st1, rfl, List.prefix_refl _, fun _ => ⟨st1, ?_, List.prefix_refl _⟩⟩
      have l1 : k + 1 ≤ sizeLine := by omega
      have l0 : 1 ≤ sizeLine := by omega
      simp [E1_law_rows, mDef, sRet, sRetN, sSeq, sNil, sIf, sAsg, sExpr, sPar, sAug, sNo, mAnd, mOr, mNot, mIf, m2, m1, mChain, mFn, mCall, mMeth, aCons, aNil, mVar, mC, mB, tmAnd, tmOr, tmNot, mTup, mLst, mSl, pNone, pSome, R.bind, R.toS, RS.seq, noEx, gN, gSet, DL.gTup, gsCons, gsNil, bType, kindD, bLen, bAbs, bInt, bMax2, bMin2, bTuple, bList, itemsD, oAdd, oSub, oMul, oDiv, oMod, oPow, oNeg, oLt, oLe, oGt, oGe, oLtT, oIs, oIsNot, DL.isNon, oIx, oAddI, sAsg2, oMulI, mChain3, l0, l1])
  have e2 : ((rngD 0 n).filter fun _ => true).map (fun d => D.tup ((Pt.dig n k i).map D.int ++ [d])) = (List.range n).map fun j => dR (Pt.dig n k i ++ [((j : Nat) : Int)]) := by
    unfold rngD
    rw [List.filter_eq_self.mpr (fun _ _ => rfl), List.map_map]
    refine List.map_congr_left fun j _ => ?_
    simp
  rw [e2] at g1
  have w1 : rdW st1 rm = some ((List.range (i * n)).map (F n (k + 1))) := rdW_gr ((List.prefix_append _ _).trans g1) w
  have w2 : rdW st1 st.length = some ((List.range n).map fun j => dR (Pt.dig n k i ++ [((j : Nat) : Int)])) := rdW_gr g1 (rdW_new _ _)
  have e3 : ((List.range (i * n)).map (F n (k + 1))) ++ ((List.range n).map fun j => dR (Pt.dig n k i ++ [((j : Nat) : Int)])) = (List.range ((i + 1) * n)).map (F n (k + 1)) := by
    have := congrArg (List.map dR) (Pt.rows_more (n := n) (k := k) (q := i) (by omega))
    rw [List.map_append, List.map_map, List.map_map, List.map_map] at this
    exact this
  refine ⟨_, ?_, st1, (List.prefix_append _ _).trans g1, rfl⟩
  have e1' : mLc (DL.iRng1 (aCons (mVar 0) aNil)) (gN 6) mYes E1_law_rows [6] [some (.int n), q1, some (.ref rf), q3, some (.ref rm), some (F n k i), q6] st = _ := e1
  have hl : i * n + n ≤ sizeLine := by omega
  have rL : rdL st rm = some ((List.range (i * n)).map (F n (k + 1))) := rdL_W w
  unfold L1_law_rows
  simp only [sExpr, mMeth, aCons, aNil, e1', mVar, R.bind, R.toS, List.getElem?_cons_zero, List.getElem?_cons_succ, rL, fExtend, w1, w2, List.length_map, List.length_range, hl, if_true, e3, noEx]
theorem rows_ok {n k : Nat} (n1 : 1 ≤ n) (hb : n ^ k ≤ 10000) (hk : k ≤ 1000) (st : Sto) : ∃ r st', f_law_rows [.int n, .int k] st = .ok (.ref r) st' ∧ st.length ≤ r ∧ Gr st st' ∧ rdL st' r = some ((List.range (n ^ k)).map (F n k)) := by
  have hz : (20000 : Nat) ≤ sizeLine := by decide
  have hm : Mid (k : Int) := by unfold Mid; omega
  have l0 : 1 ≤ sizeLine := by omega
  obtain ⟨env', st', e, q3, q4, q5, q6, rf, rfl, hrf0, g, w⟩ := loopS_ok (ds := rngD 0 k) (gd := none) (g := gN 3) (mb := L2_law_rows) (env := [some (.int n), some (.int k), some (.ref st.length), none, none, none, none]) (st := st ++ [Cl.lst [.tup []]])
    (fun i env st' => ∃ (q3 q4 q5 q6 : Option D) (rf : Nat), env = [some (.int n), some (.int k), some (.ref rf), q3, q4, q5, q6] ∧ st.length ≤ rf ∧ Gr st st' ∧ rdL st' rf = some ((List.range (n ^ i)).map (F n i)))
    ⟨none, none, none, none, st.length, rfl, Nat.le_refl _, List.prefix_append _ _, by simp [List.range_succ, Pt.dig]⟩ (fun _ _ _ _ _ => trivial) (by
      rintro i env st1 hi ⟨q3, q4, q5, q6, rf, rfl, hrf0, g, w⟩
      have hi' : i < k := by simpa using hi
      rw [rngD_get hi]
      have hp : n ^ i * n ≤ 10000 := by
        rw [← Nat.pow_succ]
        exact Nat.le_trans (Nat.pow_le_pow_right (by omega) hi') hb
      have hrf := rdL_lt w
      obtain ⟨env2, st2, e2, p5, p6, rfl, g2, w2⟩ := loopS_ok (ds := (List.range (n ^ i)).map (F n i)) (gd := some rf) (g := gN 5) (mb := L1_law_rows) (env := [some (.int n), some (.int k), some (.ref rf), some (.int (i : Nat)), some (.ref st1.length), q5, q6]) (st := st1 ++ [Cl.lst []])
        (fun j env st' => ∃ (q5 q6 : Option D), env = [some (.int n), some (.int k), some (.ref rf), some (.int (i : Nat)), some (.ref st1.length), q5, q6] ∧ Gr st1 st' ∧ rdW st' st1.length = some ((List.range (j * n)).map (F n (i + 1))))
        ⟨q5, q6, rfl, List.prefix_append _ _, by simp⟩ (by
          rintro j env st2 hj ⟨_, _, _, g2, _⟩
          exact rdL_gr g2 w) (by
          rintro j env st2 hj ⟨p5, p6, rfl, g2, w2⟩
          have hj' : j < n ^ i := by simpa using hj
          rw [List.getElem_map, List.getElem_range]
          have hjb : (j + 1) * n ≤ 10000 := Nat.le_trans (Nat.mul_le_mul_right n hj') hp
          obtain ⟨st4, e4, st3, g3, rfl⟩ := rows_turn (rf := rf) (q1 := some (.int k)) (q3 := some (.int (i : Nat))) (q6 := p6) n1 hjb w2 (by omega)
          refine ⟨_, _, _, _, rfl, e4, _, _, rfl, Gr.beyond (show Gr st1 st3 from g2.trans g3) (Nat.le_refl _), ?_⟩
          exact rdW_set (rdW_gr g3 w2))
      rw [List.length_map, List.length_range] at w2
      have eF : sFor (DL.iVal (mVar 2)) (gN 5) L1_law_rows [some (.int n), some (.int k), some (.ref rf), some (.int (i : Nat)), some (.ref st1.length), q5, q6] (st1 ++ [Cl.lst []]) = _ :=
        sFor_lst (by simp [mVar]) (rdL_gr (List.prefix_append _ _) w) e2
      refine ⟨_, _, [some (.int n), some (.int k), some (.ref st1.length), some (.int (i : Nat)), some (.ref st1.length), p5, p6], st2, rfl, ?_, _, _, _, _, st1.length, rfl, Gr.len g, g.trans g2, ?_⟩
      · have z0 : 0 ≤ sizeLine := Nat.zero_le _
        unfold L2_law_rows
        simp only [sSeq, sAsg, mLst, aNil, R.bind, R.toS, RS.seq, List.length_nil, z0, if_true, gN, List.set_cons_zero, List.set_cons_succ, eF, mVar, List.getElem?_cons_zero, List.getElem?_cons_succ]
      · rw [rdL_W w2, Nat.pow_succ])
  rw [rngD_len] at w
  have e0 := sFor_rng (mr := aCons (mVar 1) aNil) (g := gN 3) (mb := L2_law_rows) (env := [some (.int n), some (.int k), some (.ref st.length), none, none, none, none]) (st := st ++ [Cl.lst [.tup []]]) (st1 := st ++ [Cl.lst [.tup []]]) (n := k) (by simp [mDef, sRet, sRetN, sSeq, sNil, sIf, sAsg, sExpr, sPar, sAug, sNo, mAnd, mOr, mNot, mIf, m2, m1, mChain, mFn, mCall, mMeth, aCons, aNil, mVar, mC, mB, tmAnd, tmOr, tmNot, mTup, mLst, mSl, pNone, pSome, R.bind, R.toS, RS.seq, noEx, gN, gSet, DL.gTup, gsCons, gsNil, bType, kindD, bLen, bAbs, bInt, bMax2, bMin2, bTuple, bList, itemsD, oAdd, oSub, oMul, oDiv, oMod, oPow, oNeg, oLt, oLe, oGt, oGe, oLtT, oIs, oIsNot, DL.isNon, oIx, oAddI, sAsg2, oMulI, mChain3]) hm e
  refine ⟨rf, st', ?_, hrf0, g, w⟩
  have z0 : 0 ≤ sizeLine := Nat.zero_le _
  unfold f_law_rows mDef b_law_rows
  simp only [sSeq, sAsg, sRet, mLst, mTup, aCons, aNil, R.bind, R.toS, RS.seq, List.length_nil, List.length_cons, Nat.zero_add, z0, l0, if_true, gN, List.map_cons, List.map_nil, List.replicate, List.cons_append, List.nil_append, Nat.reduceSub, Nat.reduceAdd, List.set_cons_zero, List.set_cons_succ] at e0 ⊢
  simp only [e0, mVar, List.getElem?_cons_zero, List.getElem?_cons_succ]
end Pr
set_option Elab.async false
set_option linter.all false
set_option maxRecDepth 10000
namespace Pr
open PySem PySem.Spec PyProof.Rows L2 DL
def fewN : List (Nat × Nat) := [(2, 1), (2, 2), (2, 3), (2, 4), (3, 1), (3, 2), (3, 3), (4, 2), (5, 1), (9, 1), (2, 5), (4, 1), (2, 6), (3, 4), (7, 2), (8, 1)]
def fewD (p : Nat × Nat) : D := .tup [.int (p.1 : Nat), .int (p.2 : Nat)]
theorem few_all : ∀ p ∈ fewN, 2 ≤ p.1 ∧ p.1 ≤ 9 ∧ 1 ≤ p.2 ∧ p.2 ≤ 6 ∧ p.1 ^ p.2 ≤ 729 := by decide
theorem few_ok {r : Nat} {st : Sto} (h : IsPool st r) : ∃ (n m : Nat) (st' : Sto), f_law_few [.ref r] st = .ok (.tup [.int n, .int m]) st' ∧ Ev r st st' ∧ 2 ≤ n ∧ n ≤ 9 ∧ 1 ≤ m ∧ m ≤ 6 ∧ n ^ m ≤ 729 := by
  have hz : (20 : Nat) ≤ sizeLine := by decide
  have l2 : 2 ≤ sizeLine := by omega
  have l3 : 3 ≤ sizeLine := by omega
  have l13 : 13 ≤ sizeLine := by omega
  have l16 : 16 ≤ sizeLine := by omega
  let st1 := st ++ [Cl.lst ((fewN.take 13).map fewD)]
  let st2 := st1 ++ [Cl.lst ((fewN.drop 13).map fewD)]
  let st3 := st2 ++ [Cl.lst (fewN.map fewD)]
  have g1 : Gr st st1 := List.prefix_append _ _
  have g2 : Gr st1 st2 := List.prefix_append _ _
  have g3 : Gr st2 st3 := List.prefix_append _ _
  have ev := Ev.gr h ((g1.trans g2).trans g3)
  obtain ⟨v, st4, e, v0, v1, ev4⟩ := take_of (m := 16) ev.pool (by decide) (by decide)
  obtain ⟨k, rfl⟩ : ∃ k : Nat, v = k := ⟨v.toNat, by omega⟩
  have hk : k < fewN.length := by show k < 16; omega
  have w3 : rdL st3 st2.length = some (fewN.map fewD) := rdL_new _ _
  have hr := h.lt
  have w4 : rdL st4 st2.length = some (fewN.map fewD) := ev4.rdL w3 (by simp [st2, st1]; omega)
  have c := few_all fewN[k] (List.getElem_mem hk)
  refine ⟨fewN[k].1, fewN[k].2, st4, ?_, ev.trans ev4, c⟩
  have a : L2.atI (fewN.map fewD) (k : Int) = some (fewD fewN[k]) := atI_at (by simp [hk])
  have eA : mLst (aCons (mTup (aCons (mC (.int 2)) (aCons (mC (.int 1)) aNil))) (aCons (mTup (aCons (mC (.int 2)) (aCons (mC (.int 2)) aNil))) (aCons (mTup (aCons (mC (.int 2)) (aCons (mC (.int 3)) aNil))) (aCons (mTup (aCons (mC (.int 2)) (aCons (mC (.int 4)) aNil))) (aCons (mTup (aCons (mC (.int 3)) (aCons (mC (.int 1)) aNil))) (aCons (mTup (aCons (mC (.int 3)) (aCons (mC (.int 2)) aNil))) (aCons (mTup (aCons (mC (.int 3)) (aCons (mC (.int 3)) aNil))) (aCons (mTup (aCons (mC (.int 4)) (aCons (mC (.int 2)) aNil))) (aCons (mTup (aCons (mC (.int 5)) (aCons (mC (.int 1)) aNil))) (aCons (mTup (aCons (mC (.int 9)) (aCons (mC (.int 1)) aNil))) (aCons (mTup (aCons (mC (.int 2)) (aCons (mC (.int 5)) aNil))) (aCons (mTup (aCons (mC (.int 4)) (aCons (mC (.int 1)) aNil))) (aCons (mTup (aCons (mC (.int 2)) (aCons (mC (.int 6)) aNil))) aNil)))))))))))))
    [some (.ref r), none] st = .ok (.ref st.length) st1 := by
    simp [mLst, mTup, aCons, aNil, mC, R.bind, l2, l13, st1, fewN, fewD]
  have eB : mLst (aCons (mTup (aCons (mC (.int 3)) (aCons (mC (.int 4)) aNil))) (aCons (mTup (aCons (mC (.int 7)) (aCons (mC (.int 2)) aNil))) (aCons (mTup (aCons (mC (.int 8)) (aCons (mC (.int 1)) aNil))) aNil)))
    [some (.ref r), some (.ref st.length)] st1 = .ok (.ref st1.length) st2 := by
    simp [mLst, mTup, aCons, aNil, mC, R.bind, l2, l3, st2, fewN, fewD]
  have w5 : rdW st2 st.length = some ((fewN.take 13).map fewD) := rdW_gr g2 (rdW_new _ _)
  have w6 : rdW st2 st1.length = some ((fewN.drop 13).map fewD) := rdW_new _ _
  have hl : ((fewN.take 13).map fewD).length + ((fewN.drop 13).map fewD).length ≤ sizeLine := by
    have : ((fewN.take 13).map fewD).length + ((fewN.drop 13).map fewD).length = 16 := rfl
    omega
  have eC : ((fewN.take 13).map fewD) ++ ((fewN.drop 13).map fewD) = fewN.map fewD := rfl
  unfold f_law_few mDef b_law_few
  simp only [sSeq, sAsg, sRet, List.map_cons, List.map_nil, List.length_cons, List.length_nil, List.replicate, List.cons_append, List.nil_append, Nat.reduceSub, Nat.reduceAdd, eA, R.toS, RS.seq, gN, List.set_cons_zero, List.set_cons_succ]
  have e' : mCall f_law_take (aCons (mVar 0) (aCons (mC (.int 16)) aNil)) [some (.ref r), some (.ref st.length)] st3 = .ok (.int k) st4 := by
    simp only [mCall, aCons, aNil, mVar, mC, R.bind, List.getElem?_cons_zero, e]
  have eD : m2 oAdd (mVar 1) (mLst (aCons (mTup (aCons (mC (.int 3)) (aCons (mC (.int 4)) aNil))) (aCons (mTup (aCons (mC (.int 7)) (aCons (mC (.int 2)) aNil))) (aCons (mTup (aCons (mC (.int 8)) (aCons (mC (.int 1)) aNil))) aNil)))) [some (.ref r), some (.ref st.length)] st1 = .ok (.ref st2.length) st3 := by
    have : ∀ (mb : En → Sto → R D) (env : En) (b : D) (s1 s3 : Sto), mb env s1 = .ok b s3 → env[1]? = some (some (.ref st.length)) → m2 oAdd (mVar 1) mb env s1 = noEx (oAdd (.ref st.length) b s3) := fun mb env b s1 s3 h1 h2 => by simp only [m2, mVar, h1, h2, R.bind]
    rw [this _ _ _ _ _ eB rfl]
    simp only [oAdd, w5, w6, hl, if_true, noEx, eC]
    rfl
  have : ∀ (ma mb : En → Sto → R D) (env : En) (a b : D) (s1 s2 s3 : Sto), ma env s1 = .ok a s2 → mb env s2 = .ok b s3 → m2 oIx ma mb env s1 = noEx (oIx a b s3) := fun ma mb env a b s1 s2 s3 h1 h2 => by simp only [m2, h1, h2, R.bind]
  rw [this _ _ _ _ _ _ _ _ eD e']
  simp only [oIx, w4, a, noEx]
  rfl
end Pr
set_option Elab.async false
set_option linter.all false
set_option maxRecDepth 10000
namespace Pr
open PySem PySem.Spec PyProof.Rows L2 DL
theorem perm_eraseIdx : ∀ {l : List Int} {i : Nat} (h : i < l.length), (l[i] :: l.eraseIdx i).Perm l
  | a :: l, 0, h => List.Perm.refl _
  | a :: l, i + 1, h => (List.Perm.swap a (l[i]'(by simpa using h)) _).trans ((perm_eraseIdx (l := l) (i := i) (by simpa using h)).cons a)
theorem map_eraseIdx {f : Int → D} : ∀ (l : List Int) (i : Nat), (l.map f).eraseIdx i = (l.eraseIdx i).map f
  | [], i => rfl
  | a :: l, 0 => rfl
  | a :: l, i + 1 => by simp [map_eraseIdx l i]
/-- what stands while looks are drawn -/
structure Nr (r rl rf : Nat) (st1 : Sto) (as ls base : List Int) (st : Sto) : Prop where
  ev : Ev r st1 st
  l : rdW st rl = some (ls.map D.int)
  a : rdW st rf = some (as.map D.int)
  p : (as ++ ls).Perm base
theorem near_turn {r rl rf : Nat} {st1 st : Sto} {as ls base : List Int} (h : Nr r rl rf st1 as ls base st) (hb : base.length ≤ 100) (hl : 0 < ls.length) (hr : r < st1.length) (h1 : st1.length ≤ rl) (h2 : st1.length ≤ rf) (h3 : rl ≠ rf) {q1 q2 q4 q6 : Option D} :
    ∃ y ls' st2, L1_law_near [some (.ref r), q1, q2, some (.ref rl), q4, some (.ref rf), q6] st = .nx [some (.ref r), q1, q2, some (.ref rl), q4, some (.ref rf), q6] st2 ∧ Nr r rl rf st1 (as ++ [y]) ls' base st2 ∧ ls'.length + 1 = ls.length := by
  have hz : (1000 : Nat) < sizeLine := by decide
  have hlen : as.length + ls.length = base.length := by
    have := h.p.length_eq
    rw [List.length_append] at this
    exact this
  obtain ⟨v, st2, e, v0, v1, ev⟩ := take_of (m := (ls.length : Nat)) h.ev.pool (by omega) (by omega)
  have wl := ev.rdW h.l (by omega)
  have wa := ev.rdW h.a (by omega)
  obtain ⟨i, rfl⟩ : ∃ i : Nat, v = i := ⟨v.toNat, by omega⟩
  have hi : i < ls.length := by omega
  have sq : seqIndex? (i : Int) (ls.map D.int).length = some i := by
    have := PySem.seqIndex_of (k := (i : Int)) (n := (ls.map D.int).length) (by omega) (by rw [List.length_map]; omega)
    simpa using this
  rw [List.length_map] at sq
  have hbd : -(2 ^ 63) ≤ (i : Int) ∧ (i : Int) < 2 ^ 63 := by omega
  have g : (ls.map D.int)[i]? = some (.int ls[i]) := by simp [hi]
  have ei : (ls.map D.int).eraseIdx i = (ls.eraseIdx i).map D.int := map_eraseIdx ls i
  have w2 : rdW (st2.set rl (.lst ((ls.eraseIdx i).map D.int))) rf = some (as.map D.int) := rdW_setne (Ne.symm h3) wa
  have la : as.length < sizeLine := by omega
  refine ⟨ls[i], ls.eraseIdx i, (st2.set rl (.lst ((ls.eraseIdx i).map D.int))).set rf (.lst (as.map D.int ++ [.int ls[i]])), ?_, ⟨?_, ?_, ?_, ?_⟩, ?_⟩
  · have el := rdL_W h.l
    have ea := rdL_W h.a
    have el2 := rdL_W wl
    unfold L1_law_near
    simp only [sExpr, mMeth, mVar, mCall, mFn, aCons, aNil, bLen, R.bind, R.toS, noEx, List.getElem?_cons_zero, List.getElem?_cons_succ, el, ea, List.length_map, e]
    simp only [el2, fPop, wl, sq, if_pos hbd, g, ei, fAppend, w2, List.length_map, la, if_true]
  · exact ((h.ev.trans ev).beyond h1 hr).beyond h2 hr
  · exact rdW_setne h3 (rdW_set wl)
  · rw [rdW_set w2]; simp
  · have mem : ls[i] ∈ ls := List.getElem_mem hi
    refine List.Perm.trans ?_ h.p
    rw [List.append_assoc]
    exact List.Perm.append_left as (perm_eraseIdx hi)
  · rw [List.length_eraseIdx_of_lt hi]; omega
theorem near_ok {r : Nat} {s m : Nat} {st : Sto} (h : IsPool st r) (hs : s < m) (hm : m ≤ 12) : ∃ (xs : List Int) (st' : Sto), f_law_near [.ref r, .int s, .int m] st = .ok (dR xs) st' ∧ Ev r st st' ∧ xs.Nodup ∧ (∀ x : Int, x ∈ xs → 0 ≤ x ∧ x < (m : Int) ∧ x ≠ (s : Int)) ∧ xs.length < m := by
  have hz : (1000 : Nat) < sizeLine := by decide
  have hmid : Mid (m : Int) := by unfold Mid; omega
  have hr := h.lt
  have z0 : 0 ≤ sizeLine := Nat.zero_le _
  obtain ⟨base, hbase⟩ : ∃ base, base = ((List.range m).filter fun j => decide (j ≠ s)).map fun j : Nat => (j : Int) := ⟨_, rfl⟩
  obtain ⟨st1, e1, g1⟩ := mLc_pure (mi := DL.iRng1 (aCons (mVar 2) aNil)) (g := gN 4) (mt := C1_law_near) (me := E1_law_near) (vs := [4]) (env := [some (.ref r), some (.int s), some (.int m), none, none, none, none]) (st := st) (st1 := st) (ds := rngD 0 m) (gd := none) (fun d => !decide (DL.intD d = (s : Int))) (fun d => d)
    (iRng1_nat (by simp [mDef, sRet, sRetN, sSeq, sNil, sIf, sAsg, sExpr, sPar, sAug, sNo, mAnd, mOr, mNot, mIf, m2, m1, mChain, mFn, mCall, mMeth, aCons, aNil, mVar, mC, mB, tmAnd, tmOr, tmNot, mTup, mLst, mSl, pNone, pSome, R.bind, R.toS, RS.seq, noEx, gN, gSet, DL.gTup, gsCons, gsNil, bType, kindD, bLen, bAbs, bInt, bMax2, bMin2, bTuple, bList, itemsD, oAdd, oSub, oMul, oDiv, oMod, oPow, oNeg, oLt, oLe, oGt, oGe, oLtT, oIs, oIsNot, DL.isNon, oIx, oAddI, sAsg2, oMulI, mChain3]) hmid) trivial (by simp; omega) (by
      intro d hd st1 g1
      obtain ⟨j, hj, rfl⟩ := rng_of hd
      refine ⟨[some (.ref r), some (.int s), some (.int m), none, some (.int (j : Nat)), none, none], rfl, st1, ?_, List.prefix_refl _, fun _ => ⟨st1, rfl, List.prefix_refl _⟩⟩
      simp [C1_law_near, mDef, sRet, sRetN, sSeq, sNil, sIf, sAsg, sExpr, sPar, sAug, sNo, mAnd, mOr, mNot, mIf, m2, m1, mChain, mFn, mCall, mMeth, aCons, aNil, mVar, mC, mB, tmAnd, tmOr, tmNot, mTup, mLst, mSl, pNone, pSome, R.bind, R.toS, RS.seq, noEx, gN, gSet, DL.gTup, gsCons, gsNil, bType, kindD, bLen, bAbs, bInt, bMax2, bMin2, bTuple, bList, itemsD, oAdd, oSub, oMul, oDiv, oMod, oPow, oNeg, oLt, oLe, oGt, oGe, oLtT, oIs, oIsNot, DL.isNon, oIx, oAddI, sAsg2, oMulI, mChain3, oNe_int, DL.intD]
      try exact decide_eq_decide.mpr Iff.rfl)
  have e2 : ((rngD 0 m).filter fun d => !decide (DL.intD d = (s : Int))).map (fun d => d) = base.map D.int := by
    rw [hbase]
    unfold rngD
    rw [List.filter_map, List.map_map, List.map_map]
    congr 1
    · funext j; simp [Function.comp]
    · congr 1
      funext j
      simp [Function.comp, DL.intD]
      omega
  rw [e2] at g1
  have gA : Gr st st1 := (List.prefix_append _ _).trans g1
  have w1 : rdW st1 st.length = some (base.map D.int) := rdW_gr g1 (rdW_new _ _)
  have bl : base.length < m := by
    rw [hbase, List.length_map]
    refine Nat.lt_of_lt_of_eq (List.length_filter_lt_length_iff_exists.mpr ⟨s, List.mem_range.mpr hs, by simp⟩) (by simp)
  have bn : base.Nodup := by
    rw [hbase]
    refine List.Pairwise.map _ (fun a b hab => ?_) (List.nodup_range.filter _)
    intro e; exact hab (by omega)
  have bm : ∀ x : Int, x ∈ base → 0 ≤ x ∧ x < (m : Int) ∧ x ≠ (s : Int) := by
    intro x hx
    rw [hbase] at hx
    obtain ⟨j, hj, rfl⟩ := List.mem_map.mp hx
    obtain ⟨a, b⟩ := List.mem_filter.mp hj
    rw [List.mem_range] at a
    have b' : j ≠ s := by simpa using b
    omega
  let st2 := st1 ++ [Cl.lst []]
  have gB : Gr st st2 := gA.trans (List.prefix_append _ _)
  have evB := Ev.gr h gB
  obtain ⟨v, st3, e3, v0, v1, ev3⟩ := take_of (m := (base.length + 1 : Nat)) evB.pool (by omega) (by omega)
  obtain ⟨k, rfl⟩ : ∃ k : Nat, v = k := ⟨v.toNat, by omega⟩
  have hk : k ≤ base.length := by omega
  have l1 := gA.len
  have w2 : rdW st2 st.length = some (base.map D.int) := rdW_gr (List.prefix_append _ _) w1
  have w3 : rdW st3 st.length = some (base.map D.int) := ev3.rdW w2 (by omega)
  have w4 : rdW st3 st1.length = some [] := ev3.rdW (rdW_new _ _) (by omega)
  have lt1 : st.length < st1.length := by have := rdW_lt w1; exact this
  obtain ⟨env', st4, e4, as, ls, q6, rfl, N, hl⟩ := loopS_ok (ds := rngD 0 k) (gd := none) (g := gN 6) (mb := L1_law_near) (env := [some (.ref r), some (.int s), some (.int m), some (.ref st.length), none, some (.ref st1.length), none]) (st := st3)
    (fun i env st' => ∃ (as ls : List Int) (q6 : Option D), env = [some (.ref r), some (.int s), some (.int m), some (.ref st.length), none, some (.ref st1.length), q6] ∧ Nr r st.length st1.length st as ls base st' ∧ ls.length + i = base.length)
    ⟨[], base, none, rfl, ⟨evB.trans ev3, w3, w4, List.Perm.refl _⟩, rfl⟩ (fun _ _ _ _ _ => trivial) (by
      rintro i env st' hi ⟨as, ls, q6, rfl, N, hl⟩
      rw [rngD_get hi]
      rw [rngD_len] at hi
      obtain ⟨y, ls', st5, e5, N5, hl5⟩ := near_turn (q1 := some (.int s)) (q2 := some (.int m)) (q4 := none) (q6 := some (.int (i : Nat))) N (by omega) (by omega) hr (Nat.le_refl _) (by omega) (by omega)
      exact ⟨_, _, _, _, rfl, e5, _, _, _, rfl, N5, by omega⟩)
  have nd := (N.p.nodup_iff.mpr bn)
  have mem : ∀ x : Int, x ∈ as → x ∈ base := fun x hx => N.p.mem_iff.mp (List.mem_append_left _ hx)
  refine ⟨as, st4, ?_, N.ev, (List.nodup_append.mp nd).1, fun x hx => bm x (mem x hx), ?_⟩
  · have kmid : Mid (k : Int) := by unfold Mid; omega
    have rl2 : rdL st2 st.length = some (base.map D.int) := rdL_W w2
    have eT : mCall f_law_take (aCons (mVar 0) (aCons (m2 oAdd (mFn bLen (aCons (mVar 3) aNil)) (mC (.int 1))) aNil)) [some (.ref r), some (.int s), some (.int m), some (.ref st.length), none, some (.ref st1.length), none] st2 = .ok (.int k) st3 := by
      have : ((base.length : Nat) : Int) + 1 = ((base.length + 1 : Nat) : Int) := by omega
      simp only [mCall, mFn, m2, mVar, mC, aCons, aNil, bLen, oAdd, R.bind, noEx, List.getElem?_cons_zero, List.getElem?_cons_succ, rl2, List.length_map, this, e3]
    have e0 := sFor_rng (mr := aCons (mCall f_law_take (aCons (mVar 0) (aCons (m2 oAdd (mFn bLen (aCons (mVar 3) aNil)) (mC (.int 1))) aNil))) aNil) (g := gN 6) (mb := L1_law_near) (env := [some (.ref r), some (.int s), some (.int m), some (.ref st.length), none, some (.ref st1.length), none]) (st := st2) (st1 := st3) (n := k) (by
      have : ∀ (ma : En → Sto → R D) (env : En) (a : D) (s1 s2 : Sto), ma env s1 = .ok a s2 → aCons ma aNil env s1 = .ok [a] s2 := fun ma env a s1 s2 h1 => by simp only [aCons, aNil, h1, R.bind]
      exact this _ _ _ _ _ eT) kmid e4
    have wa := rdL_W N.a
    have e1' : mLc (DL.iRng1 (aCons (mVar 2) aNil)) (gN 4) C1_law_near E1_law_near [4] [some (.ref r), some (.int s), some (.int m), none, none, none, none] st = _ := e1
    unfold f_law_near mDef b_law_near
    simp only [sSeq, sAsg, sRet, List.map_cons, List.map_nil, List.length_cons, List.length_nil, List.replicate, List.cons_append, List.nil_append, Nat.reduceSub, Nat.reduceAdd, e1', R.toS, RS.seq, gN, List.set_cons_zero, List.set_cons_succ]
    simp only [mLst, aNil, R.bind, List.length_nil, z0, if_true, R.toS, RS.seq, List.set_cons_zero, List.set_cons_succ]
    rw [show st1 ++ [Cl.lst []] = st2 from rfl]
    simp only [e0]
    simp only [mFn, aCons, aNil, mVar, R.bind, R.toS, List.getElem?_cons_zero, List.getElem?_cons_succ, bTuple, itemsD, wa, noEx]
  · have := N.p.length_eq
    rw [List.length_append] at this
    omega
end Pr
set_option Elab.async false
set_option linter.all false
set_option maxRecDepth 10000
namespace Pr
open PySem PySem.Spec PyProof.Rows L2 DL
theorem marks_draw {r n : Nat} {own often : Int} {st : Sto} (h : IsPool st r) (hn : n ≤ 100) (o0 : 0 < often) (o1 : often < 100) :
    ∃ (xs : List Int) (st' : Sto), f_law_marks [.ref r, .int n, .int own, .int often] st = .ok (dR xs) st' ∧ Ev r st st' ∧ xs.Pairwise (· < ·) ∧ ∀ x : Int, x ∈ xs → 0 ≤ x ∧ x < (n : Int) ∧ x ≠ own := by
  have hz : (1000 : Nat) < sizeLine := by decide
  have hmid : Mid (n : Int) := by unfold Mid; omega
  have hr := h.lt
  obtain ⟨acc, st', e, as, rfl, hp, hb, w, ev⟩ := loopC_ok (ds := rngD 0 n) (gd := none) (g := gN 4) (mt := C1_law_marks) (me := E1_law_marks) (env0 := [some (.ref r), some (.int n), some (.int own), some (.int often), none]) (r0 := st.length) (st := st ++ [Cl.lst []])
    (fun i acc st' => ∃ as : List Int, acc = as.map D.int ∧ as.Pairwise (· < ·) ∧ (∀ x : Int, x ∈ as → 0 ≤ x ∧ x < (i : Int) ∧ x ≠ own) ∧ rdW st' st.length = some (as.map D.int) ∧ Ev r st st')
    ⟨[], rfl, List.Pairwise.nil, fun x hx => (by cases hx), by simp, Ev.gr h (List.prefix_append _ _)⟩ (by
      rintro i acc st' ⟨as, rfl, hp, hb, w, ev⟩
      refine ⟨w, ?_⟩
      rw [List.length_map]
      exact Pt.rise_len hp fun x hx => ⟨(hb x hx).1, (hb x hx).2.1⟩) (by rw [rngD_len]; omega) (fun _ _ _ _ _ => trivial) (by
      rintro i acc st' hi ⟨as, rfl, hp, hb, w, ev⟩
      rw [rngD_get hi]
      refine ⟨[some (.ref r), some (.int n), some (.int own), some (.int often), some (.int (i : Nat))], st', rfl, ?_⟩
      have n1 := oNe_int (i : Int) own st'
      by_cases q : (i : Int) = own
      · refine .inl ⟨st', ?_, as, rfl, hp, fun x hx => by have := hb x hx; omega, w, ev⟩
        have n2 : oNe (.int (i : Nat)) (.int own) st' = .ok (.bl false) st' := by rw [n1]; simp [q]
        simp only [C1_law_marks, tmAnd, mB, m2, mVar, R.bind, noEx, List.getElem?_cons_zero, List.getElem?_cons_succ, n2, Bool.false_eq_true, if_false]
      · obtain ⟨v, st2, e2, v0, v1, ev2⟩ := take_of (m := often) ev.pool o0 (by omega)
        have hq : (!decide ((i : Int) = own)) = true := by simp [q]
        by_cases v00 : v = 0
        · have w2 := ev2.rdW w (by omega)
          refine .inr ⟨st2, .int (i : Nat), st2, ?_, rfl, w2, as ++ [(i : Int)], by simp, ?_, ?_, ?_, ?_⟩
          · simp only [C1_law_marks, tmAnd, mB, m2, mCall, aCons, aNil, mVar, mC, R.bind, noEx, List.getElem?_cons_zero, List.getElem?_cons_succ, n1, hq, if_true, e2, oEq_int, v00, decide_true]
          · refine List.pairwise_append.mpr ⟨hp, List.pairwise_singleton _ _, fun a ha b hb' => ?_⟩
            rw [List.mem_singleton.mp hb']
            exact (hb a ha).2.1
          · intro x hx
            rcases List.mem_append.mp hx with q2 | q2
            · have := hb x q2; omega
            · rw [List.mem_singleton.mp q2]; omega
          · rw [rdW_set w2]; simp
          · exact (ev.trans ev2).beyond (Nat.le_refl _) hr
        · refine .inl ⟨st2, ?_, as, rfl, hp, fun x hx => by have := hb x hx; omega, ev2.rdW w (by omega), ev.trans ev2⟩
          simp only [C1_law_marks, tmAnd, mB, m2, mCall, aCons, aNil, mVar, mC, R.bind, noEx, List.getElem?_cons_zero, List.getElem?_cons_succ, n1, hq, if_true, e2, oEq_int, v00, decide_false])
  rw [rngD_len] at hb
  refine ⟨as, st', ?_, ev, hp, hb⟩
  have e0 : DL.iRng1 (aCons (mVar 1) aNil) [some (.ref r), some (.int n), some (.int own), some (.int often), none] st = .ok (rngD 0 n, none) st := iRng1_nat (by simp [mDef, sRet, sRetN, sSeq, sNil, sIf, sAsg, sExpr, sPar, sAug, sNo, mAnd, mOr, mNot, mIf, m2, m1, mChain, mFn, mCall, mMeth, aCons, aNil, mVar, mC, mB, tmAnd, tmOr, tmNot, mTup, mLst, mSl, pNone, pSome, R.bind, R.toS, RS.seq, noEx, gN, gSet, DL.gTup, gsCons, gsNil, bType, kindD, bLen, bAbs, bInt, bMax2, bMin2, bTuple, bList, itemsD, oAdd, oSub, oMul, oDiv, oMod, oPow, oNeg, oLt, oLe, oGt, oGe, oLtT, oIs, oIsNot, DL.isNon, oIx, oAddI, sAsg2, oMulI, mChain3]) hmid
  have eL : mLc (DL.iRng1 (aCons (mVar 1) aNil)) (gN 4) C1_law_marks E1_law_marks [4] [some (.ref r), some (.int n), some (.int own), some (.int often), none] st = .ok (.ref st.length) st' := by
    simp only [mLc, e0, R.bind, wipeE, List.set_cons_zero, List.set_cons_succ]
    exact e
  have w' := rdL_W w
  unfold f_law_marks mDef b_law_marks
  simp only [sRet, mFn, aCons, aNil, List.map_cons, List.map_nil, List.length_cons, List.length_nil, List.replicate, List.cons_append, List.nil_append, Nat.reduceSub, Nat.reduceAdd, eL, R.bind, bTuple, itemsD, w', noEx, R.toS]
def rowOf : D → List Int
  | .tup xs => xs.map DL.intD
  | _ => []
theorem rowOf_dR (xs : List Int) : rowOf (dR xs) = xs := by
  simp only [rowOf, List.map_map]
  exact (List.map_congr_left (fun x _ => rfl)).trans (List.map_id xs)
theorem rows_of {ys : List D} {P : Nat → List Int → Prop} (h : ∀ i y, ys[i]? = some y → ∃ rw : List Int, y = dR rw ∧ P i rw) : ∃ rws : List (List Int), ys = rws.map dR ∧ rws.length = ys.length ∧ ∀ (j : Nat) (rw : List Int), rws[j]? = some rw → P j rw := by
  refine ⟨ys.map rowOf, ?_, by simp, fun j rw hj => ?_⟩
  · refine List.ext_getElem? fun i => ?_
    rw [List.getElem?_map, List.getElem?_map]
    cases q : ys[i]? with
    | none => rfl
    | some y =>
      obtain ⟨rw, rfl, _⟩ := h i y q
      simp [rowOf_dR]
  · rw [List.getElem?_map] at hj
    cases q : ys[j]? with
    | none => rw [q] at hj; cases hj
    | some y =>
      obtain ⟨rw', rfl, hp⟩ := h j y q
      rw [q] at hj
      simp [rowOf_dR] at hj
      subst hj
      exact hp
theorem table_turn {r rf n m s : Nat} {often : Int} {st0 st : Sto} {hs : List Hand} (ev : Ev r st0 st) (hr : r < st0.length) (hrf : st0.length ≤ rf) (w : rdW st rf = some (hs.map hD)) (hl : hs.length = s) (hs' : s < m) (m6 : m ≤ 6) (n2 : 2 ≤ n) (n9 : n ≤ 9) (few : n ^ m ≤ 729) (o0 : 0 < often) (o1 : often < 100) {q6 q7 : Option D} :
    ∃ (h : Hand) (st2 : Sto) (p6 : Option D), L1_law_table [some (.ref r), some (.int n), some (.int m), some (.int often), some (.ref rf), some (.int s), q6, q7] st = .nx [some (.ref r), some (.int n), some (.int m), some (.int often), some (.ref rf), some (.int s), p6, q7] st2 ∧
      Ev r st0 st2 ∧ rdW st2 rf = some ((hs ++ [h]).map hD) ∧ HdOk n m s h ∧ h.1.length < m := by
  have hz : (20000 : Nat) ≤ sizeLine := by decide
  have hz2 : (10000 : Nat) < sizeLine := by omega
  obtain ⟨near, st1, e1, ev1, nd, nb, nl⟩ := near_ok ev.pool hs' (by omega)
  have hp : n ^ (1 + near.length) ≤ 729 := Nat.le_trans (Nat.pow_le_pow_right (by omega) (by omega)) few
  obtain ⟨rr, st2, e2, hrr, g2, w2⟩ := rows_ok (n := n) (k := 1 + near.length) (by omega) (by omega) (by omega) st1
  have evA := ev.trans ev1
  have evB := evA.trans (Ev.gr evA.pool g2)
  have hne : rr ≠ r := by have := evA.len; omega
  obtain ⟨L, hL⟩ : ∃ L, L = near.length := ⟨_, rfl⟩
  have hp2 : n ^ (L + 1) ≤ 729 := by rw [hL, Nat.add_comm]; exact hp
  have hrowsL : ((List.range (n ^ (1 + near.length))).map (F n (1 + near.length))).length = n ^ (1 + near.length) := by simp
  have eI : DL.iVal (mCall f_law_rows (aCons (mVar 1) (aCons (m2 oAdd (mC (.int 1)) (mFn bLen (aCons (mVar 6) aNil))) aNil))) [some (.ref r), some (.int n), some (.int m), some (.int often), some (.ref rf), some (.int s), some (dR near), q7] st1 = .ok ((List.range (n ^ (1 + near.length))).map (F n (1 + near.length)), some rr) st2 := by
    have : (1 : Int) + ((near.length : Nat) : Int) = ((1 + near.length : Nat) : Int) := by omega
    simp only [DL.iVal, mCall, mFn, m2, mVar, mC, aCons, aNil, bLen, oAdd, R.bind, noEx, List.getElem?_cons_zero, List.getElem?_cons_succ, List.length_map, this, e2, w2]
  obtain ⟨ys, st3, e3, w3, yl, yp, ev3⟩ := mLc_pool (mi := DL.iVal (mCall f_law_rows (aCons (mVar 1) (aCons (m2 oAdd (mC (.int 1)) (mFn bLen (aCons (mVar 6) aNil))) aNil)))) (g := gN 7) (me := E1_law_table) (vs := [7]) (env := [some (.ref r), some (.int n), some (.int m), some (.int often), some (.ref rf), some (.int s), some (dR near), q7]) (st := st1) (st1 := st2) (ds := (List.range (n ^ (1 + near.length))).map (F n (1 + near.length))) (gd := some rr) (r := r)
    (fun j y => ∃ rw : List Int, y = dR rw ∧ (rw.Pairwise (· < ·) ∧ ∀ x : Int, x ∈ rw → 0 ≤ x ∧ x < (n : Int) ∧ x ≠ ((j / n ^ near.length : Nat) : Int))) eI w2 (fun q => hne (Option.some.inj q)) (by rw [hrowsL]; omega) evB.pool (by
      intro j hj st' evj
      rw [hrowsL] at hj
      rw [List.getElem_map, List.getElem_range]
      have hd : (Pt.dig n (1 + near.length) j)[0]? = some (((j / n ^ near.length : Nat) : Int)) := by
        rw [Nat.add_comm 1 near.length]
        exact Pt.dig_head (by omega) _ j (by rw [Nat.add_comm]; exact hj)
      have a0 : L2.atI ((Pt.dig n (1 + near.length) j).map D.int) (0 : Int) = some (.int ((j / n ^ near.length : Nat) : Int)) := by
        have := atI_at (xs := (Pt.dig n (1 + near.length) j).map D.int) (i := 0) (d := .int ((j / n ^ near.length : Nat) : Int)) (by rw [List.getElem?_map, hd]; rfl)
        exact this
      obtain ⟨rw', st4, e4, ev4, pw, pb⟩ := marks_draw (n := n) (own := ((j / n ^ near.length : Nat) : Int)) evj.pool (by omega) o0 o1
      refine ⟨[some (.ref r), some (.int n), some (.int m), some (.int often), some (.ref rf), some (.int s), some (dR near), some (F n (1 + near.length) j)], rfl, dR rw', st4, ?_, ev4, rw', rfl, pw, pb⟩
      simp only [E1_law_table, mCall, m2, mVar, mC, aCons, aNil, oIx, R.bind, noEx, List.getElem?_cons_zero, List.getElem?_cons_succ, a0, e4])
  obtain ⟨rws, rfl, rl, rp⟩ := rows_of yp
  rw [List.length_map, List.length_map, List.length_range] at yl
  have evC := evB.trans ev3
  have wB : rdW st1 rf = some (hs.map hD) := ev1.rdW w (by omega)
  have wC : rdW st3 rf = some (hs.map hD) := ev3.rdW (rdW_gr g2 wB) (by omega)
  have rf0 : rdL st1 rf = some (hs.map hD) := rdL_W wB
  have w3' := rdL_W w3
  have hl2 : hs.length < sizeLine := by omega
  refine ⟨(near, rws), st3.set rf (.lst (hs.map hD ++ [hD (near, rws)])), some (dR near), ?_, evC.beyond hrf hr, by rw [rdW_set wC]; simp, ⟨by show near.length ≤ 5; omega, nb, nd, yl, rp⟩, nl⟩
  have eL : mLc (DL.iVal (mCall f_law_rows (aCons (mVar 1) (aCons (m2 oAdd (mC (.int 1)) (mFn bLen (aCons (mVar 6) aNil))) aNil)))) (gN 7) mYes E1_law_table [7] [some (.ref r), some (.int n), some (.int m), some (.int often), some (.ref rf), some (.int s), some (dR near), q7] st1 = _ := e3
  have l2 : 2 ≤ sizeLine := by omega
  unfold L1_law_table
  simp only [sSeq, sAsg, mCall, mVar, aCons, aNil, R.bind, R.toS, RS.seq, List.getElem?_cons_zero, List.getElem?_cons_succ, e1, gN, List.set_cons_zero, List.set_cons_succ] at eL ⊢
  simp only [sExpr, mMeth, mTup, mFn, mVar, aCons, aNil, R.bind, R.toS, List.getElem?_cons_zero, List.getElem?_cons_succ, rf0, eL, bTuple, itemsD, w3', noEx, List.length_cons, List.length_nil, Nat.zero_add, Nat.reduceAdd, l2, if_true, fAppend, wC, List.length_map, hl2]
  rfl
end Pr
set_option Elab.async false
set_option linter.all false
set_option maxRecDepth 10000
namespace Pr
open PySem PySem.Spec PyProof.Rows L2 DL
theorem law_table_ok {r n m : Nat} {st : Sto} (h : IsPool st r) (m1 : 1 ≤ m) (m6 : m ≤ 6) (n2 : 2 ≤ n) (n9 : n ≤ 9) (few : n ^ m ≤ 729) :
    ∃ (hs : List Hand) (st' : Sto), f_law_table [.ref r, .int n, .int m] st = .ok (tD n hs) st' ∧ Ev r st st' ∧ TbOk n hs ∧ hs.length = m ∧ ∀ (s : Nat) (h : Hand), hs[s]? = some h → h.1.length < hs.length := by
  have hz : (1000 : Nat) < sizeLine := by decide
  have z0 : 0 ≤ sizeLine := Nat.zero_le _
  have l4 : 4 ≤ sizeLine := by omega
  have l2 : 2 ≤ sizeLine := by omega
  have hmid : Mid (m : Int) := by unfold Mid; omega
  have hr := h.lt
  obtain ⟨ofs, hofs⟩ : ∃ ofs : List Int, ofs = [1, 2, 3, 5] := ⟨_, rfl⟩
  let st1 := st ++ [Cl.lst (ofs.map D.int)]
  have g1 : Gr st st1 := List.prefix_append _ _
  have ev1 := Ev.gr h g1
  obtain ⟨v, st2, e2, v0, v1, ev2⟩ := take_of (m := 4) ev1.pool (by decide) (by decide)
  obtain ⟨k, rfl⟩ : ∃ k : Nat, v = k := ⟨v.toNat, by omega⟩
  have w1 : rdL st1 st.length = some (ofs.map D.int) := rdL_new _ _
  have w2 : rdL st2 st.length = some (ofs.map D.int) := ev2.rdL w1 (by omega)
  obtain ⟨often, eo, o0, o1⟩ : ∃ often : Int, L2.atI (ofs.map D.int) (k : Int) = some (.int often) ∧ 0 < often ∧ often < 100 := by
    have hk : k < ofs.length := by rw [hofs]; show k < 4; omega
    have all : ∀ x ∈ ofs, 0 < x ∧ x < 100 := by rw [hofs]; decide
    exact ⟨ofs[k], atI_at (by simp [hk]), all _ (List.getElem_mem hk)⟩
  let st3 := st2 ++ [Cl.lst []]
  have ev3 := (ev1.trans ev2).trans (Ev.gr (ev1.trans ev2).pool (List.prefix_append st2 [Cl.lst []]))
  have l12 := (ev1.trans ev2).len
  obtain ⟨env', st4, e4, hs, q6, q7, rfl, ev4, w4, hl, hh⟩ := loopS_ok (ds := rngD 0 m) (gd := none) (g := gN 5) (mb := L1_law_table) (env := [some (.ref r), some (.int n), some (.int m), some (.int often), some (.ref st2.length), none, none, none]) (st := st3)
    (fun i env st' => ∃ (hs : List Hand) (q5 q6 : Option D), env = [some (.ref r), some (.int n), some (.int m), some (.int often), some (.ref st2.length), q5, q6, none] ∧ Ev r st st' ∧ rdW st' st2.length = some (hs.map hD) ∧ hs.length = i ∧ ∀ (s : Nat) (h : Hand), hs[s]? = some h → HdOk n m s h ∧ h.1.length < m)
    ⟨[], none, none, rfl, ev3, rdW_new _ _, rfl, fun s h q => (by simp at q)⟩ (fun _ _ _ _ _ => trivial) (by
      rintro i env st' hi ⟨hs, q5, q6, rfl, ev4, w4, hl, hh⟩
      rw [rngD_get hi]
      rw [rngD_len] at hi
      obtain ⟨hd, st5, p6, e5, ev5, w5, hd1, hd2⟩ := table_turn (q6 := q6) (q7 := none) ev4 hr l12 w4 hl hi m6 n2 n9 few o0 o1
      refine ⟨_, _, _, _, rfl, e5, _, _, _, rfl, ev5, w5, by simp [hl], fun s h q => ?_⟩
      by_cases hs' : s < hs.length
      · rw [List.getElem?_append_left hs'] at q
        exact hh s h q
      · have := (List.getElem?_eq_some_iff.mp q).1
        have es : s = hs.length := by simp at this; omega
        subst es
        rw [List.getElem?_concat_length] at q
        cases q
        rw [hl]
        exact ⟨hd1, hd2⟩)
  rw [rngD_len] at hl
  refine ⟨hs, st4, ?_, ev4, ⟨n2, n9, by omega, by omega, by rw [hl]; exact few, fun s h q => by rw [hl]; exact (hh s h q).1⟩, hl, fun s h q => by rw [hl]; exact (hh s h q).2⟩
  have e0 := sFor_rng (mr := aCons (mVar 2) aNil) (g := gN 5) (mb := L1_law_table) (env := [some (.ref r), some (.int n), some (.int m), some (.int often), some (.ref st2.length), none, none, none]) (st := st3) (st1 := st3) (n := m) (by simp [mDef, sRet, sRetN, sSeq, sNil, sIf, sAsg, sExpr, sPar, sAug, sNo, mAnd, mOr, mNot, mIf, m2, m1, mChain, mFn, mCall, mMeth, aCons, aNil, mVar, mC, mB, tmAnd, tmOr, tmNot, mTup, mLst, mSl, pNone, pSome, R.bind, R.toS, RS.seq, noEx, gN, gSet, DL.gTup, gsCons, gsNil, bType, kindD, bLen, bAbs, bInt, bMax2, bMin2, bTuple, bList, itemsD, oAdd, oSub, oMul, oDiv, oMod, oPow, oNeg, oLt, oLe, oGt, oGe, oLtT, oIs, oIsNot, DL.isNon, oIx, oAddI, sAsg2, oMulI, mChain3]) hmid e4
  have eA : m2 oIx (mLst (aCons (mC (.int 1)) (aCons (mC (.int 2)) (aCons (mC (.int 3)) (aCons (mC (.int 5)) aNil))))) (mCall f_law_take (aCons (mVar 0) (aCons (mC (.int 4)) aNil))) [some (.ref r), some (.int n), some (.int m), none, none, none, none, none] st = .ok (.int often) st2 := by
    have eL : mLst (aCons (mC (.int 1)) (aCons (mC (.int 2)) (aCons (mC (.int 3)) (aCons (mC (.int 5)) aNil)))) [some (.ref r), some (.int n), some (.int m), none, none, none, none, none] st = .ok (.ref st.length) st1 := by
      simp [mLst, aCons, aNil, mC, R.bind, l4, st1, hofs]
    have eT : mCall f_law_take (aCons (mVar 0) (aCons (mC (.int 4)) aNil)) [some (.ref r), some (.int n), some (.int m), none, none, none, none, none] st1 = .ok (.int k) st2 := by
      simp only [mCall, aCons, aNil, mVar, mC, R.bind, List.getElem?_cons_zero, e2]
    have : ∀ (ma mb : En → Sto → R D) (env : En) (a b : D) (s1 s2 s3 : Sto), ma env s1 = .ok a s2 → mb env s2 = .ok b s3 → m2 oIx ma mb env s1 = noEx (oIx a b s3) := fun ma mb env a b s1 s2 s3 h1 h2 => by simp only [m2, h1, h2, R.bind]
    rw [this _ _ _ _ _ _ _ _ eL eT]
    simp only [oIx, w2, eo, noEx]
  have w4' := rdL_W w4
  unfold f_law_table mDef b_law_table
  simp only [sSeq, sAsg, List.map_cons, List.map_nil, List.length_cons, List.length_nil, List.replicate, List.cons_append, List.nil_append, Nat.reduceSub, Nat.reduceAdd, eA, R.toS, RS.seq, gN, List.set_cons_zero, List.set_cons_succ] at e0 ⊢
  simp only [mLst, aNil, R.bind, List.length_nil, z0, if_true, R.toS, RS.seq, List.set_cons_zero, List.set_cons_succ]
  rw [show st2 ++ [Cl.lst []] = st3 from rfl]
  simp only [e0]
  simp only [sRet, mTup, mFn, mVar, aCons, aNil, R.bind, R.toS, List.getElem?_cons_zero, List.getElem?_cons_succ, bTuple, itemsD, w4', noEx, List.length_cons, List.length_nil, Nat.zero_add, Nat.reduceAdd, l2, if_true]
  rfl
end Pr
set_option Elab.async false
set_option linter.all false
set_option maxRecDepth 10000
namespace Pr
open PySem PySem.Spec PyProof.Rows L2 DL
theorem seen_loop {n : Nat} {hs : List Hand} (T : TbOk n hs) {ys : List D} {gd : Option Nat} {st : Sto} (hy : ∀ y ∈ ys, ∃ xs, y = dR xs ∧ StOk n hs.length xs) (hg : gOk ys gd st) (a0 a1 a2 a4 a5 a6 a7 a8 a9 a10 : Option D) :
    ∃ (q : Option D) (st' : Sto), loopS ys gd (gN 7) L1_law ys [a0, a1, a2, some (tD n hs), a4, a5, a6, a7, a8, a9, a10] st = .nx [a0, a1, a2, some (tD n hs), a4, a5, a6, q, a8, a9, a10] st' ∧ Gr st st' := by
  obtain ⟨env', st', e, q, rfl, g⟩ := loopS_ok (ds := ys) (gd := gd) (g := gN 7) (mb := L1_law) (env := [a0, a1, a2, some (tD n hs), a4, a5, a6, a7, a8, a9, a10]) (st := st)
    (fun i env st' => ∃ q : Option D, env = [a0, a1, a2, some (tD n hs), a4, a5, a6, q, a8, a9, a10] ∧ Gr st st') ⟨a7, rfl, List.prefix_refl _⟩ (fun i env st' _ ⟨_, _, g⟩ => gOk_gr hg g) (by
      rintro i env st' hi ⟨q, rfl, g⟩
      obtain ⟨xs, ex, S⟩ := hy ys[i] (List.getElem_mem hi)
      obtain ⟨st2, e2, g2⟩ := seen_ok T S st'
      refine ⟨_, _, _, st2, rfl, ?_, some ys[i], rfl, g.trans g2⟩
      rw [ex]
      simp only [L1_law, gN, List.set_cons_zero, List.set_cons_succ, sIf, tmNot, mB, mCall, mVar, aCons, aNil, R.bind, R.toS, List.getElem?_cons_zero, List.getElem?_cons_succ, e2, Bool.not_true, Bool.false_eq_true, if_false, sNil])
  exact ⟨q, st', e, g⟩
theorem F_ok {n m j : Nat} (hn : 1 ≤ n) : StOk n m (Pt.dig n m j) := ⟨Pt.dig_len _ _ _, fun x hx => Pt.dig_mem (by omega) hx⟩
theorem atI_last {xs : List D} {d : D} (h : xs.getLast? = some d) : L2.atI xs (-1) = some d := by
  obtain ⟨q, rfl⟩ := List.getLast?_eq_some_iff.mp h
  have h1 : (1 : Int) ≤ (q.length : Int) + 1 := by omega
  have h2 : (-1 + ((q.length : Int) + 1)).toNat = q.length := by omega
  unfold L2.atI ixN
  simp [h1, h2]
section
variable {q2 q3 q4 q5 q6 q7 q8 q9 q10 : Option D}
theorem law_turn {ns : List Int} {k : Nat} {st : Sto} (hc : rdL st 0 = some (ns.map D.int)) : ∃ (p2 p3 p4 p5 p6 p7 p8 p9 p10 : Option D) (st' : Sto),
    L2_law [some (.ref 0), some (.int (k : Nat)), q2, q3, q4, q5, q6, q7, q8, q9, q10] st = .nx [some (.ref 0), some (.int (k : Nat)), p2, p3, p4, p5, p6, p7, p8, p9, p10] st' ∧ rdL st' 0 = some (ns.map D.int) := by
  have hz : (1000 : Nat) < sizeLine := by decide
  have h0 := rdL_lt hc
  obtain ⟨a, b, e1⟩ := pool_spec ns 0 k st hc
  obtain ⟨r, hr⟩ : ∃ r, r = st.length := ⟨_, rfl⟩
  rw [← hr] at e1
  have ip : IsPool (st ++ [.lst [.int a, .int b, .int 0]]) r := ⟨a, b, 0, by simp [hr]⟩
  have hc1 : rdL (st ++ [.lst [.int a, .int b, .int 0]]) 0 = some (ns.map D.int) := rdL_gr (List.prefix_append _ _) hc
  generalize st ++ [Cl.lst [.int a, .int b, .int 0]] = st1 at e1 ip hc1
  have r0 : (0 : Nat) ≠ r := by omega
  obtain ⟨n, m, st2, e2, ev2, n2, n9, hm1, m6, few⟩ := few_ok ip
  obtain ⟨hs, st3, e3, ev3, T, hm, hlt⟩ := law_table_ok ev2.pool hm1 m6 n2 n9 few
  have e4 := repr_table T hlt st3
  obtain ⟨rr, st4, e5, hrr, g4, w4⟩ := rows_ok (n := n) (k := m) (by omega) (by omega) (by omega) st3
  have ev4 := (ev2.trans ev3).trans (Ev.gr (ev2.trans ev3).pool g4)
  have hp : 0 < n ^ m := Nat.pow_pos (by omega)
  -- the two ends
  have hA : L2.atI ((List.range (n ^ m)).map (F n m)) 0 = some (F n m 0) := atI_at (i := 0) (by simp [hp])
  have hB : L2.atI ((List.range (n ^ m)).map (F n m)) (-1) = some (F n m (n ^ m - 1)) := atI_last (by
    rw [List.getLast?_map, List.getLast?_range, if_neg (by omega)]
    rfl)
  let st5 := st4 ++ [Cl.lst [F n m 0, F n m (n ^ m - 1)]]
  have g5 : Gr st4 st5 := List.prefix_append _ _
  have ev5 := ev4.trans (Ev.gr ev4.pool g5)
  have w5 : rdL st5 rr = some ((List.range (n ^ m)).map (F n m)) := rdL_gr g5 w4
  have lrr := rdL_lt w4
  have rrne : rr ≠ r := by
    have := (ev2.trans ev3).len
    have := ip.lt
    omega
  have m14 : Mid ((14 : Nat) : Int) := by unfold Mid; omega
  obtain ⟨ys, st6, e6, w6, yl, yp, ev6⟩ := mLc_pool (mi := DL.iRng1 (aCons (mC (.int 14)) aNil)) (g := gN 10) (me := E1_law) (vs := [10]) (env := [some (.ref 0), some (.int (k : Nat)), some (.ref r), some (tD n hs), some (.str (pT n hs).shown), some (.ref rr), q6, q7, some (.int n), some (.int m), q10]) (st := st5) (st1 := st5) (ds := rngD 0 14) (gd := none) (r := r)
    (fun j y => ∃ i, i < n ^ m ∧ y = F n m i) (iRng1_nat (n := 14) (by simp [mDef, sRet, sRetN, sSeq, sNil, sIf, sAsg, sExpr, sPar, sAug, sNo, mAnd, mOr, mNot, mIf, m2, m1, mChain, mFn, mCall, mMeth, aCons, aNil, mVar, mC, mB, tmAnd, tmOr, tmNot, mTup, mLst, mSl, pNone, pSome, R.bind, R.toS, RS.seq, noEx, gN, gSet, DL.gTup, gsCons, gsNil, bType, kindD, bLen, bAbs, bInt, bMax2, bMin2, bTuple, bList, itemsD, oAdd, oSub, oMul, oDiv, oMod, oPow, oNeg, oLt, oLe, oGt, oGe, oLtT, oIs, oIsNot, DL.isNon, oIx, oAddI, sAsg2, oMulI, mChain3]) m14) trivial (by simp) (by rw [rngD_len]; omega) ev5.pool (by
      intro i hi st' evi
      rw [rngD_get hi]
      have wi := evi.rdL w5 rrne
      obtain ⟨v, st7, e7, v0, v1, ev7⟩ := take_of (m := (n ^ m : Nat)) evi.pool (by omega) (by omega)
      obtain ⟨j, rfl⟩ : ∃ j : Nat, v = j := ⟨v.toNat, by omega⟩
      have hj : j < n ^ m := by omega
      have wi7 := ev7.rdL wi rrne
      have aj : L2.atI ((List.range (n ^ m)).map (F n m)) (j : Int) = some (F n m j) := atI_at (by simp [hj])
      refine ⟨[some (.ref 0), some (.int (k : Nat)), some (.ref r), some (tD n hs), some (.str (pT n hs).shown), some (.ref rr), q6, q7, some (.int n), some (.int m), some (.int (i : Nat))], rfl, F n m j, st7, ?_, ev7, j, hj, rfl⟩
      simp only [E1_law, m2, mCall, mFn, mVar, aCons, aNil, bLen, R.bind, noEx, List.getElem?_cons_zero, List.getElem?_cons_succ, wi, List.length_map, List.length_range, e7, oIx, wi7, aj])
  rw [rngD_len] at yl
  have ev56 := ev5.trans ev6
  have w6' : rdW st6 st4.length = some [F n m 0, F n m (n ^ m - 1)] := ev6.rdW (rdW_new _ _) (by have := ev4.len; have := ip.lt; omega)
  let zs := [F n m 0, F n m (n ^ m - 1)] ++ ys
  have zl : zs.length = 16 := by simp [zs, yl]
  let st7 := st6 ++ [Cl.lst zs]
  have g7 : Gr st6 st7 := List.prefix_append _ _
  have hzs : ∀ y ∈ zs, ∃ xs, y = dR xs ∧ StOk n hs.length xs := by
    have key : ∀ y ∈ zs, ∃ i, i < n ^ m ∧ y = F n m i := by
      intro y hy
      rcases List.mem_append.mp hy with q | q
      · rcases List.mem_cons.mp q with q | q
        · exact ⟨0, hp, q⟩
        · exact ⟨n ^ m - 1, by omega, List.mem_singleton.mp q⟩
      · obtain ⟨j, hj, rfl⟩ := List.mem_iff_getElem.mp q
        exact yp j _ (by simp [hj])
    intro y hy
    obtain ⟨i, _, rfl⟩ := key y hy
    rw [hm]
    exact ⟨_, rfl, F_ok (by omega)⟩
  have w7 : rdL st7 st6.length = some zs := rdL_new _ _
  obtain ⟨p7, st8, e8, g8⟩ := seen_loop T hzs (gd := some st6.length) (st := st7) w7 (some (.ref 0)) (some (.int (k : Nat))) (some (.ref r)) (some (.str (pT n hs).shown)) (some (.ref rr)) (some (.ref st6.length)) q7 (some (.int n)) (some (.int m)) q10
  have w8 : rdL st8 st6.length = some zs := rdL_gr g8 w7
  let st9 := st8 ++ [Cl.lst zs.reverse] ++ [Cl.lst (zs.reverse.take 3)]
  have g9 : Gr st8 st9 := (List.prefix_append _ _).trans (List.prefix_append _ _)
  have w9 : rdL st9 (st8.length + 1) = some (zs.reverse.take 3) := by simp [st9, rdL]
  have hrs : ∀ y ∈ zs.reverse.take 3, ∃ xs, y = dR xs ∧ StOk n hs.length xs := fun y hy => hzs y (List.mem_reverse.mp (List.mem_of_mem_take hy))
  obtain ⟨p7', st10, e10, g10⟩ := seen_loop T hrs (gd := some (st8.length + 1)) (st := st9) w9 (some (.ref 0)) (some (.int (k : Nat))) (some (.ref r)) (some (.str (pT n hs).shown)) (some (.ref rr)) (some (.ref st6.length)) p7 (some (.int n)) (some (.int m)) q10
  have e11 := repr_table T hlt st10
  have e12 := oNe_str (table_text_ok T) st10
  have gAll : Gr st6 st10 := ((g7.trans g8).trans g9).trans g10
  refine ⟨some (.ref r), some (tD n hs), some (.str (pT n hs).shown), some (.ref rr), some (.ref st6.length), p7', some (.int n), some (.int m), q10, st10, ?_, rdL_gr gAll (ev56.rdL hc1 r0)⟩
  have l2 : 2 ≤ sizeLine := by omega
  have l16 : 2 + ys.length ≤ sizeLine := by omega
  have h1 : sAsg (mCall f_law_pool (aCons (mVar 0) (aCons (mVar 1) aNil))) (gN 2) [some (.ref 0), some (.int (k : Nat)), q2, q3, q4, q5, q6, q7, q8, q9, q10] st = .nx [some (.ref 0), some (.int (k : Nat)), some (.ref r), q3, q4, q5, q6, q7, q8, q9, q10] st1 := by
    simp only [sAsg, mCall, aCons, aNil, mVar, R.bind, R.toS, e1, gN, List.getElem?_cons_zero, List.getElem?_cons_succ, List.set_cons_zero, List.set_cons_succ]
  have h2 : sAsg (mCall f_law_few (aCons (mVar 2) aNil)) (DL.gTup (gsCons (gN 8) (gsCons (gN 9) gsNil)) 2) [some (.ref 0), some (.int (k : Nat)), some (.ref r), q3, q4, q5, q6, q7, q8, q9, q10] st1 = .nx [some (.ref 0), some (.int (k : Nat)), some (.ref r), q3, q4, q5, q6, q7, some (.int n), some (.int m), q10] st2 := by
    simp only [sAsg, mCall, aCons, aNil, mVar, R.bind, R.toS, e2, DL.gTup, gsCons, gsNil, gN, List.length_cons, List.length_nil, Nat.reduceAdd, if_true, List.getElem?_cons_zero, List.getElem?_cons_succ, List.set_cons_zero, List.set_cons_succ]
  have h3 : sAsg (mCall f_law_table (aCons (mVar 2) (aCons (mVar 8) (aCons (mVar 9) aNil)))) (gN 3) [some (.ref 0), some (.int (k : Nat)), some (.ref r), q3, q4, q5, q6, q7, some (.int n), some (.int m), q10] st2 = .nx [some (.ref 0), some (.int (k : Nat)), some (.ref r), some (tD n hs), q4, q5, q6, q7, some (.int n), some (.int m), q10] st3 := by
    simp only [sAsg, mCall, aCons, aNil, mVar, R.bind, R.toS, e3, gN, List.getElem?_cons_zero, List.getElem?_cons_succ, List.set_cons_zero, List.set_cons_succ]
  have h4 : sAsg (mFn bRepr (aCons (mVar 3) aNil)) (gN 4) [some (.ref 0), some (.int (k : Nat)), some (.ref r), some (tD n hs), q4, q5, q6, q7, some (.int n), some (.int m), q10] st3 = .nx [some (.ref 0), some (.int (k : Nat)), some (.ref r), some (tD n hs), some (.str (pT n hs).shown), q5, q6, q7, some (.int n), some (.int m), q10] st3 := by
    simp only [sAsg, mFn, aCons, aNil, mVar, R.bind, R.toS, noEx, e4, gN, List.getElem?_cons_zero, List.getElem?_cons_succ, List.set_cons_zero, List.set_cons_succ]
  have h5 : sAsg (mCall f_law_rows (aCons (mVar 8) (aCons (mVar 9) aNil))) (gN 5) [some (.ref 0), some (.int (k : Nat)), some (.ref r), some (tD n hs), some (.str (pT n hs).shown), q5, q6, q7, some (.int n), some (.int m), q10] st3 = .nx [some (.ref 0), some (.int (k : Nat)), some (.ref r), some (tD n hs), some (.str (pT n hs).shown), some (.ref rr), q6, q7, some (.int n), some (.int m), q10] st4 := by
    simp only [sAsg, mCall, aCons, aNil, mVar, R.bind, R.toS, e5, gN, List.getElem?_cons_zero, List.getElem?_cons_succ, List.set_cons_zero, List.set_cons_succ]
  have h6 : sAsg (m2 oAdd (mLst (aCons (m2 oIx (mVar 5) (mC (.int 0))) (aCons (m2 oIx (mVar 5) (m1 oNeg (mC (.int 1)))) aNil))) (mLc (DL.iRng1 (aCons (mC (.int 14)) aNil)) (gN 10) mYes E1_law [10])) (gN 6) [some (.ref 0), some (.int (k : Nat)), some (.ref r), some (tD n hs), some (.str (pT n hs).shown), some (.ref rr), q6, q7, some (.int n), some (.int m), q10] st4 = .nx [some (.ref 0), some (.int (k : Nat)), some (.ref r), some (tD n hs), some (.str (pT n hs).shown), some (.ref rr), some (.ref st6.length), q7, some (.int n), some (.int m), q10] st7 := by
    have eL : mLst (aCons (m2 oIx (mVar 5) (mC (.int 0))) (aCons (m2 oIx (mVar 5) (m1 oNeg (mC (.int 1)))) aNil)) [some (.ref 0), some (.int (k : Nat)), some (.ref r), some (tD n hs), some (.str (pT n hs).shown), some (.ref rr), q6, q7, some (.int n), some (.int m), q10] st4 = .ok (.ref st4.length) st5 := by
      simp only [mLst, aCons, aNil, m2, m1, mVar, mC, oNeg, oIx, R.bind, noEx, List.getElem?_cons_zero, List.getElem?_cons_succ, w4, hA, hB, List.length_cons, List.length_nil, Nat.zero_add, Nat.reduceAdd, l2, if_true]
      rfl
    have e6' : mLc (DL.iRng1 (aCons (mC (.int 14)) aNil)) (gN 10) mYes E1_law [10] [some (.ref 0), some (.int (k : Nat)), some (.ref r), some (tD n hs), some (.str (pT n hs).shown), some (.ref rr), q6, q7, some (.int n), some (.int m), q10] st5 = _ := e6
    have : ∀ (ma mb : En → Sto → R D) (env : En) (a b : D) (s1 s2 s3 : Sto), ma env s1 = .ok a s2 → mb env s2 = .ok b s3 → m2 oAdd ma mb env s1 = noEx (oAdd a b s3) := fun ma mb env a b s1 s2 s3 h1 h2 => by simp only [m2, h1, h2, R.bind]
    simp only [sAsg]
    rw [this _ _ _ _ _ _ _ _ eL e6']
    simp only [oAdd, w6, w6', List.length_cons, List.length_nil, Nat.zero_add, Nat.reduceAdd, l16, if_true, noEx, R.toS, gN, List.set_cons_zero, List.set_cons_succ]
    rfl
  have h7 : sFor (DL.iVal (mVar 6)) (gN 7) L1_law [some (.ref 0), some (.int (k : Nat)), some (.ref r), some (tD n hs), some (.str (pT n hs).shown), some (.ref rr), some (.ref st6.length), q7, some (.int n), some (.int m), q10] st7 = _ := sFor_lst (by simp only [mVar, List.getElem?_cons_zero, List.getElem?_cons_succ]) w7 e8
  have h8 : sFor (DL.iVal (mSl (mRev (mVar 6)) pNone (pSome (mC (.int 3))))) (gN 7) L1_law [some (.ref 0), some (.int (k : Nat)), some (.ref r), some (tD n hs), some (.str (pT n hs).shown), some (.ref rr), some (.ref st6.length), p7, some (.int n), some (.int m), q10] st8 = _ := sFor_lst (st1 := st9) (r := st8.length + 1) (by
      have c3 : DL.cutD zs.reverse none (some (3 : Int)) = zs.reverse.take 3 := cutD_take (i := 3) (by rw [List.length_reverse]; omega)
      have wr : rdL (st8 ++ [Cl.lst zs.reverse]) st8.length = some zs.reverse := rdL_new _ _
      simp only [mSl, mRev, pNone, pSome, mVar, mC, R.bind, List.getElem?_cons_zero, List.getElem?_cons_succ, w8, oSl, wr, c3, noEx]
      simp only [List.length_append, List.length_cons, List.length_nil, Nat.zero_add]
      rfl) w9 e10
  have h9 : sIf (mB (m2 oNe (mFn bRepr (aCons (mVar 3) aNil)) (mVar 4))) (sRet (mC (.bl false))) sNil [some (.ref 0), some (.int (k : Nat)), some (.ref r), some (tD n hs), some (.str (pT n hs).shown), some (.ref rr), some (.ref st6.length), p7', some (.int n), some (.int m), q10] st10 = .nx [some (.ref 0), some (.int (k : Nat)), some (.ref r), some (tD n hs), some (.str (pT n hs).shown), some (.ref rr), some (.ref st6.length), p7', some (.int n), some (.int m), q10] st10 := by
    simp only [sIf, mB, m2, mFn, aCons, aNil, mVar, R.bind, R.toS, noEx, List.getElem?_cons_zero, List.getElem?_cons_succ, e11, e12, Bool.false_eq_true, if_false, sNil]
  unfold L2_law
  rw [seq_nx h1, seq_nx h2, seq_nx h3, seq_nx h4, seq_nx h5, seq_nx h6, seq_nx h7, seq_nx h8, h9]
end
theorem main : ∀ ns : List Int, ns.length ≤ 63 → ∃ st', f_law [.ref 0] [.fro (ns.map D.int)] = .ok (.bl true) st' := by
  intro ns hl
  have hc : rdL [.fro (ns.map D.int)] 0 = some (ns.map D.int) := by simp [rdL]
  obtain ⟨n, hn⟩ : ∃ n : Nat, (if (if (ns.length : Int) < 12 then (ns.length : Int) else 12) > 1 then (if (ns.length : Int) < 12 then (ns.length : Int) else 12) else 1) = (n : Nat) ∧ n ≤ 63 := by
    refine ⟨(if (if (ns.length : Int) < 12 then (ns.length : Int) else 12) > 1 then (if (ns.length : Int) < 12 then (ns.length : Int) else 12) else 1).toNat, ?_, ?_⟩ <;> (repeat' split) <;> omega
  have hmid : Mid (n : Int) := by unfold Mid; omega
  obtain ⟨env', st', e, q1, q2, q3, q4, q5, q6, q7, q8, q9, q10, rfl, hc'⟩ := loopS_ok (ds := rngD 0 n) (gd := none) (g := gN 1) (mb := L2_law) (env := [some (.ref 0), none, none, none, none, none, none, none, none, none, none]) (st := [.fro (ns.map D.int)])
    (fun i env st' => ∃ q1 q2 q3 q4 q5 q6 q7 q8 q9 q10, env = [some (.ref 0), q1, q2, q3, q4, q5, q6, q7, q8, q9, q10] ∧ rdL st' 0 = some (ns.map D.int))
    ⟨none, none, none, none, none, none, none, none, none, none, rfl, hc⟩ (fun _ _ _ _ _ => trivial) (by
      rintro i env st' hi ⟨q1, q2, q3, q4, q5, q6, q7, q8, q9, q10, rfl, hc'⟩
      rw [rngD_get hi]
      obtain ⟨p2, p3, p4, p5, p6, p7, p8, p9, p10, st2, e2, h2⟩ := law_turn (k := i) hc'
      exact ⟨_, st', _, st2, rfl, e2, _, _, _, _, _, _, _, _, _, _, rfl, h2⟩)
  have e0 : sFor (DL.iRng1 (aCons (mFn bMax2 (aCons (mC (.int 1)) (aCons (mFn bMin2 (aCons (mC (.int 12)) (aCons (mFn bLen (aCons (mVar 0) aNil)) aNil))) aNil))) aNil)) (gN 1) L2_law [some (.ref 0), none, none, none, none, none, none, none, none, none, none] [.fro (ns.map D.int)] = .nx [some (.ref 0), q1, q2, q3, q4, q5, q6, q7, q8, q9, q10] st' :=
    sFor_rng (by
      simp only [aCons, aNil, mFn, mC, mVar, bMax2, bMin2, bLen, R.bind, noEx, List.getElem?_cons_zero, hc, List.length_map]
      rw [hn.1]) hmid e
  refine ⟨st', ?_⟩
  unfold f_law mDef b_law
  simp only [List.map_cons, List.map_nil, List.length_cons, List.length_nil, List.replicate, List.cons_append, List.nil_append, Nat.reduceSub, Nat.reduceAdd]
  rw [seq_nx e0]
  rfl
end Pr
set_option maxRecDepth 100000
open PySem PySem.W PyProof.Rows
set_option maxHeartbeats 0 in
theorem PySem.Challenge.cw_comeright_k50_moves_told_holds : PySem.Challenge.rw_comeright_k50_moves_told.Holds := by
  w_on; o_law; k_head; (case hw => w_witness2)
  k_fill
  refine DL.walk_d (l := PySem.Challenge.rw_comeright_k50_moves_told) (n := 63) (k := 7) (x := "script") (f := Pr.f_law) rfl (by decide) rfl ⟨rfl, by decide, by decide⟩ (fun w h Y => PySem.W.kIn_of Y) ?F Pr.main
  case F =>
    intro w mg fa h KX G hmg
    have T_power : DL.TopFnX KX mg "power" Pr.s_power ["size", "many"] := by
      refine' DL.topFn_of KX G ?a ?l ?c ?k ?b; (case a => k_is); (case l => k_is); (case c => k_is); (case k => k_is); (case b => exact fun _ _ _ _ _ _ us hl => match us, hl with | [_, _], _ => rfl)
    have T_are_looks : DL.TopFnX KX mg "are_looks" Pr.s_are_looks ["many", "seat", "thing"] := by
      refine' DL.topFn_of KX G ?a ?l ?c ?k ?b; (case a => k_is); (case l => k_is); (case c => k_is); (case k => k_is); (case b => exact fun _ _ _ _ _ _ us hl => match us, hl with | [_, _, _], _ => rfl)
    have T_are_moves : DL.TopFnX KX mg "are_moves" Pr.s_are_moves ["size", "views", "thing"] := by
      refine' DL.topFn_of KX G ?a ?l ?c ?k ?b; (case a => k_is); (case l => k_is); (case c => k_is); (case k => k_is); (case b => exact fun _ _ _ _ _ _ us hl => match us, hl with | [_, _, _], _ => rfl)
    have T_is_size : DL.TopFnX KX mg "is_size" Pr.s_is_size ["thing"] := by
      refine' DL.topFn_of KX G ?a ?l ?c ?k ?b; (case a => k_is); (case l => k_is); (case c => k_is); (case k => k_is); (case b => exact fun _ _ _ _ _ _ us hl => match us, hl with | [_], _ => rfl)
    have T_is_table : DL.TopFnX KX mg "is_table" Pr.s_is_table ["thing"] := by
      refine' DL.topFn_of KX G ?a ?l ?c ?k ?b; (case a => k_is); (case l => k_is); (case c => k_is); (case k => k_is); (case b => exact fun _ _ _ _ _ _ us hl => match us, hl with | [_], _ => rfl)
    have T_need_table : DL.TopFnX KX mg "need_table" Pr.s_need_table ["table"] := by
      refine' DL.topFn_of KX G ?a ?l ?c ?k ?b; (case a => k_is); (case l => k_is); (case c => k_is); (case k => k_is); (case b => exact fun _ _ _ _ _ _ us hl => match us, hl with | [_], _ => rfl)
    have T_stands_in : DL.TopFnX KX mg "stands_in" Pr.s_stands_in ["table", "thing"] := by
      refine' DL.topFn_of KX G ?a ?l ?c ?k ?b; (case a => k_is); (case l => k_is); (case c => k_is); (case k => k_is); (case b => exact fun _ _ _ _ _ _ us hl => match us, hl with | [_, _], _ => rfl)
    have T_need_standing : DL.TopFnX KX mg "need_standing" Pr.s_need_standing ["table", "standing"] := by
      refine' DL.topFn_of KX G ?a ?l ?c ?k ?b; (case a => k_is); (case l => k_is); (case c => k_is); (case k => k_is); (case b => exact fun _ _ _ _ _ _ us hl => match us, hl with | [_, _], _ => rfl)
    have T_need_hand : DL.TopFnX KX mg "need_hand" Pr.s_need_hand ["table", "seat", "standing"] := by
      refine' DL.topFn_of KX G ?a ?l ?c ?k ?b; (case a => k_is); (case l => k_is); (case c => k_is); (case k => k_is); (case b => exact fun _ _ _ _ _ _ us hl => match us, hl with | [_, _, _], _ => rfl)
    have T_moves_at : DL.TopFnX KX mg "moves_at" Pr.s_moves_at ["table", "seat", "standing"] := by
      refine' DL.topFn_of KX G ?a ?l ?c ?k ?b; (case a => k_is); (case l => k_is); (case c => k_is); (case k => k_is); (case b => exact fun _ _ _ _ _ _ us hl => match us, hl with | [_, _, _], _ => rfl)
    have T_able_at : DL.TopFnX KX mg "able_at" Pr.s_able_at ["table", "standing"] := by
      refine' DL.topFn_of KX G ?a ?l ?c ?k ?b; (case a => k_is); (case l => k_is); (case c => k_is); (case k => k_is); (case b => exact fun _ _ _ _ _ _ us hl => match us, hl with | [_, _], _ => rfl)
    have T_view : DL.TopFnX KX mg "view" Pr.s_view ["table", "seat", "standing"] := by
      refine' DL.topFn_of KX G ?a ?l ?c ?k ?b; (case a => k_is); (case l => k_is); (case c => k_is); (case k => k_is); (case b => exact fun _ _ _ _ _ _ us hl => match us, hl with | [_, _, _], _ => rfl)
    have T_moves : DL.TopFnX KX mg "moves" Pr.s_moves ["table", "seat", "standing"] := by
      refine' DL.topFn_of KX G ?a ?l ?c ?k ?b; (case a => k_is); (case l => k_is); (case c => k_is); (case k => k_is); (case b => exact fun _ _ _ _ _ _ us hl => match us, hl with | [_, _, _], _ => rfl)
    have T_able_seats : DL.TopFnX KX mg "able_seats" Pr.s_able_seats ["table", "standing"] := by
      refine' DL.topFn_of KX G ?a ?l ?c ?k ?b; (case a => k_is); (case l => k_is); (case c => k_is); (case k => k_is); (case b => exact fun _ _ _ _ _ _ us hl => match us, hl with | [_, _], _ => rfl)
    have T_law_pool : DL.TopFnX KX mg "_law_pool" Pr.s_law_pool ["cells", "k"] := by
      refine' DL.topFn_of KX G ?a ?l ?c ?k ?b; (case a => k_is); (case l => k_is); (case c => k_is); (case k => k_is); (case b => exact fun _ _ _ _ _ _ us hl => match us, hl with | [_, _], _ => rfl)
    have T_law_take : DL.TopFnX KX mg "_law_take" Pr.s_law_take ["pool", "many"] := by
      refine' DL.topFn_of KX G ?a ?l ?c ?k ?b; (case a => k_is); (case l => k_is); (case c => k_is); (case k => k_is); (case b => exact fun _ _ _ _ _ _ us hl => match us, hl with | [_, _], _ => rfl)
    have T_law_rows : DL.TopFnX KX mg "_law_rows" Pr.s_law_rows ["size", "many"] := by
      refine' DL.topFn_of KX G ?a ?l ?c ?k ?b; (case a => k_is); (case l => k_is); (case c => k_is); (case k => k_is); (case b => exact fun _ _ _ _ _ _ us hl => match us, hl with | [_, _], _ => rfl)
    have T_law_few : DL.TopFnX KX mg "_law_few" Pr.s_law_few ["pool"] := by
      refine' DL.topFn_of KX G ?a ?l ?c ?k ?b; (case a => k_is); (case l => k_is); (case c => k_is); (case k => k_is); (case b => exact fun _ _ _ _ _ _ us hl => match us, hl with | [_], _ => rfl)
    have T_law_near : DL.TopFnX KX mg "_law_near" Pr.s_law_near ["pool", "seat", "many"] := by
      refine' DL.topFn_of KX G ?a ?l ?c ?k ?b; (case a => k_is); (case l => k_is); (case c => k_is); (case k => k_is); (case b => exact fun _ _ _ _ _ _ us hl => match us, hl with | [_, _, _], _ => rfl)
    have T_law_marks : DL.TopFnX KX mg "_law_marks" Pr.s_law_marks ["pool", "size", "own", "often"] := by
      refine' DL.topFn_of KX G ?a ?l ?c ?k ?b; (case a => k_is); (case l => k_is); (case c => k_is); (case k => k_is); (case b => exact fun _ _ _ _ _ _ us hl => match us, hl with | [_, _, _, _], _ => rfl)
    have T_law_table : DL.TopFnX KX mg "_law_table" Pr.s_law_table ["pool", "size", "many"] := by
      refine' DL.topFn_of KX G ?a ?l ?c ?k ?b; (case a => k_is); (case l => k_is); (case c => k_is); (case k => k_is); (case b => exact fun _ _ _ _ _ _ us hl => match us, hl with | [_, _, _], _ => rfl)
    have T_law_moves : DL.TopFnX KX mg "_law_moves" Pr.s_law_moves ["table", "seat", "standing"] := by
      refine' DL.topFn_of KX G ?a ?l ?c ?k ?b; (case a => k_is); (case l => k_is); (case c => k_is); (case k => k_is); (case b => exact fun _ _ _ _ _ _ us hl => match us, hl with | [_, _, _], _ => rfl)
    have T_law_seen_right : DL.TopFnX KX mg "_law_seen_right" Pr.s_law_seen_right ["table", "standing"] := by
      refine' DL.topFn_of KX G ?a ?l ?c ?k ?b; (case a => k_is); (case l => k_is); (case c => k_is); (case k => k_is); (case b => exact fun _ _ _ _ _ _ us hl => match us, hl with | [_, _], _ => rfl)
    have T : Pr.TxtX KX w mg := by
      constructor
      · refine' DL.tabs_nil; skip
      · refine' PySem.W.mg_none_of KX G ?z_range; (case z_range => k_is)
      · refine' PySem.W.mg_none_of KX G ?z_type; (case z_type => k_is)
      · refine' PySem.W.mg_none_of KX G ?z_tuple; (case z_tuple => k_is)
      · refine' PySem.W.mg_none_of KX G ?z_len; (case z_len => k_is)
      · refine' PySem.W.mg_none_of KX G ?z_enumerate; (case z_enumerate => k_is)
      · refine' PySem.W.mg_none_of KX G ?z_int; (case z_int => k_is)
      · refine' PySem.W.mg_none_of KX G ?z_abs; (case z_abs => k_is)
      · refine' PySem.W.mg_none_of KX G ?z_repr; (case z_repr => k_is)
      · refine' PySem.W.mg_none_of KX G ?z_max; (case z_max => k_is)
      · refine' PySem.W.mg_none_of KX G ?z_min; (case z_min => k_is)
      · have' z := PySem.W.mg_of (n := "MOST_LOOKS") KX G ?z_MOST_LOOKS; (case z_MOST_LOOKS => k_is); exact ⟨_, z⟩
      · have' z := PySem.W.mg_of (n := "LEAST_SIZE") KX G ?z_LEAST_SIZE; (case z_LEAST_SIZE => k_is); exact ⟨_, z⟩
      · have' z := PySem.W.mg_of (n := "MOST_SIZE") KX G ?z_MOST_SIZE; (case z_MOST_SIZE => k_is); exact ⟨_, z⟩
      · have' z := PySem.W.mg_of (n := "MOST_HANDS") KX G ?z_MOST_HANDS; (case z_MOST_HANDS => k_is); exact ⟨_, z⟩
      · have' z := PySem.W.mg_of (n := "MOST_STANDINGS") KX G ?z_MOST_STANDINGS; (case z_MOST_STANDINGS => k_is); exact ⟨_, z⟩
    refine' DL.law_of KX G hmg ?a ?l ?c ?k (fun _ _ _ _ _ _ s v => .of_eq rfl) fun base fd F => Pr.all_ok T T_power T_are_looks T_are_moves T_is_size T_is_table T_need_table T_stands_in T_need_standing T_need_hand T_moves_at T_able_at T_view T_moves T_able_seats T_law_pool T_law_take T_law_rows T_law_few T_law_near T_law_marks T_law_table T_law_moves T_law_seen_right F; (case a => k_is); (case l => k_is); (case c => k_is); (case k => k_is)
