import PyProof.Rows.All
import Wide.All
import OpenK.AllK
import Wide.FinOn
import HandS.Base
import HandS.Call
import HandS.List
import HandS.Comp
import HandS.Words
import HandS.Walk
import HandS.More
import HandS.Conv
import HandS.TupAny
import HandS.WordsExc
import HandS.TupMul
import HandS.Zip
import HandS.SortRule
import HandS.SortInts
import HandS.Iter
import HandS.TupLe
import HandS.RaiseMore
import PyProof.ReprRoads
import HandS.Ends
import KE.DataMinMax
import HandS.SortKw
import HandS.Star
import HandS.IsInst
import HandS.TryOnly
import HandS.Flow
import HandS.Style
import PyProof.PureInt
import KE.GoesEnum
import HandS.Dict
import PyProof.EqKinds
import KE.KTupSum
import KE.KDictSum
import KE.DataFind
import PyProof.FactsAll.tuple
import HandS.DictTup
import PySem.Challenge.RW_comeright_k04_what_terms_come_to
set_option Elab.async false
set_option linter.all false
set_option maxRecDepth 100000
/-! The D layer: what a def of the text does, as a plain function over data and a store of lists. -/
namespace DL
open PySem PySem.Spec PyProof.Rows L2

/-- data: tuples by their items; a list by its number in the store -/
inductive D where
  | non | bl (b : Bool) | int (i : Int) | str (x : Str) | tup (xs : List D) | ref (r : Nat) | fn (a : Addr) | ty (n : String) | nam (x : Str)
/-- what stands in the store: a list of the program's, a list that is only read, a dict without entries that nobody changes -/
inductive Cl where
  | lst (xs : List D) | fro (xs : List D) | emp
abbrev Sto := List Cl
abbrev En := List (Option D)
/-- an exception: its class, its fields (none: it has no dict) -/
structure Ex where
  cls : Addr
  fs : Option (List (Str × D))
/-- how a piece ends -/
inductive R (β : Type) where
  | ok (b : β) (s : Sto) | ex (x : Ex) (s : Sto) | no
def R.bind {β γ : Type} (r : R β) (k : β → Sto → R γ) : R γ := match r with
  | .ok b s => k b s
  | .ex x s => .ex x s
  | .no => .no

/-! ### what data stand for -/
/-- a tuple that is known to have no dict -/
def SqP (K : PySem.W.Frag) (H : Hp) (a : Addr) (xs : List V) : Prop :=
  (∃ o, H a = some (.frz o (.tup xs)) ∧ o.dict = none) ∨ ∃ (o : Obj) (its : Array Value) (n : Nat), K.lookup a = some o ∧ o.cls = .type "tuple" ∧ o.dict = none ∧ o.data = .seq its n ∧ its.size ≤ sizeLine ∧ Vals xs its.toList
theorem SqP.t {K : PySem.W.Frag} {H : Hp} {a : Addr} {xs : List V} (h : SqP K H a xs) : SqT K H a xs := by
  rcases h with ⟨o, h, _⟩ | ⟨o, its, n, h1, h2, _, h3⟩
  · exact .inl (.inr ⟨o, h⟩)
  · exact .inr ⟨o, its, n, h1, h2, h3⟩
theorem SqP.new {K : PySem.W.Frag} {H : Hp} {a : Addr} {xs : List V} {o : Obj} (h : o.dict = none) : SqP K (upd H a (.frz o (.tup xs))) a xs := .inl ⟨o, upd_same, h⟩
mutual
inductive RD (K : PySem.W.Frag) (α : List Addr) (H : Hp) : D → V → Prop where
  | non : RD K α H .non .non
  | bl (b : Bool) : RD K α H (.bl b) (.bl b)
  | int (i : Int) : RD K α H (.int i) (.int i)
  | str (x : Str) : RD K α H (.str x) (.str x)
  | tup {a : Addr} {ds : List D} {vs : List V} : SqP K H a vs → RDs K α H ds vs → RD K α H (.tup ds) (.ref a)
  | ref {r : Nat} {a : Addr} : α[r]? = some a → RD K α H (.ref r) (.ref a)
  | fn (a : Addr) : RD K α H (.fn a) (.ref a)
  | ty (n : String) : RD K α H (.ty n) (.ty n)
  | nam {x : Str} {a : Addr} : PySem.W.nsIn K mainGlobals x = some (some (.ref a)) → RD K α H (.nam x) (.ref a)
inductive RDs (K : PySem.W.Frag) (α : List Addr) (H : Hp) : List D → List V → Prop where
  | nil : RDs K α H [] []
  | cons {d : D} {v : V} {ds : List D} {vs : List V} : RD K α H d v → RDs K α H ds vs → RDs K α H (d :: ds) (v :: vs)
end
/-- tuples and locked things stay -/
structure Keep (H H' : Hp) : Prop where
  t : ∀ b xs, H b = some (.tup xs) → H' b = some (.tup xs)
  z : ∀ b o u, H b = some (.frz o u) → H' b = some (.frz o u)
theorem Keep.refl (H : Hp) : Keep H H := ⟨fun _ _ h => h, fun _ _ _ h => h⟩
theorem Keep.trans {H1 H2 H3 : Hp} (a : Keep H1 H2) (b : Keep H2 H3) : Keep H1 H3 := ⟨fun c xs h => b.t c xs (a.t c xs h), fun c o u h => b.z c o u (a.z c o u h)⟩
theorem Keep.fresh {H : Hp} {p : Addr} {o : HO} (h : H p = none) : Keep H (upd H p o) :=
  ⟨fun b xs e => by rw [upd_ne (ne_of_none e h)]; exact e, fun b o' u e => by rw [upd_ne (ne_of_none e h)]; exact e⟩
theorem Keep.lst {H : Hp} {p : Addr} {xs : List V} {o : HO} (h : H p = some (.lst xs)) : Keep H (upd H p o) := by
  refine ⟨fun b ys e => ?_, fun b o' u e => ?_⟩
  · rw [upd_ne (fun q => by subst q; rw [h] at e; cases e)]
    exact e
  · rw [upd_ne (fun q => by subst q; rw [h] at e; cases e)]
    exact e
theorem Keep.sqT {K : PySem.W.Frag} {H H' : Hp} {a : Addr} {xs : List V} (k : Keep H H') (h : SqT K H a xs) : SqT K H' a xs := by
  rcases h with (h | ⟨o, h⟩) | h
  · exact .inl (.inl (k.t _ _ h))
  · exact .inl (.inr ⟨o, k.z _ _ _ h⟩)
  · exact .inr h
theorem Keep.sqP {K : PySem.W.Frag} {H H' : Hp} {a : Addr} {xs : List V} (k : Keep H H') (h : SqP K H a xs) : SqP K H' a xs := by
  rcases h with ⟨o, h, d⟩ | h
  · exact .inl ⟨o, k.z _ _ _ h, d⟩
  · exact .inr h

section
variable {K : PySem.W.Frag} {α α' : List Addr} {H H' : Hp}
theorem get_pre {β : Type} {l l' : List β} (h : l <+: l') {i : Nat} {x : β} (e : l[i]? = some x) : l'[i]? = some x := by
  obtain ⟨t, rfl⟩ := h
  rw [List.getElem?_append_left (List.getElem?_eq_some_iff.mp e).1]
  exact e
mutual
theorem RD.mono (p : α <+: α') (k : Keep H H') : ∀ (d : D) (v : V), RD K α H d v → RD K α' H' d v
  | .non, _, h => by cases h; exact .non
  | .bl b, _, h => by cases h; exact .bl b
  | .int i, _, h => by cases h; exact .int i
  | .str x, _, h => by cases h; exact .str x
  | .tup ds, _, h => by
    cases h with
    | tup a b => exact .tup (k.sqP a) (RDs.mono p k ds _ b)
  | .ref r, _, h => by
    cases h with
    | ref a => exact .ref (get_pre p a)
  | .fn a, _, h => by cases h; exact .fn a
  | .ty n, _, h => by cases h; exact .ty n
  | .nam x, _, h => by
    cases h with
    | nam a => exact .nam a
theorem RDs.mono (p : α <+: α') (k : Keep H H') : ∀ (ds : List D) (vs : List V), RDs K α H ds vs → RDs K α' H' ds vs
  | [], _, h => by cases h; exact .nil
  | d :: ds, _, h => by
    cases h with
    | cons a b => exact .cons (RD.mono p k d _ a) (RDs.mono p k ds _ b)
end
theorem RDs.len : ∀ {ds : List D} {vs : List V}, RDs K α H ds vs → ds.length = vs.length
  | [], _, h => by cases h; rfl
  | _ :: ds, _, h => by
    cases h with
    | cons a b => simp [RDs.len b]
theorem RDs.get : ∀ {ds : List D} {vs : List V} {i : Nat} {v : V}, RDs K α H ds vs → vs[i]? = some v → ∃ d, ds[i]? = some d ∧ RD K α H d v
  | [], _, i, v, h, e => by cases h; simp at e
  | d :: ds, _, 0, v, h, e => by
    cases h with
    | cons a b => simp at e; subst e; exact ⟨d, rfl, a⟩
  | d :: ds, _, i + 1, v, h, e => by
    cases h with
    | cons a b =>
      obtain ⟨d', h1, h2⟩ := RDs.get (i := i) b (by simpa using e)
      exact ⟨d', by simpa using h1, h2⟩
theorem RDs.getD : ∀ {ds : List D} {vs : List V} {i : Nat} {d : D}, RDs K α H ds vs → ds[i]? = some d → ∃ v, vs[i]? = some v ∧ RD K α H d v
  | [], _, i, d, h, e => by simp at e
  | d :: ds, _, 0, d', h, e => by
    cases h with
    | cons a b => simp at e; subst e; exact ⟨_, rfl, a⟩
  | d :: ds, _, i + 1, d', h, e => by
    cases h with
    | cons a b =>
      obtain ⟨v', h1, h2⟩ := RDs.getD (i := i) b (by simpa using e)
      exact ⟨v', by simpa using h1, h2⟩
theorem RDs.app : ∀ {ds es : List D} {vs ws : List V}, RDs K α H ds vs → RDs K α H es ws → RDs K α H (ds ++ es) (vs ++ ws)
  | [], _, _, _, h, q => by cases h; exact q
  | d :: ds, _, _, _, h, q => by
    cases h with
    | cons a b => exact .cons a (RDs.app b q)
theorem RDs.drop : ∀ {ds : List D} {vs : List V} (n : Nat), RDs K α H ds vs → RDs K α H (ds.drop n) (vs.drop n)
  | _, _, 0, h => h
  | [], _, n + 1, h => by cases h; exact .nil
  | d :: ds, _, n + 1, h => by
    cases h with
    | cons a b => exact RDs.drop n b
theorem RDs.take : ∀ {ds : List D} {vs : List V} (n : Nat), RDs K α H ds vs → RDs K α H (ds.take n) (vs.take n)
  | _, _, 0, h => .nil
  | [], _, n + 1, h => by cases h; exact .nil
  | d :: ds, _, n + 1, h => by
    cases h with
    | cons a b => exact .cons a (RDs.take n b)
theorem RDs.set {d : D} {v : V} (q : RD K α H d v) : ∀ {ds : List D} {vs : List V} (n : Nat), RDs K α H ds vs → RDs K α H (ds.set n d) (vs.set n v)
  | [], _, n, h => by cases h; exact .nil
  | e :: ds, _, 0, h => by
    cases h with
    | cons a b => exact .cons q b
  | e :: ds, _, n + 1, h => by
    cases h with
    | cons a b => exact .cons a (RDs.set q n b)
theorem RDs.erase : ∀ {ds : List D} {vs : List V} (n : Nat), RDs K α H ds vs → RDs K α H (ds.eraseIdx n) (vs.eraseIdx n)
  | [], _, n, h => by cases h; exact .nil
  | e :: ds, _, 0, h => by
    cases h with
    | cons a b => exact b
  | e :: ds, _, n + 1, h => by
    cases h with
    | cons a b => exact .cons a (RDs.erase n b)
theorem RDs.rep {d : D} {v : V} (q : RD K α H d v) : ∀ n : Nat, RDs K α H (List.replicate n d) (List.replicate n v)
  | 0 => .nil
  | n + 1 => by rw [List.replicate_succ, List.replicate_succ]; exact .cons q (RDs.rep q n)
theorem RDs.repL {ds : List D} {vs : List V} (q : RDs K α H ds vs) : ∀ n : Nat, RDs K α H (List.replicate n ds).flatten (List.replicate n vs).flatten
  | 0 => .nil
  | n + 1 => by rw [List.replicate_succ, List.replicate_succ, List.flatten_cons, List.flatten_cons]; exact q.app (RDs.repL q n)
theorem RDs.rev {ds : List D} {vs : List V} (q : RDs K α H ds vs) : RDs K α H ds.reverse vs.reverse := by
  induction ds generalizing vs with
  | nil => cases q; exact .nil
  | cons d ds ih =>
    cases q with
    | cons a b =>
      rw [List.reverse_cons, List.reverse_cons]
      exact (ih b).app (.cons a .nil)
theorem RDs.ints : ∀ (ns : List Int), RDs K α H (ns.map D.int) (ns.map V.int)
  | [] => .nil
  | n :: ns => .cons (.int n) (RDs.ints ns)
theorem RDs.toInts : ∀ {ns : List Int} {vs : List V}, RDs K α H (ns.map D.int) vs → vs = ns.map V.int
  | [], _, h => by cases h; rfl
  | n :: ns, _, h => by
    cases h with
    | cons a b => cases a; rw [RDs.toInts b]; rfl
theorem RDs.toBls : ∀ {ns : List Bool} {vs : List V}, RDs K α H (ns.map D.bl) vs → vs = ns.map V.bl
  | [], _, h => by cases h; rfl
  | n :: ns, _, h => by
    cases h with
    | cons a b => cases a; rw [RDs.toBls b]; rfl
theorem RDs.toStrs : ∀ {ns : List Str} {vs : List V}, RDs K α H (ns.map D.str) vs → vs = ns.map V.str
  | [], _, h => by cases h; rfl
  | n :: ns, _, h => by
    cases h with
    | cons a b => cases a; rw [RDs.toStrs b]; rfl

/-- a list that is read and that nothing can write -/
def Locked (K : PySem.W.Frag) (H : Hp) (a : Addr) (vs : List V) : Prop := (∃ o, H a = some (.frz o (.lst vs))) ∨ ∀ H', SqL K H' a vs
theorem Locked.sq {a : Addr} {vs : List V} (h : Locked K H a vs) : SqL K H a vs := by
  rcases h with ⟨o, h⟩ | h
  · exact .inl (.inr ⟨o, h⟩)
  · exact h H
theorem Locked.keep {a : Addr} {vs : List V} (h : Locked K H a vs) (k : Keep H H') : Locked K H' a vs := by
  rcases h with ⟨o, h⟩ | h
  · exact .inl ⟨o, k.z _ _ _ h⟩
  · exact .inr h
/-- a place of the store -/
def CO (K : PySem.W.Frag) (α : List Addr) (H : Hp) (a : Addr) : Cl → Prop
  | .lst ds => ∃ vs, H a = some (.lst vs) ∧ RDs K α H ds vs
  | .fro ds => ∃ vs, Locked K H a vs ∧ RDs K α H ds vs
  | .emp => H a = some (.dK [])
/-- what may be written -/
def Wr (o : HO) : Prop := (∃ vs, o = .lst vs) ∨ o = .dK []
structure SR (K : PySem.W.Frag) (α : List Addr) (st : Sto) (H : Hp) : Prop where
  len : α.length = st.length
  cell : ∀ (i : Nat) (c : Cl), st[i]? = some c → ∃ a, α[i]? = some a ∧ CO K α H a c
  inj : ∀ (i j : Nat) (xs ys : List D) (a : Addr), st[i]? = some (.lst xs) → st[j]? = some (.lst ys) → α[i]? = some a → α[j]? = some a → i = j
def ER (K : PySem.W.Frag) (α : List Addr) (env : En) (σ : L2.St) (H : Hp) : Prop :=
  env.length = σ.length ∧ ∀ (i : Nat) (d : D), env[i]? = some (some d) → ∃ v, σ[i]? = some (some v) ∧ RD K α H d v
def RX (K : PySem.W.Frag) (α : List Addr) (H : Hp) (x : Ex) (c : Value) (dx : Option Addr) : Prop :=
  c = .ref x.cls ∧ match x.fs with
    | none => dx = none
    | some fs => ∃ (d : Addr) (vs : List (Str × V)), dx = some d ∧ H d = some (.xd vs) ∧ fs.map (·.1) = vs.map (·.1) ∧ RDs K α H (fs.map (·.2)) (vs.map (·.2))
theorem ER.mono {env : En} {σ : L2.St} (h : ER K α env σ H) (p : α <+: α') (k : Keep H H') : ER K α' env σ H' :=
  ⟨h.1, fun i d e => let ⟨v, e1, e2⟩ := h.2 i d e; ⟨v, e1, e2.mono p k⟩⟩
theorem CO.mono {a : Addr} {c : Cl} (h : CO K α H a c) (p : α <+: α') (k : Keep H H') (e : ∀ o, Wr o → H a = some o → H' a = some o) : CO K α' H' a c := by
  cases c with
  | lst ds => obtain ⟨vs, h1, h2⟩ := h; exact ⟨vs, e _ (.inl ⟨vs, rfl⟩) h1, h2.mono p k⟩
  | fro ds => obtain ⟨vs, h1, h2⟩ := h; exact ⟨vs, h1.keep k, h2.mono p k⟩
  | emp => exact e _ (.inr rfl) h
/-- a new thing that is not kept in the store -/
theorem SR.fresh {st : Sto} {q : Addr} {o : HO} (h : SR K α st H) (e : H q = none) : SR K α st (upd H q o) :=
  ⟨h.len, fun i c hc => let ⟨a, h1, h2⟩ := h.cell i c hc; ⟨a, h1, h2.mono (List.prefix_refl _) (Keep.fresh e) fun o _ z => by rw [upd_ne (ne_of_none z e)]; exact z⟩, h.inj⟩
theorem SR.noCell {st : Sto} {q : Addr} (h : SR K α st H) (e : H q = none) {i : Nat} {xs : List D} (hc : st[i]? = some (.lst xs)) : α[i]? ≠ some q := fun z => by
  obtain ⟨a, h1, h2⟩ := h.cell i _ hc
  rw [z] at h1
  cases h1
  obtain ⟨vs, h3, _⟩ := h2
  rw [e] at h3
  cases h3
/-- a new list -/
theorem SR.push {st : Sto} {q : Addr} {ds : List D} {vs : List V} (h : SR K α st H) (e : H q = none) (r : RDs K α H ds vs) : SR K (α ++ [q]) (st ++ [.lst ds]) (upd H q (.lst vs)) := by
  have hp : α <+: α ++ [q] := List.prefix_append _ _
  have hl := h.len
  refine ⟨by simp [hl], fun i c hc => ?_, fun i j xs ys a h1 h2 h3 h4 => ?_⟩
  · by_cases hi : i < st.length
    · rw [List.getElem?_append_left hi] at hc
      obtain ⟨a, h1, h2⟩ := h.cell i c hc
      exact ⟨a, get_pre hp h1, h2.mono hp (Keep.fresh e) fun o _ z => by rw [upd_ne (ne_of_none z e)]; exact z⟩
    · have hlen : i < (st ++ [Cl.lst ds]).length := (List.getElem?_eq_some_iff.mp hc).1
      have ei : i = st.length := by simp at hlen; omega
      subst ei
      rw [List.getElem?_concat_length] at hc
      cases hc
      refine ⟨q, by rw [← hl, List.getElem?_concat_length], vs, upd_same, r.mono hp (Keep.fresh e)⟩
  · have key : ∀ (i : Nat) (xs : List D) (a : Addr), (st ++ [Cl.lst ds])[i]? = some (.lst xs) → (α ++ [q])[i]? = some a → (i < st.length ∧ st[i]? = some (.lst xs) ∧ α[i]? = some a) ∨ (i = st.length ∧ a = q) := by
      intro i xs a g1 g2
      by_cases hi : i < st.length
      · rw [List.getElem?_append_left hi] at g1
        rw [List.getElem?_append_left (by omega)] at g2
        exact .inl ⟨hi, g1, g2⟩
      · have hlen : i < (st ++ [Cl.lst ds]).length := (List.getElem?_eq_some_iff.mp g1).1
        have ei : i = st.length := by simp at hlen; omega
        subst ei
        rw [← hl, List.getElem?_concat_length] at g2
        cases g2
        exact .inr ⟨rfl, rfl⟩
    rcases key i xs a h1 h3 with ⟨_, g1, g2⟩ | ⟨g1, g2⟩ <;> rcases key j ys a h2 h4 with ⟨_, g3, g4⟩ | ⟨g3, g4⟩
    · exact h.inj i j xs ys a g1 g3 g2 g4
    · subst g4; exact absurd g2 (h.noCell e g1)
    · subst g2; exact absurd g4 (h.noCell e g3)
    · omega
/-- a new dict without entries -/
theorem SR.pushE {st : Sto} {q : Addr} (h : SR K α st H) (e : H q = none) : SR K (α ++ [q]) (st ++ [.emp]) (upd H q (.dK [])) := by
  have hp : α <+: α ++ [q] := List.prefix_append _ _
  have hl := h.len
  have old : ∀ (i : Nat) (xs : List D), (st ++ [Cl.emp])[i]? = some (.lst xs) → i < st.length ∧ st[i]? = some (.lst xs) := fun i xs g => by
    by_cases hi : i < st.length
    · rw [List.getElem?_append_left hi] at g; exact ⟨hi, g⟩
    · have hlen : i < (st ++ [Cl.emp]).length := (List.getElem?_eq_some_iff.mp g).1
      have ei : i = st.length := by simp at hlen; omega
      subst ei
      rw [List.getElem?_concat_length] at g
      cases g
  refine ⟨by simp [hl], fun i c hc => ?_, fun i j xs ys a h1 h2 h3 h4 => ?_⟩
  · by_cases hi : i < st.length
    · rw [List.getElem?_append_left hi] at hc
      obtain ⟨a, h1, h2⟩ := h.cell i c hc
      exact ⟨a, get_pre hp h1, h2.mono hp (Keep.fresh e) fun o _ z => by rw [upd_ne (ne_of_none z e)]; exact z⟩
    · have hlen : i < (st ++ [Cl.emp]).length := (List.getElem?_eq_some_iff.mp hc).1
      have ei : i = st.length := by simp at hlen; omega
      subst ei
      rw [List.getElem?_concat_length] at hc
      cases hc
      exact ⟨q, by rw [← hl, List.getElem?_concat_length], upd_same⟩
  · obtain ⟨i1, g1⟩ := old i xs h1
    obtain ⟨j1, g2⟩ := old j ys h2
    rw [List.getElem?_append_left (by omega)] at h3 h4
    exact h.inj i j xs ys a g1 g2 h3 h4
/-- a list is changed -/
theorem SR.put {st : Sto} {r : Nat} {q : Addr} {ds xs : List D} {vs : List V} (h : SR K α st H) (e : st[r]? = some (.lst xs)) (ea : α[r]? = some q) (rr : RDs K α H ds vs) : SR K α (st.set r (.lst ds)) (upd H q (.lst vs)) := by
  obtain ⟨a, h1, vs0, h2, _⟩ := h.cell r _ e
  rw [ea] at h1
  cases h1
  have k : Keep H (upd H q (.lst vs)) := Keep.lst h2
  have hr : r < st.length := (List.getElem?_eq_some_iff.mp e).1
  have back : ∀ (i : Nat) (ys : List D), (st.set r (.lst ds))[i]? = some (.lst ys) → ∃ zs, st[i]? = some (.lst zs) := fun i ys g => by
    by_cases hi : r = i
    · subst hi; exact ⟨xs, e⟩
    · rw [List.getElem?_set_ne hi] at g; exact ⟨ys, g⟩
  refine ⟨by simp [h.len], fun i c hc => ?_, fun i j ys zs a g1 g2 g3 g4 => ?_⟩
  · by_cases hi : r = i
    · subst hi
      rw [List.getElem?_set_self hr] at hc
      cases hc
      exact ⟨q, ea, vs, upd_same, rr.mono (List.prefix_refl _) k⟩
    · rw [List.getElem?_set_ne hi] at hc
      obtain ⟨a, g1, g2⟩ := h.cell i c hc
      refine ⟨a, g1, ?_⟩
      cases c with
      | lst ys =>
        obtain ⟨ws, z, g4⟩ := g2
        refine ⟨ws, ?_, g4.mono (List.prefix_refl _) k⟩
        rw [upd_ne]
        · exact z
        · intro q'
          subst q'
          exact hi (h.inj r i xs ys _ e hc ea g1)
      | emp =>
        show upd H q (.lst vs) a = some (.dK [])
        rw [upd_ne]
        · exact g2
        · intro q'
          subst q'
          rw [show H a = some (.dK []) from g2] at h2
          cases h2
      | fro ys =>
        obtain ⟨ws, g3, g4⟩ := g2
        exact ⟨ws, g3.keep k, g4.mono (List.prefix_refl _) k⟩
  · obtain ⟨y2, k1⟩ := back i ys g1
    obtain ⟨z2, k2⟩ := back j zs g2
    exact h.inj i j y2 z2 a k1 k2 g3 g4
end
end DL
set_option Elab.async false
set_option linter.all false
set_option maxRecDepth 100000
/-! Tuples that a def makes, by their whole object: it has no dict. -/
namespace DL
open PySem PySem.Spec PyProof.Rows L2
section
variable {X : Cx}
/-- what is asked behind a new tuple: its object is known, and bare -/
abbrev NewT (H : Hp) (xs : List V) (Q : VK) : Prop := ∀ (p : Addr) (o : Obj), H p = none → o.dict = none → Q (.ref p) (upd H p (.frz o (.tup xs)))
theorem ep_tup {pins : List (Addr × Obj)} {s : Shared} {σ : L2.St} {H : Hp} {Q : VK} {xs : List V} {its : List Value} {tk : Nat} (I : Inv X pins σ H s) (hz : xs.length ≤ sizeLine) (r : Vals xs its) (q : NewT H xs Q) :
    EP X pins σ Q (.ref s.heap.objs.size) { s with heap := s.heap.push { cls := .type "tuple", data := .seq its.toArray }, toks := tk } := by
  refine ⟨.ref _, _, I.laid (t' := tk) (o := .frz { cls := .type "tuple", data := .seq its.toArray } (.tup xs)) (fun b u e => Heap.get?_push_of_some _ e) (Nat.le_refl _) ?_, rfl, q _ _ (I.hok.fresh (Nat.le_refl _)) rfl⟩
  exact ⟨Heap.get?_push_size _ rfl, hz, its, r, IsTup.new _ _⟩
/-- a display -/
def tTupP (t : TA) : TE := fun σ H Q => t σ H fun xs H1 => xs.length ≤ sizeLine ∧ NewT H1 xs Q
theorem pe_tupP {es : List Expr} {t : TA} {x1 : Nat} {pos : Pos} (h : PA X es t) : PE X (.Tuple es x1 pos) (tTupP t) := ⟨fun pins s σ H Q I hq =>
  wpAny_Tuple_spliced (thn (h.run pos pins s σ H _ I hq) fun us s1 ⟨xs, H1, I1, r, z, q⟩ => ⟨by rw [← r.length]; exact z, ep_tup (tk := s1.toks) I1 z r q⟩)⟩
/-- t + u -/
def rCatP (K : PySem.W.Frag) : R2 := fun x y H Q => ∃ a b xs ys, x = .ref a ∧ y = .ref b ∧ SqT K H a xs ∧ SqT K H b ys ∧ xs.length + ys.length ≤ sizeLine ∧
  (xs = [] → Q (.ref b) H) ∧ (xs ≠ [] → ys = [] → Q (.ref a) H) ∧ (xs ≠ [] → ys ≠ [] → NewT H (xs ++ ys) Q)
theorem op_catP : OpR X (binaryOp .Add) (rCatP X.K) := by
  rintro pins s σ H x y v u Q I rx ry ⟨a, b, xs, ys, rfl, rfl, ha, hb, hz, q0, q1, q2⟩
  cases rx
  cases ry
  obtain ⟨i1, r1, t1, _⟩ := I.tuple ha
  obtain ⟨i2, r2, t2, _⟩ := I.tuple hb
  by_cases hx : xs = []
  · subst hx
    cases r1
    exact cat_tup0 t1 t2 ⟨.ref b, H, I, rfl, q0 rfl⟩
  · exact HT.cat_tup t1 t2 (fun z => hx (r1.nil_iff.mp z)) (fun z => ⟨.ref a, H, I, rfl, q1 hx (r2.nil_iff.mp z)⟩)
      (fun z => ep_tup (tk := s.toks) I (by rw [List.length_append]; exact hz) (r1.append r2) (q2 hx fun w => z (r2.nil_iff.mpr w))) (by rw [← r1.length, ← r2.length]; exact hz)
/-- t[lo:hi] -/
def rSlP (K : PySem.W.Frag) : V → Option Int → Option Int → Hp → VK → Prop := fun x lo hi H Q => ∃ a xs, x = .ref a ∧ SqT K H a xs ∧
  (HT.sIx xs.length 0 lo = 0 ∧ HT.sIx xs.length xs.length hi = xs.length → Q (.ref a) H) ∧ (¬ (HT.sIx xs.length 0 lo = 0 ∧ HT.sIx xs.length xs.length hi = xs.length) → NewT H (cutV xs lo hi) Q)
theorem sl_tupP : SlR X (rSlP X.K) := by
  rintro pins s σ H x v vl vu lo hi sl Q I rx hs pl pu ⟨a, xs, rfl, hx, q1, q2⟩
  cases rx
  obtain ⟨its, r, ht, hz⟩ := I.tuple hx
  have hl : its.toArray.size = xs.length := by rw [List.size_toArray]; exact r.length.symm
  refine ⟨"tuple", _, PyProof.Rows.slot_tuple_getitem.lookup, ht.typeIs, ?_⟩
  by_cases hw : HT.sIx xs.length 0 lo = 0 ∧ HT.sIx xs.length xs.length hi = xs.length
  · exact getItem_tuple_whole ht hs pl pu (by rw [hl]; exact hw) ⟨.ref a, H, I, rfl, q1 hw⟩
  · refine HT.getItem_tuple_cut ht hs pl pu (by rw [hl]; exact hw) ?_ (by rw [hl]; exact hz)
    rw [hl]
    exact ep_tup (tk := s.toks) I (Nat.le_trans (cutV_length xs lo hi) hz) ((r.drop (HT.sIx xs.length 0 lo)).take (HT.sIx xs.length xs.length hi - HT.sIx xs.length 0 lo)) (q2 hw)
/-- tuple(x) -/
theorem call_tupleP : CallR X (.type "tuple") (fun xs H Q => ∃ p ys, xs = [.ref p] ∧ ((SqL X.K H p ys ∧ NewT H ys Q) ∨ (SqT X.K H p ys ∧ Q (.ref p) H))) := by
  rintro pins s σ H xs us Q I r ⟨p, ys, rfl, h⟩
  obtain ⟨u, rfl, rx⟩ := vals1 r
  cases rx
  rcases h with ⟨hq, q⟩ | ⟨hq, q⟩
  · obtain ⟨its, r', pl, hz⟩ := I.list hq
    have hl := r'.length
    refine call_tuple_list pl.isList (fun h' kp => ?_) (by rw [List.size_toArray]; omega)
    have I1 : Inv X pins σ H { s with heap := h' } := I.kept (t' := s.toks) kp
    exact ep_tup (tk := s.toks) I1 hz r' q
  · obtain ⟨its, r', pl, hz⟩ := I.tuple hq
    exact call_tuple_same pl ⟨.ref p, H, I, rfl, q⟩
end
end DL
set_option Elab.async false
set_option linter.all false
set_option maxRecDepth 100000
namespace DL
open PySem PySem.Spec PyProof.Rows L2

/-! ### readings -/
def Go {β : Type} (K : PySem.W.Frag) (W : WX) (α : List Addr) (H : Hp) (σ : L2.St) (r : R β) (F : β → Sto → List Addr → Hp → Prop) : Prop :=
  match r with
  | .ok b st => ∀ α' H', α <+: α' → Keep H H' → SR K α' st H' → F b st α' H'
  | .ex x st => ∀ α' H' c dx, α <+: α' → Keep H H' → SR K α' st H' → RX K α' H' x c dx → W c dx σ H'
  | .no => False
def tE (K : PySem.W.Frag) (W : WX) (m : En → Sto → R D) : TE := fun σ H Q => ∃ α env st, ER K α env σ H ∧ SR K α st H ∧ Go K W α H σ (m env st) fun d _ α' H' => ∀ v, RD K α' H' d v → Q v H'
def tT (K : PySem.W.Frag) (W : WX) (m : En → Sto → R Bool) : TT := fun σ H Q => ∃ α env st, ER K α env σ H ∧ SR K α st H ∧ Go K W α H σ (m env st) fun b _ _ H' => Q b H'
def tA (K : PySem.W.Frag) (W : WX) (m : En → Sto → R (List D)) : TA := fun σ H Q => ∃ α env st, ER K α env σ H ∧ SR K α st H ∧ Go K W α H σ (m env st) fun ds _ α' H' => ∀ vs, RDs K α' H' ds vs → Q vs H'
abbrev DE (X : Cx) (W : WX) (e : Expr) (m : En → Sto → R D) : Prop := PE X e (tE X.K W m)
abbrev DT (X : Cx) (W : WX) (e : Expr) (m : En → Sto → R Bool) : Prop := PT X e (tT X.K W m)
abbrev DA (X : Cx) (W : WX) (es : List Expr) (m : En → Sto → R (List D)) : Prop := PA X es (tA X.K W m)

section
variable {K : PySem.W.Frag} {W : WX} {α : List Addr} {H : Hp} {σ : L2.St}
theorem Go.mono {β : Type} {r : R β} {F F' : β → Sto → List Addr → Hp → Prop} (h : Go K W α H σ r F) (f : ∀ b st α' H', α <+: α' → Keep H H' → SR K α' st H' → F b st α' H' → F' b st α' H') : Go K W α H σ r F' := by
  cases r with
  | ok b st => exact fun α' H' p k s => f b st α' H' p k s (h α' H' p k s)
  | ex x st => exact h
  | no => exact h
theorem Go.bind {β γ : Type} {r : R β} {k : β → Sto → R γ} {F : γ → Sto → List Addr → Hp → Prop} (h : Go K W α H σ (r.bind k) F) : Go K W α H σ r fun b st α' H' => Go K W α' H' σ (k b st) F := by
  cases r with
  | ok b st =>
    intro α' H' p q s
    have h' : Go K W α H σ (k b st) F := h
    revert h'
    show Go K W α H σ (k b st) F → Go K W α' H' σ (k b st) F
    cases k b st with
    | ok c st2 => exact fun h' α2 H2 p2 q2 s2 => h' α2 H2 (p.trans p2) (q.trans q2) s2
    | ex x st2 => exact fun h' α2 H2 c dx p2 q2 s2 => h' α2 H2 c dx (p.trans p2) (q.trans q2) s2
    | no => exact fun h' => h'
  | ex x st => exact h
  | no => exact h
/-- at the same place: a pure end -/
theorem Go.here {β : Type} {b : β} {st : Sto} {F : β → Sto → List Addr → Hp → Prop} (h : Go K W α H σ (.ok b st) F) (s : SR K α st H) : F b st α H := h α H (List.prefix_refl _) (Keep.refl _) s
theorem Go.at {β : Type} {b : β} {st : Sto} {F : β → Sto → List Addr → Hp → Prop} {α' : List Addr} {H' : Hp} (h : Go K W α H σ (.ok b st) F) (p : α <+: α') (k : Keep H H') (s : SR K α' st H') : F b st α' H' := h α' H' p k s
end
theorem PE.weak {X : Cx} {e : Expr} {t t' : TE} (h : PE X e t) (f : ∀ σ H Q, t' σ H Q → t σ H Q) : PE X e t' := ⟨fun pins s σ H Q I hw => h.run pins s σ H Q I (f σ H Q hw)⟩
theorem PT.weak {X : Cx} {e : Expr} {t t' : TT} (h : PT X e t) (f : ∀ σ H Q, t' σ H Q → t σ H Q) : PT X e t' := ⟨fun pins s σ H Q I hw => h.run pins s σ H Q I (f σ H Q hw)⟩
theorem PW.weak {X : Cx} {e : Expr} {t t' : TT} (h : PW X e t) (f : ∀ σ H Q, t' σ H Q → t σ H Q) : PW X e t' := ⟨fun wh pins s σ H Q I hw => h.run wh pins s σ H Q I (f σ H Q hw)⟩
theorem PA.weak {X : Cx} {e : List Expr} {t t' : TA} (h : PA X e t) (f : ∀ σ H Q, t' σ H Q → t σ H Q) : PA X e t' := ⟨fun pos pins s σ H Q I hw => h.run pos pins s σ H Q I (f σ H Q hw)⟩
theorem PS.weak {X : Cx} {e : Stmt} {t t' : TS} (h : PS X e t) (f : ∀ Dn σ H, t' Dn σ H → t Dn σ H) : PS X e t' := ⟨fun pins s σ H Dn I hw => h.run pins s σ H Dn I (f Dn σ H hw)⟩
theorem PSs.weak {X : Cx} {e : List Stmt} {t t' : TS} (h : PSs X e t) (f : ∀ Dn σ H, t' Dn σ H → t Dn σ H) : PSs X e t' := ⟨fun pins s σ H Dn I hw => h.run pins s σ H Dn I (f Dn σ H hw)⟩

/-! ### names and constants -/
def mVar (i : Nat) (env : En) (st : Sto) : R D := match env[i]? with
  | some (some d) => .ok d st
  | _ => .no
def mC (d : D) (env : En) (st : Sto) : R D := .ok d st
section
variable {X : Cx} {W : WX}
theorem de_var (i : Nat) {x : Str} {pos : Pos} (hN : X.N[i]? = some x := by rfl) (hv : Vis X.env.scope x := by first | exact Or.inl rfl | exact Or.inr (Or.inl rfl) | exact Or.inr (Or.inr rfl)) (hd : (x == ("__debug__" : Str)) = false := by decide)
    (hcd : (x == ("__classdict__" : Str)) = false := by decide) : DE X W (.Name x pos) (mVar i) := by
  refine PE.weak (pe_var hN hv hd hcd) fun σ H Q h => ?_
  obtain ⟨α, env, st, hE, hS, h⟩ := h
  unfold mVar at h
  split at h
  · rename_i d e
    obtain ⟨v, e1, e2⟩ := hE.2 i d e
    exact ⟨v, e1, h.here hS v e2⟩
  · exact h.elim
theorem de_c {e : Expr} {v : V} {d : D} (h : PE X e (tC v)) (hr : ∀ α H, RD X.K α H d v) : DE X W e (mC d) := by
  refine PE.weak h fun σ H Q h => ?_
  obtain ⟨α, env, st, hE, hS, h⟩ := h
  exact h.here hS v (hr α H)
theorem de_int {i : Int} {j : Nat} {pos : Pos} : DE X W (.Constant (.int i) j pos) (mC (.int i)) := de_c pe_int fun _ _ => .int i
theorem de_bl {i : Bool} {j : Nat} {pos : Pos} : DE X W (.Constant (.bool i) j pos) (mC (.bl i)) := de_c pe_bl fun _ _ => .bl i
theorem de_str {i : Str} {j : Nat} {pos : Pos} : DE X W (.Constant (.str i) j pos) (mC (.str i)) := de_c pe_str fun _ _ => .str i
theorem de_non {j : Nat} {pos : Pos} : DE X W (.Constant .none j pos) (mC .non) := de_c pe_non fun _ _ => .non
/-- a module's constant -/
theorem de_glob {x : Str} {v : V} {d : D} {u : Value} {pos : Pos} (hg : Gl X x) (hm : X.mg x = some u) (r : RelV v u) (hr : ∀ α H, RD X.K α H d v) (hd : (x == ("__debug__" : Str)) = false := by decide) : DE X W (.Name x pos) (mC d) := de_c (pe_glob hg hm r hd) hr
/-- a built-in type, as a value -/
theorem de_ty {x : Str} {n : String} {pos : Pos} (hg : Gl X x) (hm : X.mg x = none) (hv : bootBuiltins x = some (.type n)) (hn : x ≠ "__name__" := by decide) (hd : (x == ("__debug__" : Str)) = false := by decide) : DE X W (.Name x pos) (mC (.ty n)) :=
  de_c (pe_bltn (v := .ty n) hg hm hv rfl hn hd) fun _ _ => .ty n

/-! ### operators -/
/-- an operation on data -/
abbrev O2 := D → D → Sto → R D
abbrev O1 := D → Sto → R D
def Rw {β : Type} (r : R β) (F : β → Sto → Prop) : Prop := match r with
  | .ok b st => F b st
  | _ => False
/-- what an operation is asked for -/
def rD2 (K : PySem.W.Frag) (f : O2) : R2 := fun x y H Q => ∃ α st a b, SR K α st H ∧ RD K α H a x ∧ RD K α H b y ∧ Rw (f a b st) fun d st' => ∀ α' H' v, α <+: α' → Keep H H' → SR K α' st' H' → RD K α' H' d v → Q v H'
def rD1 (K : PySem.W.Frag) (f : O1) : V → Hp → VK → Prop := fun x H Q => ∃ α st a, SR K α st H ∧ RD K α H a x ∧ Rw (f a st) fun d st' => ∀ α' H' v, α <+: α' → Keep H H' → SR K α' st' H' → RD K α' H' d v → Q v H'
/-- no exception: an operation's result -/
def noEx {β : Type} (r : R β) : R β := match r with
  | .ok b s => .ok b s
  | _ => .no
def m2 (f : O2) (ma mb : En → Sto → R D) (env : En) (st : Sto) : R D := (ma env st).bind fun x st1 => (mb env st1).bind fun y st2 => noEx (f x y st2)
def m1 (f : O1) (ma : En → Sto → R D) (env : En) (st : Sto) : R D := (ma env st).bind fun x st1 => noEx (f x st1)
theorem Go.rw {K : PySem.W.Frag} {α : List Addr} {H : Hp} {σ : L2.St} {β : Type} {r : R β} {F : β → Sto → List Addr → Hp → Prop} (h : Go K W α H σ (noEx r) F) : Rw r fun b st => ∀ α' H', α <+: α' → Keep H H' → SR K α' st H' → F b st α' H' := by
  cases r with
  | ok b st => exact h
  | ex x st => exact h.elim
  | no => exact h.elim
theorem Rw.mono {β : Type} {r : R β} {F F' : β → Sto → Prop} (h : Rw r F) (f : ∀ b st, F b st → F' b st) : Rw r F' := by
  cases r with
  | ok b st => exact f b st h
  | ex x st => exact h.elim
  | no => exact h.elim
/-- two pieces, then a value rule -/
theorem two_of {K : PySem.W.Frag} {f : O2} {ma mb : En → Sto → R D} {σ : L2.St} {H : Hp} {Q : VK} (h : tE K W (m2 f ma mb) σ H Q) : tOp (rD2 K f) (tE K W ma) (tE K W mb) σ H Q := by
  obtain ⟨α, env, st, hE, hS, h⟩ := h
  refine ⟨α, env, st, hE, hS, h.bind.mono fun x st1 α1 H1 p1 k1 s1 h1 v rv => ?_⟩
  refine ⟨α1, env, st1, hE.mono p1 k1, s1, h1.bind.mono fun y st2 α2 H2 p2 k2 s2 h2 u ru => ?_⟩
  exact ⟨α2, st2, x, y, s2, rv.mono p2 k2, ru, h2.rw.mono fun d st3 q α' H' w p k s rw => q α' H' p k s w rw⟩
theorem one_of {K : PySem.W.Frag} {f : O1} {ma : En → Sto → R D} {σ : L2.St} {H : Hp} {Q : VK} (h : tE K W (m1 f ma) σ H Q) : tUn (rD1 K f) (tE K W ma) σ H Q := by
  obtain ⟨α, env, st, hE, hS, h⟩ := h
  refine ⟨α, env, st, hE, hS, h.bind.mono fun x st1 α1 H1 p1 k1 s1 h1 v rv => ?_⟩
  exact ⟨α1, st1, x, s1, rv, h1.rw.mono fun d st3 q α' H' w p k s rw => q α' H' p k s w rw⟩
abbrev OD2 (X : Cx) (f : Value → Value → Sem Value) (g : O2) : Prop := OpR X f (rD2 X.K g)
abbrev OD1 (X : Cx) (f : Value → Sem Value) (g : O1) : Prop := UnR X f (rD1 X.K g)
theorem de_bin {op : Operator} {f : O2} {a b : Expr} {ma mb : En → Sto → R D} {pos : Pos} (ho : OD2 X (binaryOp op) f) (ha : DE X W a ma) (hb : DE X W b mb) : DE X W (.BinOp a op b pos) (m2 f ma mb) := PE.weak (pe_op ho ha hb) fun _ _ _ => two_of
theorem de_un {op : UnaryOp} {f : O1} {a : Expr} {ma : En → Sto → R D} {pos : Pos} (ho : OD1 X (unaryOp op) f) (ha : DE X W a ma) : DE X W (.UnaryOp op a pos) (m1 f ma) := PE.weak (pe_un ho ha) fun _ _ _ => one_of
theorem de_cmp {op : CmpOp} {f : O2} {a b : Expr} {ma mb : En → Sto → R D} {pos : Pos} (ho : OD2 X (compareOp op) f) (ha : DE X W a ma) (hb : DE X W b mb) (hm : behindInMarks op b = false) : DE X W (.Compare a [op] [b] pos) (m2 f ma mb) := PE.weak (pe_cmpR ho ha hb hm) fun _ _ _ => two_of
/-- a op b op' c -/
def mChain (f g : O2) (ma mb mc : En → Sto → R D) (env : En) (st : Sto) : R D := (ma env st).bind fun x st1 => (mb env st1).bind fun y st2 => (noEx (f x y st2)).bind fun z st3 => match z with
  | .bl true => (mc env st3).bind fun w st4 => noEx (g y w st4)
  | .bl false => .ok (.bl false) st3
  | _ => .no
theorem RD.bl_of {K : PySem.W.Frag} {α : List Addr} {H : Hp} {b : Bool} {v : V} (h : RD K α H (.bl b) v) : v = .bl b := by cases h; rfl
theorem RD.int_of {K : PySem.W.Frag} {α : List Addr} {H : Hp} {b : Int} {v : V} (h : RD K α H (.int b) v) : v = .int b := by cases h; rfl
theorem RD.str_of {K : PySem.W.Frag} {α : List Addr} {H : Hp} {b : Str} {v : V} (h : RD K α H (.str b) v) : v = .str b := by cases h; rfl
theorem RD.non_of {K : PySem.W.Frag} {α : List Addr} {H : Hp} {v : V} (h : RD K α H .non v) : v = .non := by cases h; rfl
theorem RD.ty_of {K : PySem.W.Frag} {α : List Addr} {H : Hp} {n : String} {v : V} (h : RD K α H (.ty n) v) : v = .ty n := by cases h; rfl
theorem de_chain {op op' : CmpOp} {f g : O2} {a b c : Expr} {ma mb mc : En → Sto → R D} {pos : Pos} (ho : OD2 X (compareOp op) f) (ho' : OD2 X (compareOp op') g) (ha : DE X W a ma) (hb : DE X W b mb) (hc : DE X W c mc)
    (hm : lastMarks [op, op'] [b, c] = false := by with_unfolding_all rfl) : DE X W (.Compare a [op, op'] [b, c] pos) (mChain f g ma mb mc) := by
  refine PE.weak (pe_chain ho ho' ha hb hc hm) fun σ H Q h => ?_
  obtain ⟨α, env, st, hE, hS, h⟩ := h
  refine ⟨α, env, st, hE, hS, h.bind.mono fun x st1 α1 H1 p1 k1 s1 h1 v rv => ?_⟩
  refine ⟨α1, env, st1, hE.mono p1 k1, s1, h1.bind.mono fun y st2 α2 H2 p2 k2 s2 h2 u ru => ?_⟩
  refine ⟨α2, st2, x, y, s2, rv.mono p2 k2, ru, h2.bind.rw.mono fun d st3 q α3 H3 w p3 k3 s3 rw => ?_⟩
  have q3 := q α3 H3 p3 k3 s3
  split at q3
  · refine ⟨true, rw.bl_of, ?_⟩
    rw [if_pos rfl]
    refine ⟨α3, env, st3, ((hE.mono p1 k1).mono p2 k2).mono p3 k3, s3, q3.bind.mono fun w' st4 α4 H4 p4 k4 s4 h4 v' rv' => ?_⟩
    exact ⟨α4, st4, y, w', s4, (ru.mono p3 k3).mono p4 k4, rv', h4.rw.mono fun d st5 q α' H' w p k s rw => q α' H' p k s w rw⟩
  · refine ⟨false, rw.bl_of, ?_⟩
    rw [if_neg Bool.false_ne_true]
    exact q3.here s3 _ (.bl false)
  · exact q3.elim

/-! ### and, or, not, if -/
def mAnd (ma mb : En → Sto → R D) (env : En) (st : Sto) : R D := (ma env st).bind fun x st1 => match x with
  | .bl true => mb env st1
  | .bl false => .ok (.bl false) st1
  | _ => .no
def mOr (ma mb : En → Sto → R D) (env : En) (st : Sto) : R D := (ma env st).bind fun x st1 => match x with
  | .bl false => mb env st1
  | .bl true => .ok (.bl true) st1
  | _ => .no
def mNot (ma : En → Sto → R D) (env : En) (st : Sto) : R D := (ma env st).bind fun x st1 => match x with
  | .bl b => .ok (.bl (!b)) st1
  | _ => .no
variable {a b : Expr} {rest : List Expr} {ma mb : En → Sto → R D} {pos : Pos}
theorem de_one {op : BoolOp} (ha : DE X W a ma) : DE X W (.BoolOp op [a] pos) ma := pe_one ha
theorem de_and (ha : DE X W a ma) (hb : DE X W (.BoolOp .And (b :: rest) pos) mb) : DE X W (.BoolOp .And (a :: b :: rest) pos) (mAnd ma mb) := by
  refine PE.weak (pe_and ha hb) fun σ H Q h => ?_
  obtain ⟨α, env, st, hE, hS, h⟩ := h
  refine ⟨α, env, st, hE, hS, h.bind.mono fun x st1 α1 H1 p1 k1 s1 h1 v rv => ?_⟩
  split at h1
  · refine ⟨true, rv.bl_of, ?_⟩
    rw [if_pos rfl]
    exact ⟨α1, env, st1, hE.mono p1 k1, s1, h1⟩
  · refine ⟨false, rv.bl_of, ?_⟩
    rw [if_neg Bool.false_ne_true]
    exact h1.here s1 _ (.bl false)
  · exact h1.elim
theorem de_or (ha : DE X W a ma) (hb : DE X W (.BoolOp .Or (b :: rest) pos) mb) : DE X W (.BoolOp .Or (a :: b :: rest) pos) (mOr ma mb) := by
  refine PE.weak (pe_or ha hb) fun σ H Q h => ?_
  obtain ⟨α, env, st, hE, hS, h⟩ := h
  refine ⟨α, env, st, hE, hS, h.bind.mono fun x st1 α1 H1 p1 k1 s1 h1 v rv => ?_⟩
  split at h1
  · refine ⟨false, rv.bl_of, ?_⟩
    rw [if_neg Bool.false_ne_true]
    exact ⟨α1, env, st1, hE.mono p1 k1, s1, h1⟩
  · refine ⟨true, rv.bl_of, ?_⟩
    rw [if_pos rfl]
    exact h1.here s1 _ (.bl true)
  · exact h1.elim
theorem de_not (ha : DE X W a ma) : DE X W (.UnaryOp .Not a pos) (mNot ma) := by
  refine PE.weak (pe_not ha) fun σ H Q h => ?_
  obtain ⟨α, env, st, hE, hS, h⟩ := h
  refine ⟨α, env, st, hE, hS, h.bind.mono fun x st1 α1 H1 p1 k1 s1 h1 v rv => ?_⟩
  split at h1
  · exact ⟨_, rv.bl_of, h1.here s1 _ (.bl _)⟩
  · exact h1.elim

/-! ### tests -/
/-- a value that is a bool, as a test -/
def mB (ma : En → Sto → R D) (env : En) (st : Sto) : R Bool := (ma env st).bind fun x st1 => match x with
  | .bl b => .ok b st1
  | _ => .no
theorem b_of {K : PySem.W.Frag} {σ : L2.St} {H : Hp} {Q : Bool → Hp → Prop} (h : tT K W (mB ma) σ H Q) : tE K W ma σ H fun x H1 => ∃ k, x = .bl k ∧ Q k H1 := by
  obtain ⟨α, env, st, hE, hS, h⟩ := h
  refine ⟨α, env, st, hE, hS, h.bind.mono fun x st1 α1 H1 p1 k1 s1 h1 v rv => ?_⟩
  split at h1
  · exact ⟨_, rv.bl_of, h1.here s1⟩
  · exact h1.elim
theorem dt_val (ha : DE X W a ma) (he : ∀ whole, isTrue a X.env whole = (do let v ← whole; standAt a.pos; holding [v] (truthy v)) := by intro _; rfl) : DT X W a (mB ma) := PT.weak (pt_val ha he) fun _ _ _ => b_of
theorem dt_cmp {op : CmpOp} {f : O2} (ho : OD2 X (compareOp op) f) (ha : DE X W a ma) (hb : DE X W b mb) (hm : behindInMarks op b = false) : DT X W (.Compare a [op] [b] pos) (mB (m2 f ma mb)) := by
  refine PT.weak (pt_cmpR ho ha hb hm) fun σ H Q h => ?_
  obtain ⟨α, env, st, hE, hS, h⟩ := h
  refine two_of (W := W) ⟨α, env, st, hE, hS, h.bind.mono fun x st1 α1 H1 p1 k1 s1 h1 v rv => ?_⟩
  split at h1
  · exact ⟨_, rv.bl_of, h1.here s1⟩
  · exact h1.elim
theorem dt_chain {op op' : CmpOp} {f g : O2} {c : Expr} {mc : En → Sto → R D} (ho : OD2 X (compareOp op) f) (ho' : OD2 X (compareOp op') g) (ha : DE X W a ma) (hb : DE X W b mb) (hc : DE X W c mc)
    (hm : lastMarks [op, op'] [b, c] = false := by with_unfolding_all rfl) : DT X W (.Compare a [op, op'] [b, c] pos) (mB (mChain f g ma mb mc)) := by
  refine PT.weak (pt_chain ho ho' ha hb hc hm) fun σ H Q h => ?_
  obtain ⟨α, env, st, hE, hS, h⟩ := b_of h
  refine ⟨α, env, st, hE, hS, h.bind.mono fun x st1 α1 H1 p1 k1 s1 h1 v rv => ?_⟩
  refine ⟨α1, env, st1, hE.mono p1 k1, s1, h1.bind.mono fun y st2 α2 H2 p2 k2 s2 h2 u ru => ?_⟩
  refine ⟨α2, st2, x, y, s2, rv.mono p2 k2, ru, h2.bind.rw.mono fun d st3 q α3 H3 w p3 k3 s3 rw => ?_⟩
  have q3 := q α3 H3 p3 k3 s3
  split at q3
  · refine ⟨true, rw.bl_of, ?_⟩
    rw [if_pos rfl]
    refine ⟨α3, env, st3, ((hE.mono p1 k1).mono p2 k2).mono p3 k3, s3, q3.bind.mono fun w' st4 α4 H4 p4 k4 s4 h4 v' rv' => ?_⟩
    exact ⟨α4, st4, y, w', s4, (ru.mono p3 k3).mono p4 k4, rv', h4.rw.mono fun d st5 q α' H' w p k s rw => q α' H' p k s w rw⟩
  · refine ⟨false, rw.bl_of, ?_⟩
    rw [if_neg Bool.false_ne_true]
    exact q3.here s3 _ (.bl false)
  · exact q3.elim
abbrev DW (X : Cx) (W : WX) (e : Expr) (m : En → Sto → R Bool) : Prop := PW X e (tT X.K W m)
def tmAnd (ma mb : En → Sto → R Bool) (env : En) (st : Sto) : R Bool := (ma env st).bind fun x st1 => if x = true then mb env st1 else .ok false st1
def tmOr (ma mb : En → Sto → R Bool) (env : En) (st : Sto) : R Bool := (ma env st).bind fun x st1 => if x = true then .ok true st1 else mb env st1
def tmNot (ma : En → Sto → R Bool) (env : En) (st : Sto) : R Bool := (ma env st).bind fun x st1 => .ok (!x) st1
variable {ta tb : En → Sto → R Bool}
theorem dw_and1 (ha : DT X W a ta) : DW X W (.BoolOp .And [a] pos) ta := pw_and1 ha
theorem dw_or1 (ha : DT X W a ta) : DW X W (.BoolOp .Or [a] pos) ta := pw_or1 ha
theorem dw_and (ha : DT X W a ta) (hb : DW X W (.BoolOp .And (b :: rest) pos) tb) : DW X W (.BoolOp .And (a :: b :: rest) pos) (tmAnd ta tb) := by
  refine PW.weak (pw_and ha hb) fun σ H Q h => ?_
  obtain ⟨α, env, st, hE, hS, h⟩ := h
  refine ⟨α, env, st, hE, hS, h.bind.mono fun x st1 α1 H1 p1 k1 s1 h1 => ?_⟩
  cases x with
  | true => rw [if_pos rfl] at h1 ⊢; exact ⟨α1, env, st1, hE.mono p1 k1, s1, h1⟩
  | false => rw [if_neg Bool.false_ne_true] at h1 ⊢; exact h1.here s1
theorem dw_or (ha : DT X W a ta) (hb : DW X W (.BoolOp .Or (b :: rest) pos) tb) : DW X W (.BoolOp .Or (a :: b :: rest) pos) (tmOr ta tb) := by
  refine PW.weak (pw_or ha hb) fun σ H Q h => ?_
  obtain ⟨α, env, st, hE, hS, h⟩ := h
  refine ⟨α, env, st, hE, hS, h.bind.mono fun x st1 α1 H1 p1 k1 s1 h1 => ?_⟩
  cases x with
  | true => rw [if_pos rfl] at h1 ⊢; exact h1.here s1
  | false => rw [if_neg Bool.false_ne_true] at h1 ⊢; exact ⟨α1, env, st1, hE.mono p1 k1, s1, h1⟩
theorem dt_w {e : Expr} {m : En → Sto → R Bool} (h : DW X W e m) : DT X W e m := h.pt
theorem dt_not (ha : DT X W a ta) : DT X W (.UnaryOp .Not a pos) (tmNot ta) := by
  refine PT.weak (pt_not ha) fun σ H Q h => ?_
  obtain ⟨α, env, st, hE, hS, h⟩ := h
  exact ⟨α, env, st, hE, hS, h.bind.mono fun x st1 α1 H1 p1 k1 s1 h1 => h1.here s1⟩
def mIf (mc : En → Sto → R Bool) (ma mb : En → Sto → R D) (env : En) (st : Sto) : R D := (mc env st).bind fun x st1 => if x = true then ma env st1 else mb env st1
theorem de_if {c : Expr} {mc : En → Sto → R Bool} (hc : DT X W c mc) (ha : DE X W a ma) (hb : DE X W b mb) : DE X W (.IfExp c a b pos) (mIf mc ma mb) := by
  refine PE.weak (pe_ifExp hc ha hb) fun σ H Q h => ?_
  obtain ⟨α, env, st, hE, hS, h⟩ := h
  refine ⟨α, env, st, hE, hS, h.bind.mono fun x st1 α1 H1 p1 k1 s1 h1 => ?_⟩
  cases x with
  | true => rw [if_pos rfl] at h1 ⊢; exact ⟨α1, env, st1, hE.mono p1 k1, s1, h1⟩
  | false => rw [if_neg Bool.false_ne_true] at h1 ⊢; exact ⟨α1, env, st1, hE.mono p1 k1, s1, h1⟩

/-! ### arguments, displays, calls -/
def aNil (env : En) (st : Sto) : R (List D) := .ok [] st
def aCons (ma : En → Sto → R D) (mr : En → Sto → R (List D)) (env : En) (st : Sto) : R (List D) := (ma env st).bind fun x st1 => (mr env st1).bind fun xs st2 => .ok (x :: xs) st2
variable {e : Expr} {es : List Expr} {me : En → Sto → R D} {mr : En → Sto → R (List D)}
theorem da_nil : DA X W [] aNil := by
  refine PA.weak pa_nil fun σ H Q h => ?_
  obtain ⟨α, env, st, hE, hS, h⟩ := h
  exact h.here hS _ .nil
theorem da_cons (ha : DE X W e me) (hr : DA X W es mr) (hs : starEach (e :: es) X.env = (false, eval e X.env) :: starEach es X.env := by rfl) : DA X W (e :: es) (aCons me mr) := by
  refine PA.weak (pa_cons ha hr hs) fun σ H Q h => ?_
  obtain ⟨α, env, st, hE, hS, h⟩ := h
  refine ⟨α, env, st, hE, hS, h.bind.mono fun x st1 α1 H1 p1 k1 s1 h1 v rv => ?_⟩
  refine ⟨α1, env, st1, hE.mono p1 k1, s1, h1.bind.mono fun xs st2 α2 H2 p2 k2 s2 h2 vs rvs => ?_⟩
  exact h2.here s2 _ (.cons (rv.mono p2 k2) rvs)
def mTup (mr : En → Sto → R (List D)) (env : En) (st : Sto) : R D := (mr env st).bind fun xs st1 => if xs.length ≤ sizeLine then .ok (.tup xs) st1 else .no
def mLst (mr : En → Sto → R (List D)) (env : En) (st : Sto) : R D := (mr env st).bind fun xs st1 => if xs.length ≤ sizeLine then .ok (.ref st1.length) (st1 ++ [.lst xs]) else .no
theorem de_tup {x1 : Nat} (hr : DA X W es mr) : DE X W (.Tuple es x1 pos) (mTup mr) := by
  refine PE.weak (pe_tupP hr) fun σ H Q h => ?_
  obtain ⟨α, env, st, hE, hS, h⟩ := h
  refine ⟨α, env, st, hE, hS, h.bind.mono fun xs st1 α1 H1 p1 k1 s1 h1 vs rvs => ?_⟩
  split at h1
  · rename_i hz
    refine ⟨by rw [← rvs.len]; exact hz, fun p o hp ho => ?_⟩
    exact h1.at (List.prefix_refl _) (Keep.fresh hp) (s1.fresh hp) _ (.tup (SqP.new ho) (rvs.mono (List.prefix_refl _) (Keep.fresh hp)))
  · exact h1.elim
theorem lst_end {K : PySem.W.Frag} {α1 : List Addr} {H1 : Hp} {σ : L2.St} {xs : List D} {vs : List V} {st1 : Sto} {Q : VK} {p : Addr} (s1 : SR K α1 st1 H1) (rvs : RDs K α1 H1 xs vs) (hp : H1 p = none)
    (h1 : Go K W α1 H1 σ (.ok (D.ref st1.length) (st1 ++ [.lst xs])) fun d _ α' H' => ∀ v, RD K α' H' d v → Q v H') : Q (.ref p) (upd H1 p (.lst vs)) := by
  refine h1.at (List.prefix_append _ [p]) (Keep.fresh hp) (s1.push hp rvs) _ (.ref ?_)
  rw [← s1.len, List.getElem?_concat_length]
theorem de_lst (hr : DA X W es mr) : DE X W (.List es pos) (mLst mr) := by
  refine PE.weak (pe_lst hr) fun σ H Q h => ?_
  obtain ⟨α, env, st, hE, hS, h⟩ := h
  refine ⟨α, env, st, hE, hS, h.bind.mono fun xs st1 α1 H1 p1 k1 s1 h1 vs rvs => ?_⟩
  split at h1
  · rename_i hz
    exact ⟨by rw [← rvs.len]; exact hz, fun p hp => lst_end s1 rvs hp h1⟩
  · exact h1.elim
/-- a built-in by values -/
def rDs (K : PySem.W.Frag) (f : List D → Sto → R D) : List V → Hp → VK → Prop := fun vs H Q => ∃ α st ds, SR K α st H ∧ RDs K α H ds vs ∧ Rw (f ds st) fun d st' => ∀ α' H' v, α <+: α' → Keep H H' → SR K α' st' H' → RD K α' H' d v → Q v H'
abbrev CDs (X : Cx) (f : Value) (g : List D → Sto → R D) : Prop := CallR X f (rDs X.K g)
def mFn (f : List D → Sto → R D) (mr : En → Sto → R (List D)) (env : En) (st : Sto) : R D := (mr env st).bind fun xs st1 => noEx (f xs st1)
theorem fn_of' {K : PySem.W.Frag} {f : List D → Sto → R D} {σ : L2.St} {H : Hp} {Q : VK} (h : tE K W (mFn f mr) σ H Q) : tCB (rDs K f) (tA K W mr) σ H Q := by
  obtain ⟨α, env, st, hE, hS, h⟩ := h
  refine ⟨α, env, st, hE, hS, h.bind.mono fun xs st1 α1 H1 p1 k1 s1 h1 vs rvs => ?_⟩
  exact ⟨α1, st1, xs, s1, rvs, h1.rw.mono fun d st3 q α' H' w p k s rw => q α' H' p k s w rw⟩
theorem de_callB {x : Str} {id : String} {f : List D → Sto → R D} {p : Pos} (hc : CDs X (.builtin id) f) (hg : Gl X x) (hm : X.mg x = none) (hv : bootBuiltins x = some (.builtin id)) (ha : DA X W (e :: es) mr) (hn : x ≠ "__name__" := by decide) (hdb : (x == ("__debug__" : Str)) = false := by decide)
    (he : starEach (e :: es) X.env = (false, eval e X.env) :: starEach es X.env := by rfl) (hpl : (backTo pos (starEach es X.env)).any (·.1) = false := by rfl) : DE X W (.Call (.Name x p) (e :: es) [] pos) (mFn f mr) := PE.weak (pe_callB hc hg hm hv ha hn hdb he hpl) fun _ _ _ => fn_of'
theorem de_callTy {x : Str} {T : String} {f : List D → Sto → R D} {p : Pos} (hc : CDs X (.type T) f) (hg : Gl X x) (hm : X.mg x = none) (hv : bootBuiltins x = some (.type T)) (ha : DA X W (e :: es) mr) (hn : x ≠ "__name__" := by decide) (hdb : (x == ("__debug__" : Str)) = false := by decide)
    (he : starEach (e :: es) X.env = (false, eval e X.env) :: starEach es X.env := by rfl) (hpl : (backTo pos (starEach es X.env)).any (·.1) = false := by rfl) : DE X W (.Call (.Name x p) (e :: es) [] pos) (mFn f mr) := PE.weak (pe_callTy hc hg hm hv ha hn hdb he hpl) fun _ _ _ => fn_of'
end
end DL
set_option Elab.async false
set_option linter.all false
set_option maxRecDepth 100000
namespace DL
open PySem PySem.Spec PyProof.Rows L2
/-! ### a tuple times a number -/
theorem tuple_same (l : Addr) (items : Array Value) (n : Nat) (dd : Option Addr) (sl : Array (Option Value)) (x : Int) (u : Tok) (c0 : (decide (x < -(2 ^ 63)) || decide (x ≥ 2 ^ 63)) = false) (c1 : (items.isEmpty || x == 1) = true) :
    Meets (Builtin.«tuple.__mul__» ⟨[.ref l, .int x u], []⟩) (fun _ R s => s.heap.get? l = some { cls := .type "tuple", dict := dd, data := .seq items n, slots := sl } ∧ R (.ok (.ret (Value.ref l))) s) :=
  .of_wp fun prog w A R s h => by
    obtain ⟨hp, g, d, tk, os⟩ := s
    obtain ⟨hl, h⟩ := h
    have f1 := AutoSeq1.idx_int
    wp_walk using wpAny_loadPart' hl
    refine wpAny_ite_false (decide_eq_false (by rw [c0]; exact Bool.false_ne_true)) ?_
    wp_walk using wpAny_loadPart' hl
    exact ⟨_, rfl, h⟩
theorem tuple_none (l : Addr) (items : Array Value) (n : Nat) (dd : Option Addr) (sl : Array (Option Value)) (x : Int) (u : Tok) (c0 : (decide (x < -(2 ^ 63)) || decide (x ≥ 2 ^ 63)) = false) (c1 : (items.isEmpty || x == 1) = false) (c2 : (decide (x ≤ 0) || items.isEmpty) = true) :
    Meets (Builtin.«tuple.__mul__» ⟨[.ref l, .int x u], []⟩) (fun _ R s => s.heap.get? l = some { cls := .type "tuple", dict := dd, data := .seq items n, slots := sl } ∧ R (.ok (.ret (Value.ref s.heap.objs.size))) { s with heap := s.heap.push { cls := Value.type "tuple", data := Data.seq #[] }, toks := s.toks }) :=
  .of_wp fun prog w A R s h => by
    obtain ⟨hp, g, d, tk, os⟩ := s
    obtain ⟨hl, h⟩ := h
    have f1 := AutoSeq1.idx_int
    wp_walk using wpAny_loadPart' hl
    refine wpAny_ite_false (decide_eq_false (by rw [c0]; exact Bool.false_ne_true)) ?_
    wp_walk using wpAny_loadPart' hl
    exact ⟨_, rfl, h⟩

/-! ### what stands in the store -/
def rdW (st : Sto) (r : Nat) : Option (List D) := match st[r]? with
  | some (.lst xs) => some xs
  | _ => none
def rdL (st : Sto) (r : Nat) : Option (List D) := match st[r]? with
  | some (.lst xs) => some xs
  | some (.fro xs) => some xs
  | _ => none
section
variable {K : PySem.W.Frag} {α : List Addr} {H : Hp} {st : Sto}
theorem SR.w (s : SR K α st H) {r : Nat} {a : Addr} {xs : List D} (e : rdW st r = some xs) (ea : α[r]? = some a) : st[r]? = some (.lst xs) ∧ ∃ vs, H a = some (.lst vs) ∧ RDs K α H xs vs := by
  unfold rdW at e
  split at e
  · rename_i ys h
    cases e
    obtain ⟨b, h1, h2⟩ := s.cell r _ h
    rw [ea] at h1
    cases h1
    exact ⟨h, h2⟩
  · cases e
theorem SR.l (s : SR K α st H) {r : Nat} {a : Addr} {xs : List D} (e : rdL st r = some xs) (ea : α[r]? = some a) : ∃ vs, SqL K H a vs ∧ RDs K α H xs vs := by
  unfold rdL at e
  split at e
  · rename_i ys h
    cases e
    obtain ⟨b, h1, vs, h2, h3⟩ := s.cell r _ h
    rw [ea] at h1
    cases h1
    exact ⟨vs, SqL.of h2, h3⟩
  · rename_i ys h
    cases e
    obtain ⟨b, h1, vs, h2, h3⟩ := s.cell r _ h
    rw [ea] at h1
    cases h1
    exact ⟨vs, h2.sq, h3⟩
  · cases e
def isEmp (st : Sto) (r : Nat) : Bool := match st[r]? with
  | some .emp => true
  | _ => false
theorem SR.e (s : SR K α st H) {r : Nat} {a : Addr} (e : isEmp st r = true) (ea : α[r]? = some a) : H a = some (.dK []) := by
  unfold isEmp at e
  split at e
  · rename_i h
    obtain ⟨b, h1, h2⟩ := s.cell r _ h
    rw [ea] at h1
    cases h1
    exact h2
  · cases e
theorem RD.ref_of {r : Nat} {v : V} (h : RD K α H (.ref r) v) : ∃ a, v = .ref a ∧ α[r]? = some a := by
  cases h with
  | ref e => exact ⟨_, rfl, e⟩
theorem RD.tup_of {xs : List D} {v : V} (h : RD K α H (.tup xs) v) : ∃ a vs, v = .ref a ∧ SqT K H a vs ∧ RDs K α H xs vs := by
  cases h with
  | tup a b => exact ⟨_, _, rfl, a.t, b⟩
theorem RD.tup_ofP {xs : List D} {v : V} (h : RD K α H (.tup xs) v) : ∃ a vs, v = .ref a ∧ SqP K H a vs ∧ RDs K α H xs vs := by
  cases h with
  | tup a b => exact ⟨_, _, rfl, a, b⟩
end

/-! ### ends of operations -/
section
variable {K : PySem.W.Frag} {α : List Addr} {H : Hp} {st : Sto}
def Fin (K : PySem.W.Frag) (α : List Addr) (H : Hp) (Q : VK) (d : D) (st : Sto) : Prop := ∀ α' H' v, α <+: α' → Keep H H' → SR K α' st H' → RD K α' H' d v → Q v H'
theorem Fin.here {Q : VK} {d : D} {v : V} (h : Fin K α H Q d st) (s : SR K α st H) (r : RD K α H d v) : Q v H := h α H v (List.prefix_refl _) (Keep.refl _) s r
theorem Fin.tup {Q : VK} {ds : List D} {vs : List V} (h : Fin K α H Q (.tup ds) st) (s : SR K α st H) (r : RDs K α H ds vs) : NewT H vs Q := fun p o hp ho =>
  h α _ _ (List.prefix_refl _) (Keep.fresh hp) (s.fresh hp) (.tup (SqP.new ho) (r.mono (List.prefix_refl _) (Keep.fresh hp)))
theorem Fin.new {Q : VK} {ds : List D} {vs : List V} (h : Fin K α H Q (.ref st.length) (st ++ [.lst ds])) (s : SR K α st H) (r : RDs K α H ds vs) {p : Addr} (hp : H p = none) : Q (.ref p) (upd H p (.lst vs)) :=
  h (α ++ [p]) _ _ (List.prefix_append _ _) (Keep.fresh hp) (s.push hp r) (.ref (by rw [← s.len, List.getElem?_concat_length]))
theorem Fin.newE {Q : VK} (h : Fin K α H Q (.ref st.length) (st ++ [.emp])) (s : SR K α st H) {p : Addr} (hp : H p = none) : Q (.ref p) (upd H p (.dK [])) :=
  h (α ++ [p]) _ _ (List.prefix_append _ _) (Keep.fresh hp) (s.pushE hp) (.ref (by rw [← s.len, List.getElem?_concat_length]))
theorem Fin.put {Q : VK} {d : D} {v : V} {r : Nat} {q : Addr} {ds xs : List D} {vs ws : List V} (h : Fin K α H Q d (st.set r (.lst ds))) (s : SR K α st H) (e : st[r]? = some (.lst xs)) (ea : α[r]? = some q) (eh : H q = some (.lst ws)) (rr : RDs K α H ds vs) (rd : RD K α H d v) : Q v (upd H q (.lst vs)) :=
  h α _ _ (List.prefix_refl _) (Keep.lst eh) (s.put e ea rr) (rd.mono (List.prefix_refl _) (Keep.lst eh))
end

/-! ### arithmetic -/
def Small (i : Int) : Prop := -(2 ^ 64) < i ∧ i < 2 ^ 64
instance (i : Int) : Decidable (Small i) := by unfold Small; infer_instance
def oAdd : O2 := fun a b st => match a, b with
  | .int i, .int j => .ok (.int (i + j)) st
  | .str x, .str y => if x.length + y.length ≤ sizeLine then .ok (.str (x ++ y)) st else .no
  | .tup xs, .tup ys => if xs.length + ys.length ≤ sizeLine then .ok (.tup (xs ++ ys)) st else .no
  | .ref r, .ref q => match rdW st r, rdW st q with
    | some xs, some ys => if xs.length + ys.length ≤ sizeLine then .ok (.ref st.length) (st ++ [.lst (xs ++ ys)]) else .no
    | _, _ => .no
  | _, _ => .no
def oSub : O2 := fun a b st => match a, b with
  | .int i, .int j => .ok (.int (i - j)) st
  | _, _ => .no
def oMul : O2 := fun a b st => match a, b with
  | .int i, .int j => if Small i ∨ Small j then .ok (.int (i * j)) st else .no
  | .ref r, .int k => match rdW st r with
    | some xs => if Small k ∧ -(2 ^ 63) ≤ k ∧ k < 2 ^ 63 ∧ xs.length * k.toNat ≤ sizeLine then .ok (.ref st.length) (st ++ [.lst (List.replicate k.toNat xs).flatten]) else .no
    | none => .no
  | .tup xs, .int k => if -1000 ≤ k ∧ k ≤ 1000 ∧ xs.length ≤ 1000 then .ok (.tup (List.replicate k.toNat xs).flatten) st else .no
  | _, _ => .no
def oDiv : O2 := fun a b st => match a, b with
  | .int i, .int j => if 0 < j ∧ j < 1073741824 then .ok (.int (i / j)) st else .no
  | _, _ => .no
def oMod : O2 := fun a b st => match a, b with
  | .int i, .int j => if 0 < j then .ok (.int (i % j)) st else .no
  | _, _ => .no
def oPow : O2 := fun a b st => match a, b with
  | .int i, .int j => if 0 ≤ j ∧ j ≤ 1000000 ∧ i.natAbs < 2 ^ 64 then .ok (.int (i ^ j.toNat)) st else .no
  | _, _ => .no
def oNeg : O1 := fun a st => match a with
  | .int i => .ok (.int (-i)) st
  | _ => .no
def oLt : O2 := fun a b st => match a, b with
  | .int i, .int j => .ok (.bl (decide (i < j))) st
  | _, _ => .no
def oLe : O2 := fun a b st => match a, b with
  | .int i, .int j => .ok (.bl (decide (i ≤ j))) st
  | _, _ => .no
def oGt : O2 := fun a b st => match a, b with
  | .int i, .int j => .ok (.bl (decide (j < i))) st
  | _, _ => .no
def oGe : O2 := fun a b st => match a, b with
  | .int i, .int j => .ok (.bl (decide (j ≤ i))) st
  | _, _ => .no
section
variable {X : Cx}
theorem od_add : OD2 X (binaryOp .Add) oAdd := by
  intro pins s σ H x y v u Q I rx ry h
  obtain ⟨α, st, a, b, S, ra, rb, h⟩ := h
  unfold oAdd at h
  split at h
  · have e1 := ra.int_of; have e2 := rb.int_of; subst e1; subst e2
    exact op_add pins s σ H _ _ v u Q I rx ry ⟨_, _, rfl, rfl, Fin.here h S (.int _)⟩
  · have e1 := ra.str_of; have e2 := rb.str_of; subst e1; subst e2
    split at h
    · exact op_add_str pins s σ H _ _ v u Q I rx ry ⟨_, _, rfl, rfl, by assumption, Fin.here h S (.str _)⟩
    · exact h.elim
  · obtain ⟨p, vs, rfl, t1, r1⟩ := ra.tup_ofP
    obtain ⟨q, ws, rfl, t2, r2⟩ := rb.tup_ofP
    split at h
    · rename_i hz
      have l1 := r1.len
      have l2 := r2.len
      refine op_catP pins s σ H _ _ v u Q I rx ry ⟨_, _, vs, ws, rfl, rfl, t1.t, t2.t, by omega, fun e => ?_, fun e e' => ?_, fun _ _ => Fin.tup h S (r1.app r2)⟩
      · subst e
        cases r1
        exact Fin.here h S (.tup t2 r2)
      · subst e'
        cases r2
        rw [List.append_nil] at h
        exact Fin.here h S (.tup t1 r1)
    · exact h.elim
  · obtain ⟨p, rfl, a1⟩ := ra.ref_of
    obtain ⟨q, rfl, a2⟩ := rb.ref_of
    split at h
    · rename_i xs ys e1 e2
      split at h
      · rename_i hz
        obtain ⟨_, vs, h1, r1⟩ := S.w e1 a1
        obtain ⟨_, ws, h2, r2⟩ := S.w e2 a2
        have l1 := r1.len
        have l2 := r2.len
        exact op_cat pins s σ H _ _ v u Q I rx ry ⟨_, _, vs, ws, rfl, rfl, h1, h2, by omega, fun p hp => Fin.new h S (r1.app r2) hp⟩
      · exact h.elim
    · exact h.elim
  · exact h.elim
theorem od_sub : OD2 X (binaryOp .Sub) oSub := by
  intro pins s σ H x y v u Q I rx ry h
  obtain ⟨α, st, a, b, S, ra, rb, h⟩ := h
  unfold oSub at h
  split at h
  · have e1 := ra.int_of; have e2 := rb.int_of; subst e1; subst e2
    exact op_sub pins s σ H _ _ v u Q I rx ry ⟨_, _, rfl, rfl, Fin.here h S (.int _)⟩
  · exact h.elim
/-- a tuple as often as told: the same one, none of it, or more -/
theorem op_repU : OpR X (binaryOp .Mult) (fun x y H Q => ∃ l k xs, x = .ref l ∧ y = .int k ∧ SqT X.K H l xs ∧ -1000 ≤ k ∧ k < 2 ∧ ((xs = [] ∨ k = 1) ∧ Q (.ref l) H ∨ (xs ≠ [] ∧ k ≤ 0) ∧ NewT H [] Q)) := by
  intro pins s σ H x y v u Q I rx ry h
  obtain ⟨l, k, xs, rfl, rfl, hT, h1, h2, q⟩ := h
  cases rx
  obtain ⟨t, rfl⟩ := ry
  obtain ⟨its, r, ⟨⟨cls, dd, data, sl⟩, ho, hc, n, hd⟩, hs⟩ := I.tuple hT
  simp only at hc hd
  subst hc hd
  have hle : its.length = xs.length := r.length.symm
  have c0 : (decide (k < -(2 ^ 63)) || decide (k ≥ 2 ^ 63)) = false := by
    rw [decide_eq_false (by omega), decide_eq_false (by omega)] <;> rfl
  refine wpAny_binaryOp_repeat_ref (T := "tuple") (U := "int") (by decide) ⟨_, ho, rfl⟩ (fun s' => typeIs_int s' k t) noFill_tuple_mul F.fills_int_mul F.slot_int_rmul repeat_tuple F.slot_int_index.lookup
    (call_meets F.slot_int_rmul (typeIs_int s k t) F.entry_int_rmul (F.args_int_rmul_2 _ _) (int_rmul_tuple k t l its.toArray n dd sl) ⟨ho, rfl, ⟨_, ho, rfl⟩, ?_⟩)
  rcases q with ⟨c, q⟩ | ⟨⟨c, c'⟩, q⟩
  · have c1 : (its.toArray.isEmpty || k == 1) = true := by
      rcases c with c | c
      · subst c
        have : its = [] := List.eq_nil_of_length_eq_zero hle
        subst this; rfl
      · subst c; simp
    exact call_meets F.slot_tuple_mul ⟨_, ho, rfl⟩ F.entry_tuple_mul (F.args_tuple_mul_2 _ _) (tuple_same l its.toArray n dd sl k t c0 c1) ⟨ho, ⟨.ref l, H, I, rfl, q⟩⟩
  · have hi : its.toArray.isEmpty = false := by
      cases its with
      | nil => exact absurd (List.eq_nil_of_length_eq_zero hle.symm) c
      | cons a b => rfl
    have c1 : (its.toArray.isEmpty || k == 1) = false := by
      rw [hi, Bool.false_or]
      exact beq_eq_false_iff_ne.mpr (by omega)
    have c2 : (decide (k ≤ 0) || its.toArray.isEmpty) = true := by rw [decide_eq_true c']; rfl
    refine call_meets F.slot_tuple_mul ⟨_, ho, rfl⟩ F.entry_tuple_mul (F.args_tuple_mul_2 _ _) (tuple_none l its.toArray n dd sl k t c0 c1 c2) ⟨ho, ?_⟩
    exact ep_tup (its := []) (tk := s.toks) I (by decide) .nil q
/-- the empty tuple, however often -/
theorem op_repE : OpR X (binaryOp .Mult) (fun x y H Q => ∃ l k, x = .ref l ∧ y = .int k ∧ SqT X.K H l [] ∧ 0 ≤ k ∧ k ≤ 1000 ∧ Q (.ref l) H) := by
  intro pins s σ H x y v u Q I rx ry h
  obtain ⟨l, k, rfl, rfl, hT, h1, h2, q⟩ := h
  cases rx
  obtain ⟨t, rfl⟩ := ry
  obtain ⟨its, r, ⟨⟨cls, dd, data, sl⟩, ho, hc, n, hd⟩, hs⟩ := I.tuple hT
  simp only at hc hd
  subst hc hd
  cases r
  have c0 : (decide (k < -(2 ^ 63)) || decide (k ≥ 2 ^ 63)) = false := by
    rw [decide_eq_false (by omega), decide_eq_false (by omega)] <;> rfl
  exact wpAny_binaryOp_repeat_ref (T := "tuple") (U := "int") (by decide) ⟨_, ho, rfl⟩ (fun s' => typeIs_int s' k t) noFill_tuple_mul F.fills_int_mul F.slot_int_rmul repeat_tuple F.slot_int_index.lookup
    (call_meets F.slot_int_rmul (typeIs_int s k t) F.entry_int_rmul (F.args_int_rmul_2 _ _) (int_rmul_tuple k t l _ n dd sl) ⟨ho, rfl, ⟨_, ho, rfl⟩,
      call_meets F.slot_tuple_mul ⟨_, ho, rfl⟩ F.entry_tuple_mul (F.args_tuple_mul_2 _ _) (tuple_same l _ n dd sl k t c0 rfl) ⟨ho, ⟨.ref l, H, I, rfl, q⟩⟩⟩)
theorem op_repP : OpR X (binaryOp .Mult) (fun x y H Q => ∃ l k xs, x = .ref l ∧ y = .int k ∧ SqT X.K H l xs ∧ xs ≠ [] ∧ 2 ≤ k ∧ k ≤ 1000 ∧ xs.length ≤ 1000 ∧ NewT H (List.replicate k.toNat xs).flatten Q) := by
  rintro pins s σ H x y v u Q I rx ry ⟨l, k, xs, rfl, rfl, hT, hne, h1, h2, hz, q⟩
  cases rx
  obtain ⟨t, rfl⟩ := ry
  obtain ⟨its, r, ⟨⟨cls, dd, data, sl⟩, ho, hc, n, hd⟩, hs⟩ := I.tuple hT
  simp only at hc hd
  subst hc hd
  have hle : its.length = xs.length := r.length.symm
  have hi : its.toArray.isEmpty = false := by
    cases its with
    | nil => exact absurd (List.eq_nil_of_length_eq_zero hle.symm) hne
    | cons a b => rfl
  have hsz : its.toArray.size = xs.length := by rw [List.size_toArray, hle]
  have a1 : ((xs.length : Nat) : Int) * k ≤ 1000 * k := Int.mul_le_mul_of_nonneg_right (by omega) (by omega)
  have a2 : k.toNat * xs.length ≤ 1000 * 1000 := Nat.mul_le_mul (by omega) hz
  have flen : (List.replicate k.toNat its).flatten.length ≤ sizeLine := by rw [PyProof.Rows.lm_len_rep_flat, hle, sizeLine_eq]; omega
  have flen2 : (List.replicate k.toNat xs).flatten.length ≤ sizeLine := by rw [PyProof.Rows.lm_len_rep_flat, sizeLine_eq]; omega
  have c0 : (decide (k < -(2 ^ 63)) || decide (k ≥ 2 ^ 63)) = false := by
    rw [decide_eq_false (by omega), decide_eq_false (by omega)] <;> rfl
  have c1 : (its.toArray.isEmpty || k == 1) = false := by rw [hi, Bool.false_or]; exact beq_eq_false_iff_ne.mpr (by omega)
  have c2 : (decide (k ≤ 0) || its.toArray.isEmpty) = false := by rw [hi, Bool.or_false]; exact decide_eq_false (by omega)
  have c4 : Builtin.Tuple.tupleTooMany (((its.toArray.size : Nat) : Int) * k) = false := by
    unfold Builtin.Tuple.tupleTooMany
    rw [sizeLine_eq, hsz]
    exact decide_eq_false (by omega)
  refine wpAny_binaryOp_repeat_ref (T := "tuple") (U := "int") (by decide) ⟨_, ho, rfl⟩ (fun s' => typeIs_int s' k t) noFill_tuple_mul F.fills_int_mul F.slot_int_rmul repeat_tuple F.slot_int_index.lookup
    (call_meets F.slot_int_rmul (typeIs_int s k t) F.entry_int_rmul (F.args_int_rmul_2 _ _) (int_rmul_tuple k t l its.toArray n dd sl)
      ⟨ho, rfl, ⟨_, ho, rfl⟩, call_meets F.slot_tuple_mul ⟨_, ho, rfl⟩ F.entry_tuple_mul (F.args_tuple_mul_2 _ _) (tuple_mulW l its.toArray n dd sl k t c0 c1 c2 (by rw [hsz]; omega) c4 (by rw [size_rep, List.size_toArray]; exact flen)) ⟨ho, ?_⟩⟩)
  rw [size_rep]
  exact ep_tup (tk := s.toks) I flen2 (r.rep k.toNat) q
theorem od_mul : OD2 X (binaryOp .Mult) oMul := by
  intro pins s σ H x y v u Q I rx ry h
  obtain ⟨α, st, a, b, S, ra, rb, h⟩ := h
  unfold oMul at h
  split at h
  · have e1 := ra.int_of; have e2 := rb.int_of; subst e1; subst e2
    split at h
    · rename_i hs
      exact op_mul pins s σ H _ _ v u Q I rx ry ⟨_, _, rfl, rfl, hs, Fin.here h S (.int _)⟩
    · exact h.elim
  · obtain ⟨p, rfl, a1⟩ := ra.ref_of
    have e2 := rb.int_of; subst e2
    split at h
    · rename_i xs e1
      split at h
      · rename_i hs
        obtain ⟨_, vs, h1, r1⟩ := S.w e1 a1
        have l1 := r1.len
        exact op_rep pins s σ H _ _ v u Q I rx ry ⟨_, _, vs, rfl, rfl, h1, hs.2.1, hs.2.2.1, by rw [← l1]; exact hs.2.2.2, fun p hp => Fin.new h S (r1.repL _) hp⟩
      · exact h.elim
    · exact h.elim
  · rename_i xs k
    obtain ⟨p, vs, rfl, t1, r1⟩ := ra.tup_ofP
    have e2 := rb.int_of; subst e2
    split at h
    · rename_i hs
      have l1 := r1.len
      by_cases c : xs = [] ∨ k = 1
      · have ef : (List.replicate k.toNat xs).flatten = xs := by
          rcases c with c | c
          · subst c; simp
          · subst c; simp
        rw [ef] at h
        by_cases c2 : k < 2
        · refine op_repU pins s σ H _ _ v u Q I rx ry ⟨_, _, vs, rfl, rfl, t1.t, hs.1, c2, .inl ⟨?_, Fin.here h S (.tup t1 r1)⟩⟩
          rcases c with c | c
          · subst c; cases r1; exact .inl rfl
          · exact .inr c
        · have cx : xs = [] := c.resolve_right (by omega)
          subst cx
          cases r1
          exact op_repE pins s σ H _ _ v u Q I rx ry ⟨_, _, rfl, rfl, t1.t, by omega, hs.2.1, Fin.here h S (.tup t1 .nil)⟩
      · have c1 : xs ≠ [] := fun e => c (.inl e)
        have c2 : k ≠ 1 := fun e => c (.inr e)
        have c3 : vs ≠ [] := fun e => by subst e; cases r1; exact c1 rfl
        by_cases c4 : k ≤ 0
        · have ef : (List.replicate k.toNat xs).flatten = [] := by
            have : k.toNat = 0 := by omega
            rw [this]; rfl
          rw [ef] at h
          exact op_repU pins s σ H _ _ v u Q I rx ry ⟨_, _, vs, rfl, rfl, t1.t, hs.1, by omega, .inr ⟨⟨c3, c4⟩, Fin.tup h S .nil⟩⟩
        · exact op_repP pins s σ H _ _ v u Q I rx ry ⟨_, _, vs, rfl, rfl, t1.t, c3, by omega, hs.2.1, by rw [← l1]; exact hs.2.2, Fin.tup h S (r1.repL _)⟩
    · exact h.elim
  · exact h.elim
theorem od_div : OD2 X (binaryOp .FloorDiv) oDiv := by
  intro pins s σ H x y v u Q I rx ry h
  obtain ⟨α, st, a, b, S, ra, rb, h⟩ := h
  unfold oDiv at h
  split at h
  · have e1 := ra.int_of; have e2 := rb.int_of; subst e1; subst e2
    split at h
    · rename_i hs
      exact op_fdiv pins s σ H _ _ v u Q I rx ry ⟨_, _, rfl, rfl, hs, Fin.here h S (.int _)⟩
    · exact h.elim
  · exact h.elim
theorem od_mod : OD2 X (binaryOp .Mod) oMod := by
  intro pins s σ H x y v u Q I rx ry h
  obtain ⟨α, st, a, b, S, ra, rb, h⟩ := h
  unfold oMod at h
  split at h
  · have e1 := ra.int_of; have e2 := rb.int_of; subst e1; subst e2
    split at h
    · rename_i hs
      exact op_mod pins s σ H _ _ v u Q I rx ry ⟨_, _, rfl, rfl, hs, Fin.here h S (.int _)⟩
    · exact h.elim
  · exact h.elim
theorem od_pow : OD2 X (binaryOp .Pow) oPow := by
  intro pins s σ H x y v u Q I rx ry h
  obtain ⟨α, st, a, b, S, ra, rb, h⟩ := h
  unfold oPow at h
  split at h
  · have e1 := ra.int_of; have e2 := rb.int_of; subst e1; subst e2
    split at h
    · rename_i hs
      exact op_pow pins s σ H _ _ v u Q I rx ry ⟨_, _, rfl, rfl, hs, Fin.here h S (.int _)⟩
    · exact h.elim
  · exact h.elim
theorem od_neg : OD1 X (unaryOp .USub) oNeg := by
  intro pins s σ H x v Q I rx h
  obtain ⟨α, st, a, S, ra, h⟩ := h
  unfold oNeg at h
  split at h
  · have e1 := ra.int_of; subst e1
    exact un_neg pins s σ H _ v Q I rx ⟨_, rfl, Fin.here h S (.int _)⟩
  · exact h.elim
theorem od_lt : OD2 X (compareOp .Lt) oLt := by
  intro pins s σ H x y v u Q I rx ry h
  obtain ⟨α, st, a, b, S, ra, rb, h⟩ := h
  unfold oLt at h
  split at h
  · have e1 := ra.int_of; have e2 := rb.int_of; subst e1; subst e2
    exact op_lt pins s σ H _ _ v u Q I rx ry ⟨_, _, rfl, rfl, Fin.here h S (.bl _)⟩
  · exact h.elim
theorem od_le : OD2 X (compareOp .LtE) oLe := by
  intro pins s σ H x y v u Q I rx ry h
  obtain ⟨α, st, a, b, S, ra, rb, h⟩ := h
  unfold oLe at h
  split at h
  · have e1 := ra.int_of; have e2 := rb.int_of; subst e1; subst e2
    exact op_le pins s σ H _ _ v u Q I rx ry ⟨_, _, rfl, rfl, Fin.here h S (.bl _)⟩
  · exact h.elim
theorem od_gt : OD2 X (compareOp .Gt) oGt := by
  intro pins s σ H x y v u Q I rx ry h
  obtain ⟨α, st, a, b, S, ra, rb, h⟩ := h
  unfold oGt at h
  split at h
  · have e1 := ra.int_of; have e2 := rb.int_of; subst e1; subst e2
    exact op_gt pins s σ H _ _ v u Q I rx ry ⟨_, _, rfl, rfl, Fin.here h S (.bl _)⟩
  · exact h.elim
theorem od_ge : OD2 X (compareOp .GtE) oGe := by
  intro pins s σ H x y v u Q I rx ry h
  obtain ⟨α, st, a, b, S, ra, rb, h⟩ := h
  unfold oGe at h
  split at h
  · have e1 := ra.int_of; have e2 := rb.int_of; subst e1; subst e2
    exact op_ge pins s σ H _ _ v u Q I rx ry ⟨_, _, rfl, rfl, Fin.here h S (.bl _)⟩
  · exact h.elim
/-- tuples of ints, in their order -/
def intsOf : List D → Option (List Int)
  | [] => some []
  | .int i :: r => (intsOf r).map (i :: ·)
  | _ :: _ => none
theorem intsOf_map : ∀ {ds : List D} {ns : List Int}, intsOf ds = some ns → ds = ns.map D.int
  | [], ns, h => by simp [intsOf] at h; subst h; rfl
  | d :: r, ns, h => by
    cases d <;> simp [intsOf] at h
    obtain ⟨ms, h1, h2⟩ := h
    subst h2
    rw [intsOf_map h1]; rfl
@[simp] theorem intsOf_ints : ∀ ns : List Int, intsOf (ns.map D.int) = some ns
  | [] => rfl
  | n :: ns => by simp [intsOf, intsOf_ints ns]
def oLtT : O2 := fun a b st => match a, b with
  | .int i, .int j => .ok (.bl (decide (i < j))) st
  | .tup xs, .tup ys => match intsOf xs, intsOf ys with
    | some ns, some ms => .ok (.bl (HT.lexLt ns ms)) st
    | _, _ => .no
  | _, _ => .no
theorem od_ltT (hu : X.A.units < cLine) : OD2 X (compareOp .Lt) oLtT := by
  intro pins s σ H x y v u Q I rx ry h
  obtain ⟨α, st, a, b, S, ra, rb, h⟩ := h
  unfold oLtT at h
  split at h
  · have e1 := ra.int_of; have e2 := rb.int_of; subst e1; subst e2
    exact op_lt pins s σ H _ _ v u Q I rx ry ⟨_, _, rfl, rfl, Fin.here h S (.bl _)⟩
  · obtain ⟨p, vs, rfl, t1, r1⟩ := ra.tup_of
    obtain ⟨q, ws, rfl, t2, r2⟩ := rb.tup_of
    split at h
    · rename_i ns ms e1 e2
      rw [intsOf_map e1] at r1
      rw [intsOf_map e2] at r2
      rw [r1.toInts] at t1
      rw [r2.toInts] at t2
      exact op_ltT hu pins s σ H _ _ v u Q I rx ry ⟨_, _, ns, ms, rfl, rfl, t1, t2, Fin.here h S (.bl _)⟩
    · exact h.elim
  · exact h.elim

/-! ### == of data -/
mutual
def pd (rd : Nat → Option PyData) : D → Option PyData
  | .non => some .none
  | .bl b => some (.bool b)
  | .int i => some (.int i)
  | .str x => some (.str x)
  | .tup ds => (pds rd ds).map .tuple
  | .ref r => rd r
  | .fn _ => none
  | .ty _ => none
  | .nam _ => none
def pds (rd : Nat → Option PyData) : List D → Option (List PyData)
  | [] => some []
  | d :: ds => match pd rd d, pds rd ds with
    | some p, some ps => some (p :: ps)
    | _, _ => none
end
def rdP (st : Sto) : Nat → Nat → Option PyData
  | 0, _ => none
  | n + 1, r => match rdL st r with
    | some ds => (pds (rdP st n) ds).map .list
    | none => none
def toP (st : Sto) (d : D) : Option PyData := pd (rdP st 30) d
section
variable {K : PySem.W.Frag} {α : List Addr} {H : Hp} {st : Sto}
mutual
theorem dp_of {rd : Nat → Option PyData} (hr : ∀ r p v, rd r = some p → RD K α H (.ref r) v → Dp K H v p) : ∀ (d : D) (p : PyData) (v : V), pd rd d = some p → RD K α H d v → Dp K H v p
  | .non, p, v, h, r => by cases h; cases r; exact .non
  | .bl b, p, v, h, r => by cases h; cases r; exact .bl b
  | .int i, p, v, h, r => by cases h; cases r; exact .int i
  | .str x, p, v, h, r => by cases h; cases r; exact .str x
  | .ref n, p, v, h, r => hr n p v h r
  | .fn _, p, v, h, r => by cases h
  | .ty _, p, v, h, r => by cases h
  | .nam _, p, v, h, r => by cases h
  | .tup ds, p, v, h, r => by
    obtain ⟨a, vs, rfl, t1, r1⟩ := r.tup_of
    unfold pd at h
    cases e : pds rd ds with
    | none => rw [e] at h; cases h
    | some ps =>
      rw [e] at h
      cases h
      exact .tup t1 (dps_of hr ds ps vs e r1)
theorem dps_of {rd : Nat → Option PyData} (hr : ∀ r p v, rd r = some p → RD K α H (.ref r) v → Dp K H v p) : ∀ (ds : List D) (ps : List PyData) (vs : List V), pds rd ds = some ps → RDs K α H ds vs → DpAll K H vs ps
  | [], ps, vs, h, r => by cases h; cases r; exact .nil
  | d :: ds, ps, vs, h, r => by
    cases r with
    | cons r1 r2 =>
      unfold pds at h
      split at h
      · rename_i p qs e1 e2
        cases h
        exact .cons (dp_of hr d p _ e1 r1) (dps_of hr ds qs _ e2 r2)
      · cases h
end
theorem dp_ref (S : SR K α st H) : ∀ (n r : Nat) (p : PyData) (v : V), rdP st n r = some p → RD K α H (.ref r) v → Dp K H v p
  | 0, r, p, v, h, _ => by cases h
  | n + 1, r, p, v, h, q => by
    obtain ⟨a, rfl, ea⟩ := q.ref_of
    unfold rdP at h
    split at h
    · rename_i ds e
      obtain ⟨vs, h1, h2⟩ := S.l e ea
      cases e2 : pds (rdP st n) ds with
      | none => rw [e2] at h; cases h
      | some ps =>
        rw [e2] at h
        cases h
        exact .lst h1 (dps_of (fun r p v h q => dp_ref S n r p v h q) ds ps vs e2 h2)
    · cases h
theorem dp_toP (S : SR K α st H) {d : D} {p : PyData} {v : V} (h : toP st d = some p) (r : RD K α H d v) : Dp K H v p := dp_of (fun r p v h q => dp_ref S 30 r p v h q) d p v h r
end
def oEq : O2 := fun a b st => match toP st a, toP st b with
  | some p, some q => if SeqAt.shaped p = true ∧ SeqAt.shaped q = true then .ok (.bl (PyData.eqv p q)) st else .no
  | _, _ => .no
def oNe : O2 := fun a b st => match toP st a, toP st b with
  | some p, some q => if SeqAt.shaped p = true ∧ SeqAt.shaped q = true then .ok (.bl (!PyData.eqv p q)) st else .no
  | _, _ => .no
theorem od_eq (hu : X.A.units + 64 < cLine) : OD2 X (compareOp .Eq) oEq := by
  intro pins s σ H x y v u Q I rx ry h
  obtain ⟨α, st, a, b, S, ra, rb, h⟩ := h
  unfold oEq at h
  split at h
  · rename_i p q e1 e2
    split at h
    · rename_i hs
      exact op_eqD hu pins s σ H _ _ v u Q I rx ry ⟨p, q, dp_toP S e1 ra, dp_toP S e2 rb, hs.1, hs.2, Fin.here h S (.bl _)⟩
    · exact h.elim
  · exact h.elim
theorem od_ne (hu : X.A.units + 64 < cLine) : OD2 X (compareOp .NotEq) oNe := by
  intro pins s σ H x y v u Q I rx ry h
  obtain ⟨α, st, a, b, S, ra, rb, h⟩ := h
  unfold oNe at h
  split at h
  · rename_i p q e1 e2
    split at h
    · rename_i hs
      exact op_neD hu pins s σ H _ _ v u Q I rx ry ⟨p, q, dp_toP S e1 ra, dp_toP S e2 rb, hs.1, hs.2, Fin.here h S (.bl _)⟩
    · exact h.elim
  · exact h.elim

/-! ### is -/
def isNon : D → Bool
  | .non => true
  | _ => false
theorem RD.nonB {K : PySem.W.Frag} {α : List Addr} {H : Hp} {d : D} {v : V} (h : RD K α H d v) : decide (v = V.non) = isNon d := by cases h <;> simp [isNon]
def oIs : O2 := fun a b st => match a, b with
  | .ty m, .ty n => .ok (.bl (decide (m = n))) st
  | .bl i, .bl j => .ok (.bl (decide (i = j))) st
  | a, .non => .ok (.bl (isNon a)) st
  | _, _ => .no
def oIsNot : O2 := fun a b st => match a, b with
  | .ty m, .ty n => .ok (.bl (!decide (m = n))) st
  | .bl i, .bl j => .ok (.bl (!decide (i = j))) st
  | a, .non => .ok (.bl (!isNon a)) st
  | _, _ => .no
theorem od_is : OD2 X (compareOp .Is) oIs := by
  intro pins s σ H x y v u Q I rx ry h
  obtain ⟨α, st, a, b, S, ra, rb, h⟩ := h
  unfold oIs at h
  split at h
  · have e1 := ra.ty_of; have e2 := rb.ty_of; subst e1; subst e2
    exact op_isTy pins s σ H _ _ v u Q I rx ry ⟨_, _, rfl, rfl, Fin.here h S (.bl _)⟩
  · have e1 := ra.bl_of; have e2 := rb.bl_of; subst e1; subst e2
    exact op_is_bl pins s σ H _ _ v u Q I rx ry ⟨_, _, rfl, rfl, Fin.here h S (.bl _)⟩
  · have e2 := rb.non_of; subst e2
    exact op_isN pins s σ H _ _ v u Q I rx ry ⟨rfl, by rw [ra.nonB]; exact Fin.here h S (.bl _)⟩
  · exact h.elim
theorem od_isnot : OD2 X (compareOp .IsNot) oIsNot := by
  intro pins s σ H x y v u Q I rx ry h
  obtain ⟨α, st, a, b, S, ra, rb, h⟩ := h
  unfold oIsNot at h
  split at h
  · have e1 := ra.ty_of; have e2 := rb.ty_of; subst e1; subst e2
    exact op_isNotTy pins s σ H _ _ v u Q I rx ry ⟨_, _, rfl, rfl, Fin.here h S (.bl _)⟩
  · have e1 := ra.bl_of; have e2 := rb.bl_of; subst e1; subst e2
    exact op_isnot_bl pins s σ H _ _ v u Q I rx ry ⟨_, _, rfl, rfl, Fin.here h S (.bl _)⟩
  · have e2 := rb.non_of; subst e2
    exact op_notN pins s σ H _ _ v u Q I rx ry ⟨rfl, by rw [ra.nonB]; exact Fin.here h S (.bl _)⟩
  · exact h.elim

/-! ### items and slices -/
def oIx : O2 := fun a b st => match a, b with
  | .tup xs, .int i => match atI xs i with
    | some d => .ok d st
    | none => .no
  | .ref r, .int i => match rdL st r with
    | some xs => match atI xs i with
      | some d => .ok d st
      | none => .no
    | none => .no
  | _, _ => .no
theorem RDs.atI {K : PySem.W.Frag} {α : List Addr} {H : Hp} {ds : List D} {vs : List V} {i : Int} {d : D} (h : RDs K α H ds vs) (e : L2.atI ds i = some d) : ∃ v, L2.atI vs i = some v ∧ RD K α H d v := by
  unfold L2.atI at e ⊢
  rw [← h.len]
  cases q : ixN ds.length i with
  | none => rw [q] at e; cases e
  | some j =>
    rw [q] at e
    exact h.getD (i := j) e
theorem ix_d : IxR X (rD2 X.K oIx) := by
  intro value slice pins s σ H x y v u Q I rx ry h hsl
  obtain ⟨α, st, a, b, S, ra, rb, h⟩ := h
  unfold oIx at h
  split at h
  · obtain ⟨p, vs, rfl, t1, r1⟩ := ra.tup_of
    have e2 := rb.int_of; subst e2
    split at h
    · rename_i d e
      obtain ⟨w, h1, h2⟩ := r1.atI e
      exact ix_tup value slice pins s σ H _ _ v u Q I rx ry ⟨p, vs, _, w, rfl, rfl, t1, h1, Fin.here h S h2⟩ hsl
    · exact h.elim
  · obtain ⟨p, rfl, a1⟩ := ra.ref_of
    have e2 := rb.int_of; subst e2
    split at h
    · rename_i xs e1
      obtain ⟨vs, h0, r1⟩ := S.l e1 a1
      split at h
      · rename_i d e
        obtain ⟨w, h1, h2⟩ := r1.atI e
        exact ix_list value slice pins s σ H _ _ v u Q I rx ry ⟨p, vs, _, w, rfl, rfl, h0, h1, Fin.here h S h2⟩ hsl
      · exact h.elim
    · exact h.elim
  · exact h.elim
theorem de_ix {W : WX} {a b : Expr} {ma mb : En → Sto → R D} {pos : Pos} (ha : DE X W a ma) (hb : DE X W b mb) (hs : PlainIx b) : DE X W (.Subscript a b pos) (m2 oIx ma mb) := PE.weak (pe_ix ix_d ha hb hs) fun _ _ _ => two_of
end
end DL
set_option Elab.async false
set_option linter.all false
set_option maxRecDepth 100000
namespace DL
open PySem PySem.Spec PyProof.Rows L2
section
variable {X : Cx} {W : WX}
/-! ### slices -/
abbrev O3 := D → Option Int → Option Int → Sto → R D
def cutD (xs : List D) (lo hi : Option Int) : List D := (xs.drop (HT.sIx xs.length 0 lo)).take (HT.sIx xs.length xs.length hi - HT.sIx xs.length 0 lo)
theorem RDs.cut {K : PySem.W.Frag} {α : List Addr} {H : Hp} {ds : List D} {vs : List V} (h : RDs K α H ds vs) (lo hi : Option Int) : RDs K α H (cutD ds lo hi) (cutV vs lo hi) := by
  unfold cutD cutV
  rw [h.len]
  exact (h.drop _).take _
def oSl : O3 := fun a lo hi st => match a with
  | .tup xs => .ok (.tup (cutD xs lo hi)) st
  | .ref r => match rdL st r with
    | some xs => .ok (.ref st.length) (st ++ [.lst (cutD xs lo hi)])
    | none => .no
  | _ => .no
def rD3 (K : PySem.W.Frag) (f : O3) : V → Option Int → Option Int → Hp → VK → Prop := fun x lo hi H Q => ∃ α st a, SR K α st H ∧ RD K α H a x ∧ Rw (f a lo hi st) fun d st' => ∀ α' H' v, α <+: α' → Keep H H' → SR K α' st' H' → RD K α' H' d v → Q v H'
theorem cutD_whole {xs : List D} {lo hi : Option Int} (h : HT.sIx xs.length 0 lo = 0 ∧ HT.sIx xs.length xs.length hi = xs.length) : cutD xs lo hi = xs := by
  unfold cutD
  rw [h.1, h.2]
  simp
theorem sl_d : SlR X (rD3 X.K oSl) := by
  intro pins s σ H x v vl vu lo hi sl Q I rx hs pl pu h
  obtain ⟨α, st, a, S, ra, h⟩ := h
  unfold oSl at h
  split at h
  · obtain ⟨p, vs, rfl, t1, r1⟩ := ra.tup_ofP
    have l1 := r1.len
    refine sl_tupP pins s σ H _ v vl vu lo hi sl Q I rx hs pl pu ⟨p, vs, rfl, t1.t, fun e => ?_, fun _ => Fin.tup h S (r1.cut lo hi)⟩
    rw [← l1] at e
    rw [cutD_whole e] at h
    exact Fin.here h S (.tup t1 r1)
  · obtain ⟨p, rfl, a1⟩ := ra.ref_of
    split at h
    · rename_i xs e1
      obtain ⟨vs, h0, r1⟩ := S.l e1 a1
      exact sl_list pins s σ H _ v vl vu lo hi sl Q I rx hs pl pu ⟨p, vs, rfl, h0, fun q hq => Fin.new h S (r1.cut lo hi) hq⟩
    · exact h.elim
  · exact h.elim
/-- a part of a slice -/
def tP (K : PySem.W.Frag) (W : WX) (m : En → Sto → R (Option Int)) : TO := fun σ H Q => ∃ α env st, ER K α env σ H ∧ SR K α st H ∧ Go K W α H σ (m env st) fun o _ _ H' => Q o H'
abbrev DP (X : Cx) (W : WX) (e : Option Expr) (m : En → Sto → R (Option Int)) : Prop := PO X e (tP X.K W m)
def pNone (env : En) (st : Sto) : R (Option Int) := .ok none st
def pSome (ma : En → Sto → R D) (env : En) (st : Sto) : R (Option Int) := (ma env st).bind fun x st1 => match x with
  | .int i => .ok (some i) st1
  | _ => .no
theorem PO.weak {X : Cx} {e : Option Expr} {t t' : TO} (h : PO X e t) (f : ∀ σ H Q, t' σ H Q → t σ H Q) : PO X e t' := ⟨fun pins s σ H Q I hw => h.run pins s σ H Q I (f σ H Q hw)⟩
theorem dp_none : DP X W none pNone := by
  refine PO.weak po_none fun σ H Q h => ?_
  obtain ⟨α, env, st, hE, hS, h⟩ := h
  exact h.here hS
theorem dp_some {a : Expr} {ma : En → Sto → R D} (ha : DE X W a ma) : DP X W (some a) (pSome ma) := by
  refine PO.weak (po_some ha) fun σ H Q h => ?_
  obtain ⟨α, env, st, hE, hS, h⟩ := h
  refine ⟨α, env, st, hE, hS, h.bind.mono fun x st1 α1 H1 p1 k1 s1 h1 v rv => ?_⟩
  split at h1
  · exact ⟨_, rv.int_of, h1.here s1⟩
  · exact h1.elim
def mSl (ma : En → Sto → R D) (pl ph : En → Sto → R (Option Int)) (env : En) (st : Sto) : R D := (ma env st).bind fun x st1 => (pl env st1).bind fun lo st2 => (ph env st2).bind fun hi st3 => noEx (oSl x lo hi st3)
theorem de_sl {a : Expr} {ma : En → Sto → R D} {lo hi : Option Expr} {pl ph : En → Sto → R (Option Int)} {p2 pos : Pos} (ha : DE X W a ma) (hl : DP X W lo pl) (hh : DP X W hi ph) : DE X W (.Subscript a (.Slice lo hi none p2) pos) (mSl ma pl ph) := by
  refine PE.weak (pe_slice sl_d ha hl hh) fun σ H Q h => ?_
  obtain ⟨α, env, st, hE, hS, h⟩ := h
  refine ⟨α, env, st, hE, hS, h.bind.mono fun x st1 α1 H1 p1 k1 s1 h1 v rv => ?_⟩
  refine ⟨α1, env, st1, hE.mono p1 k1, s1, h1.bind.mono fun l st2 α2 H2 p2 k2 s2 h2 => ?_⟩
  refine ⟨α2, env, st2, (hE.mono p1 k1).mono p2 k2, s2, h2.bind.mono fun u st3 α3 H3 p3 k3 s3 h3 => ?_⟩
  exact ⟨α3, st3, x, s3, (rv.mono p2 k2).mono p3 k3, h3.rw.mono fun d st4 q α' H' w p k s rw => q α' H' p k s w rw⟩

/-! ### built-ins -/
def bLen : List D → Sto → R D := fun ds st => match ds with
  | [.tup xs] => .ok (.int xs.length) st
  | [.ref r] => match rdL st r with
    | some xs => .ok (.int xs.length) st
    | none => .no
  | _ => .no
theorem RDs.one {K : PySem.W.Frag} {α : List Addr} {H : Hp} {d : D} {vs : List V} (h : RDs K α H [d] vs) : ∃ v, vs = [v] ∧ RD K α H d v := by
  cases h with
  | cons a b => cases b; exact ⟨_, rfl, a⟩
theorem RDs.two {K : PySem.W.Frag} {α : List Addr} {H : Hp} {d e : D} {vs : List V} (h : RDs K α H [d, e] vs) : ∃ v u, vs = [v, u] ∧ RD K α H d v ∧ RD K α H e u := by
  cases h with
  | cons a b => obtain ⟨u, rfl, r⟩ := b.one; exact ⟨_, _, rfl, a, r⟩
theorem cd_len : CDs X (.builtin "len") bLen := by
  intro pins s σ H vs us Q I rv h
  obtain ⟨α, st, ds, S, rd, h⟩ := h
  unfold bLen at h
  split at h
  · obtain ⟨v, rfl, r⟩ := rd.one
    obtain ⟨p, ws, rfl, t1, r1⟩ := r.tup_of
    exact call_len_seq pins s σ H _ us Q I rv ⟨p, ws, rfl, .inr t1, by rw [← r1.len]; exact Fin.here h S (.int _)⟩
  · obtain ⟨v, rfl, r⟩ := rd.one
    obtain ⟨p, rfl, a1⟩ := r.ref_of
    split at h
    · rename_i xs e1
      obtain ⟨ws, h0, r1⟩ := S.l e1 a1
      exact call_len_seq pins s σ H _ us Q I rv ⟨p, ws, rfl, .inl h0, by rw [← r1.len]; exact Fin.here h S (.int _)⟩
    · exact h.elim
  · exact h.elim
/-- the kind of a thing -/
def kindD (st : Sto) : D → Option String
  | .non => some "NoneType"
  | .bl _ => some "bool"
  | .int _ => some "int"
  | .str _ => some "str"
  | .tup _ => some "tuple"
  | .ref r => match rdL st r with
    | some _ => some "list"
    | none => if isEmp st r then some "dict" else none
  | .fn _ => none
  | .ty _ => none
  | .nam _ => none
def bType : List D → Sto → R D := fun ds st => match ds with
  | [d] => match kindD st d with
    | some n => .ok (.ty n) st
    | none => .no
  | _ => .no
theorem kind_is {pins : List (Addr × Obj)} {s : Shared} {σ : L2.St} {H : Hp} {α : List Addr} {st : Sto} {d : D} {v : V} {u : Value} {n : String} (I : Inv X pins σ H s) (S : SR X.K α st H) (r : RD X.K α H d v) (ru : RelV v u) (e : kindD st d = some n) : s.TypeIs u n := by
  cases d with
  | non => cases r; cases e; cases ru; rfl
  | bl b => cases r; cases e; cases ru; rfl
  | int i => cases r; cases e; obtain ⟨t, rfl⟩ := ru; rfl
  | str x => cases r; cases e; obtain ⟨t, rfl⟩ := ru; rfl
  | tup xs =>
    cases e
    obtain ⟨p, ws, rfl, t1, r1⟩ := r.tup_of
    cases ru
    obtain ⟨its, _, ⟨o, h1, h2, _⟩, _⟩ := I.tuple t1
    exact ⟨o, h1, h2⟩
  | ref q =>
    obtain ⟨p, rfl, a1⟩ := r.ref_of
    cases ru
    have e' : (match rdL st q with
      | some _ => some "list"
      | none => if isEmp st q then some "dict" else none) = some n := e
    split at e'
    · rename_i xs e1
      cases e'
      obtain ⟨ws, h0, r1⟩ := S.l e1 a1
      obtain ⟨its, _, ⟨o, _, h1, h2, _⟩, _⟩ := I.list h0
      exact ⟨o, h1, h2⟩
    · split at e'
      · rename_i e1
        cases e'
        obtain ⟨_, _, _, _, o, _, _, e, ex, _⟩ := I.hok p _ (S.e e1 a1)
        exact ⟨o, e, ex.1⟩
      · cases e'
  | fn a => cases e
  | ty m => cases e
  | nam x => cases e
theorem cd_type : CDs X (.type "type") bType := by
  intro pins s σ H vs us Q I rv h
  obtain ⟨α, st, ds, S, rd, h⟩ := h
  unfold bType at h
  split at h
  · rename_i d
    split at h
    · rename_i n e
      obtain ⟨v, rfl, r⟩ := rd.one
      obtain ⟨u, rfl, ru⟩ := vals1 rv
      have hn : n = "NoneType" ∨ n = "bool" ∨ n = "int" ∨ n = "str" ∨ n = "tuple" ∨ n = "list" ∨ n = "dict" := by
        cases d <;> simp [kindD] at e <;> first | (subst e; simp) | skip
        rename_i q
        revert e
        cases rdL st q with
        | none =>
          intro e
          have e' : (if isEmp st q then some "dict" else none) = some n := e
          split at e' <;> cases e'
          simp
        | some _ => intro e; have e' : some "list" = some n := e; cases e'; simp
      have fin : EP X pins σ Q (.type n) s := ⟨.ty n, H, I, rfl, Fin.here h S (.ty n)⟩
      have ty := kind_is I S r ru e
      rcases hn with rfl | rfl | rfl | rfl | rfl | rfl | rfl <;> exact call_type_of ty (by decide +kernel) fin
    · exact h.elim
  · exact h.elim
def bAbs : List D → Sto → R D := fun ds st => match ds with
  | [.int i] => .ok (.int (if i < 0 then -i else i)) st
  | _ => .no
theorem cd_abs : CDs X (.builtin "abs") bAbs := by
  intro pins s σ H vs us Q I rv h
  obtain ⟨α, st, ds, S, rd, h⟩ := h
  unfold bAbs at h
  split at h
  · obtain ⟨v, rfl, r⟩ := rd.one
    have e := r.int_of; subst e
    exact call_abs pins s σ H _ us Q I rv ⟨_, rfl, Fin.here h S (.int _)⟩
  · exact h.elim
def bInt : List D → Sto → R D := fun ds st => match ds with
  | [.int i] => .ok (.int i) st
  | [.bl b] => .ok (.int (if b then 1 else 0)) st
  | _ => .no
theorem cd_int : CDs X (.type "int") bInt := by
  intro pins s σ H vs us Q I rv h
  obtain ⟨α, st, ds, S, rd, h⟩ := h
  unfold bInt at h
  split at h
  · obtain ⟨v, rfl, r⟩ := rd.one
    have e := r.int_of; subst e
    exact call_int1 pins s σ H _ us Q I rv (.inl ⟨_, rfl, Fin.here h S (.int _)⟩)
  · obtain ⟨v, rfl, r⟩ := rd.one
    have e := r.bl_of; subst e
    exact call_int1 pins s σ H _ us Q I rv (.inr ⟨_, rfl, Fin.here h S (.int _)⟩)
  · exact h.elim
def bMax2 : List D → Sto → R D := fun ds st => match ds with
  | [.int i, .int j] => .ok (.int (if j > i then j else i)) st
  | _ => .no
def bMin2 : List D → Sto → R D := fun ds st => match ds with
  | [.int i, .int j] => .ok (.int (if j < i then j else i)) st
  | _ => .no
theorem cd_max2 (hc : X.calm = true) : CDs X (.builtin "max") bMax2 := by
  intro pins s σ H vs us Q I rv h
  obtain ⟨α, st, ds, S, rd, h⟩ := h
  unfold bMax2 at h
  split at h
  · obtain ⟨v, u, rfl, r, r'⟩ := rd.two
    have e := r.int_of; subst e
    have e := r'.int_of; subst e
    exact call_max2 hc pins s σ H _ us Q I rv ⟨_, _, rfl, Fin.here h S (.int _)⟩
  · exact h.elim
theorem cd_min2 (hc : X.calm = true) : CDs X (.builtin "min") bMin2 := by
  intro pins s σ H vs us Q I rv h
  obtain ⟨α, st, ds, S, rd, h⟩ := h
  unfold bMin2 at h
  split at h
  · obtain ⟨v, u, rfl, r, r'⟩ := rd.two
    have e := r.int_of; subst e
    have e := r'.int_of; subst e
    exact call_min2 hc pins s σ H _ us Q I rv ⟨_, _, rfl, Fin.here h S (.int _)⟩
  · exact h.elim
/-- the items of a list or a tuple -/
def itemsD (st : Sto) : D → Option (List D)
  | .tup xs => some xs
  | .ref r => rdL st r
  | _ => none
def bTuple : List D → Sto → R D := fun ds st => match ds with
  | [d] => match itemsD st d with
    | some xs => .ok (.tup xs) st
    | none => .no
  | _ => .no
def bList : List D → Sto → R D := fun ds st => match ds with
  | [d] => match itemsD st d with
    | some xs => .ok (.ref st.length) (st ++ [.lst xs])
    | none => .no
  | _ => .no
theorem items_of {K : PySem.W.Frag} {α : List Addr} {H : Hp} {st : Sto} {d : D} {v : V} {xs : List D} (S : SR K α st H) (r : RD K α H d v) (e : itemsD st d = some xs) :
    ∃ p vs, v = .ref p ∧ RDs K α H xs vs ∧ (SqL K H p vs ∨ (SqP K H p vs ∧ d = .tup xs)) := by
  cases d with
  | tup ys =>
    cases e
    obtain ⟨p, ws, rfl, t1, r1⟩ := r.tup_ofP
    exact ⟨p, ws, rfl, r1, .inr ⟨t1, rfl⟩⟩
  | ref q =>
    obtain ⟨p, rfl, a1⟩ := r.ref_of
    obtain ⟨ws, h0, r1⟩ := S.l e a1
    exact ⟨p, ws, rfl, r1, .inl h0⟩
  | _ => cases e
theorem cd_tuple : CDs X (.type "tuple") bTuple := by
  intro pins s σ H vs us Q I rv h
  obtain ⟨α, st, ds, S, rd, h⟩ := h
  unfold bTuple at h
  split at h
  · split at h
    · rename_i xs e
      obtain ⟨v, rfl, r⟩ := rd.one
      obtain ⟨p, ws, rfl, r1, hq⟩ := items_of S r e
      refine call_tupleP pins s σ H _ us Q I rv ⟨p, ws, rfl, ?_⟩
      rcases hq with hq | ⟨hq, rfl⟩
      · exact .inl ⟨hq, Fin.tup h S r1⟩
      · exact .inr ⟨hq.t, Fin.here h S r⟩
    · exact h.elim
  · exact h.elim
theorem cd_list : CDs X (.type "list") bList := by
  intro pins s σ H vs us Q I rv h
  obtain ⟨α, st, ds, S, rd, h⟩ := h
  unfold bList at h
  split at h
  · split at h
    · rename_i xs e
      obtain ⟨v, rfl, r⟩ := rd.one
      obtain ⟨p, ws, rfl, r1, hq⟩ := items_of S r e
      refine call_list_of pins s σ H _ us Q I rv ⟨p, ws, rfl, ?_, fun l hl => Fin.new h S r1 hl⟩
      rcases hq with hq | ⟨hq, _⟩
      · exact .inl hq
      · exact .inr hq.t
    · exact h.elim
  · exact h.elim
/-- bools of a list -/
def blsOf : List D → Option (List Bool)
  | [] => some []
  | .bl i :: r => (blsOf r).map (i :: ·)
  | _ :: _ => none
theorem blsOf_map : ∀ {ds : List D} {ns : List Bool}, blsOf ds = some ns → ds = ns.map D.bl
  | [], ns, h => by simp [blsOf] at h; subst h; rfl
  | d :: r, ns, h => by
    cases d <;> simp [blsOf] at h
    obtain ⟨ms, h1, h2⟩ := h
    subst h2
    rw [blsOf_map h1]; rfl
@[simp] theorem blsOf_bls : ∀ ns : List Bool, blsOf (ns.map D.bl) = some ns
  | [] => rfl
  | n :: ns => by simp [blsOf, blsOf_bls ns]
def bAll : List D → Sto → R D := fun ds st => match ds with
  | [.ref r] => match (rdL st r).bind blsOf with
    | some bs => .ok (.bl (bs.all id)) st
    | none => .no
  | _ => .no
def bAny : List D → Sto → R D := fun ds st => match ds with
  | [.ref r] => match (rdL st r).bind blsOf with
    | some bs => .ok (.bl (bs.any id)) st
    | none => .no
  | _ => .no
def bSum : List D → Sto → R D := fun ds st => match ds with
  | [.ref r] => match (rdL st r).bind intsOf with
    | some ns => .ok (.int ns.sum) st
    | none => .no
  | _ => .no
theorem cd_all (hc : X.calm = true) : CDs X (.builtin "all") bAll := by
  intro pins s σ H vs us Q I rv h
  obtain ⟨α, st, ds, S, rd, h⟩ := h
  unfold bAll at h
  split at h
  · split at h
    · rename_i bs e
      obtain ⟨xs, e1, e2⟩ := Option.bind_eq_some_iff.mp e
      obtain ⟨v, rfl, r⟩ := rd.one
      obtain ⟨p, rfl, a1⟩ := r.ref_of
      obtain ⟨ws, h0, r1⟩ := S.l e1 a1
      rw [blsOf_map e2] at r1
      rw [r1.toBls] at h0
      exact cr_all hc pins s σ H _ us Q I rv ⟨p, bs, rfl, h0, Fin.here h S (.bl _)⟩
    · exact h.elim
  · exact h.elim
theorem cd_any (hc : X.calm = true) : CDs X (.builtin "any") bAny := by
  intro pins s σ H vs us Q I rv h
  obtain ⟨α, st, ds, S, rd, h⟩ := h
  unfold bAny at h
  split at h
  · split at h
    · rename_i bs e
      obtain ⟨xs, e1, e2⟩ := Option.bind_eq_some_iff.mp e
      obtain ⟨v, rfl, r⟩ := rd.one
      obtain ⟨p, rfl, a1⟩ := r.ref_of
      obtain ⟨ws, h0, r1⟩ := S.l e1 a1
      rw [blsOf_map e2] at r1
      rw [r1.toBls] at h0
      exact cr_any hc pins s σ H _ us Q I rv ⟨p, bs, rfl, h0, Fin.here h S (.bl _)⟩
    · exact h.elim
  · exact h.elim
theorem cd_sum (hc : X.calm = true) : CDs X (.builtin "sum") bSum := by
  intro pins s σ H vs us Q I rv h
  obtain ⟨α, st, ds, S, rd, h⟩ := h
  unfold bSum at h
  split at h
  · split at h
    · rename_i bs e
      obtain ⟨xs, e1, e2⟩ := Option.bind_eq_some_iff.mp e
      obtain ⟨v, rfl, r⟩ := rd.one
      obtain ⟨p, rfl, a1⟩ := r.ref_of
      obtain ⟨ws, h0, r1⟩ := S.l e1 a1
      rw [intsOf_map e2] at r1
      rw [r1.toInts] at h0
      exact cr_sum hc pins s σ H _ us Q I rv ⟨p, bs, rfl, h0, Fin.here h S (.int _)⟩
    · exact h.elim
  · exact h.elim
end
end DL
set_option Elab.async false
set_option linter.all false
set_option maxRecDepth 100000
namespace DL
open PySem PySem.Spec PyProof.Rows L2

/-! ### statements -/
inductive RS where
  | nx (env : En) (st : Sto) | rt (d : D) (st : Sto) | bk (env : En) (st : Sto) | ct (env : En) (st : Sto) | ex (x : Ex) (env : En) (st : Sto) | no
def R.toS {β : Type} (r : R β) (env : En) (k : β → Sto → RS) : RS := match r with
  | .ok b st => k b st
  | .ex x st => .ex x env st
  | .no => .no
def GoS (K : PySem.W.Frag) (W : WX) (α : List Addr) (H : Hp) (Dn : Ends) : RS → Prop
  | .nx env st => ∀ α' σ' H', α <+: α' → Keep H H' → SR K α' st H' → ER K α' env σ' H' → Dn.nx σ' H'
  | .rt d st => ∀ α' H' v, α <+: α' → Keep H H' → SR K α' st H' → RD K α' H' d v → Dn.rt v H'
  | .bk env st => ∀ α' σ' H', α <+: α' → Keep H H' → SR K α' st H' → ER K α' env σ' H' → Dn.bk σ' H'
  | .ct env st => ∀ α' σ' H', α <+: α' → Keep H H' → SR K α' st H' → ER K α' env σ' H' → Dn.ct σ' H'
  | .ex x env st => ∀ α' σ' H' c dx, α <+: α' → Keep H H' → SR K α' st H' → ER K α' env σ' H' → RX K α' H' x c dx → W c dx σ' H'
  | .no => False
def tS (K : PySem.W.Frag) (W : WX) (m : En → Sto → RS) : TS := fun Dn σ H => ∃ α env st, ER K α env σ H ∧ SR K α st H ∧ GoS K W α H Dn (m env st)
abbrev DS (X : Cx) (W : WX) (s : Stmt) (m : En → Sto → RS) : Prop := PS X s (tS X.K W m)
abbrev DSs (X : Cx) (W : WX) (s : List Stmt) (m : En → Sto → RS) : Prop := PSs X s (tS X.K W m)
section
variable {K : PySem.W.Frag} {W : WX} {α : List Addr} {H : Hp} {σ : L2.St} {Dn : Ends}
theorem GoS.toGo {β : Type} {r : R β} {env : En} {k : β → Sto → RS} (h : GoS K W α H Dn (r.toS env k)) (e : ER K α env σ H) : Go K W α H σ r fun b st' α' H' => GoS K W α' H' Dn (k b st') := by
  cases r with
  | ok b st =>
    intro α' H' p q s
    have h' : GoS K W α H Dn (k b st) := h
    revert h'
    cases k b st with
    | nx env st => exact fun h a b c d e => h a b c (p.trans d) (q.trans e)
    | rt d st => exact fun h a b c d e => h a b c (p.trans d) (q.trans e)
    | bk env st => exact fun h a b c d e => h a b c (p.trans d) (q.trans e)
    | ct env st => exact fun h a b c d e => h a b c (p.trans d) (q.trans e)
    | ex x env st => exact fun h a b c x y d e => h a b c x y (p.trans d) (q.trans e)
    | no => exact fun h => h
  | ex x st => exact fun α' H' c dx p q s rx => h α' σ H' c dx p q s (e.mono p q) rx
  | no => exact h
/-- from further on -/
theorem GoS.on {r : RS} {α' : List Addr} {H' : Hp} (h : GoS K W α H Dn r) (p : α <+: α') (q : Keep H H') : GoS K W α' H' Dn r := by
  cases r with
  | nx env st => exact fun a b c d e => h a b c (p.trans d) (q.trans e)
  | rt d st => exact fun a b c d e => h a b c (p.trans d) (q.trans e)
  | bk env st => exact fun a b c d e => h a b c (p.trans d) (q.trans e)
  | ct env st => exact fun a b c d e => h a b c (p.trans d) (q.trans e)
  | ex x env st => exact fun a b c x y d e => h a b c x y (p.trans d) (q.trans e)
  | no => exact h
theorem Go.on {β : Type} {r : R β} {F : β → Sto → List Addr → Hp → Prop} {α' : List Addr} {H' : Hp} (h : Go K W α H σ r F) (p : α <+: α') (q : Keep H H') : Go K W α' H' σ r F := by
  cases r with
  | ok b st => exact fun a b d e => h a b (p.trans d) (q.trans e)
  | ex x st => exact fun a b x y d e => h a b x y (p.trans d) (q.trans e)
  | no => exact h
def RS.seq (r : RS) (k : En → Sto → RS) : RS := match r with
  | .nx env st => k env st
  | r => r
theorem GoS.seq {r : RS} {k : En → Sto → RS} (h : GoS K W α H Dn (r.seq k)) : GoS K W α H { Dn with nx := tS K W k Dn } r := by
  cases r with
  | nx env st =>
    intro α' σ' H' p q s e
    have h' : GoS K W α H Dn (k env st) := h
    exact ⟨α', env, st, e, s, h'.on p q⟩
  | rt d st => exact h
  | bk env st => exact h
  | ct env st => exact h
  | ex x env st => exact h
  | no => exact h
end

/-! ### targets -/
abbrev GT := D → En → Sto → Option (En × Sto)
def tG (K : PySem.W.Frag) (vs : List Nat) (g : GT) : TG := fun v σ H Q => ∃ α env st d, ER K α env σ H ∧ SR K α st H ∧ RD K α H d v ∧ match g d env st with
  | some (env', st') => ∀ α' σ' H', α <+: α' → Keep H H' → SR K α' st' H' → ER K α' env' σ' H' → (∀ ws : List Nat, (∀ i ∈ vs, i ∈ ws) → wipe σ' ws = wipe σ ws) → Q σ' H'
  | none => False
def tGs (K : PySem.W.Frag) (vs : List Nat) (g : List D → En → Sto → Option (En × Sto)) : TGs := fun us σ H Q => ∃ α env st ds, ER K α env σ H ∧ SR K α st H ∧ RDs K α H ds us ∧ match g ds env st with
  | some (env', st') => ∀ α' σ' H', α <+: α' → Keep H H' → SR K α' st' H' → ER K α' env' σ' H' → (∀ ws : List Nat, (∀ i ∈ vs, i ∈ ws) → wipe σ' ws = wipe σ ws) → Q σ' H'
  | none => False
abbrev DG (X : Cx) (e : Expr) (vs : List Nat) (g : GT) : Prop := PG X e (tG X.K vs g)
abbrev DGs (X : Cx) (es : List Expr) (vs : List Nat) (g : List D → En → Sto → Option (En × Sto)) : Prop := PGs X es (tGs X.K vs g)
theorem PG.weak {X : Cx} {e : Expr} {t t' : TG} (h : PG X e t) (f : ∀ v σ H Q, t' v σ H Q → t v σ H Q) : PG X e t' := ⟨fun pins s σ H v u Q I r hw => h.run pins s σ H v u Q I r (f v σ H Q hw)⟩
theorem PGs.weak {X : Cx} {e : List Expr} {t t' : TGs} (h : PGs X e t) (f : ∀ v σ H Q, t' v σ H Q → t v σ H Q) : PGs X e t' := ⟨fun pins s σ H v u Q I r hw => h.run pins s σ H v u Q I r (f v σ H Q hw)⟩
theorem wipe_set {σ : L2.St} {i : Nat} {x : Option V} : ∀ {ws : List Nat}, i ∈ ws → wipe (σ.set i x) ws = wipe σ ws
  | [], h => by cases h
  | w :: ws, h => by
    unfold wipe
    by_cases e : i ∈ ws
    · rw [wipe_set e]
    · have ew : i = w := by
        rcases List.mem_cons.mp h with h | h
        · exact h
        · exact absurd h e
      subst ew
      have : ∀ (l : List Nat), i ∉ l → wipe (σ.set i x) l = (wipe σ l).set i x := by
        intro l
        induction l with
        | nil => intro _; rfl
        | cons y l ih =>
          intro hn
          unfold wipe
          rw [ih (fun z => hn (List.mem_cons_of_mem _ z)), List.set_comm _ _ (fun z => hn (by rw [z]; exact List.mem_cons_self))]
      rw [this ws e, List.set_set]
theorem ER.set {K : PySem.W.Frag} {α : List Addr} {env : En} {σ : L2.St} {H : Hp} {i : Nat} {d : D} {v : V} (h : ER K α env σ H) (r : RD K α H d v) : ER K α (env.set i (some d)) (σ.set i (some v)) H := by
  refine ⟨by simp [h.1], fun j d' e => ?_⟩
  by_cases hj : i = j
  · subst hj
    by_cases hl : i < env.length
    · rw [List.getElem?_set_self hl] at e
      cases e
      exact ⟨v, List.getElem?_set_self (by rw [← h.1]; exact hl), r⟩
    · rw [List.getElem?_eq_none (by simpa using hl)] at e
      cases e
  · rw [List.getElem?_set_ne hj] at e ⊢
    exact h.2 j d' e
def gN (i : Nat) : GT := fun d env st => some (env.set i (some d), st)
section
variable {X : Cx} {W : WX} {pos : Pos}
theorem dg_name {i : Nat} {x : Str} (hN : X.N.Nodup) (hi : X.N[i]? = some x) (hx : Loc X.env.scope x) (hf : X.fn x = true ∨ X.env.scope.names.lookup x = some .local := by first | exact .inl rfl | exact .inr rfl | assumption) : DG X (.Name x pos) [i] (gN i) := by
  refine PG.weak (pg_name hN hi hx hf) fun v σ H Q h => ?_
  obtain ⟨α, env, st, d, hE, hS, r, h⟩ := h
  exact h α _ H (List.prefix_refl _) (Keep.refl _) hS (hE.set r) fun ws hw => wipe_set (hw i List.mem_cons_self)
def gsNil : List D → En → Sto → Option (En × Sto) := fun ds env st => match ds with
  | [] => some (env, st)
  | _ => none
def gsCons (g : GT) (gs : List D → En → Sto → Option (En × Sto)) : List D → En → Sto → Option (En × Sto) := fun ds env st => match ds with
  | d :: r => match g d env st with
    | some (env', st') => gs r env' st'
    | none => none
  | [] => none
theorem dgs_nil : DGs X [] [] gsNil := by
  refine PGs.weak pgs_nil fun v σ H Q h => ?_
  obtain ⟨α, env, st, ds, hE, hS, r, h⟩ := h
  unfold gsNil at h
  cases r with
  | nil => exact ⟨rfl, h α σ H (List.prefix_refl _) (Keep.refl _) hS hE fun _ _ => rfl⟩
  | cons a b => exact h.elim
theorem dgs_cons {e : Expr} {es : List Expr} {vs ws : List Nat} {g : GT} {gs : List D → En → Sto → Option (En × Sto)} (h1 : DG X e vs g) (h2 : DGs X es ws gs) (hs : (assignEach (e :: es) X.env).map (·.2) = assign e X.env :: (assignEach es X.env).map (·.2) := by rfl) :
    DGs X (e :: es) (vs ++ ws) (gsCons g gs) := by
  refine PGs.weak (pgs_cons h1 h2 hs) fun us σ H Q h => ?_
  obtain ⟨α, env, st, ds, hE, hS, r, h⟩ := h
  unfold gsCons at h
  cases r with
  | nil => exact h.elim
  | cons a b =>
    rename_i d u ds us
    refine ⟨u, us, rfl, α, env, st, d, hE, hS, a, ?_⟩
    have hh : (match (match g d env st with
      | some (env', st') => gs ds env' st'
      | none => none) with
      | some (env', st') => ∀ α' σ' H', α <+: α' → Keep H H' → SR X.K α' st' H' → ER X.K α' env' σ' H' → (∀ zs : List Nat, (∀ i ∈ vs ++ ws, i ∈ zs) → wipe σ' zs = wipe σ zs) → Q σ' H'
      | none => False) := h
    clear h
    show match g d env st with
      | some (env', st') => _
      | none => False
    cases q : g d env st with
    | none => rw [q] at hh; exact hh.elim
    | some p =>
      obtain ⟨env1, st1⟩ := p
      rw [q] at hh
      have h := hh
      clear hh
      intro α1 σ1 H1 p1 k1 s1 e1 w1
      refine ⟨α1, env1, st1, ds, e1, s1, b.mono p1 k1, ?_⟩
      revert h
      show (match gs ds env1 st1 with | some (env', st') => _ | none => False) → _
      cases gs ds env1 st1 with
      | none => exact fun h => h
      | some p2 =>
        exact fun h α' σ' H' p k s e w => h α' σ' H' (p1.trans p) (k1.trans k) s e fun zs hz => (w zs fun i hi => hz i (List.mem_append_right _ hi)).trans (w1 zs fun i hi => hz i (List.mem_append_left _ hi))
def gTup (gs : List D → En → Sto → Option (En × Sto)) (n : Nat) : GT := fun d env st => match d with
  | .tup xs => if xs.length = n then gs xs env st else none
  | _ => none
theorem dg_tup {es : List Expr} {k : Nat} {vs : List Nat} {gs : List D → En → Sto → Option (En × Sto)} {n : Nat} (hc : X.calm = true) (h : DGs X es vs gs)
    (hn : (assignEach es X.env).length = n := by rfl) (hst : (assignEach es X.env).findIdx? (·.1) = none := by rfl) : DG X (.Tuple es k pos) vs (gTup gs n) := by
  refine PG.weak (pg_tup hc h hn hst) fun v σ H Q h => ?_
  obtain ⟨α, env, st, d, hE, hS, r, h⟩ := h
  unfold gTup at h
  cases d with
  | tup xs =>
    obtain ⟨a, us, rfl, t1, r1⟩ := r.tup_of
    by_cases hl : xs.length = n
    · simp only [hl, if_true] at h
      exact ⟨a, us, rfl, t1, by rw [← r1.len]; exact hl, α, env, st, xs, hE, hS, r1, h⟩
    · simp only [hl, if_false] at h
  | _ => exact h.elim
def gSet (mo mi : En → Sto → R D) : GT := fun d env st => match mo env st with
  | .ok (.ref r) st1 => match mi env st1 with
    | .ok (.int k) st2 => match rdW st2 r with
      | some xs => match ixN xs.length k with
        | some j => some (env, st2.set r (.lst (xs.set j d)))
        | none => none
      | none => none
    | _ => none
  | _ => none
theorem dg_set {o i : Expr} {mo mi : En → Sto → R D} (ho : DE X W o mo) (hi : DE X W i mi)
    (ha : ∀ v, assign (.Subscript o i pos) X.env v = (do
      let ov ← holding [v] (eval o X.env)
      let iv ← holding [v, ov] (eval i X.env)
      standAt pos
      holding [v, ov, iv] (setItem ov iv v)
      release [v, ov, iv] []) := by intro _; rfl) : DG X (.Subscript o i pos) [] (gSet mo mi) := by
  refine PG.weak (pg_sub ho hi set_list ha) fun v σ H Q h => ?_
  obtain ⟨α, env, st, d, hE, hS, r, h⟩ := h
  unfold gSet at h
  refine ⟨α, env, st, hE, hS, ?_⟩
  cases q1 : mo env st with
  | no => rw [q1] at h; exact h.elim
  | ex x st1 => rw [q1] at h; exact h.elim
  | ok o1 st1 =>
    rw [q1] at h
    try dsimp only at h
    cases o1 with
    | ref n =>
      try dsimp only at h
      intro α1 H1 p1 k1 s1 w rw1
      refine ⟨α1, env, st1, hE.mono p1 k1, s1, ?_⟩
      cases q2 : mi env st1 with
      | no => rw [q2] at h; try dsimp only at h
      | ex x st1 => rw [q2] at h; try dsimp only at h
      | ok o2 st2 =>
        rw [q2] at h
        try dsimp only at h
        cases o2 with
        | int kk =>
          try dsimp only at h
          intro α2 H2 p2 k2 s2 w2 rw2
          cases q3 : rdW st2 n with
          | none => rw [q3] at h; try dsimp only at h
          | some xs =>
            rw [q3] at h
            try dsimp only at h
            cases q4 : ixN xs.length kk with
            | none => simp only [q4] at h
            | some j =>
              simp only [q4] at h
              obtain ⟨a, rfl, a1⟩ := (rw1.mono p2 k2).ref_of
              have e2 := rw2.int_of; subst e2
              obtain ⟨c1, us, hu, ru⟩ := s2.w q3 a1
              have rd := (r.mono p1 k1).mono p2 k2
              have rr := ru.set rd j
              refine ⟨a, us, kk, j, rfl, rfl, hu, by rw [← ru.len]; exact q4, ?_⟩
              have kk2 : Keep H2 (upd H2 a (.lst (us.set j v))) := Keep.lst hu
              exact h α2 σ _ (p1.trans p2) ((k1.trans k2).trans kk2) (s2.put c1 a1 rr) (((hE.mono p1 k1).mono p2 k2).mono (List.prefix_refl _) kk2) fun _ _ => rfl
        | _ => exact h.elim
    | _ => exact h.elim

/-! ### small statements, blocks -/
def sNil (env : En) (st : Sto) : RS := .nx env st
def sSeq (a b : En → Sto → RS) (env : En) (st : Sto) : RS := (a env st).seq b
variable {s : Stmt} {rest : List Stmt} {ms mr : En → Sto → RS} {e : Expr} {me : En → Sto → R D}
theorem dss_nil : DSs X W [] sNil := by
  refine PSs.weak pss_nil fun Dn σ H h => ?_
  obtain ⟨α, env, st, hE, hS, h⟩ := h
  exact h α σ H (List.prefix_refl _) (Keep.refl _) hS hE
theorem dss_cons (h1 : DS X W s ms) (h2 : DSs X W rest mr) : DSs X W (s :: rest) (sSeq ms mr) := by
  refine PSs.weak (pss_cons h1 h2) fun Dn σ H h => ?_
  obtain ⟨α, env, st, hE, hS, h⟩ := h
  exact ⟨α, env, st, hE, hS, GoS.seq h⟩
theorem dss_one (h1 : DS X W s ms) : DSs X W [s] ms := pss_one h1
def sNo (_ : En) (_ : Sto) : RS := .no
theorem ds_never : DS X W s sNo := PS.weak ps_never fun _ _ _ ⟨_, _, _, _, _, h⟩ => h.elim
theorem dss_never : DSs X W rest sNo := PSs.weak pss_never fun _ _ _ ⟨_, _, _, _, _, h⟩ => h.elim
theorem ds_pass : DS X W (.Pass pos) sNil := by
  refine PS.weak ps_pass fun Dn σ H h => ?_
  obtain ⟨α, env, st, hE, hS, h⟩ := h
  exact h α σ H (List.prefix_refl _) (Keep.refl _) hS hE
def sBreak (env : En) (st : Sto) : RS := .bk env st
theorem ds_break : DS X W (.Break pos) sBreak := by
  refine PS.weak ps_break fun Dn σ H h => ?_
  obtain ⟨α, env, st, hE, hS, h⟩ := h
  exact h α σ H (List.prefix_refl _) (Keep.refl _) hS hE
theorem ds_doc {x : Str} {j : Nat} {pos' : Pos} : DS X W (.Expr (.Constant (.str x) j pos) pos') sNil := by
  refine PS.weak ps_doc fun Dn σ H h => ?_
  obtain ⟨α, env, st, hE, hS, h⟩ := h
  exact h α σ H (List.prefix_refl _) (Keep.refl _) hS hE
def sExpr (m : En → Sto → R D) (env : En) (st : Sto) : RS := (m env st).toS env fun _ st1 => .nx env st1
theorem ds_expr (he : DE X W e me) (hs : swapsWith e none pos.line X.env = pure false := by rfl) : DS X W (.Expr e pos) (sExpr me) := by
  refine PS.weak (ps_expr he hs) fun Dn σ H h => ?_
  obtain ⟨α, env, st, hE, hS, h⟩ := h
  refine ⟨α, env, st, hE, hS, (h.toGo hE).mono fun d st1 α1 H1 p1 k1 s1 h1 v rv => ?_⟩
  exact h1 α1 σ H1 (List.prefix_refl _) (Keep.refl _) s1 (hE.mono p1 k1)
def sRet (m : En → Sto → R D) (env : En) (st : Sto) : RS := (m env st).toS env fun d st1 => .rt d st1
theorem ds_ret (he : DE X W e me) : DS X W (.Return (some e) pos) (sRet me) := by
  refine PS.weak (ps_ret he) fun Dn σ H h => ?_
  obtain ⟨α, env, st, hE, hS, h⟩ := h
  refine ⟨α, env, st, hE, hS, (h.toGo hE).mono fun d st1 α1 H1 p1 k1 s1 h1 v rv => ?_⟩
  exact h1 α1 H1 v (List.prefix_refl _) (Keep.refl _) s1 rv
def sRetN (env : En) (st : Sto) : RS := .rt .non st
theorem ds_retN : DS X W (.Return none pos) sRetN := by
  refine PS.weak ps_retN fun Dn σ H h => ?_
  obtain ⟨α, env, st, hE, hS, h⟩ := h
  exact h α H .non (List.prefix_refl _) (Keep.refl _) hS .non
def sIf (mc : En → Sto → R Bool) (a b : En → Sto → RS) (env : En) (st : Sto) : RS := (mc env st).toS env fun x st1 => if x = true then a env st1 else b env st1
theorem ds_if {c : Expr} {a b : List Stmt} {mc : En → Sto → R Bool} {ma mb : En → Sto → RS} (hc : DT X W c mc) (ha : DSs X W a ma) (hb : DSs X W b mb) : DS X W (.If c a b pos) (sIf mc ma mb) := by
  refine PS.weak (ps_if hc ha hb) fun Dn σ H h => ?_
  obtain ⟨α, env, st, hE, hS, h⟩ := h
  refine ⟨α, env, st, hE, hS, (h.toGo hE).mono fun x st1 α1 H1 p1 k1 s1 h1 => ?_⟩
  cases x with
  | true => rw [if_pos rfl] at h1 ⊢; exact ⟨α1, env, st1, hE.mono p1 k1, s1, h1⟩
  | false => rw [if_neg Bool.false_ne_true] at h1 ⊢; exact ⟨α1, env, st1, hE.mono p1 k1, s1, h1⟩
def sAsg (m : En → Sto → R D) (g : GT) (env : En) (st : Sto) : RS := (m env st).toS env fun d st1 => match g d env st1 with
  | some (env', st') => .nx env' st'
  | none => .no
theorem asg_of {K : PySem.W.Frag} {m : En → Sto → R D} {g : GT} {vs : List Nat} {Dn : Ends} {σ : L2.St} {H : Hp} (h : tS K W (sAsg m g) Dn σ H) : tAsg (tE K W m) (tG K vs g) Dn σ H := by
  obtain ⟨α, env, st, hE, hS, h⟩ := h
  refine ⟨α, env, st, hE, hS, (h.toGo hE).mono fun d st1 α1 H1 p1 k1 s1 h1 v rv => ?_⟩
  refine ⟨α1, env, st1, d, hE.mono p1 k1, s1, rv, ?_⟩
  revert h1
  cases g d env st1 with
  | none => exact fun h => h
  | some p => exact fun h1 α' σ' H' p k s e _ => h1 α' σ' H' p k s e
theorem ds_asg {tg : Expr} {vs : List Nat} {g : GT} (he : DE X W e me) (hg : DG X tg vs g) (hs : swapsWithSole [tg] e pos.line X.env = pure false := by rfl) (hw : swappedStores [tg] e X.env = pure none := by rfl)
    (h1 : (assignEach [tg] X.env).map (·.2) = [assign tg X.env] := by rfl) : DS X W (.Assign [tg] e pos) (sAsg me g) := PS.weak (ps_asg he hg hs hw h1) fun _ _ _ => asg_of
theorem ds_set {i : Nat} {x : Str} {pos' : Pos} (hN : X.N.Nodup) (hi : X.N[i]? = some x) (hx : Loc X.env.scope x) (he : DE X W e me) (hs : swapsWith e (some (.Name x pos')) pos.line X.env = pure false := by rfl) (hf : X.fn x = true ∨ X.env.scope.names.lookup x = some .local := by first | exact .inl rfl | exact .inr rfl | assumption) :
    DS X W (.Assign [.Name x pos'] e pos) (sAsg me (gN i)) := by
  refine PS.weak (ps_set hN hi hx he hs hf) fun Dn σ H h => ?_
  obtain ⟨α, env, st, hE, hS, h⟩ := h
  refine ⟨α, env, st, hE, hS, (h.toGo hE).mono fun d st1 α1 H1 p1 k1 s1 h1 v rv => ?_⟩
  exact h1 α1 _ H1 (List.prefix_refl _) (Keep.refl _) s1 ((hE.mono p1 k1).set rv)
/-- a, b = x, y -/
def sPar (i j : Nat) (mr : En → Sto → R (List D)) (env : En) (st : Sto) : RS := (mr env st).toS env fun ds st1 => match ds with
  | [d, d'] => .nx ((env.set i (some d)).set j (some d')) st1
  | _ => .no
theorem ds_par {i j : Nat} {x y : Str} {a b : Expr} {mr : En → Sto → R (List D)} {px py pt : Pos} {kt k2 : Nat} {pt2 : Pos} (hc : X.calm = true) (hN : X.N.Nodup) (hi : X.N[i]? = some x) (hj : X.N[j]? = some y) (hij : i ≠ j)
    (hx : X.env.scope.names.lookup x = some .local) (hy : X.env.scope.names.lookup y = some .local) (ha : DA X W [a, b] mr)
    (hw : swappedStores [.Tuple [.Name x px, .Name y py] kt pt] (.Tuple [a, b] k2 pt2) X.env = pure (some [x, y]))
    (hs : swapsWithSole [.Tuple [.Name x px, .Name y py] kt pt] (.Tuple [a, b] k2 pt2) pos.line X.env = pure false := by rfl) :
    DS X W (.Assign [.Tuple [.Name x px, .Name y py] kt pt] (.Tuple [a, b] k2 pt2) pos) (sPar i j mr) := by
  refine PS.weak (ps_par hc hN hi hj hij hx hy ha hw hs) fun Dn σ H h => ?_
  obtain ⟨α, env, st, hE, hS, h⟩ := h
  refine ⟨α, env, st, hE, hS, (h.toGo hE).mono fun ds st1 α1 H1 p1 k1 s1 h1 vs rv => ?_⟩
  split at h1
  · obtain ⟨v, u, rfl, r1, r2⟩ := rv.two
    exact ⟨v, u, rfl, h1 α1 _ H1 (List.prefix_refl _) (Keep.refl _) s1 (((hE.mono p1 k1).set r1).set r2)⟩
  · exact h1.elim
/-- x op= e -/
def sAug (i : Nat) (m : En → Sto → R D) (f : O2) (env : En) (st : Sto) : RS := match env[i]? with
  | some (some x) => (m env st).toS env fun y st1 => (noEx (f x y st1)).toS env fun z st2 => .nx (env.set i (some z)) st2
  | _ => .no
theorem ds_aug {i : Nat} {x : Str} {op : Operator} {f : O2} {pos' : Pos} (hN : X.N.Nodup) (hi : X.N[i]? = some x) (hx : Loc X.env.scope x) (he : DE X W e me) (ho : PIp X op (rD2 X.K f)) (hf : X.fn x = true ∨ X.env.scope.names.lookup x = some .local := by first | exact .inl rfl | exact .inr rfl | assumption) :
    DS X W (.AugAssign (.Name x pos') op e pos) (sAug i me f) := by
  refine PS.weak (ps_aug hN hi hx he ho hf) fun Dn σ H h => ?_
  obtain ⟨α, env, st, hE, hS, h⟩ := h
  unfold sAug at h
  split at h
  · rename_i x0 e0
    obtain ⟨v0, g1, g2⟩ := hE.2 i x0 e0
    refine ⟨v0, g1, α, env, st, hE, hS, (h.toGo hE).mono fun d st1 α1 H1 p1 k1 s1 h1 v rv => ?_⟩
    refine ⟨α1, st1, x0, d, s1, g2.mono p1 k1, rv, (h1.toGo (hE.mono p1 k1)).rw.mono fun z st2 q α2 H2 w p2 k2 s2 rw => ?_⟩
    exact q α2 H2 p2 k2 s2 α2 _ H2 (List.prefix_refl _) (Keep.refl _) s2 (((hE.mono p1 k1).mono p2 k2).set rw)
  · exact h.elim
end
end DL
set_option Elab.async false
set_option linter.all false
set_option maxRecDepth 100000
namespace DL
open PySem PySem.Spec PyProof.Rows L2

/-! ### what is walked -/
/-- the store still has these items at the number -/
def gOk (ds : List D) (g : Option Nat) (st : Sto) : Prop := match g with
  | none => True
  | some r => rdL st r = some ds
structure WalkD (K : PySem.W.Frag) (J : It) (α : List Addr) (H : Hp) (ds : List D) (g : Option Nat) : Prop where
  ex : ∃ (G : Hp → Prop) (Y : Nat → Hp → V → Hp → Prop), Walk J ds.length G Y ∧
    (∀ α' st' H', α <+: α' → Keep H H' → SR K α' st' H' → gOk ds g st' → G H') ∧
    (∀ i H1 x H2 α' st', α <+: α' → Keep H H1 → SR K α' st' H1 → gOk ds g st' → i < ds.length → Y i H1 x H2 → Keep H1 H2 ∧ SR K α' st' H2 ∧ ∃ d, ds[i]? = some d ∧ RD K α' H2 d x)
abbrev MI := En → Sto → R (List D × Option Nat)
def tI (K : PySem.W.Frag) (W : WX) (m : MI) : TI := fun σ H Rr => ∃ α env st, ER K α env σ H ∧ SR K α st H ∧ Go K W α H σ (m env st) fun p st' α' H' => ∀ J, WalkD K J α' H' p.1 p.2 → Rr J H'
abbrev DI (X : Cx) (W : WX) (tg iter : Expr) (m : MI) : Prop := PI X tg iter (tI X.K W m)
theorem PI.weak {X : Cx} {tg e : Expr} {t t' : TI} (h : PI X tg e t) (f : ∀ σ H Rr, t' σ H Rr → t σ H Rr) : PI X tg e t' := ⟨fun pins s σ H Rr I hw => h.run pins s σ H Rr I (f σ H Rr hw)⟩
theorem PI.either {X : Cx} {tg e : Expr} {t t' : TI} (h : PI X tg e t) (h' : PI X tg e t') : PI X tg e (fun σ H Rr => t σ H Rr ∨ t' σ H Rr) := ⟨fun pins s σ H Rr I hw => hw.elim (h.run pins s σ H Rr I) (h'.run pins s σ H Rr I)⟩
section
variable {X : Cx} {W : WX} {pos : Pos} {e : Expr} {me : En → Sto → R D} {tg : Expr}
/-- over a list or a tuple -/
def iVal (m : En → Sto → R D) : MI := fun env st => (m env st).bind fun d st1 => match d with
  | .tup xs => .ok (xs, none) st1
  | .ref r => match rdL st1 r with
    | some xs => .ok (xs, some r) st1
    | none => .no
  | _ => .no
theorem walkD_list {K : PySem.W.Frag} {α : List Addr} {H : Hp} {st : Sto} {r : Nat} {a : Addr} {xs : List D} {vs : List V} (ea : α[r]? = some a) (hl : xs.length = vs.length) (h0 : SqL K H a vs) (hr : RDs K α H xs vs) (S : SR K α st H) (e1 : rdL st r = some xs) : WalkD K (Itl K a) α H xs (some r) := by
  refine ⟨fun H' => ∃ ws, SqL K H' a ws ∧ ws.length = xs.length, fun i H1 x H2 => H2 = H1 ∧ ∀ ws, SqL K H1 a ws → ws[i]? = some x, ⟨fun i H' hi q => ?_, fun H' q => ?_, fun i H1 x H2 hi q y => y⟩, fun α' st' H' p k s g => ?_, fun i H1 x H2 α' st' p k s g hi y => ?_⟩
  · obtain ⟨ws, q1, q2⟩ := q
    exact ⟨ws, ws[i]'(by omega), q1, by simp⟩
  · obtain ⟨ws, q1, q2⟩ := q
    exact ⟨ws, q1, by omega⟩
  · obtain ⟨ws, q1, q2⟩ := s.l g (get_pre p ea)
    exact ⟨ws, q1, q2.len.symm⟩
  · obtain ⟨rfl, y⟩ := y
    obtain ⟨ws, q1, q2⟩ := s.l g (get_pre p ea)
    obtain ⟨d, g1, g2⟩ := q2.get (y ws q1)
    exact ⟨Keep.refl _, s, d, g1, g2⟩
theorem walkD_tup {K : PySem.W.Frag} {α : List Addr} {H : Hp} {a : Addr} {xs : List D} {vs : List V} (h0 : SqT K H a vs) (hr : RDs K α H xs vs) : WalkD K (Itt K a) α H xs none := by
  refine ⟨fun H' => SqT K H' a vs, fun i H1 x H2 => H2 = H1 ∧ vs[i]? = some x, ⟨fun i H' hi q => ?_, fun H' q => ?_, fun i H1 x H2 hi q y => ?_⟩, fun α' st' H' p k s g => k.sqT h0, fun i H1 x H2 α' st' p k s g hi y => ?_⟩
  · have hl := hr.len
    exact ⟨vs, vs[i]'(by omega), q, by simp⟩
  · exact ⟨vs, q, by rw [hr.len]; exact Nat.le_refl _⟩
  · exact ⟨y.1, y.2 vs q⟩
  · obtain ⟨rfl, y⟩ := y
    obtain ⟨d, g1, g2⟩ := hr.get y
    exact ⟨Keep.refl _, s, d, g1, g2.mono p k⟩
theorem di_val (he : DE X W e me) : DI X W tg e (iVal me) := by
  refine PI.weak (PI.either (pi_list he) (pi_tup he)) fun σ H Rr h => ?_
  obtain ⟨α, env, st, hE, hS, h⟩ := h
  unfold iVal at h
  cases q : me env st with
  | no => rw [q] at h; exact h.elim
  | ex x st1 =>
    refine .inl ⟨α, env, st, hE, hS, ?_⟩
    rw [q] at h ⊢
    exact h
  | ok d st1 =>
    have h' := h.bind
    clear h
    have key : Go X.K W α H σ (me env st) fun b st α' H' => Go X.K W α' H' σ (match b with
      | .tup xs => .ok (xs, none) st
      | .ref r => match rdL st r with
        | some xs => .ok (xs, some r) st
        | none => .no
      | _ => .no) fun p st' α' H' => ∀ J, WalkD X.K J α' H' p.1 p.2 → Rr J H' := h'
    cases d with
    | tup xs =>
      refine .inr ⟨α, env, st, hE, hS, ?_⟩
      rw [q] at key ⊢
      intro α1 H1 p1 k1 s1 v rv
      obtain ⟨a, vs, rfl, t1, r1⟩ := rv.tup_of
      exact ⟨a, rfl, ⟨vs, t1⟩, (key α1 H1 p1 k1 s1).here s1 _ (walkD_tup t1 r1)⟩
    | ref r =>
      refine .inl ⟨α, env, st, hE, hS, ?_⟩
      rw [q] at key ⊢
      intro α1 H1 p1 k1 s1 v rv
      obtain ⟨a, rfl, ea⟩ := rv.ref_of
      have kk := key α1 H1 p1 k1 s1
      dsimp only at kk
      cases q2 : rdL st1 r with
      | none => rw [q2] at kk; exact kk.elim
      | some xs =>
        rw [q2] at kk
        obtain ⟨vs, h0, hr⟩ := s1.l q2 ea
        exact ⟨a, rfl, ⟨vs, h0⟩, kk.here s1 _ (walkD_list ea hr.len h0 hr s1 q2)⟩
    | _ =>
      refine .inl ⟨α, env, st, hE, hS, ?_⟩
      rw [q] at key ⊢
      exact fun α1 H1 p1 k1 s1 v rv => (key α1 H1 p1 k1 s1).elim
def rngD (lo : Int) (n : Nat) : List D := (List.range n).map fun i => D.int (lo + (i : Nat))
theorem walkD_range {K : PySem.W.Frag} {α : List Addr} {H : Hp} {lo : Int} {n : Nat} : WalkD K (Itr lo n) α H (rngD lo n) none := by
  have hl : (rngD lo n).length = n := by simp [rngD]
  refine ⟨fun _ => True, fun i H1 x H2 => H2 = H1 ∧ x = .int (lo + (i : Nat)), ⟨fun i H' hi _ => by rw [hl] at hi; exact hi, fun H' _ => by rw [hl]; exact Nat.le_refl _, fun i H1 x H2 hi _ y => y⟩, fun _ _ _ _ _ _ _ => trivial, fun i H1 x H2 α' st' p k s g hi y => ?_⟩
  obtain ⟨rfl, rfl⟩ := y
  rw [hl] at hi
  exact ⟨Keep.refl _, s, .int (lo + (i : Nat)), by simp [rngD, hi], .int _⟩
def Mid (i : Int) : Prop := -(2 ^ 62) ≤ i ∧ i < 2 ^ 62
noncomputable instance (i : Int) : Decidable (Mid i) := Classical.propDecidable _
noncomputable def iRng1 (mr : En → Sto → R (List D)) : MI := fun env st => (mr env st).bind fun ds st1 => match ds with
  | [.int j] => if Mid j then .ok (rngD 0 j.toNat, none) st1 else .no
  | _ => .no
noncomputable def iRng2 (mr : En → Sto → R (List D)) : MI := fun env st => (mr env st).bind fun ds st1 => match ds with
  | [.int i, .int j] => if Mid i ∧ Mid j then .ok (rngD i (j - i).toNat, none) st1 else .no
  | _ => .no
theorem di_rng1 {a : Expr} {mr : En → Sto → R (List D)} {p : Pos} (hg : Gl X "range") (hm : X.mg "range" = none) (ha : DA X W [a] mr) (hs : starEach [a] X.env = [(false, eval a X.env)] := by rfl) : DI X W tg (.Call (.Name "range" p) [a] [] pos) (iRng1 mr) := by
  refine PI.weak (pi_range1 hg hm ha hs) fun σ H Rr h => ?_
  obtain ⟨α, env, st, hE, hS, h⟩ := h
  refine ⟨α, env, st, hE, hS, h.bind.mono fun ds st1 α1 H1 p1 k1 s1 h1 vs rvs => ?_⟩
  split at h1
  · split at h1
    · rename_i hm
      obtain ⟨v, rfl, r⟩ := rvs.one
      exact ⟨_, by rw [r.int_of], hm.1, hm.2, h1.here s1 _ walkD_range⟩
    · exact h1.elim
  · exact h1.elim
theorem di_rng2 {a b : Expr} {mr : En → Sto → R (List D)} {p : Pos} (hg : Gl X "range") (hm : X.mg "range" = none) (ha : DA X W [a, b] mr) (hs : starEach [a, b] X.env = [(false, eval a X.env), (false, eval b X.env)] := by rfl) (hs2 : starEach [b] X.env = [(false, eval b X.env)] := by rfl) :
    DI X W tg (.Call (.Name "range" p) [a, b] [] pos) (iRng2 mr) := by
  refine PI.weak (pi_range2 hg hm ha hs hs2) fun σ H Rr h => ?_
  obtain ⟨α, env, st, hE, hS, h⟩ := h
  refine ⟨α, env, st, hE, hS, h.bind.mono fun ds st1 α1 H1 p1 k1 s1 h1 vs rvs => ?_⟩
  split at h1
  · split at h1
    · rename_i hm
      obtain ⟨v, u, rfl, r, r'⟩ := rvs.two
      exact ⟨_, _, by rw [r.int_of, r'.int_of], ⟨hm.1.1, hm.1.2, hm.2.1, hm.2.2⟩, h1.here s1 _ walkD_range⟩
    · exact h1.elim
  · exact h1.elim

/-! ### for -/
open Classical in
noncomputable def loopS (ds0 : List D) (gd : Option Nat) (g : GT) (mb : En → Sto → RS) : List D → En → Sto → RS
  | [], env, st => if gOk ds0 gd st then .nx env st else .no
  | d :: r, env, st => if gOk ds0 gd st then (match g d env st with
      | none => .no
      | some (env1, st1) => match mb env1 st1 with
        | .nx env2 st2 => loopS ds0 gd g mb r env2 st2
        | .ct env2 st2 => loopS ds0 gd g mb r env2 st2
        | .bk env2 st2 => .nx env2 st2
        | .rt d st => .rt d st
        | .ex x env st => .ex x env st
        | .no => .no) else .no
noncomputable def sFor (mi : MI) (g : GT) (mb : En → Sto → RS) (env : En) (st : Sto) : RS := (mi env st).toS env fun p st1 => loopS p.1 p.2 g mb p.1 env st1
theorem ds_for {iter : Expr} {body : List Stmt} {mi : MI} {g : GT} {vs : List Nat} {mb : En → Sto → RS} (hp : PassesOwn (model X.prog X.w) X.A X.env X.xe) (hc : X.calm = true) (hi : DI X W tg iter mi) (hg : DG X tg vs g) (hb : DSs X W body mb)
    (hs : ∀ x, foldedSetIterable iter X.env x = pure x := by intro _; rfl) : DS X W (.For tg iter body [] pos) (sFor mi g mb) := by
  refine PS.weak (ps_for hp hc hi hg hb hs) fun Dn σ H h => ?_
  obtain ⟨α, env, st, hE, hS, h⟩ := h
  refine ⟨α, env, st, hE, hS, (h.toGo hE).mono fun p st1 α1 H1 p1 k1 s1 h1 J hJ => ?_⟩
  obtain ⟨ds, gd⟩ := p
  obtain ⟨G, Y, wk, hG, hY⟩ := hJ.ex
  have h1' : GoS X.K W α1 H1 Dn (loopS ds gd g mb ds env st1) := h1
  refine for_it wk (fun i σ H => ∃ α' env' st', α1 <+: α' ∧ Keep H1 H ∧ SR X.K α' st' H ∧ ER X.K α' env' σ H ∧ GoS X.K W α' H Dn (loopS ds gd g mb (ds.drop i) env' st'))
    ⟨α1, env, st1, List.prefix_refl _, Keep.refl _, s1, hE.mono p1 k1, h1'⟩ (fun i σ H hi hP => ?_) (fun i x σ H2 H3 hi hP y => ?_) (fun σ H hP => ?_)
  · obtain ⟨α', env', st', p2, k2, s2, e2, q⟩ := hP
    refine hG α' st' H p2 k2 s2 ?_
    cases hd : ds.drop i with
    | nil =>
      rw [hd] at q
      unfold loopS at q
      split at q
      · assumption
      · exact q.elim
    | cons d r =>
      rw [hd] at q
      unfold loopS at q
      split at q
      · assumption
      · exact q.elim
  · obtain ⟨α', env', st', p2, k2, s2, e2, q⟩ := hP
    have hd : ds.drop i = ds[i] :: ds.drop (i + 1) := List.drop_eq_getElem_cons hi
    rw [hd] at q
    unfold loopS at q
    split at q
    · rename_i gg
      obtain ⟨k3, s3, d, g1, g2⟩ := hY i H2 x H3 α' st' p2 k2 s2 gg hi y
      have ed : d = ds[i] := by
        rw [List.getElem?_eq_getElem hi] at g1
        exact (Option.some.inj g1).symm
      subst ed
      refine ⟨α', env', st', ds[i], e2.mono (List.prefix_refl _) k3, s3, g2, ?_⟩
      revert q
      cases hgd : g ds[i] env' st' with
      | none => exact fun q => q.elim
      | some pq =>
        obtain ⟨env1, st2⟩ := pq
        intro q α2 σ2 H4 p4 k4 s4 e4 _
        refine ⟨α2, env1, st2, e4, s4, ?_⟩
        dsimp only at q
        have again : ∀ env2 st3, GoS X.K W α' H2 Dn (loopS ds gd g mb (ds.drop (i + 1)) env2 st3) → ∀ α5 σ5 H5, α2 <+: α5 → Keep H4 H5 → SR X.K α5 st3 H5 → ER X.K α5 env2 σ5 H5 →
            ∃ α' env' st', α1 <+: α' ∧ Keep H1 H5 ∧ SR X.K α' st' H5 ∧ ER X.K α' env' σ5 H5 ∧ GoS X.K W α' H5 Dn (loopS ds gd g mb (ds.drop (i + 1)) env' st') := fun env2 st3 q α5 σ5 H5 p5 k5 s5 e5 =>
          ⟨α5, env2, st3, (p2.trans p4).trans p5, ((k2.trans k3).trans k4).trans k5, s5, e5, q.on (p4.trans p5) ((k3.trans k4).trans k5)⟩
        cases hm : mb env1 st2 with
        | nx env2 st3 => rw [hm] at q; exact again env2 st3 q
        | ct env2 st3 => rw [hm] at q; exact again env2 st3 q
        | bk env2 st3 => rw [hm] at q; exact fun a b c d e => q a b c (p4.trans d) ((k3.trans k4).trans e)
        | rt d st3 => rw [hm] at q; exact fun a b c d e => q a b c (p4.trans d) ((k3.trans k4).trans e)
        | ex x2 env2 st3 => rw [hm] at q; exact fun a b c x y d e => q a b c x y (p4.trans d) ((k3.trans k4).trans e)
        | no => rw [hm] at q; exact q
    · exact q.elim
  · obtain ⟨α', env', st', p2, k2, s2, e2, q⟩ := hP
    rw [List.drop_length] at q
    unfold loopS at q
    split at q
    · exact q α' σ H (List.prefix_refl _) (Keep.refl _) s2 e2
    · exact q.elim

/-! ### while -/
def loopW (mc : En → Sto → R Bool) (mb : En → Sto → RS) : Nat → En → Sto → RS
  | 0, _, _ => .no
  | n + 1, env, st => (mc env st).toS env fun b st1 => if b = true then (match mb env st1 with
      | .nx env2 st2 => loopW mc mb n env2 st2
      | .ct env2 st2 => loopW mc mb n env2 st2
      | .bk env2 st2 => .nx env2 st2
      | .rt d st => .rt d st
      | .ex x env st => .ex x env st
      | .no => .no) else .nx env st1
theorem ds_while {c : Expr} {body : List Stmt} {mc : En → Sto → R Bool} {mb : En → Sto → RS} (N : Nat) (hp : PassesOwn (model X.prog X.w) X.A X.env X.xe) (hc : DT X W c mc) (hb : DSs X W body mb) : DS X W (.While c body [] pos) (loopW mc mb N) := by
  refine PS.weak (ps_while hp hc hb) fun Dn σ H h => ?_
  obtain ⟨α, env, st, hE, hS, h⟩ := h
  refine ⟨fun m σ H' => ∃ α' env' st', ER X.K α' env' σ H' ∧ SR X.K α' st' H' ∧ GoS X.K W α' H' Dn (loopW mc mb m env' st'), ⟨N, α, env, st, hE, hS, h⟩, fun m σ H ⟨α, env, st, hE, hS, h⟩ => ?_⟩
  cases m with
  | zero => exact h.elim
  | succ m =>
    refine ⟨α, env, st, hE, hS, (h.toGo hE).mono fun b st1 α1 H1 p1 k1 s1 h1 => ?_⟩
    cases b with
    | false =>
      rw [if_neg Bool.false_ne_true] at h1 ⊢
      exact h1 α1 σ H1 (List.prefix_refl _) (Keep.refl _) s1 (hE.mono p1 k1)
    | true =>
      rw [if_pos rfl] at h1 ⊢
      refine ⟨fun σ' H' => ∃ α' env' st', ER X.K α' env' σ' H' ∧ SR X.K α' st' H' ∧ GoS X.K W α' H' Dn (loopW mc mb m env' st'), fun σ' H' n => ⟨m, Nat.lt_succ_self m, n⟩, α1, env, st1, hE.mono p1 k1, s1, ?_⟩
      revert h1
      cases hm : mb env st1 with
      | nx env2 st3 => exact fun q α5 σ5 H5 p5 k5 s5 e5 => ⟨α5, env2, st3, e5, s5, q.on p5 k5⟩
      | ct env2 st3 => exact fun q α5 σ5 H5 p5 k5 s5 e5 => ⟨α5, env2, st3, e5, s5, q.on p5 k5⟩
      | bk env2 st3 => exact fun q => q
      | rt d st3 => exact fun q => q
      | ex x2 env2 st3 => exact fun q => q
      | no => exact fun q => q

/-! ### comprehensions -/
def wipeE (env : En) : List Nat → En
  | [] => env
  | v :: vs => (wipeE env vs).set v none
theorem wipeE_len (env : En) : ∀ vs : List Nat, (wipeE env vs).length = env.length
  | [] => rfl
  | v :: vs => by unfold wipeE; rw [List.length_set, wipeE_len env vs]
theorem ER.wiped {K : PySem.W.Frag} {α : List Addr} {env : En} {σ : L2.St} {H : Hp} (h : ER K α env σ H) : ∀ vs : List Nat, ER K α (wipeE env vs) (wipe σ vs) H
  | [] => h
  | v :: vs => by
    have ih := ER.wiped h vs
    refine ⟨by unfold wipeE L2.wipe; rw [List.length_set, List.length_set]; exact ih.1, fun j d e => ?_⟩
    unfold wipeE at e
    unfold L2.wipe
    by_cases hj : v = j
    · subst hj
      by_cases hl : v < (wipeE env vs).length
      · rw [List.getElem?_set_self hl] at e; cases e
      · rw [List.getElem?_eq_none (by simpa using hl)] at e; cases e
    · rw [List.getElem?_set_ne hj] at e ⊢
      exact ih.2 j d e
open Classical in
noncomputable def loopC (ds0 : List D) (gd : Option Nat) (g : GT) (mt : En → Sto → R Bool) (me : En → Sto → R D) (env0 : En) (r0 : Nat) : List D → Sto → R D
  | [], st => if gOk ds0 gd st then .ok (.ref r0) st else .no
  | d :: r, st => if gOk ds0 gd st then (match g d env0 st with
      | none => .no
      | some (env1, st1) => match mt env1 st1 with
        | .ok true st2 => (match me env1 st2 with
          | .ok y st3 => (match rdW st3 r0 with
            | some acc => if acc.length < sizeLine then loopC ds0 gd g mt me env0 r0 r (st3.set r0 (.lst (acc ++ [y]))) else .no
            | none => .no)
          | _ => .no)
        | .ok false st2 => loopC ds0 gd g mt me env0 r0 r st2
        | _ => .no) else .no
noncomputable def mLc (mi : MI) (g : GT) (mt : En → Sto → R Bool) (me : En → Sto → R D) (vs : List Nat) (env : En) (st : Sto) : R D := (mi env st).bind fun p st1 => loopC p.1 p.2 g mt me (wipeE env vs) st1.length p.1 (st1 ++ [.lst []])
/-- a clause's tests -/
abbrev DTs (X : Cx) (W : WX) (ifs : List Expr) (m : En → Sto → R Bool) : Prop := PTs X ifs (tT X.K W m)
def mYes (_ : En) (st : Sto) : R Bool := .ok true st
theorem dts_nil : DTs X W [] mYes := ⟨fun pins s σ H Q I h => pts_nil.run pins s σ H Q I (by
  obtain ⟨α, env, st, hE, hS, h⟩ := h
  exact h.here hS)⟩
theorem dts_one {c : Expr} {mc : En → Sto → R Bool} (h : DT X W c mc) : DTs X W [c] mc := pts_one h
abbrev W0 : WX := fun _ _ _ _ => False
theorem lc_of {K : PySem.W.Frag} {mi : MI} {g : GT} {ts vs : List Nat} {mt : En → Sto → R Bool} {me : En → Sto → R D} {σ : L2.St} {H : Hp} {Q : VK} (hv : ∀ i ∈ ts, i ∈ vs) (h : tE K W (mLc mi g mt me vs) σ H Q) :
    tLc (tI K W mi) (tG K ts g) (tT K W0 mt) (tE K W0 me) vs σ H Q := by
  obtain ⟨α, env, st, hE, hS, h⟩ := h
  refine ⟨α, env, st, hE, hS, h.bind.mono fun p st1 α1 H1 p1 k1 s1 h1 J hJ D hD => ?_⟩
  obtain ⟨ds, gd⟩ := p
  obtain ⟨G, Y, wk, hG, hY⟩ := hJ.ex
  have kD : Keep H1 (upd H1 D (.lst [])) := Keep.fresh hD
  have sD : SR K (α1 ++ [D]) (st1 ++ [.lst []]) (upd H1 D (.lst [])) := s1.push hD .nil
  have pD : α1 <+: α1 ++ [D] := List.prefix_append _ _
  have aD : (α1 ++ [D])[st1.length]? = some D := by rw [← s1.len, List.getElem?_concat_length]
  have h1' : Go K W α1 H1 σ (loopC ds gd g mt me (wipeE env vs) st1.length ds (st1 ++ [.lst []])) fun d _ α' H' => ∀ v, RD K α' H' d v → Q v H' := h1
  have hE1 := (hE.mono p1 k1).wiped vs
  refine lc_it wk (fun i H => ∃ α' st', α1 ++ [D] <+: α' ∧ Keep H1 H ∧ SR K α' st' H ∧ Go K W α' H σ (loopC ds gd g mt me (wipeE env vs) st1.length (ds.drop i) st') fun d _ α' H' => ∀ v, RD K α' H' d v → Q v H')
    ⟨_, _, List.prefix_refl _, kD, sD, h1'.on pD kD⟩ (fun i H hi hP => ?_) (fun i x H2 H3 hi hP y => ?_) (fun H hP => ?_)
  · obtain ⟨α', st', p2, k2, s2, q⟩ := hP
    refine hG α' st' H (pD.trans p2) k2 s2 ?_
    cases hd : ds.drop i with
    | nil =>
      rw [hd] at q
      unfold loopC at q
      split at q
      · assumption
      · exact q.elim
    | cons d r =>
      rw [hd] at q
      unfold loopC at q
      split at q
      · assumption
      · exact q.elim
  · obtain ⟨α', st', p2, k2, s2, q⟩ := hP
    have hd : ds.drop i = ds[i] :: ds.drop (i + 1) := List.drop_eq_getElem_cons hi
    rw [hd] at q
    unfold loopC at q
    split at q
    · rename_i gg
      obtain ⟨k3, s3, d, g1, g2⟩ := hY i H2 x H3 α' st' (pD.trans p2) k2 s2 gg hi y
      have ed : d = ds[i] := by
        rw [List.getElem?_eq_getElem hi] at g1
        exact (Option.some.inj g1).symm
      subst ed
      have kk : Keep H1 H3 := k2.trans k3
      refine ⟨α', wipeE env vs, st', ds[i], hE1.mono (pD.trans p2) kk, s3, g2, ?_⟩
      revert q
      cases hgd : g ds[i] (wipeE env vs) st' with
      | none => exact fun q => q.elim
      | some pq =>
        obtain ⟨env1, st2⟩ := pq
        intro q α2 σ2 H4 p4 k4 s4 e4 w4
        refine ⟨?_, ?_⟩
        · have := w4 vs hv
          rw [this]
          have ww : ∀ (l : List Nat) (m : List Nat), (∀ i ∈ l, i ∈ m) → wipe (wipe σ m) l = wipe σ m := by
            intro l
            induction l with
            | nil => intro m _; rfl
            | cons y l ih =>
              intro m hm
              show (wipe (wipe σ m) l).set y none = wipe σ m
              rw [ih m fun i hi => hm i (List.mem_cons_of_mem _ hi)]
              have hy : y ∈ m := hm y List.mem_cons_self
              have : ∀ (m : List Nat), y ∈ m → (wipe σ m)[y]? = some none ∨ (wipe σ m).length ≤ y := by
                intro m
                induction m with
                | nil => intro h; cases h
                | cons z m ih2 =>
                  intro h
                  show ((wipe σ m).set z none)[y]? = _ ∨ ((wipe σ m).set z none).length ≤ y
                  by_cases hz : z = y
                  · subst hz
                    by_cases hl : z < (wipe σ m).length
                    · exact .inl (List.getElem?_set_self hl)
                    · exact .inr (by simpa using hl)
                  · rw [List.getElem?_set_ne hz, List.length_set]
                    rcases List.mem_cons.mp h with h | h
                    · exact absurd h.symm hz
                    · exact ih2 h
              rcases this m hy with h | h
              · exact List.ext_getElem? fun j => by
                  by_cases hj : y = j
                  · subst hj
                    rw [h, List.getElem?_set_self (List.getElem?_eq_some_iff.mp h).1]
                  · rw [List.getElem?_set_ne hj]
              · exact List.set_eq_of_length_le h
          exact ww vs vs fun _ h => h
        · refine ⟨α2, env1, st2, e4, s4, ?_⟩
          dsimp only at q
          revert q
          cases hmt : mt env1 st2 with
          | no => exact fun q => q
          | ex x3 st3 => exact fun q => q.elim
          | ok b st3 =>
            cases b with
            | false =>
              intro q α5 H5 p5 k5 s5
              dsimp only
              rw [if_neg Bool.false_ne_true]
              exact ⟨α5, st3, (p2.trans p4).trans p5, (kk.trans k4).trans k5, s5, Go.on q (p4.trans p5) ((k3.trans k4).trans k5)⟩
            | true =>
              intro q α5 H5 p5 k5 s5
              dsimp only
              rw [if_pos rfl]
              refine ⟨α5, env1, st3, e4.mono p5 k5, s5, ?_⟩
              dsimp only at q
              revert q
              cases hme : me env1 st3 with
              | no => exact fun q => q
              | ex x3 st3 => exact fun q => q.elim
              | ok yv st4 =>
                intro q α6 H6 p6 k6 s6 v rv
                dsimp only at q
                revert q
                cases hw : rdW st4 st1.length with
                | none => exact fun q => q.elim
                | some acc =>
                  intro q
                  dsimp only at q
                  split at q
                  · rename_i hz
                    have a6 : α6[st1.length]? = some D := get_pre (((p2.trans p4).trans p5).trans p6) aD
                    obtain ⟨c1, us, hu, ru⟩ := s6.w hw a6
                    have kl : Keep H6 (upd H6 D (.lst (us ++ [v]))) := Keep.lst hu
                    have rr : RDs K α6 H6 (acc ++ [yv]) (us ++ [v]) := ru.app (.cons rv .nil)
                    refine ⟨us, hu, by rw [← ru.len]; exact hz, α6, _, ((p2.trans p4).trans p5).trans p6, (((kk.trans k4).trans k5).trans k6).trans kl, s6.put c1 a6 rr, Go.on q ((p4.trans p5).trans p6) ((((k3.trans k4).trans k5).trans k6).trans kl)⟩
                  · exact q.elim
    · exact q.elim
  · obtain ⟨α', st', p2, k2, s2, q⟩ := hP
    rw [List.drop_length] at q
    unfold loopC at q
    split at q
    · exact Go.here q s2 _ (.ref (get_pre p2 aD))
    · exact q.elim
theorem de_lc {elt iter : Expr} {ifs : List Expr} {scope : Scope} {own : List (Str × Nat)} {mi : MI} {g : GT} {ts : List Nat} {mt : En → Sto → R Bool} {me : En → Sto → R D} (hc : X.calm = true) (hN : X.N.Nodup) (hi : DI X W tg iter mi) (ok : BlkOk X.N X.env.scope scope own)
    (hv : ∀ i ∈ ts, i ∈ own.map (·.2))
    (hg : ∀ (s : Shared) (H : Hp) (C : Addr) (cl : List (Str × Addr)) (fp : List Addr), DG (X.blk s H scope (compEnvC scope cl C X.env) fp) tg ts g) (ht : ∀ (s : Shared) (H : Hp) (C : Addr) (cl : List (Str × Addr)) (fp : List Addr), DTs (X.blk s H scope (compEnvC scope cl C X.env) fp) W0 ifs mt)
    (he : ∀ (s : Shared) (H : Hp) (C : Addr) (cl : List (Str × Addr)) (fp : List Addr), DE (X.blk s H scope (compEnvC scope cl C X.env) fp) W0 elt me) (hs : ∀ x, foldedSetIterable iter X.env x = pure x := by intro _; rfl) :
    DE X W (.ListComp elt [⟨tg, iter, ifs, 0⟩] scope pos) (mLc mi g mt me (own.map (·.2))) := PE.weak (pe_lc hc hN hi ok hg ht he hs) fun _ _ _ => lc_of hv
theorem ds_setLc {i : Nat} {y : Str} {py : Pos} {elt iter : Expr} {ifs : List Expr} {scope : Scope} {own : List (Str × Nat)} {spos : Pos} {mi : MI} {g : GT} {ts : List Nat} {mt : En → Sto → R Bool} {me : En → Sto → R D} (hc : X.calm = true) (hN : X.N.Nodup) (hy : X.N[i]? = some y) (hyl : X.env.scope.names.lookup y = some .local)
    (hsw : swapsWith (.ListComp elt [⟨tg, iter, ifs, 0⟩] scope pos) (some (.Name y py)) spos.line X.env = pure true) (hi : DI X W tg iter mi) (ok : BlkOk X.N X.env.scope scope own) (hv : ∀ i ∈ ts, i ∈ own.map (·.2))
    (hg : ∀ (s : Shared) (H : Hp) (C : Addr) (cl : List (Str × Addr)) (fp : List Addr), DG (X.blk s H scope (compEnvC scope cl C X.env) fp) tg ts g) (ht : ∀ (s : Shared) (H : Hp) (C : Addr) (cl : List (Str × Addr)) (fp : List Addr), DTs (X.blk s H scope (compEnvC scope cl C X.env) fp) W0 ifs mt)
    (he : ∀ (s : Shared) (H : Hp) (C : Addr) (cl : List (Str × Addr)) (fp : List Addr), DE (X.blk s H scope (compEnvC scope cl C X.env) fp) W0 elt me) (hs : ∀ x, foldedSetIterable iter X.env x = pure x := by intro _; rfl) :
    DS X W (.Assign [.Name y py] (.ListComp elt [⟨tg, iter, ifs, 0⟩] scope pos) spos) (sAsg (mLc mi g mt me (own.map (·.2))) (gN i)) := by
  refine PS.weak (ps_setLc (wi := tI X.K W mi) (g := tG X.K ts g) (tt := tT X.K W0 mt) (te := tE X.K W0 me) hc hN hy hyl hsw hi ok hg ht he hs) fun Dn σ H h => ?_
  obtain ⟨α, env, st, hE, hS, h⟩ := h
  refine lc_of hv ⟨α, env, st, hE, hS, (h.toGo hE).mono fun d st1 α1 H1 p1 k1 s1 h1 v rv => ?_⟩
  exact h1 α1 _ H1 (List.prefix_refl _) (Keep.refl _) s1 ((hE.mono p1 k1).set rv)
end
end DL
set_option Elab.async false
set_option linter.all false
set_option maxRecDepth 100000
namespace DL
open PySem PySem.Spec PyProof.Rows L2

/-! ### defs -/
/-- room for k calls, and nothing is being shown -/
structure RG (k : Nat) (A : Around) : Prop where
  r : Room k A
  g : A.guards = some []
theorem RG.mono {j k : Nat} {A : Around} (h : RG k A) (le : j ≤ k) : RG j A := ⟨h.r.mono le, h.g⟩
/-- what a def does, by data -/
def GoC (K : PySem.W.Frag) (α : List Addr) (H : Hp) (Q : VK) (E : XK) : R D → Prop
  | .ok d st => ∀ α' H' v, α <+: α' → Keep H H' → SR K α' st H' → RD K α' H' d v → Q v H'
  | .ex x st => ∀ α' H' c dx, α <+: α' → Keep H H' → SR K α' st H' → RX K α' H' x c dx → E c dx H'
  | .no => False
def spD (K : PySem.W.Frag) (n : Nat) (f : List D → Sto → R D) : Sp := fun vs H Q E => vs.length = n ∧ ∃ α st ds, SR K α st H ∧ RDs K α H ds vs ∧ GoC K α H Q E (f ds st)
/-- a def keeps its promise, where nothing is being shown -/
structure FnG (P : Program) (w : World) (K : PySem.W.Frag) (mg : Str → Option Value) (base : Heap) (k : Nat) (f : Addr) (fd : FuncData) (ps : List Str) (sp : Sp) : Prop where
  len : ∀ vs H Q E, sp vs H Q E → vs.length = ps.length
  run : ∀ (A : Around) (outer : List Env) (s : Shared) (H : Hp) (args : Args) (us : List Value) (vs : List V) (Q : VK) (E : XK), RG k A → Env0 P w K mg base A outer s H → BindsTo s fd args (ps.zip us) → Vals vs us → sp vs H Q E →
    codeAny (model P w) A (.call (.ref f) args) (CR (L2.CX P w) outer P w H s Q E) s
theorem FnG.mono {P : Program} {w : World} {K : PySem.W.Frag} {mg : Str → Option Value} {base : Heap} {j k : Nat} {f : Addr} {fd : FuncData} {ps : List Str} {sp : Sp} (F : FnG P w K mg base j f fd ps sp) (h : j ≤ k) : FnG P w K mg base k f fd ps sp :=
  ⟨F.len, fun A outer s H args us vs Q E hr => F.run A outer s H args us vs Q E (hr.mono h)⟩

section
variable {X : Cx} {W : WX} {pos : Pos} {k : Nat} {f : Addr} {fd : FuncData} {ps : List Str}
theorem run_fnG {sp : Sp} {E : XK} {pins : List (Addr × Obj)} {σ : L2.St} {H : Hp} {s : Shared} {Q : VK} {us : List Value} {vs : List V} (F : FnG X.prog X.w X.K X.mg X.base k f fd ps sp) (hr : RG k X.A) (hb : Binds X.K fd ps []) (hx : PassesAt (L2.CX X.prog X.w) X σ E)
    (I : Inv X pins σ H s) (r : Vals vs us) (h : sp vs H Q E) : wpAny (model X.prog X.w) X.A (call (.ref f) us) (EP X pins σ Q) X.xe s := by
  have len1 : us.length = ps.length := (r.length.symm).trans (F.len _ _ _ _ h)
  have bnd := hb s us I.kIn (by rw [List.append_nil]; exact len1)
  rw [List.append_nil] at bnd
  have go := F.run X.A X.stack s H ⟨us, []⟩ us vs Q E hr I.env0 bnd r h
  refine wpAny_call (codeAny_mono go fun res s' q => ?_)
  match res, q with
  | .error e, q => exact hx pins H s e s' I q
  | .ok (.ret u), q => exact I.after q
  | .ok .next, q => exact q.elim
  | .ok .brk, q => exact q.elim
  | .ok .cont, q => exact q.elim
def mCall (g : List D → Sto → R D) (mr : En → Sto → R (List D)) (env : En) (st : Sto) : R D := (mr env st).bind fun ds st1 => g ds st1
theorem GoC.of_go {K : PySem.W.Frag} {α : List Addr} {H : Hp} {σ : L2.St} {r : R D} {Q : VK} (h : Go K W α H σ r fun d _ α' H' => ∀ v, RD K α' H' d v → Q v H') : GoC K α H Q (WE W σ) r := by
  cases r with
  | ok d st => exact fun α' H' v p q s rv => h α' H' p q s v rv
  | ex x st => exact h
  | no => exact h
/-- how many arguments come -/
def AL (n : Nat) (mr : En → Sto → R (List D)) : Prop := ∀ env st ds s, mr env st = .ok ds s → ds.length = n
theorem al_nil : AL 0 aNil := fun env st ds s h => by cases h; rfl
theorem al_cons {n : Nat} {ma : En → Sto → R D} {mr : En → Sto → R (List D)} (h : AL n mr) : AL (n + 1) (aCons ma mr) := fun env st ds s e => by
  unfold aCons at e
  revert e
  cases ma env st with
  | ok x st1 =>
    show (mr env st1).bind _ = _ → _
    cases q : mr env st1 with
    | ok xs st2 =>
      intro e
      cases e
      rw [List.length_cons, h _ _ _ _ q]
    | ex x st1 => exact fun e => nomatch e
    | no => exact fun e => nomatch e
  | ex x st1 => exact fun e => nomatch e
  | no => exact fun e => nomatch e
/-- f(e, ..) -/
theorem de_call {x : Str} {p : Pos} {e : Expr} {es : List Expr} {n : Nat} {g : List D → Sto → R D} {mr : En → Sto → R (List D)} (F : FnG X.prog X.w X.K X.mg X.base k f fd ps (spD X.K n g)) (hr : RG k X.A) (hg : Gl X x) (hm : X.mg x = some (.ref f)) (hk : PySem.W.keepIn X.K (.ref f) = true) (hb : Binds X.K fd ps []) (tk : Takes X W)
    (ha : DA X W (e :: es) mr) (hn : (e :: es).length = n) (hl : AL n mr) (hdb : (x == ("__debug__" : Str)) = false := by decide) (he : starEach (e :: es) X.env = (false, eval e X.env) :: starEach es X.env := by rfl) (hpl : (backTo pos (starEach es X.env)).any (·.1) = false := by rfl) :
    DE X W (.Call (.Name x p) (e :: es) [] pos) (mCall g mr) := by
  refine ⟨fun pins s σ H Q I h => ?_⟩
  obtain ⟨α, env, st, hE, hS, h⟩ := h
  refine wpAny_Call_Name_kw (ld_glob I hg hm ?_ hdb)
  refine PySem.W.callWith_K (h₀ := X.base) I.ok.mod.kin hk (thn (ha.run pos pins s σ H (fun vs H1 => ∃ α1 ds st1, SR X.K α1 st1 H1 ∧ RDs X.K α1 H1 ds vs ∧ ds.length = n ∧ GoC X.K α1 H1 Q (WE W σ) (g ds st1)) I ⟨α, env, st, hE, hS, ?_⟩) fun us s1 h1 => ?_) he hpl
  · have hlen := hl env st
    have key := h.bind
    revert hlen key
    cases mr env st with
    | ok ds st1 => exact fun hlen key α1 H1 p1 k1 s1 vs rvs => ⟨α1, ds, st1, s1, rvs, hlen _ _ rfl, .of_go (key α1 H1 p1 k1 s1)⟩
    | ex x st1 => exact fun _ key => key
    | no => exact fun _ key => key
  · obtain ⟨vs, H1, I1, rv, α1, ds, st1, s1, rd, hlen, q⟩ := h1
    exact ⟨I1.kIn, run_fnG F hr hb (passAt tk σ) I1 rv ⟨by rw [← rd.len]; exact hlen, α1, st1, ds, s1, rd, q⟩⟩
theorem de_call0 {x : Str} {p : Pos} {g : List D → Sto → R D} (F : FnG X.prog X.w X.K X.mg X.base k f fd ps (spD X.K 0 g)) (hr : RG k X.A) (hg : Gl X x) (hm : X.mg x = some (.ref f)) (hk : PySem.W.keepIn X.K (.ref f) = true) (hb : Binds X.K fd ps []) (tk : Takes X W)
    (hdb : (x == ("__debug__" : Str)) = false := by decide) : DE X W (.Call (.Name x p) [] [] pos) (mCall g aNil) := by
  refine ⟨fun pins s σ H Q I h => ?_⟩
  obtain ⟨α, env, st, hE, hS, h⟩ := h
  refine wpAny_Call_Name_kw (ld_glob I hg hm ?_ hdb)
  refine PySem.W.callWith_K0 I.kIn hk (run_fnG (us := []) F hr hb (passAt tk σ) I .nil ⟨rfl, α, st, [], hS, .nil, ?_⟩)
  exact .of_go h
end

/-! ### a def by its body -/
def mDef (n : Nat) (body : En → Sto → RS) (ds : List D) (st : Sto) : R D := match body (ds.map some ++ List.replicate (n - ds.length) none) st with
  | .nx _ st' => .ok .non st'
  | .rt d st' => .ok d st'
  | .ex x _ st' => .ex x st'
  | _ => .no
theorem ER.begun {K : PySem.W.Frag} {α : List Addr} {H : Hp} {ds : List D} {vs : List V} {N : List Str} (r : RDs K α H ds vs) : ER K α (ds.map some ++ List.replicate (N.length - ds.length) none) (start N vs) H := by
  have hl := r.len
  refine ⟨by unfold L2.start; simp [hl], fun i d e => ?_⟩
  have hi : i < ds.length := by
    by_cases hi : i < ds.length
    · exact hi
    · rw [List.getElem?_append_right (by simpa using hi), List.getElem?_replicate] at e
      split at e <;> cases e
  rw [List.getElem?_append_left (by simpa using hi), List.getElem?_map] at e
  have e' : ds[i]? = some d := by
    cases q : ds[i]? with
    | none => rw [q] at e; cases e
    | some d' => rw [q] at e; cases e; rfl
  obtain ⟨v, g1, g2⟩ := r.getD e'
  refine ⟨v, ?_, g2⟩
  unfold L2.start
  rw [List.getElem?_append_left (by simpa [← hl] using hi), List.getElem?_map, g1]
  rfl
section
variable {P : Program} {w : World} {K : PySem.W.Frag} {mg : Str → Option Value} {base : Heap}
/-- a context in which the body of a def runs -/
abbrev bodyX (P : Program) (w : World) (K : PySem.W.Frag) (mg : Str → Option Value) (base : Heap) (N : List Str) (qual : Str) (st : Stmt) (f : Addr) (cdv : Value) (A : Around) (outer : List Env) (s : Shared) (H : Hp) (E : XK) : Cx :=
  cxOf (L2.CX P w) P w K mg base N qual (defScope st) f cdv A outer s H E
/-- THE RULE for a def -/
theorem fn_d {x qual : Str} {st : Stmt} {f : Addr} {fd : FuncData} {N ps : List Str} {k n : Nat} {body : En → Sto → RS} (F : Fun K x qual st f fd) (S : FnScope N ps (defScope st)) (hn : n = ps.length)
    (hbody : ∀ (cdv : Value) (A : Around) (outer : List Env) (s : Shared) (H : Hp) (E : XK), RG k (A.deeper (envOfC qual (defScope st) s.heap.objs.size f cdv)) → Takes (bodyX P w K mg base N qual st f cdv A outer s H E) (fun c d _ H => E c d H) → PassesOwn (model P w) (A.deeper (envOfC qual (defScope st) s.heap.objs.size f cdv)) (envOfC qual (defScope st) s.heap.objs.size f cdv) (bodyX P w K mg base N qual st f cdv A outer s H E).xe →
      DSs (bodyX P w K mg base N qual st f cdv A outer s H E) (fun c d _ H => E c d H) (defBody st) body) : FnG P w K mg base (k + 1) f fd ps (spD K n (mDef N.length body)) := by
  subst hn
  obtain ⟨oc, od, kV, doc, pm, an, cdv, ct, osl, rfl, lk, hcd⟩ := F.ex
  refine ⟨fun vs H Q E h => h.1, fun A outer s H args us vs Q E hr e0 hb rv hsp => ?_⟩
  obtain ⟨hl, α, st0, ds, hS, rd, hq⟩ := hsp
  have inK : K.In s.heap := e0.mod.kin.keeps fun b o e => (e0.bs b o e).1
  have nol : s.heap.NoLimit := e0.mod.nolimit.keeps fun b o e => (e0.bs b o e).1
  refine codeAny_call_function hr.r.depth (inK _ _ lk) rfl S.co S.gen rfl (PySem.W.codeRec_of inK hcd) (hb _ _ _ _ ?_)
  refine wpAny_newFunctionEnv_cells S.kind (fun y hy => ?_) fun env he s1 hx => ?_
  · obtain ⟨nm, vv⟩ := y
    have mem := (List.of_mem_zip hy).1
    exact (S.par nm mem).elim .inl fun c => .inr ⟨c, PySem.W.cellsFrom_some _ _ _ (.inl c)⟩
  · subst he
    refine ⟨nol.keeps hx.toInCall.keep, codeAny_func ?_⟩
    have rg : RG k (A.deeper (envOfC qual (defScope st) s.heap.objs.size f cdv)) := ⟨hr.r.deeper _, hr.g⟩
    have tk : Takes (bodyX P w K mg base N qual st f cdv A outer s H E) (fun c d _ H => E c d H) := takes_of rfl rfl rfl rfl
    have ht := hbody cdv A outer s H E rg tk (passes_of rfl)
    have inv0 : Inv (bodyX P w K mg base N qual st f cdv A outer s H E) [] (start N vs) H s1 := inv_start S hr.r.hd e0 hl rv hx
    have done : ∀ {σ' : L2.St} {H' : Hp} {v : V} {u : Value} {s' : Shared}, Inv (bodyX P w K mg base N qual st f cdv A outer s H E) [] σ' H' s' → RelV v u → Q v H' → CE outer P w H s Q u s' :=
      fun {σ' H' v u s'} J rv q => ⟨v, H', J.os, J.bare, J.base, J.hok, rv, q⟩
    refine wpAny_mono (ht.run [] s1 (start N vs) H { nx := fun _ H' => Q .non H', rt := Q } inv0 ⟨α, ds.map some ++ List.replicate (N.length - ds.length) none, st0, ER.begun rd, hS, ?_⟩) (fun fl s' hs => ?_) fun e s' hs => hs
    · unfold mDef at hq
      revert hq
      cases body (ds.map some ++ List.replicate (N.length - ds.length) none) st0 with
      | nx env1 st1 => exact fun hq α' σ' H' p q s e => hq α' H' .non p q s .non
      | rt d st1 => exact fun hq => hq
      | bk env1 st1 => exact fun hq => hq.elim
      | ct env1 st1 => exact fun hq => hq.elim
      | ex x1 env1 st1 => exact fun hq α' σ' H' c dx p q s e rx => hq α' H' c dx p q s rx
      | no => exact fun hq => hq
    · match fl, hs with
      | .ret u, ⟨v, σ', H', J, rv, q⟩ => exact done J rv q
      | .next, ⟨σ', H', J, q⟩ => exact done (v := V.non) (u := Value.none) J rfl q
      | .brk, ⟨_, _, _, q⟩ => exact q.elim
      | .cont, ⟨_, _, _, q⟩ => exact q.elim
end
end DL
set_option Elab.async false
set_option linter.all false
set_option maxRecDepth 100000
namespace DL
open PySem PySem.Spec PyProof.Rows L2
section
variable {X : Cx} {W : WX} {pos : Pos}
/-! ### methods of lists -/
abbrev OM := D → List D → Sto → R D
def rDm (K : PySem.W.Frag) (f : OM) : V → List V → Hp → VK → Prop := fun x xs H Q => ∃ α st a ds, SR K α st H ∧ RD K α H a x ∧ RDs K α H ds xs ∧ Rw (f a ds st) fun d st' => Fin K α H Q d st'
def mMeth (f : OM) (mo : En → Sto → R D) (mr : En → Sto → R (List D)) (env : En) (st : Sto) : R D := (mo env st).bind fun o st1 => match o with
  | .ref r => match rdL st1 r with
    | some _ => (mr env st1).bind fun ds st2 => noEx (f (.ref r) ds st2)
    | none => .no
  | _ => .no
variable {o e : Expr} {es : List Expr} {mo : En → Sto → R D} {mr : En → Sto → R (List D)} {name : Str} {apos cpos : Pos} {id : String}
theorem de_meth {f : OM} (pa : PlainAttrs "list") (slot : Slot "list" name id) (hty : typeOf (.builtin id) = pure (.type "method_descriptor")) (hm : MtR X id (rDm X.K f)) (ho : DE X W o mo) (ha : DA X W (e :: es) mr)
    (hbase : attributeBase o name X.env (eval o X.env) = eval o X.env := by rfl)
    (hfew : ((backTo cpos (starEach (e :: es) X.env)).all (fun x => !x.1) && (backToKw cpos (keywordEach [] X.env)).all (fun x => x.1.isSome)
      && decide ((e :: es).length + ([] : List Keyword).length + (if ([] : List Keyword).isEmpty then 0 else 1) < 30)) = true := by rfl)
    (hline : (apos.endLine == cpos.line) = true := by rfl) (hs : starEach (e :: es) X.env = (false, eval e X.env) :: starEach es X.env := by rfl) (hplain : (backTo cpos (starEach es X.env)).any (·.1) = false := by rfl) :
    DE X W (.Call (.Attribute o name apos) (e :: es) [] cpos) (mMeth f mo mr) := by
  refine PE.weak (pe_bm pa slot hty hm ho ha hbase hfew hline hs hplain) fun σ H Q h => ?_
  obtain ⟨α, env, st, hE, hS, h⟩ := h
  refine ⟨α, env, st, hE, hS, h.bind.mono fun x st1 α1 H1 p1 k1 s1 h1 v rv => ?_⟩
  split at h1
  · rename_i r
    obtain ⟨a, rfl, ea⟩ := rv.ref_of
    split at h1
    · rename_i xs e1
      obtain ⟨vs, h0, r1⟩ := s1.l e1 ea
      refine ⟨.inl ⟨rfl, vs, h0⟩, α1, env, st1, hE.mono p1 k1, s1, h1.bind.mono fun ds st2 α2 H2 p2 k2 s2 h2 ws rws => ?_⟩
      exact ⟨α2, st2, .ref r, ds, s2, rv.mono p2 k2, rws, h2.rw.mono fun d st3 q α' H' w p k s rw => q α' H' p k s w rw⟩
    · exact h1.elim
  · exact h1.elim
def fAppend : OM := fun o ds st => match o, ds with
  | .ref r, [d] => match rdW st r with
    | some xs => if xs.length < sizeLine then .ok .non (st.set r (.lst (xs ++ [d]))) else .no
    | none => .no
  | _, _ => .no
theorem md_append : MtR X "list.append" (rDm X.K fAppend) := by
  intro pins s σ H x xs v us Q I rx rv h
  obtain ⟨α, st, a, ds, S, ra, rd, h⟩ := h
  unfold fAppend at h
  split at h
  · obtain ⟨p, rfl, ea⟩ := ra.ref_of
    obtain ⟨w, rfl, rw'⟩ := rd.one
    split at h
    · rename_i ys e1
      obtain ⟨c1, ws, hw, rr⟩ := S.w e1 ea
      split at h
      · rename_i hz
        exact mt_append pins s σ H _ _ v us Q I rx rv ⟨p, ws, w, rfl, rfl, hw, by rw [← rr.len]; exact hz, Fin.put h S c1 ea hw (rr.app (.cons rw' .nil)) .non⟩
      · exact h.elim
    · exact h.elim
  · exact h.elim
def fExtend : OM := fun o ds st => match o, ds with
  | .ref r, [.ref q] => match rdW st r, rdW st q with
    | some xs, some ys => if xs.length + ys.length ≤ sizeLine then .ok .non (st.set r (.lst (xs ++ ys))) else .no
    | _, _ => .no
  | _, _ => .no
theorem md_extend : MtR X "list.extend" (rDm X.K fExtend) := by
  intro pins s σ H x xs v us Q I rx rv h
  obtain ⟨α, st, a, ds, S, ra, rd, h⟩ := h
  unfold fExtend at h
  split at h
  · obtain ⟨p, rfl, ea⟩ := ra.ref_of
    obtain ⟨w, rfl, rw'⟩ := rd.one
    obtain ⟨q, rfl, eb⟩ := rw'.ref_of
    split at h
    · rename_i ys zs e1 e2
      obtain ⟨c1, ws, hw, rr⟩ := S.w e1 ea
      obtain ⟨c2, us2, hu, rr2⟩ := S.w e2 eb
      split at h
      · rename_i hz
        have l1 := rr.len
        have l2 := rr2.len
        exact mt_extend pins s σ H _ _ v us Q I rx rv ⟨p, q, ws, us2, rfl, rfl, hw, hu, by omega, Fin.put h S c1 ea hw (rr.app rr2) .non⟩
      · exact h.elim
    · exact h.elim
  · exact h.elim
def fPop : OM := fun o ds st => match o, ds with
  | .ref r, [.int i] => match rdW st r with
    | some xs => if -(2 ^ 63) ≤ i ∧ i < 2 ^ 63 then (match seqIndex? i xs.length with
      | some k => match xs[k]? with
        | some d => .ok d (st.set r (.lst (xs.eraseIdx k)))
        | none => .no
      | none => .no) else .no
    | none => .no
  | _, _ => .no
theorem md_pop : MtR X "list.pop" (rDm X.K fPop) := by
  intro pins s σ H x xs v us Q I rx rv h
  obtain ⟨α, st, a, ds, S, ra, rd, h⟩ := h
  unfold fPop at h
  split at h
  · obtain ⟨p, rfl, ea⟩ := ra.ref_of
    obtain ⟨w, rfl, rw'⟩ := rd.one
    have e2 := rw'.int_of; subst e2
    split at h
    · rename_i ys e1
      obtain ⟨c1, ws, hw, rr⟩ := S.w e1 ea
      split at h
      · rename_i hz
        split at h
        · rename_i k ek
          split at h
          · rename_i d ed
            obtain ⟨u, hu, ru⟩ := rr.getD ed
            exact mt_popAt pins s σ H _ _ v us Q I rx rv ⟨p, ws, _, k, u, rfl, rfl, hw, hz.1, hz.2, by rw [← rr.len]; exact ek, hu, Fin.put h S c1 ea hw (rr.erase k) ru⟩
          · exact h.elim
        · exact h.elim
      · exact h.elim
    · exact h.elim
  · exact h.elim
theorem de_append (ho : DE X W o mo) (ha : DA X W (e :: es) mr)
    (hbase : attributeBase o "append" X.env (eval o X.env) = eval o X.env := by rfl)
    (hfew : ((backTo cpos (starEach (e :: es) X.env)).all (fun x => !x.1) && (backToKw cpos (keywordEach [] X.env)).all (fun x => x.1.isSome)
      && decide ((e :: es).length + ([] : List Keyword).length + (if ([] : List Keyword).isEmpty then 0 else 1) < 30)) = true := by rfl)
    (hline : (apos.endLine == cpos.line) = true := by rfl) (hs : starEach (e :: es) X.env = (false, eval e X.env) :: starEach es X.env := by rfl) (hplain : (backTo cpos (starEach es X.env)).any (·.1) = false := by rfl) :
    DE X W (.Call (.Attribute o "append" apos) (e :: es) [] cpos) (mMeth fAppend mo mr) := de_meth PySem.F.plainAttrs_list PySem.F.slot_list_append PySem.F.type_list_append md_append ho ha hbase hfew hline hs hplain
theorem de_extend (ho : DE X W o mo) (ha : DA X W (e :: es) mr)
    (hbase : attributeBase o "extend" X.env (eval o X.env) = eval o X.env := by rfl)
    (hfew : ((backTo cpos (starEach (e :: es) X.env)).all (fun x => !x.1) && (backToKw cpos (keywordEach [] X.env)).all (fun x => x.1.isSome)
      && decide ((e :: es).length + ([] : List Keyword).length + (if ([] : List Keyword).isEmpty then 0 else 1) < 30)) = true := by rfl)
    (hline : (apos.endLine == cpos.line) = true := by rfl) (hs : starEach (e :: es) X.env = (false, eval e X.env) :: starEach es X.env := by rfl) (hplain : (backTo cpos (starEach es X.env)).any (·.1) = false := by rfl) :
    DE X W (.Call (.Attribute o "extend" apos) (e :: es) [] cpos) (mMeth fExtend mo mr) := de_meth PySem.F.plainAttrs_list PySem.F.slot_list_extend PySem.F.type_list_extend md_extend ho ha hbase hfew hline hs hplain
theorem de_pop (ho : DE X W o mo) (ha : DA X W (e :: es) mr)
    (hbase : attributeBase o "pop" X.env (eval o X.env) = eval o X.env := by rfl)
    (hfew : ((backTo cpos (starEach (e :: es) X.env)).all (fun x => !x.1) && (backToKw cpos (keywordEach [] X.env)).all (fun x => x.1.isSome)
      && decide ((e :: es).length + ([] : List Keyword).length + (if ([] : List Keyword).isEmpty then 0 else 1) < 30)) = true := by rfl)
    (hline : (apos.endLine == cpos.line) = true := by rfl) (hs : starEach (e :: es) X.env = (false, eval e X.env) :: starEach es X.env := by rfl) (hplain : (backTo cpos (starEach es X.env)).any (·.1) = false := by rfl) :
    DE X W (.Call (.Attribute o "pop" apos) (e :: es) [] cpos) (mMeth fPop mo mr) := de_meth PySem.F.plainAttrs_list PySem.F.slot_list_pop PySem.F.type_list_pop md_pop ho ha hbase hfew hline hs hplain

/-! ### in -/
def oIn : O2 := fun a b st => match toP st a, toP st b with
  | some p, some (.tuple qs) => if SeqAt.shaped p = true ∧ PyData.canLayAll0 qs = true then .ok (.bl (qs.any fun z => PyData.eqv z p)) st else .no
  | some p, some (.list qs) => if SeqAt.shaped p = true ∧ PyData.canLayAll0 qs = true then .ok (.bl (qs.any fun z => PyData.eqv z p)) st else .no
  | _, _ => .no
def oNotIn : O2 := fun a b st => match toP st a, toP st b with
  | some p, some (.tuple qs) => if SeqAt.shaped p = true ∧ PyData.canLayAll0 qs = true then .ok (.bl (!qs.any fun z => PyData.eqv z p)) st else .no
  | some p, some (.list qs) => if SeqAt.shaped p = true ∧ PyData.canLayAll0 qs = true then .ok (.bl (!qs.any fun z => PyData.eqv z p)) st else .no
  | _, _ => .no
theorem in_room {A : Around} {p : PyData} {qs : List PyData} (hs : SeqAt.shaped p = true) (hu : A.units + 66 < cLine) : A.units + 1 + min (PyData.depthAll qs) p.depth < cLine := by
  have h1 := SeqAt.depth_of_shaped hs
  have h2 : min (PyData.depthAll qs) p.depth ≤ p.depth := Nat.min_le_right _ _
  omega
theorem od_in (hu : X.A.units + 66 < cLine) : OD2 X (compareOp .In) oIn := by
  intro pins s σ H x y v u Q I rx ry h
  obtain ⟨α, st, a, b, S, ra, rb, h⟩ := h
  unfold oIn at h
  split at h
  · rename_i p qs e1 e2
    split at h
    · rename_i hs
      obtain ⟨as, r1⟩ := Dp.reads I p x v (dp_toP S e1 ra) rx
      obtain ⟨bs, r2⟩ := Dp.reads I (.tuple qs) y u (dp_toP S e2 rb) ry
      exact SeqAt.in_tuple_reads r2 r1 hs.2 (SeqAt.canLay_of_shaped hs.1) (in_room hs.1 hu) ⟨.bl _, H, I, rfl, Fin.here h S (.bl _)⟩
    · exact h.elim
  · rename_i p qs e1 e2
    split at h
    · rename_i hs
      obtain ⟨as, r1⟩ := Dp.reads I p x v (dp_toP S e1 ra) rx
      obtain ⟨bs, r2⟩ := Dp.reads I (.list qs) y u (dp_toP S e2 rb) ry
      exact SeqAt.in_list_reads r2 r1 hs.2 (SeqAt.canLay_of_shaped hs.1) (in_room hs.1 hu) ⟨.bl _, H, I, rfl, Fin.here h S (.bl _)⟩
    · exact h.elim
  · exact h.elim
theorem od_notin (hu : X.A.units + 66 < cLine) : OD2 X (compareOp .NotIn) oNotIn := by
  intro pins s σ H x y v u Q I rx ry h
  obtain ⟨α, st, a, b, S, ra, rb, h⟩ := h
  unfold oNotIn at h
  split at h
  · rename_i p qs e1 e2
    split at h
    · rename_i hs
      obtain ⟨as, r1⟩ := Dp.reads I p x v (dp_toP S e1 ra) rx
      obtain ⟨bs, r2⟩ := Dp.reads I (.tuple qs) y u (dp_toP S e2 rb) ry
      exact SeqAt.notIn_tuple_reads r2 r1 hs.2 (SeqAt.canLay_of_shaped hs.1) (in_room hs.1 hu) ⟨.bl _, H, I, rfl, Fin.here h S (.bl _)⟩
    · exact h.elim
  · rename_i p qs e1 e2
    split at h
    · rename_i hs
      obtain ⟨as, r1⟩ := Dp.reads I p x v (dp_toP S e1 ra) rx
      obtain ⟨bs, r2⟩ := Dp.reads I (.list qs) y u (dp_toP S e2 rb) ry
      exact SeqAt.notIn_list_reads r2 r1 hs.2 (SeqAt.canLay_of_shaped hs.1) (in_room hs.1 hu) ⟨.bl _, H, I, rfl, Fin.here h S (.bl _)⟩
    · exact h.elim
  · exact h.elim

/-! ### max, min of a list of ints -/
def maxI : List Int → Option Int
  | [] => none
  | x :: r => some (r.foldl max x)
def minI : List Int → Option Int
  | [] => none
  | x :: r => some (r.foldl min x)
theorem foldl_max_spec : ∀ (r : List Int) (x : Int), (r.foldl max x = x ∨ r.foldl max x ∈ r) ∧ x ≤ r.foldl max x ∧ ∀ y ∈ r, y ≤ r.foldl max x
  | [], x => by simp
  | z :: r, x => by
    obtain ⟨h1, h2, h3⟩ := foldl_max_spec r (max x z)
    simp only [List.foldl_cons, List.mem_cons]
    refine ⟨?_, by omega, fun y hy => ?_⟩
    · rcases h1 with h1 | h1
      · rw [h1]; omega
      · exact .inr (.inr h1)
    · rcases hy with rfl | hy
      · omega
      · exact h3 y hy
theorem foldl_min_spec : ∀ (r : List Int) (x : Int), (r.foldl min x = x ∨ r.foldl min x ∈ r) ∧ r.foldl min x ≤ x ∧ ∀ y ∈ r, r.foldl min x ≤ y
  | [], x => by simp
  | z :: r, x => by
    obtain ⟨h1, h2, h3⟩ := foldl_min_spec r (min x z)
    simp only [List.foldl_cons, List.mem_cons]
    refine ⟨?_, by omega, fun y hy => ?_⟩
    · rcases h1 with h1 | h1
      · rw [h1]; omega
      · exact .inr (.inr h1)
    · rcases hy with rfl | hy
      · omega
      · exact h3 y hy
theorem maxI_spec {ns : List Int} {m : Int} (h : maxI ns = some m) : m ∈ ns ∧ ∀ y ∈ ns, y ≤ m := by
  cases ns with
  | nil => cases h
  | cons x r =>
    cases h
    obtain ⟨h1, h2, h3⟩ := foldl_max_spec r x
    exact ⟨by simp only [List.mem_cons]; exact h1, by simp only [List.mem_cons]; rintro y (rfl | hy); exact h2; exact h3 y hy⟩
theorem minI_spec {ns : List Int} {m : Int} (h : minI ns = some m) : m ∈ ns ∧ ∀ y ∈ ns, m ≤ y := by
  cases ns with
  | nil => cases h
  | cons x r =>
    cases h
    obtain ⟨h1, h2, h3⟩ := foldl_min_spec r x
    exact ⟨by simp only [List.mem_cons]; exact h1, by simp only [List.mem_cons]; rintro y (rfl | hy); exact h2; exact h3 y hy⟩
def bMax1 : List D → Sto → R D := fun ds st => match ds with
  | [.ref r] => match ((rdL st r).bind intsOf).bind maxI with
    | some m => .ok (.int m) st
    | none => .no
  | _ => .no
def bMin1 : List D → Sto → R D := fun ds st => match ds with
  | [.ref r] => match ((rdL st r).bind intsOf).bind minI with
    | some m => .ok (.int m) st
    | none => .no
  | _ => .no
theorem cd_max1 (hc : X.calm = true) : CDs X (.builtin "max") bMax1 := by
  intro pins s σ H vs us Q I rv h
  obtain ⟨α, st, ds, S, rd, h⟩ := h
  unfold bMax1 at h
  split at h
  · split at h
    · rename_i m e
      obtain ⟨ns, e0, e3⟩ := Option.bind_eq_some_iff.mp e
      obtain ⟨xs, e1, e2⟩ := Option.bind_eq_some_iff.mp e0
      obtain ⟨v, rfl, r⟩ := rd.one
      obtain ⟨p, rfl, a1⟩ := r.ref_of
      obtain ⟨ws, h0, r1⟩ := S.l e1 a1
      rw [intsOf_map e2] at r1
      rw [r1.toInts] at h0
      obtain ⟨g1, g2⟩ := maxI_spec e3
      refine cr_max hc pins s σ H _ us Q I rv ⟨p, ns, rfl, h0, List.length_pos_of_mem g1, fun m' k1 k2 => ?_⟩
      have em : m' = m := by have := g2 m' k1; have := k2 m g1; omega
      subst em
      exact Fin.here h S (.int _)
    · exact h.elim
  · exact h.elim
theorem cd_min1 (hc : X.calm = true) : CDs X (.builtin "min") bMin1 := by
  intro pins s σ H vs us Q I rv h
  obtain ⟨α, st, ds, S, rd, h⟩ := h
  unfold bMin1 at h
  split at h
  · split at h
    · rename_i m e
      obtain ⟨ns, e0, e3⟩ := Option.bind_eq_some_iff.mp e
      obtain ⟨xs, e1, e2⟩ := Option.bind_eq_some_iff.mp e0
      obtain ⟨v, rfl, r⟩ := rd.one
      obtain ⟨p, rfl, a1⟩ := r.ref_of
      obtain ⟨ws, h0, r1⟩ := S.l e1 a1
      rw [intsOf_map e2] at r1
      rw [r1.toInts] at h0
      obtain ⟨g1, g2⟩ := minI_spec e3
      refine cr_min hc pins s σ H _ us Q I rv ⟨p, ns, rfl, h0, List.length_pos_of_mem g1, fun m' k1 k2 => ?_⟩
      have em : m' = m := by have := g2 m' k1; have := k2 m g1; omega
      subst em
      exact Fin.here h S (.int _)
    · exact h.elim
  · exact h.elim

/-! ### sorted, of ints and of pairs of ints -/
def insI (x : Int) : List Int → List Int
  | [] => [x]
  | y :: r => if x ≤ y then x :: y :: r else y :: insI x r
def sortI : List Int → List Int
  | [] => []
  | x :: r => insI x (sortI r)
theorem insI_perm (x : Int) : ∀ l : List Int, (insI x l).Perm (x :: l)
  | [] => List.Perm.refl _
  | y :: r => by
    unfold insI
    split
    · exact List.Perm.refl _
    · exact ((insI_perm x r).cons y).trans (List.Perm.swap x y r)
theorem sortI_perm : ∀ l : List Int, (sortI l).Perm l
  | [] => List.Perm.refl _
  | x :: r => (insI_perm x _).trans ((sortI_perm r).cons x)
theorem insI_sorted (x : Int) : ∀ l : List Int, l.Pairwise (· ≤ ·) → (insI x l).Pairwise (· ≤ ·)
  | [], _ => by simp [insI]
  | y :: r, h => by
    unfold insI
    have h1 := List.pairwise_cons.mp h
    split
    · rename_i hxy
      refine List.pairwise_cons.mpr ⟨fun z hz => ?_, h⟩
      rcases List.mem_cons.mp hz with rfl | hz
      · exact hxy
      · have := h1.1 z hz; omega
    · rename_i hxy
      refine List.pairwise_cons.mpr ⟨fun z hz => ?_, insI_sorted x r h1.2⟩
      have hz' := (insI_perm x r).mem_iff.mp hz
      rcases List.mem_cons.mp hz' with rfl | hz'
      · omega
      · exact h1.1 z hz'
theorem sortI_sorted : ∀ l : List Int, (sortI l).Pairwise (· ≤ ·)
  | [] => .nil
  | x :: r => insI_sorted x _ (sortI_sorted r)
theorem sorted_uniq : ∀ {l m : List Int}, l.Pairwise (· ≤ ·) → m.Pairwise (· ≤ ·) → l.Perm m → l = m
  | [], m, _, _, h => by simp [List.Perm.eq_nil h.symm]
  | x :: l, [], _, _, h => by simp at h
  | x :: l, y :: m, hl, hm, h => by
    have h1 := List.pairwise_cons.mp hl
    have h2 := List.pairwise_cons.mp hm
    have e : x = y := by
      have a : x ∈ y :: m := h.mem_iff.mp List.mem_cons_self
      have b : y ∈ x :: l := h.mem_iff.mpr List.mem_cons_self
      rcases List.mem_cons.mp a with a | a
      · exact a
      · rcases List.mem_cons.mp b with b | b
        · exact b.symm
        · have := h1.1 y b; have := h2.1 x a; omega
    subst e
    rw [sorted_uniq h1.2 h2.2 h.cons_inv]
def bSortedI : List D → Sto → R D := fun ds st => match ds with
  | [.ref r] => match (rdL st r).bind intsOf with
    | some ns => .ok (.ref st.length) (st ++ [.lst ((sortI ns).map D.int)])
    | none => .no
  | _ => .no
theorem cd_sortedI : CDs X (.builtin "sorted") bSortedI := by
  intro pins s σ H vs us Q I rv h
  obtain ⟨α, st, ds, S, rd, h⟩ := h
  unfold bSortedI at h
  split at h
  · split at h
    · rename_i ns e
      obtain ⟨xs, e1, e2⟩ := Option.bind_eq_some_iff.mp e
      obtain ⟨v, rfl, r⟩ := rd.one
      obtain ⟨p, rfl, a1⟩ := r.ref_of
      obtain ⟨ws, h0, r1⟩ := S.l e1 a1
      rw [intsOf_map e2] at r1
      rw [r1.toInts] at h0
      refine cr_sortedI pins s σ H _ us Q I rv ⟨p, ns, rfl, h0, fun ns' q k1 k2 hq => ?_⟩
      have en : ns' = sortI ns := sorted_uniq k2 (sortI_sorted ns) (k1.trans (sortI_perm ns).symm)
      subst en
      exact Fin.new h S (RDs.ints _) hq
    · exact h.elim
  · exact h.elim

/-! ### repr -/
def bRepr : List D → Sto → R D := fun ds st => match ds with
  | [.int i] => if i.natAbs.log2 < 1920 then .ok (.str (toString i)) st else .no
  | [.tup xs] => match toP st (.tup xs) with
    | some p => if SeqAt.shaped p = true ∧ p.showable = true ∧ p.shown.length ≤ sizeLine then .ok (.str p.shown) st else .no
    | none => .no
  | [.ref r] => match toP st (.ref r) with
    | some p => if SeqAt.shaped p = true ∧ p.showable = true ∧ p.shown.length ≤ sizeLine then .ok (.str p.shown) st else .no
    | none => .no
  | _ => .no
mutual
theorem noDict_of : ∀ (d : PyData), d.canLay0 = true → d.hasDict = false
  | .none, _ => by simp only [PyData.hasDict]
  | .bool _, _ => by simp only [PyData.hasDict]
  | .int _, _ => by simp only [PyData.hasDict]
  | .str _, _ => by simp only [PyData.hasDict]
  | .list xs, h => by simp only [PyData.hasDict]; exact noDicts_of xs (by simpa only [PyData.canLay0] using h)
  | .tuple xs, h => by simp only [PyData.hasDict]; exact noDicts_of xs (by simpa only [PyData.canLay0] using h)
  | .dict _, h => by simp [PyData.canLay0] at h
theorem noDicts_of : ∀ (ds : List PyData), PyData.canLayAll0 ds = true → PyData.hasDictAll ds = false
  | [], _ => by simp only [PyData.hasDictAll]
  | d :: ds, h => by
    simp only [PyData.canLayAll0, Bool.and_eq_true] at h
    simp only [PyData.hasDictAll, noDict_of d h.1, noDicts_of ds h.2, Bool.or_self]
end
theorem cd_repr (hg : X.A.guards = some []) (hu : X.A.units + 66 < cLine) : CDs X (.builtin "repr") bRepr := by
  intro pins s σ H vs us Q I rv h
  obtain ⟨α, st, ds, S, rd, h⟩ := h
  have main : ∀ (a : Addr) (d : D) (p : PyData) (v : V), v = .ref a → RD X.K α H d v → toP st d = some p → SeqAt.shaped p = true → p.showable = true → p.shown.length ≤ sizeLine → Vals [v] us → Fin X.K α H Q (.str p.shown) st → wpAny (model X.prog X.w) X.A (call (.builtin "repr") us) (EP X pins σ Q) X.xe s := by
    intro a d p v ev r e hs1 hs2 hs3 rv fin
    subst ev
    obtain ⟨u, rfl, ru⟩ := vals1 rv
    obtain ⟨as, r1⟩ := Dp.reads I p _ u (dp_toP S e r) ru
    cases ru
    have hd := SeqAt.depth_of_shaped hs1
    exact repr_of_reads' r1 hs2 (PyData.noDict_hsm (noDict_of p (SeqAt.canLay_of_shaped hs1))) hg (by omega) (fun _ _ e => e) (fun h' u tk hk => ⟨.str p.shown, H, I.kept hk, ⟨_, rfl⟩, Fin.here fin S (.str _)⟩) hs3
  unfold bRepr at h
  split at h
  · split at h
    · rename_i hz
      obtain ⟨v, rfl, r⟩ := rd.one
      have e := r.int_of; subst e
      exact SkE.call_repr_int pins s σ H _ us Q I rv ⟨_, rfl, hz, Fin.here h S (.str _)⟩
    · exact h.elim
  · split at h
    · rename_i p e
      split at h
      · rename_i hs
        obtain ⟨v, rfl, r⟩ := rd.one
        obtain ⟨a, _, ev, _, _⟩ := r.tup_of
        exact main a _ p v ev r e hs.1 hs.2.1 hs.2.2 rv h
      · exact h.elim
    · exact h.elim
  · split at h
    · rename_i p e
      split at h
      · rename_i hs
        obtain ⟨v, rfl, r⟩ := rd.one
        obtain ⟨a, ev, _⟩ := r.ref_of
        exact main a _ p v ev r e hs.1 hs.2.1 hs.2.2 rv h
      · exact h.elim
    · exact h.elim
  · exact h.elim

/-! ### tuple(range(..)), list(range(..)) -/
noncomputable def mTupRg (mr : En → Sto → R D) (env : En) (st : Sto) : R D := (mr env st).bind fun d st1 => match d with
  | .int n => if Mid n ∧ n.toNat ≤ 2 ^ 24 then .ok (.tup (rngD 0 n.toNat)) st1 else .no
  | _ => .no
noncomputable def mLstRg (mr : En → Sto → R D) (env : En) (st : Sto) : R D := (mr env st).bind fun d st1 => match d with
  | .int n => if Mid n ∧ n.toNat ≤ 2 ^ 24 then .ok (.ref st1.length) (st1 ++ [.lst (rngD 0 n.toNat)]) else .no
  | _ => .no
theorem rds_rg {K : PySem.W.Frag} {α : List Addr} {H : Hp} {n : Int} : RDs K α H (rngD 0 n.toNat) (rgV 0 n) := by
  have : ∀ (l : List Nat), RDs K α H (l.map fun i => D.int ((0 : Int) + (i : Nat))) (l.map fun i => V.int ((0 : Int) + (i : Nat))) := by
    intro l
    induction l with
    | nil => exact .nil
    | cons x l ih => exact .cons (.int _) ih
  have e : (n - 0).toNat = n.toNat := by omega
  unfold rngD rgV
  rw [e]
  exact this _
def tTupRgP (te : L2.St → Hp → (Int → Int → Hp → Prop) → Prop) : TE := fun σ H Q => te σ H fun a b H1 => RgOk a b ∧ NewT H1 (rgV a b) Q
theorem pe_tupRgP {e : Expr} {te : L2.St → Hp → (Int → Int → Hp → Prop) → Prop} {p pos : Pos} (hc : X.calm = true) (hg : Gl X "tuple") (hm : X.mg "tuple" = none) (he : PRg X e te) (na : starEach [e] X.env = (false, eval e X.env) :: starEach [] X.env := by rfl) : PE X (.Call (.Name "tuple" p) [e] [] pos) (tTupRgP te) := by
  refine ⟨fun pins s σ H Q I h => ?_⟩
  refine Call_ (ld_blt I hg hm boot_tuple (PyProof.Rows.callWith_type1 (args_cons (thn (he pins s σ H _ I h) fun x s1 ⟨r, a, b, t, u, v, H1, ex, hr, I1, ok, q⟩ => args_nil ?_) na) na))
  subst ex
  obtain ⟨b1, b2, b3, b4, b5⟩ := ok
  refine call_tuple_range (n := (b - a).toNat) (I1.ok.hd hc) hr (small_one b1 b2 b3 b4) (rangeSize_nat a b) b5 fun h' tk acc hk hi => ?_
  have I2 : Inv X pins σ H1 { s1 with heap := h', toks := tk } := I1.kept hk
  have := ep_tup (tk := tk) (its := acc.toList) I2 (by rw [rgV_length, sizeLine_eq]; omega) (vals_rg hi) q
  rw [Array.toArray_toList] at this
  exact this
theorem de_tupRg {a : Expr} {ma : En → Sto → R D} {p p2 pos2 : Pos} (hc : X.calm = true) (hg : Gl X "tuple") (hm : X.mg "tuple" = none) (hg2 : Gl X "range") (hm2 : X.mg "range" = none) (ha : DE X W a ma)
    (na : starEach [a] X.env = (false, eval a X.env) :: starEach [] X.env := by rfl) (na2 : starEach [.Call (.Name "range" p2) [a] [] pos2] X.env = (false, eval (.Call (.Name "range" p2) [a] [] pos2) X.env) :: starEach [] X.env := by rfl) :
    DE X W (.Call (.Name "tuple" p) [.Call (.Name "range" p2) [a] [] pos2] [] pos) (mTupRg ma) := by
  refine PE.weak (pe_tupRgP hc hg hm (prg_1 hg2 hm2 ha na) na2) fun σ H Q h => ?_
  obtain ⟨α, env, st, hE, hS, h⟩ := h
  refine ⟨α, env, st, hE, hS, h.bind.mono fun x st1 α1 H1 p1 k1 s1 h1 v rv => ?_⟩
  split at h1
  · split at h1
    · rename_i n hn
      refine ⟨n, rv.int_of, ⟨by decide, by decide, hn.1.1, hn.1.2, by have := hn.2; omega⟩, fun q o hq ho => ?_⟩
      exact h1.at (List.prefix_refl _) (Keep.fresh hq) (s1.fresh hq) _ (.tup (SqP.new ho) rds_rg)
    · exact h1.elim
  · exact h1.elim
theorem de_lstRg {a : Expr} {ma : En → Sto → R D} {p p2 pos2 : Pos} (hc : X.calm = true) (hg : Gl X "list") (hm : X.mg "list" = none) (hg2 : Gl X "range") (hm2 : X.mg "range" = none) (ha : DE X W a ma)
    (na : starEach [a] X.env = (false, eval a X.env) :: starEach [] X.env := by rfl) (na2 : starEach [.Call (.Name "range" p2) [a] [] pos2] X.env = (false, eval (.Call (.Name "range" p2) [a] [] pos2) X.env) :: starEach [] X.env := by rfl) :
    DE X W (.Call (.Name "list" p) [.Call (.Name "range" p2) [a] [] pos2] [] pos) (mLstRg ma) := by
  refine PE.weak (pe_listRg hc hg hm (prg_1 hg2 hm2 ha na) na2) fun σ H Q h => ?_
  obtain ⟨α, env, st, hE, hS, h⟩ := h
  refine ⟨α, env, st, hE, hS, h.bind.mono fun x st1 α1 H1 p1 k1 s1 h1 v rv => ?_⟩
  split at h1
  · split at h1
    · rename_i n hn
      refine ⟨n, rv.int_of, ⟨by decide, by decide, hn.1.1, hn.1.2, by have := hn.2; omega⟩, fun q hq => ?_⟩
      refine h1.at (List.prefix_append _ [q]) (Keep.fresh hq) (s1.push hq rds_rg) _ (.ref ?_)
      rw [← s1.len, List.getElem?_concat_length]
    · exact h1.elim
  · exact h1.elim

/-! ### a def by its name -/
structure DefOk (P : Program) (w : World) (K : PySem.W.Frag) (mg : Str → Option Value) (base : Heap) (x : Str) (n k : Nat) (g : List D → Sto → R D) : Prop where
  ex : ∃ (f : Addr) (fd : FuncData) (ps : List Str), FnG P w K mg base k f fd ps (spD K n g) ∧ mg x = some (.ref f) ∧ PySem.W.keepIn K (.ref f) = true ∧ Binds K fd ps []
theorem de_f {x : Str} {p : Pos} {n j k : Nat} {g : List D → Sto → R D} (h : DefOk X.prog X.w X.K X.mg X.base x n j g) (hr : RG k X.A) (hle : j ≤ k) (hg : Gl X x) (tk : Takes X W) (ha : DA X W (e :: es) mr) (hn : (e :: es).length = n) (hl : AL n mr)
    (hdb : (x == ("__debug__" : Str)) = false := by decide) (he : starEach (e :: es) X.env = (false, eval e X.env) :: starEach es X.env := by rfl) (hpl : (backTo pos (starEach es X.env)).any (·.1) = false := by rfl) :
    DE X W (.Call (.Name x p) (e :: es) [] pos) (mCall g mr) := by
  obtain ⟨f, fd, ps, F, hm, hk, hb⟩ := h.ex
  exact de_call F (hr.mono hle) hg hm hk hb tk ha hn hl hdb he hpl
/-- how a def of the text stands behind the top -/
structure TopFn (K : PySem.W.Frag) (mg : Str → Option Value) (x : Str) (st : Stmt) (ps : List Str) : Prop where
  ex : ∃ (f : Addr) (fd : FuncData), Fun K x x st f fd ∧ mg x = some (.ref f) ∧ Binds K fd ps []
theorem fnG_no {P : Program} {w : World} {K : PySem.W.Frag} {mg : Str → Option Value} {base : Heap} {k n : Nat} {f : Addr} {fd : FuncData} {ps : List Str} (hn : ps.length = n) : FnG P w K mg base k f fd ps (spD K n fun _ _ => .no) :=
  ⟨fun vs H Q E h => h.1.trans hn.symm, fun A outer s H args us vs Q E hr e0 hb rv hsp => by
    obtain ⟨_, _, _, _, _, _, h⟩ := hsp
    exact h.elim⟩
theorem def_ok {P : Program} {w : World} {K : PySem.W.Frag} {mg : Str → Option Value} {base : Heap} {x : Str} {st : Stmt} {N ps : List Str} {k n : Nat} {body : En → Sto → RS} (T : TopFn K mg x st ps) (S : FnScope N ps (defScope st)) (hn : n = ps.length)
    (hbody : ∀ (f : Addr) (cdv : Value) (A : Around) (outer : List Env) (s : Shared) (H : Hp) (E : XK), RG k (A.deeper (envOfC x (defScope st) s.heap.objs.size f cdv)) → Takes (bodyX P w K mg base N x st f cdv A outer s H E) (fun c d _ H => E c d H) → PassesOwn (model P w) (A.deeper (envOfC x (defScope st) s.heap.objs.size f cdv)) (envOfC x (defScope st) s.heap.objs.size f cdv) (bodyX P w K mg base N x st f cdv A outer s H E).xe →
      DSs (bodyX P w K mg base N x st f cdv A outer s H E) (fun c d _ H => E c d H) (defBody st) body) : DefOk P w K mg base x n (k + 1) (mDef N.length body) := by
  obtain ⟨f, fd, F, hm, hb⟩ := T.ex
  exact ⟨f, fd, ps, fn_d F S hn fun cdv A outer s H E => hbody f cdv A outer s H E, hm, F.kp, hb⟩
/-- a def that calls itself: to a depth -/
theorem def_rec {P : Program} {w : World} {K : PySem.W.Frag} {mg : Str → Option Value} {base : Heap} {x : Str} {st : Stmt} {N ps : List Str} {k n : Nat} {g : Nat → List D → Sto → R D} {body : (List D → Sto → R D) → En → Sto → RS} (T : TopFn K mg x st ps) (S : FnScope N ps (defScope st)) (hn : n = ps.length)
    (g0 : g 0 = fun _ _ => .no) (gs : ∀ d, g (d + 1) = mDef N.length (body (g d)))
    (hbody : ∀ d, DefOk P w K mg base x n (k + d) (g d) → ∀ (f : Addr) (cdv : Value) (A : Around) (outer : List Env) (s : Shared) (H : Hp) (E : XK), RG (k + d) (A.deeper (envOfC x (defScope st) s.heap.objs.size f cdv)) → Takes (bodyX P w K mg base N x st f cdv A outer s H E) (fun c d _ H => E c d H) → PassesOwn (model P w) (A.deeper (envOfC x (defScope st) s.heap.objs.size f cdv)) (envOfC x (defScope st) s.heap.objs.size f cdv) (bodyX P w K mg base N x st f cdv A outer s H E).xe →
      DSs (bodyX P w K mg base N x st f cdv A outer s H E) (fun c d _ H => E c d H) (defBody st) (body (g d))) : ∀ d, DefOk P w K mg base x n (k + d) (g d) := by
  obtain ⟨f, fd, F, hm, hb⟩ := id T.ex
  intro d
  induction d with
  | zero => rw [g0]; exact ⟨f, fd, ps, fnG_no hn.symm, hm, F.kp, hb⟩
  | succ d ih =>
    rw [gs]
    exact def_ok T S hn (hbody d ih)
/-- an int of the module -/
theorem de_globI {x : Str} {i : Int} {p : Pos} (hg : Gl X x) (h : ∃ t, X.mg x = some (.int i t)) (hd : (x == ("__debug__" : Str)) = false := by decide) : DE X W (.Name x p) (mC (.int i)) := by
  obtain ⟨t, hm⟩ := h
  exact de_glob (v := .int i) hg hm ⟨t, rfl⟩ (fun _ _ => .int i) hd
/-- a tuple of the module -/
theorem de_globD {x : Str} {d : D} {p : Pos} (hg : Gl X x) (h : ∃ a, X.mg x = some (.ref a) ∧ ∀ α H, RD X.K α H d (.ref a)) (hd : (x == ("__debug__" : Str)) = false := by decide) : DE X W (.Name x p) (mC d) := by
  obtain ⟨a, hm, hr⟩ := h
  exact de_glob (v := .ref a) hg hm rfl hr hd
/-- x += y, ints -/
def oAddI : O2 := fun a b st => match a, b with
  | .int i, .int j => .ok (.int (i + j)) st
  | _, _ => .no
theorem pd_add : PIp X .Add (rD2 X.K oAddI) := by
  intro pins s σ H x y v u Q I rx ry h
  obtain ⟨α, st, a, b, S, ra, rb, h⟩ := h
  unfold oAddI at h
  split at h
  · have e1 := ra.int_of; have e2 := rb.int_of; subst e1; subst e2
    exact ip_add pins s σ H _ _ v u Q I rx ry ⟨_, _, rfl, rfl, Fin.here h S (.int _)⟩
  · exact h.elim
end
end DL
set_option Elab.async false
set_option linter.all false
set_option maxRecDepth 100000
namespace DL
open PySem PySem.Spec PyProof.Rows L2
theorem RG.u66 {k : Nat} {A : Around} (h : RG k A) : A.units + 66 < cLine := by have := h.r.un; omega

/-! ### sorted, pairs of ints -/
def mkP (p : Int × Int) : D := .tup [.int p.1, .int p.2]
def pairsOf : List D → Option (List (Int × Int))
  | [] => some []
  | .tup [.int i, .int j] :: r => (pairsOf r).map ((i, j) :: ·)
  | _ :: _ => none
theorem pairsOf_map : ∀ {ds : List D} {ps : List (Int × Int)}, pairsOf ds = some ps → ds = ps.map mkP
  | [], ps, h => by simp [pairsOf] at h; subst h; rfl
  | d :: r, ps, h => by
    unfold pairsOf at h
    split at h
    · rename_i e; cases e
    · rename_i i j r' e
      cases e
      cases q : pairsOf r with
      | none => rw [q] at h; cases h
      | some ms =>
        rw [q] at h
        cases h
        rw [pairsOf_map q]; rfl
    · cases h
@[simp] theorem pairsOf_pairs : ∀ ps : List (Int × Int), pairsOf (ps.map mkP) = some ps
  | [] => rfl
  | p :: ps => by simp [pairsOf, mkP, pairsOf_pairs ps] <;> (show (pairsOf (ps.map mkP)).map _ = _; rw [pairsOf_pairs ps]; rfl)
def leP (p q : Int × Int) : Bool := p.1 < q.1 || (p.1 == q.1 && p.2 ≤ q.2)
theorem leP_iff {p q : Int × Int} : leP p q = true ↔ p.1 < q.1 ∨ (p.1 = q.1 ∧ p.2 ≤ q.2) := by simp [leP]
def insP (x : Int × Int) : List (Int × Int) → List (Int × Int)
  | [] => [x]
  | y :: r => if leP x y = true then x :: y :: r else y :: insP x r
def sortP : List (Int × Int) → List (Int × Int)
  | [] => []
  | x :: r => insP x (sortP r)
abbrev SortedP (l : List (Int × Int)) : Prop := l.Pairwise fun x y => leP x y = true
theorem insP_perm (x : Int × Int) : ∀ l, (insP x l).Perm (x :: l)
  | [] => List.Perm.refl _
  | y :: r => by
    unfold insP
    split
    · exact List.Perm.refl _
    · exact ((insP_perm x r).cons y).trans (List.Perm.swap x y r)
theorem sortP_perm : ∀ l, (sortP l).Perm l
  | [] => List.Perm.refl _
  | x :: r => (insP_perm x _).trans ((sortP_perm r).cons x)
theorem leP_total {x y : Int × Int} (h : ¬ leP x y = true) : leP y x = true := by rw [leP_iff] at h ⊢; omega
theorem leP_trans {x y z : Int × Int} (h : leP x y = true) (h2 : leP y z = true) : leP x z = true := by rw [leP_iff] at *; omega
theorem leP_anti {x y : Int × Int} (h : leP x y = true) (h2 : leP y x = true) : x = y := by
  rw [leP_iff] at *
  exact Prod.ext (by omega) (by omega)
theorem insP_sorted (x : Int × Int) : ∀ l, SortedP l → SortedP (insP x l)
  | [], _ => by simp [insP]
  | y :: r, h => by
    unfold insP
    have h1 := List.pairwise_cons.mp h
    split
    · rename_i hxy
      refine List.pairwise_cons.mpr ⟨fun z hz => ?_, h⟩
      rcases List.mem_cons.mp hz with rfl | hz
      · exact hxy
      · exact leP_trans hxy (h1.1 z hz)
    · rename_i hxy
      refine List.pairwise_cons.mpr ⟨fun z hz => ?_, insP_sorted x r h1.2⟩
      rcases List.mem_cons.mp ((insP_perm x r).mem_iff.mp hz) with rfl | hz'
      · exact leP_total hxy
      · exact h1.1 z hz'
theorem sortP_sorted : ∀ l, SortedP (sortP l)
  | [] => .nil
  | x :: r => insP_sorted x _ (sortP_sorted r)
theorem sortedP_uniq : ∀ {l m : List (Int × Int)}, SortedP l → SortedP m → l.Perm m → l = m
  | [], m, _, _, h => by simp [List.Perm.eq_nil h.symm]
  | x :: l, [], _, _, h => by simp at h
  | x :: l, y :: m, hl, hm, h => by
    have h1 := List.pairwise_cons.mp hl
    have h2 := List.pairwise_cons.mp hm
    have e : x = y := by
      have a : x ∈ y :: m := h.mem_iff.mp List.mem_cons_self
      have b : y ∈ x :: l := h.mem_iff.mpr List.mem_cons_self
      rcases List.mem_cons.mp a with a | a
      · exact a
      · rcases List.mem_cons.mp b with b | b
        · exact b.symm
        · exact leP_anti (h1.1 y b) (h2.1 x a)
    subst e
    rw [sortedP_uniq h1.2 h2.2 h.cons_inv]
/-- the pair that stands at a value -/
def kH (h : Heap) (v : Value) : Int × Int := match v with
  | .ref a => match h.get? a with
    | some o => match o.data with
      | .seq items _ => match items.toList with
        | [.int i _, .int j _] => (i, j)
        | _ => (0, 0)
      | _ => (0, 0)
    | none => (0, 0)
  | _ => (0, 0)
/-! ### sorted of a tuple -/
section
open SrtO Srt
variable {prog : Program} {w : World} {A : Around} {E : Value → Shared → Prop} {s : Shared}
theorem collect_tup {l : Addr} {o : Obj} {n : Nat} {vs : List Value} {Q : List Value → Shared → Prop} (ho : s.heap.get? l = some o) (hc : o.cls = .type "tuple") (hd : o.data = .seq vs.toArray n) (hsz : vs.length ≤ sizeLine)
    (h : Q vs { s with heap := (s.heap.push (seqObj "list" #[] 0)).update s.heap.objs.size (Obj.mapSeq (· ++ vs.toArray)) }) : wpAny (model prog w) A (collect (.ref l)) Q E s := by
  have ho' : (s.heap.push (seqObj "list" #[] 0)).get? l = some o := Heap.get?_push_of_some _ ho
  have hn : (s.heap.push (seqObj "list" #[] 0)).get? s.heap.objs.size = some (seqObj "list" #[] 0) := Heap.get?_push_size _ rfl
  have ev : ((#[] : Array Value) ++ vs.toArray).toList = vs := by simp
  unfold collect
  refine wpAny_bind (wpAny_runValue (codeAny_builtin entry_proto_collect' ?_))
  show wpAny _ _ (do again (.builtin "list.__iadd__" ⟨[← newList [], .ref l], []⟩)) _ _ s
  refine wpAny_bind (wpAny_newList (wpAny_pure ⟨Code.quiet_builtin _ (by decide +kernel), codeAny_builtin entry_list_iadd' ?_⟩))
  show wpAny _ _ (Builtin.List.listExtendWith (.ref s.heap.objs.size) (.ref l) (.ref s.heap.objs.size)) _ _ { s with heap := s.heap.push (seqObj "list" #[] 0) }
  unfold Builtin.List.listExtendWith
  refine wpAny_bind (wpAny_typeOf (T := "tuple") ⟨o, ho', hc⟩ ?_)
  have ht : (Value.type "tuple" == Value.type "tuple") = true := by rfl
  rw [if_pos (by rw [ht]; simp)]
  refine wpAny_bind (listItems_at ho' hd ?_)
  refine wpAny_bind (listItems_at hn rfl ?_)
  rw [if_neg (by simp)]
  refine wpAny_bind (listUpdate_at hn rfl ?_ (Nat.zero_le _) (by show (#[] ++ vs.toArray).size ≤ sizeLine + 1; simp only [Array.size_append, List.size_toArray, List.length_nil]; omega))
  refine wpAny_pure ?_
  show wpAny (model prog w) A (do
      let o ← load s.heap.objs.size
      match o.data with
      | .seq xs _ => pure xs.toList
      | _ => unsupported "internal:collect") Q E { s with heap := (s.heap.push (seqObj "list" #[] 0)).update s.heap.objs.size (Obj.mapSeq (· ++ vs.toArray)) }
  refine wpAny_bind (wpAny_load (get?_update_seq hn _) ?_)
  show wpAny _ _ (pure ((#[] : Array Value) ++ vs.toArray).toList) Q E _
  rw [ev]
  exact wpAny_pure h
theorem sorted_ordT {l : Addr} {o : Obj} {n : Nat} {vs : List Value} {ltv : Value → Value → Bool} {Q : Value → Shared → Prop} (O : Swo ltv) (ho : s.heap.get? l = some o) (hc : o.cls = .type "tuple") (hd : o.data = .seq vs.toArray n) (hz : vs.length ≤ sizeLine)
    (hS : 2 ≤ vs.length → ∀ (h₁ : Heap) (a : Addr), h₁.get? a = some (seqObj "list" vs.toArray 0) → (∀ b o, s.heap.get? b = some o → b ≠ a ∧ h₁.get? b = some o) → SortableO prog w A.in1.in1 { s with heap := h₁ } a vs ltv)
    (h : ∀ out : List Value, Srtd ltv out → Stb ltv out vs → Q (.ref (s.heap.objs.size + 1)) { s with heap := sortedAll s.heap vs out.toArray }) :
    wpAny (model prog w) A (call (.builtin "sorted") [.ref l]) Q E s := by
  have hsz : ((s.heap.push (seqObj "list" #[] 0)).update s.heap.objs.size (Obj.mapSeq (· ++ vs.toArray))).objs.size = s.heap.objs.size + 1 := by
    rw [Heap.size_update, size_push']
  have hoL : (((s.heap.push (seqObj "list" #[] 0)).update s.heap.objs.size (Obj.mapSeq (· ++ vs.toArray))).push (seqObj "list" vs.toArray 0)).get? (s.heap.objs.size + 1) = some (seqObj "list" vs.toArray 0) := by
    rw [← hsz]; exact Heap.get?_push_size _ rfl
  refine Calls.call_function_entry kind_sorted plain_sorted entry_sorted (args_sorted1 _) ?_
  unfold Builtin.«sorted»
  refine wpAny_bind (m := checkCount "sorted" 1 1 _) (wpAny_pure ?_)
  refine wpAny_bind (collect_tup ho hc hd hz (wpAny_bind (wpAny_newList ?_ hz)))
  show wpAny _ _ _ _ _ { s with heap := ((s.heap.push (seqObj "list" #[] 0)).update s.heap.objs.size (Obj.mapSeq (· ++ vs.toArray))).push (seqObj "list" vs.toArray 0) }
  rw [hsz]
  refine wpAny_bind (wpAny_holding (wpAny_call_entry slot_list_sort ⟨_, hoL, rfl⟩ entry_list_sort (list_sort_ord O hoL hz (fun h2 => hS h2 _ _ hoL fun b o q => ?_) fun out hs hb => ⟨_, rfl, wpAny_pure ⟨_, rfl, h out hs hb⟩⟩) (args_list_sort _)))
  have hlt : b < s.heap.objs.size := Heap.lt_size q
  refine ⟨Nat.ne_of_lt (Nat.lt_succ_of_lt hlt), Heap.get?_push_of_some _ ?_⟩
  rw [Heap.get?_update_ne _ _ _ _ (Nat.ne_of_lt hlt)]
  exact Heap.get?_push_of_some _ q
theorem sorted_pairsT {l : Addr} {o : Obj} {n : Nat} {vs : List Value} {k : Value → Int × Int} {Q : Value → Shared → Prop} (ho : s.heap.get? l = some o) (hc : o.cls = .type "tuple") (hd : o.data = .seq vs.toArray n) (hz : vs.length ≤ sizeLine) (hp : ∀ v ∈ vs, IsPair s.heap v (k v).1 (k v).2)
    (h : ∀ (h' : Heap) (d : Addr) (out : List Value), Srtd (fun v u => lexB (k v) (k u)) out → Stb (fun v u => lexB (k v) (k u)) out vs → (∀ b o, s.heap.get? b = some o → h'.get? b = some o) → s.heap.objs.size ≤ d → (∃ n, h'.get? d = some (seqObj "list" out.toArray n)) → Q (.ref d) { s with heap := h' }) :
    wpAny (model prog w) A (call (.builtin "sorted") [.ref l]) Q E s := by
  refine sorted_ordT (swo_lex k) ho hc hd hz (fun h2 h₁ a ha kk => pairs_sortableO (s := { s with heap := h₁ }) (by omega) (fun v hm => (hp v hm).keeps fun b o e _ => (kk b o e).2) fun o e c => ?_) fun out hs hb => h _ _ out hs hb (fun b o e => sortedAll_old e) (Nat.le_succ _) (sortedAll_at s.heap vs out.toArray)
  have e' : some o = some (seqObj "list" vs.toArray 0) := e.symm.trans ha
  cases e'
  exact absurd (Value.type.inj c) (by decide)
end
section
variable {X : Cx}
theorem pairs_run {pins : List (Addr × Obj)} {s : Shared} {σ : L2.St} {H : Hp} {α : List Addr} (I : Inv X pins σ H s) : ∀ (ps : List (Int × Int)) (vs : List V) (us : List Value), RDs X.K α H (ps.map mkP) vs → Vals vs us →
    us.map (kH s.heap) = ps ∧ ∀ u ∈ us, ∃ p, u = Value.ref p ∧ RD X.K α H (mkP (kH s.heap u)) (.ref p) ∧ Srt.IsPair s.heap u (kH s.heap u).1 (kH s.heap u).2
  | [], vs, us, r, rv => by cases r; cases rv; exact ⟨rfl, fun u hu => by cases hu⟩
  | p :: ps, vs, us, r, rv => by
    obtain ⟨a, b⟩ := p
    cases r with
    | cons r1 r2 =>
      cases rv with
      | cons q1 q2 =>
        obtain ⟨h1, h2⟩ := pairs_run I ps _ _ r2 q2
        obtain ⟨ad, ws, rfl, t1, rr⟩ := RD.tup_of (xs := [.int a, .int b]) r1
        cases q1
        have ew : ws = [V.int a, V.int b] := RDs.toInts (ns := [a, b]) rr
        subst ew
        obtain ⟨its, ri, ⟨o, ho, hc, n, hd⟩, _⟩ := I.tuple t1
        obtain ⟨u1, u2, rfl, k1, k2⟩ := vals2 ri
        obtain ⟨t1', rfl⟩ := k1
        obtain ⟨t2', rfl⟩ := k2
        have e : kH s.heap (Value.ref ad) = (a, b) := by
          unfold kH
          simp only [ho, hd]
        refine ⟨by rw [List.map_cons, e, h1], fun u hu => ?_⟩
        rcases List.mem_cons.mp hu with rfl | hu
        · exact ⟨ad, rfl, by rw [e]; exact r1, by rw [e]; exact ⟨ad, o, t1', t2', n, rfl, ho, hc, hd⟩⟩
        · exact h2 u hu
theorem rds_back {K : PySem.W.Frag} {α : List Addr} {H : Hp} {k : Value → Int × Int} : ∀ (us : List Value), (∀ u ∈ us, ∃ p, u = Value.ref p ∧ RD K α H (mkP (k u)) (.ref p)) → RDs K α H ((us.map k).map mkP) (us.map backV)
  | [], _ => .nil
  | u :: us, h => by
    obtain ⟨p, rfl, r⟩ := h u List.mem_cons_self
    exact .cons r (rds_back us fun y hy => h y (List.mem_cons_of_mem _ hy))
def bSorted : List D → Sto → R D := fun ds st => match ds with
  | [.ref r] => match rdL st r with
    | some xs => match intsOf xs with
      | some ns => .ok (.ref st.length) (st ++ [.lst ((sortI ns).map D.int)])
      | none => match pairsOf xs with
        | some ps => .ok (.ref st.length) (st ++ [.lst ((sortP ps).map mkP)])
        | none => .no
    | none => .no
  | [.tup xs] => match intsOf xs with
    | some ns => .ok (.ref st.length) (st ++ [.lst ((sortI ns).map D.int)])
    | none => match pairsOf xs with
      | some ps => .ok (.ref st.length) (st ++ [.lst ((sortP ps).map mkP)])
      | none => .no
  | _ => .no
theorem cd_sortedP {pins : List (Addr × Obj)} {s : Shared} {σ : L2.St} {H : Hp} {us : List Value} {Q : VK} {α : List Addr} {st : Sto} {a : Addr} {ws : List V} {ps : List (Int × Int)} (I : Inv X pins σ H s) (S : SR X.K α st H) (rv : Vals [V.ref a] us) (h0 : SqL X.K H a ws)
    (r1 : RDs X.K α H (ps.map mkP) ws) (h : Fin X.K α H Q (.ref st.length) (st ++ [.lst ((sortP ps).map mkP)])) : wpAny (model X.prog X.w) X.A (call (.builtin "sorted") us) (EP X pins σ Q) X.xe s := by
  obtain ⟨u, rfl, ru⟩ := vals1 rv
  cases ru
  obtain ⟨its, ri, hl, hz⟩ := I.list h0
  obtain ⟨g1, g2⟩ := pairs_run I ps ws its r1 ri
  refine SrtO.sorted_pairsO (k := kH s.heap) hl.isList (by rw [← ri.length]; exact hz) (fun v hv => let ⟨_, _, _, q⟩ := g2 v hv; q) fun h' d out h1 h2 kp hd hn => ?_
  have mem : ∀ v ∈ out, v ∈ its := fun v hv => h2.perm.mem_iff.mp hv
  have e : out.map (kH s.heap) = sortP ps := by
    refine sortedP_uniq ?_ (sortP_sorted ps) ?_
    · refine List.pairwise_map.mpr (h1.imp fun {x y} hxy => ?_)
      have := SrtO.lexB_no.mp hxy
      rw [leP_iff]
      omega
    · refine ((h2.perm.map _).trans ?_).trans (sortP_perm ps).symm
      rw [g1]
  have rb : RDs X.K α H ((sortP ps).map mkP) (out.map backV) := by
    rw [← e]
    exact rds_back out fun v hv => let ⟨p, e1, e2, _⟩ := g2 v (mem v hv); ⟨p, e1, e2⟩
  obtain ⟨n, hn⟩ := hn
  have hrefs : ∀ v ∈ out, ∃ b, v = Value.ref b := fun v hv => let ⟨p, e1, _⟩ := g2 v (mem v hv); ⟨p, e1⟩
  refine ⟨.ref d, upd H d (.lst (out.map backV)), I.laid (t' := s.toks) kp hd (show ObjOk X.prog X.w _ _ _ (.lst (out.map backV)) from ⟨?_, out, n, vals_back hrefs, hn⟩), rfl, Fin.new h S rb (I.hok.fresh hd)⟩
  rw [List.length_map, h2.len, ← ri.length]
  exact hz
theorem cd_sortedT {pins : List (Addr × Obj)} {s : Shared} {σ : L2.St} {H : Hp} {us : List Value} {Q : VK} {α : List Addr} {st : Sto} {a : Addr} {ws : List V} {ps : List (Int × Int)} (I : Inv X pins σ H s) (S : SR X.K α st H) (rv : Vals [V.ref a] us) (h0 : SqT X.K H a ws)
    (r1 : RDs X.K α H (ps.map mkP) ws) (h : Fin X.K α H Q (.ref st.length) (st ++ [.lst ((sortP ps).map mkP)])) : wpAny (model X.prog X.w) X.A (call (.builtin "sorted") us) (EP X pins σ Q) X.xe s := by
  obtain ⟨u, rfl, ru⟩ := vals1 rv
  cases ru
  obtain ⟨its, ri, ⟨o, ho, hc, n0, hd0⟩, hz⟩ := I.tuple h0
  obtain ⟨g1, g2⟩ := pairs_run I ps ws its r1 ri
  refine sorted_pairsT (k := kH s.heap) ho hc hd0 (by rw [← ri.length]; exact hz) (fun v hv => let ⟨_, _, _, q⟩ := g2 v hv; q) fun h' d out h1 h2 kp hd hn => ?_
  have mem : ∀ v ∈ out, v ∈ its := fun v hv => h2.perm.mem_iff.mp hv
  have e : out.map (kH s.heap) = sortP ps := by
    refine sortedP_uniq ?_ (sortP_sorted ps) ?_
    · refine List.pairwise_map.mpr (h1.imp fun {x y} hxy => ?_)
      have := SrtO.lexB_no.mp hxy
      rw [leP_iff]
      omega
    · refine ((h2.perm.map _).trans ?_).trans (sortP_perm ps).symm
      rw [g1]
  have rb : RDs X.K α H ((sortP ps).map mkP) (out.map backV) := by
    rw [← e]
    exact rds_back out fun v hv => let ⟨p, e1, e2, _⟩ := g2 v (mem v hv); ⟨p, e1, e2⟩
  obtain ⟨n, hn⟩ := hn
  have hrefs : ∀ v ∈ out, ∃ b, v = Value.ref b := fun v hv => let ⟨p, e1, _⟩ := g2 v (mem v hv); ⟨p, e1⟩
  refine ⟨.ref d, upd H d (.lst (out.map backV)), I.laid (t' := s.toks) kp hd (show ObjOk X.prog X.w _ _ _ (.lst (out.map backV)) from ⟨?_, out, n, vals_back hrefs, hn⟩), rfl, Fin.new h S rb (I.hok.fresh hd)⟩
  rw [List.length_map, h2.len, ← ri.length]
  exact hz
theorem cd_sortedTI {pins : List (Addr × Obj)} {s : Shared} {σ : L2.St} {H : Hp} {us : List Value} {Q : VK} {α : List Addr} {st : Sto} {a : Addr} {ns : List Int} (I : Inv X pins σ H s) (S : SR X.K α st H) (rv : Vals [V.ref a] us) (h0 : SqT X.K H a (ns.map V.int))
    (h : Fin X.K α H Q (.ref st.length) (st ++ [.lst ((sortI ns).map D.int)])) : wpAny (model X.prog X.w) X.A (call (.builtin "sorted") us) (EP X pins σ Q) X.xe s := by
  obtain ⟨u, rfl, ru⟩ := vals1 rv
  cases ru
  obtain ⟨its, ri, ⟨o, ho, hc, n0, hd0⟩, hz⟩ := I.tuple h0
  have hi := ri.ints
  refine sorted_ordT SrtO.swo_int ho hc hd0 (by rw [← ri.length]; exact hz) (fun h2 h₁ a' _ _ => SrtO.ints_sortable hi h2) fun out h1 h2 => ?_
  obtain ⟨k1, k2, k3⟩ := SrtO.ints_out hi h1 h2
  have en : out.map SrtO.iv = sortI ns := sorted_uniq k3 (sortI_sorted ns) (k2.trans (sortI_perm ns).symm)
  rw [en] at k1
  obtain ⟨ep, he'⟩ := PyProof.Rows.sortedAll_at s.heap its out.toArray
  have hlen : ((sortI ns).map V.int).length ≤ sizeLine := by
    rw [List.length_map, (sortI_perm ns).length_eq]
    rw [List.length_map] at hz
    exact hz
  exact ⟨.ref _, upd H (s.heap.objs.size + 1) (.lst ((sortI ns).map V.int)), I.laid (t' := s.toks) (fun _ _ => PyProof.Rows.sortedAll_old) (Nat.le_succ _) ⟨hlen, out, ep, vals_of_ints k1, he'⟩, rfl, Fin.new h S (RDs.ints _) (I.hok.fresh (Nat.le_succ _))⟩
theorem cd_sorted : CDs X (.builtin "sorted") bSorted := by
  intro pins s σ H vs us Q I rv h
  obtain ⟨α, st, ds, S, rd, h⟩ := h
  unfold bSorted at h
  split at h
  · rename_i q
    split at h
    · rename_i xs e1
      obtain ⟨v, rfl, r⟩ := rd.one
      obtain ⟨p, rfl, a1⟩ := r.ref_of
      obtain ⟨ws, h0, r1⟩ := S.l e1 a1
      split at h
      · rename_i ns e2
        refine cd_sortedI pins s σ H _ us Q I rv ⟨α, st, [.ref q], S, rd, ?_⟩
        unfold bSortedI
        simp only [e1, e2, Option.bind_some]
        exact h
      · split at h
        · rename_i ps e3
          rw [pairsOf_map e3] at r1
          exact cd_sortedP I S rv h0 r1 h
        · exact h.elim
    · exact h.elim
  · split at h
    · rename_i ns e2
      obtain ⟨v, rfl, r⟩ := rd.one
      obtain ⟨p, ws, rfl, t1, r1⟩ := r.tup_of
      rw [intsOf_map e2] at r1
      rw [r1.toInts] at t1
      exact cd_sortedTI I S rv t1 h
    · split at h
      · rename_i ps e3
        obtain ⟨v, rfl, r⟩ := rd.one
        obtain ⟨p, ws, rfl, t1, r1⟩ := r.tup_of
        rw [pairsOf_map e3] at r1
        exact cd_sortedT I S rv t1 r1 h
      · exact h.elim
  · exact h.elim
end
end DL
set_option Elab.async false
set_option linter.all false
set_option maxRecDepth 100000
namespace DL
open PySem PySem.Spec PyProof.Rows L2

/-! ### the law's end -/
/-- what the law's def is asked for: a script that is only read -/
def spLaw (K : PySem.W.Frag) (f : List D → Sto → R D) : Sp := spD K 1 f
theorem script_sp {K : PySem.W.Frag} {f : List D → Sto → R D} {H : Hp} {a : Addr} {ns : List Int} (hO : Only H) (hS : SqL K H a (ns.map V.int)) (hf : ∃ st', f [.ref 0] [.fro (ns.map D.int)] = .ok (.bl true) st') : spLaw K f [.ref a] H (fun v _ => v = .bl true) fun _ _ _ => False := by
  obtain ⟨st', e⟩ := hf
  have hl : Locked K H a (ns.map V.int) := by
    rcases hS with (h | ⟨o, h⟩) | h
    · rcases hO a with q | ⟨o, xs, q⟩
      · rw [q] at h; cases h
      · rw [q] at h; cases h
    · exact .inl ⟨o, h⟩
    · exact .inr fun H' => .inr h
  refine ⟨rfl, [a], [.fro (ns.map D.int)], [.ref 0], ⟨rfl, fun i c hc => ?_, fun i j xs ys b h1 => ?_⟩, .cons (.ref rfl) .nil, ?_⟩
  · cases i with
    | zero => cases hc; exact ⟨a, rfl, _, hl, RDs.ints ns⟩
    | succ i => simp at hc
  · cases i with
    | zero => cases h1
    | succ i => simp at h1
  · rw [e]
    exact fun α' H' v _ _ _ r => r.bl_of
/-- the call of the law over the heap that the top left -/
theorem law_run {P : Program} {w : World} {K : PySem.W.Frag} {mg mb : Str → Option Value} {k : Nat} {fa a : Addr} {fd : FuncData} {x : Str} {sp : Sp} {s1 : Shared} {vs : List Value} {ns : List Int}
    (inK : K.In s1.heap) (gl : s1.heap.Ns mainGlobals mg) (bl : s1.heap.Ns builtinsNs mb) (bb : ∀ x : Str, x ≠ "__name__" → mb x = bootBuiltins x) (nol : s1.heap.NoLimit) (gens : s1.gens = #[])
    (ha : s1.heap.get? a = some { cls := .type "list", data := .seq vs.toArray }) (hi : IntsAre vs ns) (hz : ns.length ≤ sizeLine) (hr : Room k callerA)
    (F : ∀ base : Heap, K.In base → base.Ns mainGlobals mg → FnG P w K mg base k fa fd [x] sp) (hbind : ∀ (s : Shared) (u : Value), BindsTo s fd ⟨[u], []⟩ [(x, u)])
    (hsp : ∀ H : Hp, Only H → SqL K H a (ns.map V.int) → sp [.ref a] H (fun v _ => v = .bl true) fun _ _ _ => False) :
    codeAny (model P w) callerA (.call (.ref fa) ⟨[.ref a], []⟩) (fun r s' => r = .ok (.ret (.bool true)) ∧ OldK s1.heap s'.heap ∧ s'.os = s1.os ∧ AllBare s'.gens) s1 := by
  have rv : Vals (ns.map V.int) vs := vals_ints hi
  have go : ∀ H : Hp, Only H → SqL K H a (ns.map V.int) → HOk P w H s1.heap → (∀ b, H b ≠ none → b = a ∧ K.lookup a = none) →
      codeAny (model P w) callerA (.call (.ref fa) ⟨[.ref a], []⟩) (fun r s' => r = .ok (.ret (.bool true)) ∧ OldK s1.heap s'.heap ∧ s'.os = s1.os ∧ AllBare s'.gens) s1 := by
    intro H only sq hok near
    have free : ∀ {b : Addr} {o : Obj}, s1.heap.get? b = some o → (∀ z n, o.data ≠ .seq z n) → H b = none := by
      intro b o e d
      by_cases q : H b = none
      · exact q
      · obtain ⟨rfl, _⟩ := near b q
        rw [ha] at e
        cases e
        exact absurd rfl (d _ _)
    have ns_of : ∀ {b : Addr} {m : Str → Option Value}, s1.heap.Ns b m → (hidT s1.heap H).Ns b m := by
      intro b m hm
      obtain ⟨o, es, ep, e, d, r⟩ := hm
      exact ⟨o, es, ep, hidT_get e (free e fun z n q => by rw [d] at q; cases q), d, r⟩
    have kb : K.In (hidT s1.heap H) := fun b o e => by
      refine hidT_get (inK b o e) ?_
      by_cases q : H b = none
      · exact q
      · obtain ⟨rfl, z⟩ := near b q
        rw [z] at e
        cases e
    obtain ⟨mc, l1, l2⟩ := nol
    have md : Mod K mg (hidT s1.heap H) := ⟨kb, ns_of gl, ⟨mb, ns_of bl, bb⟩, ⟨mc, ns_of l1, l2⟩⟩
    have env : Env0 P w K mg (hidT s1.heap H) callerA [] s1 H := ⟨rfl, md, fun b o e => of_hidT e, Nat.le_of_eq (hidT_size _ _), trivial, fun b hb => (by cases hb), hok, .of_eq gens⟩
    have run := (F _ kb (ns_of gl)).run callerA [] s1 H ⟨[.ref a], []⟩ [.ref a] [.ref a] _ _ ⟨hr, rfl⟩ env (hbind s1 (.ref a)) (.cons rfl .nil) (hsp H only sq)
    refine codeAny_mono run fun r s' h => ?_
    match r, h with
    | .error e, h =>
      obtain ⟨_, _, _, _, _, _, _, _, _, _, _, _, z⟩ := h
      exact z.elim
    | .ok .next, h => exact h.elim
    | .ok .brk, h => exact h.elim
    | .ok .cont, h => exact h.elim
    | .ok (.ret u), ⟨v, H', os, bare, un, hok', rel, q⟩ =>
      subst q
      cases rel
      refine ⟨rfl, OldK.of_keep fun b o e => ?_, os, bare⟩
      rcases only b with z | ⟨ob, xs, z⟩
      · exact un.keep b o e z (fun z => by cases z) (by simp)
      · have h1 : s1.heap.get? b = some ob := (hok b _ z).1
        have h2 : s'.heap.get? b = some ob := (hok' b _ (un.frzs b ob _ z)).1
        rw [e] at h1
        cases h1
        exact h2
  by_cases hk : K.lookup a = none
  · let H : Hp := fun b => if b = a then some (.frz { cls := .type "list", data := .seq vs.toArray } (.lst (ns.map V.int))) else none
    have at_ : H a = some (.frz { cls := .type "list", data := .seq vs.toArray } (.lst (ns.map V.int))) := if_pos rfl
    refine go H (fun b => ?_) (.inl (.inr ⟨_, at_⟩)) (fun b u z => ?_) (fun b z => ⟨?_, hk⟩)
    · by_cases e : b = a
      · subst e; exact .inr ⟨_, _, at_⟩
      · exact .inl (if_neg e)
    · by_cases e : b = a
      · subst e
        rw [at_] at z
        cases z
        exact ⟨ha, by rw [List.length_map]; exact hz, vs, _, rv, ha⟩
      · rw [show H b = none from if_neg e] at z
        cases z
    · by_cases e : b = a
      · exact e
      · exact absurd (show H b = none from if_neg e) z
  · obtain ⟨o, ho⟩ := Option.ne_none_iff_exists'.mp hk
    have e := inK a o ho
    rw [ha] at e
    cases e
    refine go (fun _ => none) (fun _ => .inl rfl) (.inr ⟨_, vs.toArray, _, ho, rfl, rfl, rfl, by rw [List.size_toArray, hi.length]; exact hz, by simpa using rv⟩) (fun b u z => by cases z) fun b z => absurd rfl z
/-- the goal behind the head -/
theorem walk_d {l : PySem.W.OpenLaw} {n k : Nat} {q : Program} {loose : List Str} {XP : (Str → Option Value) → Heap → Prop} {YP : World → Heap → Prop} {d : DefRec} {K : Params → PySem.W.Frag} {x : Str} {f : List D → Sto → R D}
    (hn : l.most = some n) (hn2 : n ≤ sizeLine) (hdf : d.params.defaults = []) (hr : Room k callerA) (hY : ∀ (w : World) (h : Heap), YP w h → (K w.params).In h)
    (F : ∀ (w : World) (mg : Str → Option Value) (fa : Addr) (h : Heap), (K w.params).In h → h.Ns mainGlobals mg → mg d.name = some (.ref fa) →
      ∃ fd : FuncData, (∀ (s : Shared) (u : Value), BindsTo s fd ⟨[u], []⟩ [(x, u)]) ∧ ∀ base : Heap, (K w.params).In base → base.Ns mainGlobals mg → FnG l.prog w (K w.params) mg base k fa fd [x] (spLaw (K w.params) f))
    (main : ∀ ns : List Int, ns.length ≤ n → ∃ st', f [.ref 0] [.fro (ns.map D.int)] = .ok (.bl true) st') : PySem.W.WalkO q loose XP YP l.row.toRowW d [] (fun f vs => PySem.call f vs) := by
  refine Att.attach_call hn hdf fun w _ s1 mg mb fa o pm cd doc a vs ns G Y _ _ _ hmg hobj hints hlen hg => ?_
  obtain ⟨fd, hb, hF⟩ := F w mg fa _ (hY w _ Y) G.T.g hmg
  exact law_run (hY w _ Y) G.T.g G.T.b G.T.builtins G.T.nolimit hg hobj hints (Nat.le_trans hlen hn2) hr hF hb fun H hO hS => script_sp hO hS (main ns hlen)
theorem topFn_of {K : PySem.W.Frag} {h : Heap} {mg : Str → Option Value} {x : Str} {st : Stmt} {ps : List Str} {f : Addr} {oc : Value} {od an : Option Addr} {sl : Array (Option Value)} {kV dc pm cd ct : Value} (X : K.In h) (G : h.Ns mainGlobals mg)
    (a : PySem.W.nsIn K mainGlobals x = some (some (.ref f))) (l : K.lookup f = some ⟨oc, od, .func (PySem.W.fnOf x x (defArgs st) (defBody st) (defScope st) .none kV dc pm an cd ct), sl⟩) (c : PySem.W.codeIn K cd x = true) (k : PySem.W.keepIn K (.ref f) = true)
    (b : ∀ (kV doc pm : Value) (an : Option Addr) (cdv ct : Value) (us : List Value), us.length = ps.length → bindArgs (PySem.W.fnOf x x (defArgs st) (defBody st) (defScope st) .none kV doc pm an cdv ct) ⟨us, []⟩ = pure (ps.zip us)) : TopFn K mg x st ps :=
  have F := fun_mk (st := st) l c k
  ⟨f, _, F, PySem.W.mg_of X G a, F.binds b⟩
abbrev TopFnX {K : PySem.W.Frag} {h : Heap} (_ : K.In h) (mg : Str → Option Value) (x : Str) (st : Stmt) (ps : List Str) : Prop := TopFn K mg x st ps
/-- the law's own def -/
theorem law_of {P : Program} {w : World} {K : PySem.W.Frag} {h : Heap} {mg : Str → Option Value} {x p : Str} {st : Stmt} {fa f : Addr} {k : Nat} {g : List D → Sto → R D} {oc : Value} {od an : Option Addr} {sl : Array (Option Value)} {kV dc pm cd ct : Value} (X : K.In h) (G : h.Ns mainGlobals mg) (hmg : mg x = some (.ref fa))
    (a : PySem.W.nsIn K mainGlobals x = some (some (.ref f))) (l : K.lookup f = some ⟨oc, od, .func (PySem.W.fnOf x x (defArgs st) (defBody st) (defScope st) .none kV dc pm an cd ct), sl⟩) (c : PySem.W.codeIn K cd x = true) (kp : PySem.W.keepIn K (.ref f) = true)
    (b : ∀ (kV dc pm : Value) (an : Option Addr) (cd ct : Value) (s : Shared) (u : Value), BindsTo s (PySem.W.fnOf x x (defArgs st) (defBody st) (defScope st) .none kV dc pm an cd ct) ⟨[u], []⟩ [(p, u)])
    (all : ∀ (base : Heap) (fd : FuncData), Fun K x x st fa fd → FnG P w K mg base k fa fd [p] (spLaw K g)) :
    ∃ fd : FuncData, (∀ (s : Shared) (u : Value), BindsTo s fd ⟨[u], []⟩ [(p, u)]) ∧ ∀ base : Heap, K.In base → base.Ns mainGlobals mg → FnG P w K mg base k fa fd [p] (spLaw K g) := by
  have e := hmg.symm.trans (PySem.W.mg_of X G a)
  cases e
  exact ⟨_, fun s u => b kV dc pm an cd ct s u, fun base _ _ => all base _ (fun_mk (st := st) l c kp)⟩
end DL
set_option Elab.async false
set_option linter.all false
set_option maxRecDepth 100000
/-! Constant tables with text keys, told by the name that holds them; a call of a local name that holds one of the text's defs. -/
namespace DL
open PySem PySem.Spec PyProof.Rows L2

/-- an entry of a table as it stands, and what it stands for -/
structure EntOk (K : PySem.W.Frag) (w : World) (e : DictEntry) (q : Str × D) : Prop where
  key : ∃ t, e.key = .str q.1 t
  hash : e.hash = PyData.keyHash w.params q.1
  val : ∃ v, RelV v e.val ∧ ∀ α H, RD K α H q.2 v
inductive EntsOk (K : PySem.W.Frag) (w : World) : List DictEntry → List (Str × D) → Prop where
  | nil : EntsOk K w [] []
  | cons {e : DictEntry} {q : Str × D} {es : List DictEntry} {qs : List (Str × D)} : EntOk K w e q → EntsOk K w es qs → EntsOk K w (e :: es) (q :: qs)
theorem EntsOk.lit {K : PySem.W.Frag} {w : World} : ∀ {es : List DictEntry} {qs : List (Str × D)}, EntsOk K w es qs → PySem.W.KeysLit w.params es
  | _, _, .nil => trivial
  | _, _, .cons h r => ⟨let ⟨t, e⟩ := h.key; ⟨_, t, e, h.hash⟩, r.lit⟩
theorem EntsOk.find {K : PySem.W.Frag} {w : World} (z : Str) : ∀ {es : List DictEntry} {qs : List (Str × D)}, EntsOk K w es qs →
    match qs.find? (fun q => q.1 == z), es.find? (·.key.isStr z) with
    | some q, some e => ∃ v, RelV v e.val ∧ ∀ α H, RD K α H q.2 v
    | none, none => True
    | _, _ => False
  | _, _, .nil => trivial
  | _, _, .cons (e := e) (q := q) h r => by
    obtain ⟨t, ek⟩ := h.key
    have c : e.key.isStr z = (q.1 == z) := by rw [ek]; rfl
    rw [List.find?_cons, List.find?_cons, c]
    cases b : q.1 == z with
    | true => exact h.val
    | false => exact r.find z
theorem EntsOk.noRef {K : PySem.W.Frag} {w : World} : ∀ {es : List DictEntry} {qs : List (Str × D)}, EntsOk K w es qs → es.any (·.refKey) = false
  | _, _, .nil => rfl
  | _, _, .cons h r => by
    obtain ⟨t, ek⟩ := h.key
    rw [List.any_cons, r.noRef]
    unfold DictEntry.refKey
    rw [ek]; rfl
/-- the table that stands at a name of the text -/
structure TabOk (K : PySem.W.Frag) (w : World) (x : Str) (qs : List (Str × D)) : Prop where
  ex : ∃ (d : Addr) (es : Array DictEntry) (n : Nat), PySem.W.nsIn K mainGlobals x = some (some (.ref d)) ∧ K.lookup d = some ⟨.type "dict", none, .dict es n, #[]⟩ ∧ (d == sysModules) = false ∧ EntsOk K w es.toList qs
def tabAt (qs : List (Str × D)) (z : Str) : Option D := (qs.find? fun q => q.1 == z).map (·.2)
theorem TabOk.at_ {K : PySem.W.Frag} {w : World} {x : Str} {qs : List (Str × D)} {α : List Addr} {H : Hp} {v : V} (h : TabOk K w x qs) (r : RD K α H (.nam x) v) :
    ∃ d es n, v = .ref d ∧ KDict K w d es n ∧ ∀ z, match tabAt qs z with
      | some dv => ∃ u v, PySem.W.nsIn K d z = some (some u) ∧ RelV v u ∧ ∀ α H, RD K α H dv v
      | none => PySem.W.nsIn K d z = some none := by
  obtain ⟨d, es, n, h1, h2, h3, h4⟩ := h.ex
  cases r with
  | nam h1' =>
    rw [h1] at h1'
    cases h1'
    refine ⟨d, es, n, rfl, ⟨h2, h4.lit, h3⟩, fun z => ?_⟩
    have f := h4.find z
    have nr := h4.noRef
    unfold tabAt PySem.W.nsIn
    rw [h2]
    cases qq : qs.find? (fun q => q.1 == z) with
    | none =>
      cases qe : es.toList.find? (·.key.isStr z) with
      | none => simp only [Option.map_none, nr, Bool.false_eq_true, if_false, qe]
      | some e => rw [qq, qe] at f; exact f.elim
    | some q =>
      cases qe : es.toList.find? (·.key.isStr z) with
      | none => rw [qq, qe] at f; exact f.elim
      | some e =>
        rw [qq, qe] at f
        obtain ⟨v, r1, r2⟩ := f
        exact ⟨e.val, v, by simp only [qe], r1, r2⟩
/-- tables by their names -/
abbrev Tabs := List (Str × List (Str × D))
structure TabsOk (K : PySem.W.Frag) (w : World) (T : Tabs) : Prop where
  all : ∀ p ∈ T, TabOk K w p.1 p.2
def tabOf (T : Tabs) (x : Str) : Option (List (Str × D)) := (T.find? fun q => q.1 == x).map (·.2)
theorem TabsOk.of {K : PySem.W.Frag} {w : World} {T : Tabs} (h : TabsOk K w T) {x : Str} {qs : List (Str × D)} (e : tabOf T x = some qs) : TabOk K w x qs := by
  unfold tabOf at e
  cases q : T.find? (fun q => q.1 == x) with
  | none => rw [q] at e; cases e
  | some p =>
    rw [q] at e
    cases e
    have e0 : (p.1 == x) = true := by simpa using List.find?_some q
    have e1 : p.1 = x := eq_of_beq e0
    rw [← e1]
    exact h.all p (List.mem_of_find?_eq_some q)
def oInT (T : Tabs) : O2 := fun a b st => match a, b with
  | .str z, .nam x => match tabOf T x with
    | some qs => .ok (.bl (tabAt qs z).isSome) st
    | none => .no
  | _, _ => .no
def oNotInT (T : Tabs) : O2 := fun a b st => match a, b with
  | .str z, .nam x => match tabOf T x with
    | some qs => .ok (.bl (!(tabAt qs z).isSome)) st
    | none => .no
  | _, _ => .no
def oIxT (T : Tabs) : O2 := fun a b st => match a, b with
  | .nam x, .str z => match tabOf T x with
    | some qs => match tabAt qs z with
      | some d => .ok d st
      | none => .no
    | none => .no
  | _, _ => .no
section
variable {X : Cx} {W : WX} {T : Tabs} {pos : Pos}
theorem od_inT (hT : TabsOk X.K X.w T) : OD2 X (compareOp .In) (oInT T) := by
  intro pins s σ H x y v u Q I rx ry h
  obtain ⟨α, st, a, b, S, ra, rb, h⟩ := h
  unfold oInT at h
  split at h
  · rename_i z n
    split at h
    · rename_i qs e
      have e1 := ra.str_of; subst e1
      obtain ⟨d, es, m, rfl, kd, at_⟩ := (hT.of e).at_ rb
      have := at_ z
      revert this h
      cases tabAt qs z with
      | none => exact fun h q => op_in_kd kd pins s σ H _ _ v u Q I rx ry ⟨z, none, rfl, rfl, q, Fin.here h S (.bl _)⟩
      | some dv => exact fun h ⟨u0, v0, q, _⟩ => op_in_kd kd pins s σ H _ _ v u Q I rx ry ⟨z, some u0, rfl, rfl, q, Fin.here h S (.bl _)⟩
    · exact h.elim
  · exact h.elim
theorem od_notinT (hT : TabsOk X.K X.w T) : OD2 X (compareOp .NotIn) (oNotInT T) := by
  intro pins s σ H x y v u Q I rx ry h
  obtain ⟨α, st, a, b, S, ra, rb, h⟩ := h
  unfold oNotInT at h
  split at h
  · rename_i z n
    split at h
    · rename_i qs e
      have e1 := ra.str_of; subst e1
      obtain ⟨d, es, m, rfl, kd, at_⟩ := (hT.of e).at_ rb
      have := at_ z
      revert this h
      cases tabAt qs z with
      | none => exact fun h q => op_notIn_kd kd pins s σ H _ _ v u Q I rx ry ⟨z, none, rfl, rfl, q, Fin.here h S (.bl _)⟩
      | some dv => exact fun h ⟨u0, v0, q, _⟩ => op_notIn_kd kd pins s σ H _ _ v u Q I rx ry ⟨z, some u0, rfl, rfl, q, Fin.here h S (.bl _)⟩
    · exact h.elim
  · exact h.elim
theorem ix_dT (hT : TabsOk X.K X.w T) : IxR X (rD2 X.K (oIxT T)) := by
  intro value slice pins s σ H x y v u Q I rx ry h hsl
  obtain ⟨α, st, a, b, S, ra, rb, h⟩ := h
  unfold oIxT at h
  split at h
  · rename_i n z
    split at h
    · rename_i qs e
      have e1 := rb.str_of; subst e1
      obtain ⟨d, es, m, rfl, kd, at_⟩ := (hT.of e).at_ ra
      have := at_ z
      revert this h
      cases tabAt qs z with
      | none => exact fun h _ => h.elim
      | some dv => exact fun h ⟨u0, v0, q, rv, rd⟩ => ix_kdict value slice pins s σ H _ _ v u Q I rx ry ⟨d, z, v0, rfl, rfl, ⟨es, m, u0, kd.at_, kd.lit, q, rv⟩, Fin.here h S (rd _ _)⟩ hsl
    · exact h.elim
  · exact h.elim
theorem de_ixT (hT : TabsOk X.K X.w T) {a b : Expr} {ma mb : En → Sto → R D} (ha : DE X W a ma) (hb : DE X W b mb) (hs : PlainIx b) : DE X W (.Subscript a b pos) (m2 (oIxT T) ma mb) := PE.weak (pe_ix (ix_dT hT) ha hb hs) fun _ _ _ => two_of
/-- a name of the text that holds a table or a def, as a value -/
theorem de_globN {x : Str} (hg : Gl X x) (h : ∃ a, X.mg x = some (.ref a) ∧ PySem.W.nsIn X.K mainGlobals x = some (some (.ref a))) (hd : (x == ("__debug__" : Str)) = false := by decide) : DE X W (.Name x pos) (mC (.nam x)) := by
  obtain ⟨a, hm, hn⟩ := h
  exact de_glob (v := .ref a) hg hm rfl (fun _ _ => .nam hn) hd
/-- defs by their names -/
abbrev Defs := List (Str × (List D → Sto → R D))
def defAt (F : Defs) (z : Str) : Option (List D → Sto → R D) := (F.find? fun q => q.1 == z).map (·.2)
/-- what a call of a local name may meet -/
structure CalOk (P : Program) (w : World) (K : PySem.W.Frag) (mg : Str → Option Value) (base : Heap) (k n : Nat) (x : Str) (g : List D → Sto → R D) : Prop where
  ex : ∃ (f : Addr) (fd : FuncData) (ps : List Str), PySem.W.nsIn K mainGlobals x = some (some (.ref f)) ∧ FnG P w K mg base k f fd ps (spD K n g) ∧ PySem.W.keepIn K (.ref f) = true ∧ Binds K fd ps []
noncomputable def mCallL (F : Defs) (i : Nat) (mr : En → Sto → R (List D)) (env : En) (st : Sto) : R D := match env[i]? with
  | some (some (.nam x)) => match defAt F x with
    | some g => mCall g mr env st
    | none => .no
  | _ => .no
theorem de_callL {F : Defs} {k n i : Nat} (hF : ∀ p ∈ F, CalOk X.prog X.w X.K X.mg X.base k n p.1 p.2) {x : Str} {p : Pos} {e : Expr} {es : List Expr} {mr : En → Sto → R (List D)} (hr : RG k X.A) (hN : X.N[i]? = some x) (hv : Vis X.env.scope x) (tk : Takes X W)
    (ha : DA X W (e :: es) mr) (hl : AL n mr) (hdb : (x == ("__debug__" : Str)) = false := by decide) (hcd : (x == ("__classdict__" : Str)) = false := by decide) (he : starEach (e :: es) X.env = (false, eval e X.env) :: starEach es X.env := by rfl) (hpl : (backTo pos (starEach es X.env)).any (·.1) = false := by rfl) :
    DE X W (.Call (.Name x p) (e :: es) [] pos) (mCallL F i mr) := by
  refine ⟨fun pins s σ H Q I h => ?_⟩
  obtain ⟨α, env, st, hE, hS, h⟩ := h
  unfold mCallL at h
  split at h
  · rename_i nm ev
    split at h
    · rename_i g eg
      have hmem : (nm, g) ∈ F := by
        unfold defAt at eg
        cases q : F.find? (fun q => q.1 == nm) with
        | none => rw [q] at eg; cases eg
        | some p =>
          rw [q] at eg
          cases eg
          have e0 : (p.1 == nm) = true := by simpa using List.find?_some q
          have e1 : p.1 = nm := eq_of_beq e0
          rw [← e1]
          exact List.mem_of_find?_eq_some q
      obtain ⟨f, fd, ps, hn, Fn, hk, hb⟩ := (hF _ hmem).ex
      obtain ⟨v0, g1, g2⟩ := hE.2 i _ ev
      have ev0 : v0 = .ref f := by
        cases g2 with
        | nam h1 => rw [hn] at h1; cases h1; rfl
      subst ev0
      refine wpAny_Call_Name_kw (thn ((pe_var (pos := p) hN hv hdb hcd).run pins s σ H (fun v H1 => v = .ref f ∧ H1 = H) I ⟨.ref f, g1, rfl, rfl⟩) fun u s1 ⟨v, H1, I1, r1, q1⟩ => ?_)
      obtain ⟨rfl, rfl⟩ := q1
      cases r1
      refine PySem.W.callWith_K (h₀ := X.base) I.ok.mod.kin hk (thn (ha.run pos pins s1 σ _ (fun vs H1 => ∃ α1 ds st1, SR X.K α1 st1 H1 ∧ RDs X.K α1 H1 ds vs ∧ ds.length = n ∧ GoC X.K α1 H1 Q (WE W σ) (g ds st1)) I1 ⟨α, env, st, hE, hS, ?_⟩) fun us s2 h1 => ?_) he hpl
      · have hlen := hl env st
        have key := Go.bind h
        revert hlen key
        cases mr env st with
        | ok ds st1 => exact fun hlen key α1 H1 p1 k1 s1 vs rvs => ⟨α1, ds, st1, s1, rvs, hlen _ _ rfl, .of_go (key α1 H1 p1 k1 s1)⟩
        | ex x st1 => exact fun _ key => key
        | no => exact fun _ key => key
      · obtain ⟨vs, H1, I2, rv, α1, ds, st1, s1', rd, hlen, q⟩ := h1
        exact ⟨I2.kIn, run_fnG Fn hr hb (passAt tk σ) I2 rv ⟨by rw [← rd.len]; exact hlen, α1, st1, ds, s1', rd, q⟩⟩
    · exact h.elim
  · exact h.elim
/-- a name that the text binds to an object, known to both looks -/
theorem named_of {K : PySem.W.Frag} {h : Heap} {mg : Str → Option Value} {x : Str} {a : Addr} (KX : K.In h) (G : h.Ns mainGlobals mg) (e : PySem.W.nsIn K mainGlobals x = some (some (.ref a))) : ∃ a, mg x = some (.ref a) ∧ PySem.W.nsIn K mainGlobals x = some (some (.ref a)) := ⟨a, PySem.W.mg_of KX G e, e⟩
theorem CalOk.of {P : Program} {w : World} {K : PySem.W.Frag} {mg : Str → Option Value} {base : Heap} {j k n : Nat} {x : Str} {g : List D → Sto → R D} (h : DefOk P w K mg base x n j g) (hle : j ≤ k) (hn : ∃ a, mg x = some (.ref a) ∧ PySem.W.nsIn K mainGlobals x = some (some (.ref a))) : CalOk P w K mg base k n x g := by
  obtain ⟨f, fd, ps, F, hm, hk, hb⟩ := h.ex
  obtain ⟨a, ha, e⟩ := hn
  rw [hm] at ha
  cases ha
  exact ⟨f, fd, ps, e, F.mono hle, hk, hb⟩
/-- all that a table's names may call -/
abbrev CalsOk (P : Program) (w : World) (K : PySem.W.Frag) (mg : Str → Option Value) (base : Heap) (k n : Nat) (F : Defs) : Prop := ∀ p ∈ F, CalOk P w K mg base k n p.1 p.2
theorem cals_nil {P : Program} {w : World} {K : PySem.W.Frag} {mg : Str → Option Value} {base : Heap} {k n : Nat} : CalsOk P w K mg base k n [] := fun p hp => by cases hp
theorem cals_cons {P : Program} {w : World} {K : PySem.W.Frag} {mg : Str → Option Value} {base : Heap} {k n : Nat} {x : Str} {g : List D → Sto → R D} {F : Defs} (h : CalOk P w K mg base k n x g) (r : CalsOk P w K mg base k n F) : CalsOk P w K mg base k n ((x, g) :: F) := fun p hp => by
  rcases List.mem_cons.mp hp with e | hp
  · subst e; exact h
  · exact r p hp
theorem de_fL {F : Defs} {j k n i : Nat} (hF : CalsOk X.prog X.w X.K X.mg X.base j n F) {x : Str} {p : Pos} {e : Expr} {es : List Expr} {mr : En → Sto → R (List D)} (hr : RG k X.A) (hle : j ≤ k) (hN : X.N[i]? = some x) (hv : Vis X.env.scope x) (tk : Takes X W)
    (ha : DA X W (e :: es) mr) (hl : AL n mr) (hdb : (x == ("__debug__" : Str)) = false := by decide) (hcd : (x == ("__classdict__" : Str)) = false := by decide) (he : starEach (e :: es) X.env = (false, eval e X.env) :: starEach es X.env := by rfl) (hpl : (backTo pos (starEach es X.env)).any (·.1) = false := by rfl) :
    DE X W (.Call (.Name x p) (e :: es) [] pos) (mCallL F i mr) := de_callL hF (hr.mono hle) hN hv tk ha hl hdb hcd he hpl
theorem tab_of {K : PySem.W.Frag} {w : World} {x : Str} {qs : List (Str × D)} {d : Addr} {es : Array DictEntry} {n : Nat} (e1 : PySem.W.nsIn K mainGlobals x = some (some (.ref d))) (e2 : K.lookup d = some ⟨.type "dict", none, .dict es n, #[]⟩) (e3 : (d == sysModules) = false) (e4 : EntsOk K w es.toList qs) : TabOk K w x qs := ⟨d, es, n, e1, e2, e3, e4⟩
theorem tabs_nil {K : PySem.W.Frag} {w : World} : TabsOk K w [] := ⟨fun p hp => by cases hp⟩
theorem tabs_cons {K : PySem.W.Frag} {w : World} {x : Str} {qs : List (Str × D)} {T : Tabs} (h : TabOk K w x qs) (r : TabsOk K w T) : TabsOk K w ((x, qs) :: T) := ⟨fun p hp => by
  rcases List.mem_cons.mp hp with e | hp
  · subst e; exact h
  · exact r.all p hp⟩
end
end DL
set_option Elab.async false
set_option linter.all false
set_option maxRecDepth 100000
/-! least and greatest of a tuple or a list of ints, with default= too. -/
namespace DL
open PySem PySem.Spec PyProof.Rows L2 PySem.W
theorem alike_ints' (ns : List Int) : AlikeAll (ns.map PyData.int) := by
  refine ⟨fun x hx y hy => ?_, fun x hx e => ?_⟩
  · obtain ⟨i, _, rfl⟩ := List.mem_map.mp hx
    obtain ⟨j, _, rfl⟩ := List.mem_map.mp hy
    rfl
  · obtain ⟨i, _, rfl⟩ := List.mem_map.mp hx
    cases e
theorem depth_ints' : ∀ ns : List Int, PyData.depthAll (ns.map PyData.int) = 0
  | [] => rfl
  | n :: ns => by simp [PyData.depthAll, PyData.depth, depth_ints' ns]
theorem reads_ints {h : Heap} : ∀ {ns : List Int} {its : List Value}, Vals (ns.map V.int) its → ∃ as, ReadsAll h its (ns.map PyData.int) as
  | [], its, r => by cases r; exact ⟨_, .nil⟩
  | n :: ns, its, r => by
    cases r with
    | cons a b =>
      obtain ⟨as, q⟩ := reads_ints (h := h) b
      obtain ⟨t, rfl⟩ := a
      exact ⟨_, .cons (.int n t) q⟩
theorem read_int {h : Heap} {v : Value} {m : Int} {bs : List Addr} (r : Reads h v (.int m) bs) : ∃ t, v = .int m t := by
  cases r
  exact ⟨_, rfl⟩
section
variable {X : Cx}
/-- ints that can be walked: a list's, a tuple's -/
def intsAt (st : Sto) : D → Option (List Int)
  | .tup xs => intsOf xs
  | .ref r => (rdL st r).bind intsOf
  | _ => none
def bMinA : List D → Sto → R D := fun ds st => match ds with
  | [d] => match (intsAt st d).bind minI with
    | some m => .ok (.int m) st
    | none => .no
  | _ => .no
def bMaxA : List D → Sto → R D := fun ds st => match ds with
  | [d] => match (intsAt st d).bind maxI with
    | some m => .ok (.int m) st
    | none => .no
  | _ => .no
theorem ints_at {pins : List (Addr × Obj)} {s : Shared} {σ : L2.St} {H : Hp} {α : List Addr} {st : Sto} {d : D} {v : V} {ns : List Int} (I : Inv X pins σ H s) (S : SR X.K α st H) (r : RD X.K α H d v) (e : intsAt st d = some ns) :
    ∃ p its, v = .ref p ∧ Vals (ns.map V.int) its ∧ (s.heap.IsList p its.toArray ∨ s.heap.IsTuple p its.toArray) := by
  cases d with
  | tup xs =>
    obtain ⟨p, ws, rfl, t1, r1⟩ := r.tup_of
    have e' : intsOf xs = some ns := e
    rw [intsOf_map e'] at r1
    rw [r1.toInts] at t1
    obtain ⟨its, rv, ⟨o, ho, hc, n, hd⟩, _⟩ := I.tuple t1
    exact ⟨p, its, rfl, rv, .inr ⟨o, ho, hc, n, hd⟩⟩
  | ref q =>
    obtain ⟨p, rfl, a1⟩ := r.ref_of
    obtain ⟨xs, e1, e2⟩ := Option.bind_eq_some_iff.mp (show (rdL st q).bind intsOf = some ns from e)
    obtain ⟨ws, h0, r1⟩ := S.l e1 a1
    rw [intsOf_map e2] at r1
    rw [r1.toInts] at h0
    obtain ⟨its, rv, hl, _⟩ := I.list h0
    exact ⟨p, its, rfl, rv, .inl hl.isList⟩
  | _ => cases e
theorem cd_minA (hc : X.calm = true) (hu : X.A.units + 66 < cLine) : CDs X (.builtin "min") bMinA := by
  intro pins s σ H vs us Q I rv h
  obtain ⟨α, st, ds, S, rd, h⟩ := h
  unfold bMinA at h
  split at h
  · split at h
    · rename_i m e
      obtain ⟨ns, e0, e3⟩ := Option.bind_eq_some_iff.mp e
      obtain ⟨v, rfl, r⟩ := rd.one
      obtain ⟨p, its, rfl, rvs, c⟩ := ints_at I S r e0
      rw [Vals.ref1 rv]
      cases ns with
      | nil => cases e3
      | cons a l =>
        have em : m = l.foldl min a := (Option.some.inj e3).symm
        obtain ⟨as, ra⟩ := reads_ints (h := s.heap) rvs
        have hd : X.A.units + 1 + PyData.depthAll (PyData.int a :: l.map PyData.int) < cLine := by
          have := depth_ints' (a :: l)
          rw [List.map_cons] at this
          rw [this]; omega
        have fin : ∀ (i : Nat) v h' tk bs, its.toArray[i]? = some v → Reads h' v (minD (.int a) (l.map .int)) bs → (∀ b o, s.heap.get? b = some o → h'.get? b = some o) → EP X pins σ Q v { s with heap := h', toks := tk } := by
          intro i v h' tk bs _ r hk
          rw [minD_ints] at r
          obtain ⟨t, rfl⟩ := read_int r
          rw [← em]
          exact ⟨.int m, H, I.kept hk, ⟨t, rfl⟩, Fin.here h S (.int _)⟩
        rcases c with c | c
        · exact min_list_data (I.ok.hd hc) c (by simpa using ra) (alike_ints' (a :: l)) hd fin
        · exact min_tuple_data (I.ok.hd hc) c (by simpa using ra) (alike_ints' (a :: l)) hd fin
    · exact h.elim
  · exact h.elim
theorem cd_maxA (hc : X.calm = true) (hu : X.A.units + 66 < cLine) : CDs X (.builtin "max") bMaxA := by
  intro pins s σ H vs us Q I rv h
  obtain ⟨α, st, ds, S, rd, h⟩ := h
  unfold bMaxA at h
  split at h
  · split at h
    · rename_i m e
      obtain ⟨ns, e0, e3⟩ := Option.bind_eq_some_iff.mp e
      obtain ⟨v, rfl, r⟩ := rd.one
      obtain ⟨p, its, rfl, rvs, c⟩ := ints_at I S r e0
      rw [Vals.ref1 rv]
      cases ns with
      | nil => cases e3
      | cons a l =>
        have em : m = l.foldl max a := (Option.some.inj e3).symm
        obtain ⟨as, ra⟩ := reads_ints (h := s.heap) rvs
        have hd : X.A.units + 1 + PyData.depthAll (PyData.int a :: l.map PyData.int) < cLine := by
          have := depth_ints' (a :: l)
          rw [List.map_cons] at this
          rw [this]; omega
        have fin : ∀ (i : Nat) v h' tk bs, its.toArray[i]? = some v → Reads h' v (maxD (.int a) (l.map .int)) bs → (∀ b o, s.heap.get? b = some o → h'.get? b = some o) → EP X pins σ Q v { s with heap := h', toks := tk } := by
          intro i v h' tk bs _ r hk
          rw [maxD_ints] at r
          obtain ⟨t, rfl⟩ := read_int r
          rw [← em]
          exact ⟨.int m, H, I.kept hk, ⟨t, rfl⟩, Fin.here h S (.int _)⟩
        rcases c with c | c
        · exact max_list_data (I.ok.hd hc) c (by simpa using ra) (alike_ints' (a :: l)) hd fin
        · exact max_tuple_data (I.ok.hd hc) c (by simpa using ra) (alike_ints' (a :: l)) hd fin
    · exact h.elim
  · exact h.elim
end
end DL
set_option Elab.async false
set_option linter.all false
set_option maxRecDepth 100000
/-! Calls of built-ins with keywords; least and greatest with default=. -/
namespace DL
open PySem PySem.Spec PyProof.Rows L2 PySem.W
section
variable {X : Cx} {W : WX} {pos : Pos} {e : Expr} {es : List Expr} {kws : List Keyword} {me : En → Sto → R D} {mr mk : En → Sto → R (List D)}
abbrev DK (X : Cx) (W : WX) (kws : List Keyword) (m : En → Sto → R (List D)) : Prop := PK X kws (tA X.K W m)
theorem PK.weak {kws : List Keyword} {t t' : TA} (h : PK X kws t) (f : ∀ σ H Q, t' σ H Q → t σ H Q) : PK X kws t' := ⟨fun pos pins s σ H Q I hw => h.run pos pins s σ H Q I (f σ H Q hw)⟩
theorem dk_nil : DK X W [] aNil := by
  refine PK.weak pk_nil fun σ H Q h => ?_
  obtain ⟨α, env, st, hE, hS, h⟩ := h
  exact h.here hS _ .nil
theorem dk_cons {nm : Option Str} {kpos : Pos} (ha : DE X W e me) (hr : DK X W kws mk) : DK X W (⟨nm, e, kpos⟩ :: kws) (aCons me mk) := by
  refine PK.weak (pk_cons ha hr) fun σ H Q h => ?_
  obtain ⟨α, env, st, hE, hS, h⟩ := h
  refine ⟨α, env, st, hE, hS, h.bind.mono fun x st1 α1 H1 p1 k1 s1 h1 v rv => ?_⟩
  refine ⟨α1, env, st1, hE.mono p1 k1, s1, h1.bind.mono fun xs st2 α2 H2 p2 k2 s2 h2 vs rvs => ?_⟩
  exact h2.here s2 _ (.cons (rv.mono p2 k2) rvs)
def rDsK (K : PySem.W.Frag) (f : List D → List D → Sto → R D) : List V → List V → Hp → VK → Prop := fun vs ws H Q => ∃ α st ds es, SR K α st H ∧ RDs K α H ds vs ∧ RDs K α H es ws ∧ Rw (f ds es st) fun d st' => Fin K α H Q d st'
def mFnK (f : List D → List D → Sto → R D) (mr mk : En → Sto → R (List D)) (env : En) (st : Sto) : R D := (mr env st).bind fun xs st1 => (mk env st1).bind fun zs st2 => noEx (f xs zs st2)
theorem fnK_of {K : PySem.W.Frag} {f : List D → List D → Sto → R D} {σ : L2.St} {H : Hp} {Q : VK} (h : tE K W (mFnK f mr mk) σ H Q) : tCKw (rDsK K f) (tA K W mr) (tA K W mk) σ H Q := by
  obtain ⟨α, env, st, hE, hS, h⟩ := h
  refine ⟨α, env, st, hE, hS, h.bind.mono fun xs st1 α1 H1 p1 k1 s1 h1 vs rvs => ?_⟩
  refine ⟨α1, env, st1, hE.mono p1 k1, s1, h1.bind.mono fun zs st2 α2 H2 p2 k2 s2 h2 ws rws => ?_⟩
  exact ⟨α2, st2, xs, zs, s2, rvs.mono p2 k2, rws, h2.rw.mono fun d st3 q α' H' w p k s rw => q α' H' p k s w rw⟩
theorem de_callK {x : Str} {id : String} {ks : List Str} {f : List D → List D → Sto → R D} {p : Pos} (hc : CallRK X (.builtin id) ks (rDsK X.K f)) (hg : Gl X x) (hm : X.mg x = none) (hv : bootBuiltins x = some (.builtin id)) (ha : DA X W (e :: es) mr) (hk : DK X W kws mk) (hn : x ≠ "__name__" := by decide) (hdb : (x == ("__debug__" : Str)) = false := by decide)
    (he : backTo pos (starEach (e :: es) X.env) = (false, eval e X.env) :: backTo pos (starEach es X.env) := by rfl) (hpl : (backTo pos (starEach (e :: es) X.env)).any (·.1) = false := by rfl)
    (hall : (backToKw pos (keywordEach kws X.env)).all (·.1.isSome) = true := by rfl) (hnone : (backToKw pos (keywordEach kws X.env)).any (·.1.isNone) = false := by rfl) (hks : (backToKw pos (keywordEach kws X.env)).filterMap (·.1) = ks := by rfl) :
    DE X W (.Call (.Name x p) (e :: es) kws pos) (mFnK f mr mk) := PE.weak (pe_callBK hc hg hm hv ha hk hn hdb he hpl hall hnone hks) fun _ _ _ => fnK_of
def bMinK : List D → List D → Sto → R D := fun ds es st => match ds, es with
  | [d], [z] => match intsAt st d with
    | some ns => match minI ns with
      | some m => .ok (.int m) st
      | none => .ok z st
    | none => .no
  | _, _ => .no
def bMaxK : List D → List D → Sto → R D := fun ds es st => match ds, es with
  | [d], [z] => match intsAt st d with
    | some ns => match maxI ns with
      | some m => .ok (.int m) st
      | none => .ok z st
    | none => .no
  | _, _ => .no
theorem cdk_min (hc : X.calm = true) (hu : X.A.units + 66 < cLine) : CallRK X (.builtin "min") [Str.ofString "default"] (rDsK X.K bMinK) := by
  intro pins s σ H xs zs us ws Q I rv rw' h
  obtain ⟨α, st, ds, es, S, rd, re, h⟩ := h
  unfold bMinK at h
  split at h
  · rename_i d z
    split at h
    · rename_i ns e0
      obtain ⟨v, rfl, r⟩ := rd.one
      obtain ⟨v2, rfl, r2⟩ := re.one
      obtain ⟨p, its, rfl, rvs, c⟩ := ints_at I S r e0
      rw [Vals.ref1 rv]
      obtain ⟨u2, rfl, ru2⟩ := vals1 rw'
      obtain ⟨as, ra⟩ := reads_ints (h := s.heap) rvs
      have hd : X.A.units + 1 + PyData.depthAll (ns.map PyData.int) < cLine := by rw [depth_ints']; omega
      have f0 : ns.map PyData.int = [] → ∀ h' tk, (∀ b o, s.heap.get? b = some o → h'.get? b = some o) → EP X pins σ Q u2 { s with heap := h', toks := tk } := by
        intro en h' tk hk
        have en' : ns = [] := by simpa using en
        subst en'
        exact ⟨v2, H, I.kept hk, ru2, Fin.here h S r2⟩
      have f1 : ∀ (y : PyData) (ys : List PyData) (i : Nat) v h' tk bs, ns.map PyData.int = y :: ys → its.toArray[i]? = some v → Reads h' v (minD y ys) bs → (∀ b o, s.heap.get? b = some o → h'.get? b = some o) → EP X pins σ Q v { s with heap := h', toks := tk } := by
        intro y ys i v h' tk bs en _ r hk
        cases ns with
        | nil => cases en
        | cons a l =>
          cases en
          rw [minD_ints] at r
          obtain ⟨t, rfl⟩ := read_int r
          exact ⟨.int _, H, I.kept hk, ⟨t, rfl⟩, Fin.here h S (.int _)⟩
      rcases c with c | c
      · exact min_list_default (I.ok.hd hc) c (by simpa using ra) (alike_ints' ns) hd f0 f1
      · exact min_tuple_default (I.ok.hd hc) c (by simpa using ra) (alike_ints' ns) hd f0 f1
    · exact h.elim
  · exact h.elim
theorem cdk_max (hc : X.calm = true) (hu : X.A.units + 66 < cLine) : CallRK X (.builtin "max") [Str.ofString "default"] (rDsK X.K bMaxK) := by
  intro pins s σ H xs zs us ws Q I rv rw' h
  obtain ⟨α, st, ds, es, S, rd, re, h⟩ := h
  unfold bMaxK at h
  split at h
  · rename_i d z
    split at h
    · rename_i ns e0
      obtain ⟨v, rfl, r⟩ := rd.one
      obtain ⟨v2, rfl, r2⟩ := re.one
      obtain ⟨p, its, rfl, rvs, c⟩ := ints_at I S r e0
      rw [Vals.ref1 rv]
      obtain ⟨u2, rfl, ru2⟩ := vals1 rw'
      obtain ⟨as, ra⟩ := reads_ints (h := s.heap) rvs
      have hd : X.A.units + 1 + PyData.depthAll (ns.map PyData.int) < cLine := by rw [depth_ints']; omega
      have f0 : ns.map PyData.int = [] → ∀ h' tk, (∀ b o, s.heap.get? b = some o → h'.get? b = some o) → EP X pins σ Q u2 { s with heap := h', toks := tk } := by
        intro en h' tk hk
        have en' : ns = [] := by simpa using en
        subst en'
        exact ⟨v2, H, I.kept hk, ru2, Fin.here h S r2⟩
      have f1 : ∀ (y : PyData) (ys : List PyData) (i : Nat) v h' tk bs, ns.map PyData.int = y :: ys → its.toArray[i]? = some v → Reads h' v (maxD y ys) bs → (∀ b o, s.heap.get? b = some o → h'.get? b = some o) → EP X pins σ Q v { s with heap := h', toks := tk } := by
        intro y ys i v h' tk bs en _ r hk
        cases ns with
        | nil => cases en
        | cons a l =>
          cases en
          rw [maxD_ints] at r
          obtain ⟨t, rfl⟩ := read_int r
          exact ⟨.int _, H, I.kept hk, ⟨t, rfl⟩, Fin.here h S (.int _)⟩
      rcases c with c | c
      · exact max_list_default (I.ok.hd hc) c (by simpa using ra) (alike_ints' ns) hd f0 f1
      · exact max_tuple_default (I.ok.hd hc) c (by simpa using ra) (alike_ints' ns) hd f0 f1
    · exact h.elim
  · exact h.elim
end
end DL
set_option Elab.async false
set_option linter.all false
set_option maxRecDepth 100000
/-! A call whose callee is told by an expression (an entry of a table). -/
namespace DL
open PySem PySem.Spec PyProof.Rows L2 PySem.W StX
noncomputable def mCallE (F : Defs) (mf : En → Sto → R D) (mr : En → Sto → R (List D)) (env : En) (st : Sto) : R D := (mf env st).bind fun d st1 => match d with
  | .nam x => match defAt F x with
    | some g => mCall g mr env st1
    | none => .no
  | _ => .no
theorem defAt_mem {F : Defs} {nm : Str} {g : List D → Sto → R D} (eg : defAt F nm = some g) : (nm, g) ∈ F := by
  unfold defAt at eg
  cases q : F.find? (fun q => q.1 == nm) with
  | none => rw [q] at eg; cases eg
  | some p =>
    rw [q] at eg
    cases eg
    have e0 : (p.1 == nm) = true := by simpa using List.find?_some q
    have e1 : p.1 = nm := eq_of_beq e0
    rw [← e1]
    exact List.mem_of_find?_eq_some q
section
variable {X : Cx} {W : WX} {pos : Pos}
theorem de_fE {F : Defs} {j k n : Nat} (hF : CalsOk X.prog X.w X.K X.mg X.base j n F) {fe e : Expr} {es : List Expr} {mf : En → Sto → R D} {mr : En → Sto → R (List D)} (hf : DE X W fe mf) (hr : RG k X.A) (hle : j ≤ k) (tk : Takes X W)
    (ha : DA X W (e :: es) mr) (hl : AL n mr)
    (ht : eval (.Call fe (e :: es) [] pos) X.env = (do callWith pos (← eval fe X.env) [] (backTo pos (starEach (e :: es) X.env)) (backToKw pos (keywordEach [] X.env))) := by rfl)
    (he : starEach (e :: es) X.env = (false, eval e X.env) :: starEach es X.env := by rfl) (hpl : (backTo pos (starEach es X.env)).any (·.1) = false := by rfl) :
    DE X W (.Call fe (e :: es) [] pos) (mCallE F mf mr) := by
  refine ⟨fun pins s σ H Q I h => ?_⟩
  obtain ⟨α, env, st, hE, hS, h⟩ := h
  refine Call_ (thn (hf.run pins s σ H (fun v H1 => ∃ (f : Addr) (fd : FuncData) (ps : List Str) (g : List D → Sto → R D) (α1 : List Addr) (st1 : Sto), v = .ref f ∧ FnG X.prog X.w X.K X.mg X.base j f fd ps (spD X.K n g) ∧ PySem.W.keepIn X.K (.ref f) = true ∧ Binds X.K fd ps [] ∧
    ER X.K α1 env σ H1 ∧ SR X.K α1 st1 H1 ∧ Go X.K W α1 H1 σ (mCall g mr env st1) fun d _ α' H' => ∀ v, RD X.K α' H' d v → Q v H') I ⟨α, env, st, hE, hS, ?_⟩) fun u s1 ⟨v, H1, I1, r1, f, fd, ps, g, α1, st1, ev, Fn, hk, hb, hE1, hS1, q⟩ => ?_) ht
  · refine h.bind.mono fun d st1 α1 H1 p1 k1 s1 h1 v rv => ?_
    split at h1
    · rename_i nm
      split at h1
      · rename_i g eg
        obtain ⟨f, fd, ps, hn, Fn, hk, hb⟩ := (hF _ (defAt_mem eg)).ex
        cases rv with
        | nam h2 =>
          rw [hn] at h2
          cases h2
          exact ⟨f, fd, ps, g, α1, st1, rfl, Fn, hk, hb, hE.mono p1 k1, s1, h1⟩
      · exact h1.elim
    · exact h1.elim
  · subst ev
    obtain rfl : u = Value.ref f := r1
    refine PySem.W.callWith_K (h₀ := X.base) I1.ok.mod.kin hk (thn (ha.run pos pins s1 σ H1 (fun vs H2 => ∃ α2 ds st2, SR X.K α2 st2 H2 ∧ RDs X.K α2 H2 ds vs ∧ ds.length = n ∧ GoC X.K α2 H2 Q (WE W σ) (g ds st2)) I1 ⟨α1, env, st1, hE1, hS1, ?_⟩) fun us s2 h1 => ?_) he hpl
    · have hlen := hl env st1
      have key := Go.bind q
      revert hlen key
      cases mr env st1 with
      | ok ds st2 => exact fun hlen key α2 H2 p2 k2 s2 vs rvs => ⟨α2, ds, st2, s2, rvs, hlen _ _ rfl, .of_go (key α2 H2 p2 k2 s2)⟩
      | ex x st2 => exact fun _ key => key
      | no => exact fun _ key => key
    · obtain ⟨vs, H2, I2, rv, α2, ds, st2, s2', rd, hlen, q2⟩ := h1
      exact ⟨I2.kIn, run_fnG Fn (hr.mono hle) hb (passAt tk σ) I2 rv ⟨by rw [← rd.len]; exact hlen, α2, st2, ds, s2', rd, q2⟩⟩
end
end DL
set_option Elab.async false
set_option linter.all false
set_option maxRecDepth 100000
/-! isinstance of data and a built-in type. -/
namespace DL
open PySem PySem.Spec PyProof.Rows L2
def kinds6 : List String := ["NoneType", "bool", "int", "str", "tuple", "list", "dict"]
def types5 : List String := ["int", "str", "tuple", "bool", "list"]
def isT (n T : String) : Option Bool := if n ∈ kinds6 ∧ T ∈ types5 then some (n == T || (n == "bool" && T == "int")) else none
theorem kit_one {K : PySem.W.Frag} {n T : String} {b : Bool} (h : isT n T = some b) : PySem.W.kitOne K (.type n) (.type T) = some b := by
  unfold isT at h
  split at h
  · rename_i q
    obtain ⟨q1, q2⟩ := q
    cases h
    simp only [kinds6, types5, List.mem_cons, List.not_mem_nil, or_false] at q1 q2
    rcases q1 with rfl | rfl | rfl | rfl | rfl | rfl | rfl <;> rcases q2 with rfl | rfl | rfl | rfl | rfl <;> rfl
  · cases h
theorem tyx_tup {K : PySem.W.Frag} {H : Hp} {a : Addr} {xs : List V} (h : SqT K H a xs) : TyX K H (.ref a) (.type "tuple") := by
  rcases h with (h | ⟨o, h⟩) | h
  · exact .base (.tup h)
  · exact .fTuple h
  · obtain ⟨o, _, _, h1, h2, _⟩ := h
    exact .kTuple h1 h2
theorem tyx_lst {K : PySem.W.Frag} {H : Hp} {a : Addr} {xs : List V} (h : SqL K H a xs) : TyX K H (.ref a) (.type "list") := by
  rcases h with (h | ⟨o, h⟩) | h
  · exact .base (.lst h)
  · exact .base (.frz h)
  · obtain ⟨o, _, _, h1, h2, _⟩ := h
    exact .kList h1 h2
def bIsInst : List D → Sto → R D := fun ds st => match ds with
  | [d, .ty T] => match (kindD st d).bind fun n => isT n T with
    | some b => .ok (.bl b) st
    | none => .no
  | _ => .no
section
variable {X : Cx}
theorem tyx_of {α : List Addr} {H : Hp} {st : Sto} {d : D} {v : V} {n : String} (S : SR X.K α st H) (r : RD X.K α H d v) (e : kindD st d = some n) : TyX X.K H v (.type n) := by
  cases d with
  | non => cases r; cases e; exact .base .non
  | bl b => cases r; cases e; exact .base (.bl b)
  | int i => cases r; cases e; exact .base (.int i)
  | str x => cases r; cases e; exact .base (.str x)
  | tup xs =>
    cases e
    obtain ⟨p, ws, rfl, t1, r1⟩ := r.tup_of
    exact tyx_tup t1
  | ref q =>
    obtain ⟨p, rfl, a1⟩ := r.ref_of
    have e' : (match rdL st q with
      | some _ => some "list"
      | none => if isEmp st q then some "dict" else none) = some n := e
    split at e'
    · rename_i xs e1
      cases e'
      obtain ⟨ws, h0, r1⟩ := S.l e1 a1
      exact tyx_lst h0
    · split at e'
      · rename_i e1
        cases e'
        exact .base (.dK (S.e e1 a1))
      · cases e'
  | _ => cases e
theorem cd_isinst : CDs X (.builtin "isinstance") bIsInst := by
  intro pins s σ H vs us Q I rv h
  obtain ⟨α, st, ds, S, rd, h⟩ := h
  unfold bIsInst at h
  split at h
  · rename_i d T
    split at h
    · rename_i b e
      obtain ⟨n, e1, e2⟩ := Option.bind_eq_some_iff.mp e
      cases rd with
      | cons r1 rr =>
        cases rr with
        | cons r2 r3 =>
          cases r3
          have et := r2.ty_of
          subst et
          exact call_isi pins s σ H _ us Q I rv ⟨_, _, .type n, .type T, b, rfl, .ty T, tyx_of S r1 e1, kit_one e2, Fin.here h S (.bl _)⟩
    · exact h.elim
  · exact h.elim
end
end DL
set_option Elab.async false
set_option linter.all false
set_option maxRecDepth 100000
/-! a, b, .. = a tuple or a list of that length; the names of a table in their order. -/
namespace DL
open PySem PySem.Spec PyProof.Rows L2
section
variable {X : Cx} {W : WX} {pos : Pos}
theorem PG.either {e : Expr} {t t' : TG} (h : PG X e t) (h' : PG X e t') : PG X e (fun v σ H Q => t v σ H Q ∨ t' v σ H Q) := ⟨fun pins s σ H v u Q I r hw => hw.elim (h.run pins s σ H v u Q I r) (h'.run pins s σ H v u Q I r)⟩
def gSeq (gs : List D → En → Sto → Option (En × Sto)) (n : Nat) : GT := fun d env st => match d with
  | .tup xs => if xs.length = n then gs xs env st else none
  | .ref r => match rdL st r with
    | some xs => if xs.length = n then gs xs env st else none
    | none => none
  | _ => none
theorem dg_seq {es : List Expr} {k : Nat} {vs : List Nat} {gs : List D → En → Sto → Option (En × Sto)} {n : Nat} (hc : X.calm = true) (h : DGs X es vs gs)
    (hn : (assignEach es X.env).length = n := by rfl) (hst : (assignEach es X.env).findIdx? (·.1) = none := by rfl) : DG X (.Tuple es k pos) vs (gSeq gs n) := by
  refine PG.weak (PG.either (pg_tup hc h hn hst) (pg_lst hc h hn hst)) fun v σ H Q h => ?_
  obtain ⟨α, env, st, d, hE, hS, r, h⟩ := h
  unfold gSeq at h
  cases d with
  | tup xs =>
    obtain ⟨a, us, rfl, t1, r1⟩ := r.tup_of
    by_cases hl : xs.length = n
    · simp only [hl, if_true] at h
      exact .inl ⟨a, us, rfl, t1, by rw [← r1.len]; exact hl, α, env, st, xs, hE, hS, r1, h⟩
    · simp only [hl, if_false] at h
  | ref q =>
    obtain ⟨p, rfl, a1⟩ := r.ref_of
    cases e1 : rdL st q with
    | none => simp only [e1] at h
    | some xs =>
      obtain ⟨us, h0, r1⟩ := hS.l e1 a1
      by_cases hl : xs.length = n
      · simp only [e1, hl, if_true] at h
        exact .inr ⟨p, us, rfl, h0, by rw [← r1.len]; exact hl, α, env, st, xs, hE, hS, r1, h⟩
      · simp only [e1, hl, if_false] at h
  | _ => exact h.elim
end
end DL
set_option Elab.async false
set_option linter.all false
set_option maxRecDepth 100000
/-! A constant tuple of the module, by what stands there. -/
namespace DL
open PySem PySem.Spec PyProof.Rows L2
theorem glob_tup_of {K : PySem.W.Frag} {h : Heap} {mg : Str → Option Value} {x : Str} {a : Addr} {its : Array Value} {n : Nat} {sl : Array (Option Value)} {ds : List D} (KX : K.In h) (G : h.Ns mainGlobals mg) (e1 : PySem.W.nsIn K mainGlobals x = some (some (.ref a)))
    (e2 : K.lookup a = some ⟨.type "tuple", none, .seq its n, sl⟩) (e3 : its.size ≤ sizeLine) (e4 : ∃ vs, Vals vs its.toList ∧ ∀ α H, RDs K α H ds vs) : ∃ a, mg x = some (.ref a) ∧ ∀ α H, RD K α H (.tup ds) (.ref a) := by
  obtain ⟨vs, h1, h2⟩ := e4
  exact ⟨a, PySem.W.mg_of KX G e1, fun α H => .tup (.inr ⟨_, its, n, e2, rfl, rfl, rfl, e3, h1⟩) (h2 α H)⟩
end DL
set_option Elab.async false
set_option linter.all false
set_option maxRecDepth 100000
/-! Two targets; x *= y; xs[::-1]. -/
namespace DL
open PySem PySem.Spec PyProof.Rows L2
section
variable {X : Cx} {W : WX} {pos : Pos} {e : Expr} {me : En → Sto → R D}
/-- t1 = t2 = e -/
def sAsg2 (m : En → Sto → R D) (g1 g2 : GT) (env : En) (st : Sto) : RS := (m env st).toS env fun d st1 => match g1 d env st1 with
  | some (env1, st2) => match g2 d env1 st2 with
    | some (env2, st3) => .nx env2 st3
    | none => .no
  | none => .no
theorem ds_asg2 {t1 t2 : Expr} {v1 v2 : List Nat} {g1 g2 : GT} (he : DE X W e me) (h1 : DG X t1 v1 g1) (h2 : DG X t2 v2 g2) (ha : (assignEach [t1, t2] X.env).map (·.2) = [assign t1 X.env, assign t2 X.env] := by rfl) (hw : swappedStores [t1, t2] e X.env = pure none := by rfl) :
    DS X W (.Assign [t1, t2] e pos) (sAsg2 me g1 g2) := by
  refine PS.weak (ps_asg2 he h1 h2 ha hw) fun Dn σ H h => ?_
  obtain ⟨α, env, st, hE, hS, h⟩ := h
  refine ⟨α, env, st, hE, hS, (h.toGo hE).mono fun d st1 α1 H1 p1 k1 s1 h1 v rv => ?_⟩
  refine ⟨α1, env, st1, d, hE.mono p1 k1, s1, rv, ?_⟩
  revert h1
  cases g1 d env st1 with
  | none => exact fun h => h
  | some p =>
    intro h1 α2 σ2 H2 p2 k2 s2 e2 _
    refine ⟨α2, p.1, p.2, d, e2, s2, rv.mono p2 k2, ?_⟩
    revert h1
    dsimp only
    cases g2 d p.1 p.2 with
    | none => exact fun h => h
    | some q => exact fun h1 α' σ' H' p k s e _ => h1 α' σ' H' (p2.trans p) (k2.trans k) s e
/-- x *= y, ints -/
def oMulI : O2 := fun a b st => match a, b with
  | .int i, .int j => if Small i ∨ Small j then .ok (.int (i * j)) st else .no
  | _, _ => .no
theorem pd_mul : PIp X .Mult (rD2 X.K oMulI) := by
  intro pins s σ H x y v u Q I rx ry h
  obtain ⟨α, st, a, b, S, ra, rb, h⟩ := h
  unfold oMulI at h
  split at h
  · have e1 := ra.int_of; have e2 := rb.int_of; subst e1; subst e2
    split at h
    · rename_i i j hs
      obtain ⟨t, rfl⟩ := rx
      obtain ⟨t', rfl⟩ := ry
      exact imul_int ⟨.int _, H, I.tok _, ⟨_, rfl⟩, Fin.here h S (.int _)⟩ (CMul.ok (show CMul i j from hs))
    · exact h.elim
  · exact h.elim
/-- xs[::-1] -/
def mRev (ma : En → Sto → R D) (env : En) (st : Sto) : R D := (ma env st).bind fun x st1 => match x with
  | .ref r => match rdL st1 r with
    | some xs => .ok (.ref st1.length) (st1 ++ [.lst xs.reverse])
    | none => .no
  | _ => .no
theorem de_revL {a : Expr} {ma : En → Sto → R D} {k : Nat} {p1 p2 p3 : Pos} (ha : DE X W a ma) : DE X W (.Subscript a (.Slice none none (some (.UnaryOp .USub (.Constant (.int 1) k p1) p2)) p3) pos) (mRev ma) := by
  refine PE.weak (pe_revL ha) fun σ H Q h => ?_
  obtain ⟨α, env, st, hE, hS, h⟩ := h
  refine ⟨α, env, st, hE, hS, h.bind.mono fun x st1 α1 H1 p1 k1 s1 h1 v rv => ?_⟩
  split at h1
  · rename_i r
    obtain ⟨q, rfl, a1⟩ := rv.ref_of
    split at h1
    · rename_i xs e1
      obtain ⟨us, h0, r1⟩ := s1.l e1 a1
      exact ⟨q, us, rfl, h0, fun p hp => lst_end s1 r1.rev hp h1⟩
    · exact h1.elim
  · exact h1.elim
end
end DL
namespace DL
open PySem PySem.Spec PyProof.Rows L2
section
variable {X : Cx} {W : WX} {pos : Pos} {a b c d : Expr} {ma mb mc md : En → Sto → R D}
/-- a op b op' c op'' d, as a test -/
def tChain3 (r r' r'' : R2) (ta tb tc td : TE) : TE := fun σ H Q => ta σ H fun x G1 => tb σ G1 fun y G2 => r x y G2 fun z G3 => ∃ k, z = .bl k ∧
  (if k = true then tc σ G3 fun w' G4 => r' y w' G4 fun z2 G5 => ∃ k2, z2 = .bl k2 ∧ (if k2 = true then td σ G5 fun u' G6 => r'' w' u' G6 Q else Q (.bl false) G5) else Q (.bl false) G3)
theorem pt_chain3 {op op' op'' : CmpOp} {r r' r'' : R2} {ta tb tc td : TE} (ho : OpR X (compareOp op) r) (ho' : OpR X (compareOp op') r') (ho'' : OpR X (compareOp op'') r'') (ha : PE X a ta) (hb : PE X b tb) (hc : PE X c tc) (hd : PE X d td)
    (hm : lastMarks [op, op', op''] [b, c, d] = false := by with_unfolding_all rfl) : PT X (.Compare a [op, op', op''] [b, c, d] pos) (tTest (tChain3 r r' r'' ta tb tc td)) := by
  refine ⟨fun pins s σ H Q I h => ?_⟩
  refine isTrue_chain (thn (ha.run pins s σ H _ I h) fun v t1 ⟨x, G1, J1, j1, u1⟩ => test_link (thn (hb.run pins t1 σ G1 _ J1 u1) fun u t2 ⟨y, G2, J2, j2, w2⟩ =>
    thn (ho pins t2 σ G2 x y v u _ J2 j1 j2 w2) fun d t3 ⟨z, G3, J3, j3, k, e, w3⟩ => ?_)) hm
  subst e
  cases j3
  refine wpAny_truthy_bool ?_
  cases k with
  | false =>
    obtain ⟨k', e', q'⟩ := w3
    cases e'
    exact ite_ff ⟨G3, J3, q'⟩
  | true =>
    refine ite_tt (test_link (thn (hc.run pins t3 σ G3 _ J3 w3) fun w' t4 ⟨z', G4, J4, j4, w4⟩ => thn (ho' pins t4 σ G4 y z' u w' _ J4 j2 j4 w4) fun d' t5 ⟨z2, G5, J5, j5, k2, e2, w5⟩ => ?_))
    subst e2
    cases j5
    refine wpAny_truthy_bool ?_
    cases k2 with
    | false =>
      obtain ⟨k', e', q'⟩ := w5
      cases e'
      exact ite_ff ⟨G5, J5, q'⟩
    | true =>
      refine ite_tt (test_last (thn (hd.run pins t5 σ G5 _ J5 w5) fun w2 t6 ⟨z6, G6, J6, j6, w6⟩ => thn (ho'' pins t6 σ G6 z' z6 w' w2 _ J6 j4 j6 w6) fun d'' t7 ⟨z7, G7, J7, j7, k3, e3, w7⟩ => ?_))
      subst e3
      cases j7
      exact wpAny_truthy_bool ⟨G7, J7, w7⟩
def mChain3 (f g h : O2) (ma mb mc md : En → Sto → R D) (env : En) (st : Sto) : R D := (ma env st).bind fun x st1 => (mb env st1).bind fun y st2 => (noEx (f x y st2)).bind fun z st3 => match z with
  | .bl true => (mc env st3).bind fun w st4 => (noEx (g y w st4)).bind fun z st5 => match z with
    | .bl true => (md env st5).bind fun u st6 => noEx (h w u st6)
    | .bl false => .ok (.bl false) st5
    | _ => .no
  | .bl false => .ok (.bl false) st3
  | _ => .no
theorem dt_chain3 {op op' op'' : CmpOp} {f g k : O2} (ho : OD2 X (compareOp op) f) (ho' : OD2 X (compareOp op') g) (ho'' : OD2 X (compareOp op'') k) (ha : DE X W a ma) (hb : DE X W b mb) (hc : DE X W c mc) (hd : DE X W d md)
    (hm : lastMarks [op, op', op''] [b, c, d] = false := by with_unfolding_all rfl) : DT X W (.Compare a [op, op', op''] [b, c, d] pos) (mB (mChain3 f g k ma mb mc md)) := by
  refine PT.weak (pt_chain3 ho ho' ho'' ha hb hc hd hm) fun σ H Q h => ?_
  obtain ⟨α, env, st, hE, hS, h⟩ := b_of h
  refine ⟨α, env, st, hE, hS, h.bind.mono fun x st1 α1 H1 p1 k1 s1 h1 v rv => ?_⟩
  refine ⟨α1, env, st1, hE.mono p1 k1, s1, h1.bind.mono fun y st2 α2 H2 p2 k2 s2 h2 u ru => ?_⟩
  refine ⟨α2, st2, x, y, s2, rv.mono p2 k2, ru, h2.bind.rw.mono fun d st3 q α3 H3 w p3 k3 s3 rw => ?_⟩
  have q3 := q α3 H3 p3 k3 s3
  split at q3
  · refine ⟨true, rw.bl_of, ?_⟩
    rw [if_pos rfl]
    refine ⟨α3, env, st3, ((hE.mono p1 k1).mono p2 k2).mono p3 k3, s3, q3.bind.mono fun w' st4 α4 H4 p4 k4 s4 h4 v' rv' => ?_⟩
    refine ⟨α4, st4, y, w', s4, (ru.mono p3 k3).mono p4 k4, rv', h4.bind.rw.mono fun d5 st5 q5 α5 H5 w5 p5 k5 s5 rw5 => ?_⟩
    have q6 := q5 α5 H5 p5 k5 s5
    split at q6
    · refine ⟨true, rw5.bl_of, ?_⟩
      rw [if_pos rfl]
      refine ⟨α5, env, st5, ((((hE.mono p1 k1).mono p2 k2).mono p3 k3).mono p4 k4).mono p5 k5, s5, q6.bind.mono fun w7 st7 α7 H7 p7 k7 s7 h7 v7 rv7 => ?_⟩
      exact ⟨α7, st7, w', w7, s7, (rv'.mono p5 k5).mono p7 k7, rv7, h7.rw.mono fun d st8 q α' H' w p k s rw => q α' H' p k s w rw⟩
    · refine ⟨false, rw5.bl_of, ?_⟩
      rw [if_neg Bool.false_ne_true]
      exact q6.here s5 _ (.bl false)
    · exact q6.elim
  · refine ⟨false, rw.bl_of, ?_⟩
    rw [if_neg Bool.false_ne_true]
    exact q3.here s3 _ (.bl false)
  · exact q3.elim
end
end DL
set_option Elab.async false
set_option linter.all false
set_option maxRecDepth 100000
/-! enumerate over a tuple. -/
namespace DL
open PySem PySem.Spec PyProof.Rows L2
abbrev tupIt (a : Addr) : Obj := { cls := .type "tuple_iterator", data := .fields #[.ref a, .int 0 0] }
abbrev enumOb (it : Addr) : Obj := { cls := .type "enumerate", data := .fields #[.none, .bool false, .ref it, rawInt 0, .none, .none] }
theorem enum_new (a : Addr) (ys : Array Value) : Meets (Builtin.«enumerate.__new__» ⟨[.type "enumerate", .ref a], []⟩) fun _ R s => s.heap.IsTuple a ys ∧
    R (.ok (.ret (.ref (s.heap.push (tupIt a)).objs.size))) { s with heap := (s.heap.push (tupIt a)).push (enumOb s.heap.objs.size) } :=
  .of_wp fun pr wo Ar Rr st0 hh => by
    obtain ⟨h0, gs, dr, tk, os⟩ := st0
    obtain ⟨ht, hr⟩ := hh
    have sub0 := sub_enumerate
    have htup : Heap.IsTuple (Shared.heap ⟨h0, gs, dr, tk, os⟩) a ys := ht
    wp_walk using wpAny_pyIter_tuple htup
    refine wpAny_stack_any fun stk => wpAny_pure ?_
    split
    · rename_i c _ _ _ _ _
      cases (c == Value.type "enumerate") <;> (wp_walk using wpAny_pyIter_tuple htup; exact ⟨_, rfl, hr⟩)
    · wp_walk using wpAny_pyIter_tuple htup
      exact ⟨_, rfl, hr⟩
theorem enum_call {pr : Program} {wo : World} {Ar : Around} {Er : Value → Shared → Prop} {s : Shared} {a : Addr} {ys : Array Value} {Q : Value → Shared → Prop} (ht : s.heap.IsTuple a ys)
    (q : ∀ h1, IsEnum h1 (s.heap.objs.size + 1) s.heap.objs.size 0 .none → h1.IsTupleIter s.heap.objs.size a 0 → (∀ b o, s.heap.get? b = some o → h1.get? b = some o) → Q (.ref (s.heap.objs.size + 1)) { s with heap := h1 }) :
    wpAny (model pr wo) Ar (call (.type "enumerate") [.ref a]) Q Er s := by
  refine callType_new F.called_enumerate (by decide) (F.typeCall_enumerate_1 _) (F.newCall_enumerate_1 _) (fun ob => F.args_object_init_2 ob _) F.entry_enumerate_new (enum_new a ys) ⟨ht, ?_⟩
  have z1 : (s.heap.push (tupIt a)).objs.size = s.heap.objs.size + 1 := Heap.size_push ..
  show _ ∧ _
  rw [z1]
  have e1 : IsEnum ((s.heap.push (tupIt a)).push (enumOb s.heap.objs.size)) (s.heap.objs.size + 1) s.heap.objs.size 0 .none := by
    have := Heap.get?_push_size (s.heap.push (tupIt a)) (o := enumOb s.heap.objs.size) rfl
    rw [z1] at this
    exact this
  exact ⟨⟨_, e1, rfl⟩, q _ e1 ⟨_, Heap.get?_push_of_some _ (Heap.get?_push_size _ rfl), rfl, rfl⟩ fun b o x => Heap.get?_push_of_some _ (Heap.get?_push_of_some _ x)⟩
/-- the tuple at a, each item in a new pair with its number -/
def IteT (K : PySem.W.Frag) (a : Addr) : It where
  go := fun i H => ∃ (xs : List V) (x : V), SqT K H a xs ∧ xs[i]? = some x
  yld := fun i H v H' => ∃ T x o, v = .ref T ∧ H T = none ∧ o.dict = none ∧ H' = upd H T (.frz o (.tup [.int (i : Nat), x])) ∧ ∀ xs, SqT K H a xs → xs[i]? = some x
  stop := fun i H => ∃ xs : List V, SqT K H a xs ∧ xs.length ≤ i
theorem enum_apart {h : Heap} {e it a : Addr} {i : Int} {k : Nat} {old : Value} {ys : Array Value} (he : IsEnum h e it i old) (hi : h.IsTupleIter it a k) (ht : h.IsTuple a ys) : e ≠ it ∧ e ∉ [it, a] ∧ a ≠ it := by
  obtain ⟨o1, e1, c1, _⟩ := hi
  obtain ⟨o2, e2, c2, _⟩ := ht
  have n1 : e ≠ it := fun q => by
    subst q
    unfold IsEnum at he
    rw [he] at e1; cases e1; injection c1 with z; exact absurd z (by decide)
  have n2 : e ≠ a := fun q => by
    subst q
    unfold IsEnum at he
    rw [he] at e2; cases e2; injection c2 with z; exact absurd z (by decide)
  refine ⟨n1, by simp [n1, n2], fun q => ?_⟩
  subst q
  rw [e1] at e2; cases e2; rw [c1] at c2; injection c2 with z; exact absurd z (by decide)
theorem enum_turn {P : Program} {w : World} {K : PySem.W.Frag} {elts : List Expr} {kk : Nat} {tpos : Pos} (a e it : Addr) :
    Turn P w K (.Tuple elts kk tpos) (IteT K a) [e, it] e (fun i h => (∃ old, IsEnum h e it ((i : Nat) : Int) old) ∧ h.IsTupleIter it a i) where
  mem := by simp
  obj := fun i h st b hb => by
    obtain ⟨⟨old, he⟩, o, ho, hc, hd⟩ := st
    rcases List.mem_cons.mp hb with q | q
    · rw [q]; exact ⟨_, he, fun v z => nomatch z⟩
    · exact ⟨o, by rw [List.mem_singleton.mp q]; exact ho, fun v z => by rw [hd] at z; cases z⟩
  keep := fun i h h' st k => ⟨⟨st.1.choose, k e (by simp) _ st.1.choose_spec⟩, st.2.at fun o q => k it (by simp) o q⟩
  item := by
    intro X hP hw hK hc i pins s σ H E I hf st hg
    subst hP hw hK
    obtain ⟨⟨old, he⟩, hit⟩ := st
    obtain ⟨xs, x, hq, hx⟩ := hg
    obtain ⟨its, rv, p0, hz⟩ := I.tuple hq
    have p : s.heap.IsTuple a its.toArray := p0
    obtain ⟨u, hu, ru⟩ := rv.get hx
    obtain ⟨n1, n2, n3⟩ := enum_apart he hit p
    have hlt : i < its.toArray.size := by
      have := (List.getElem?_eq_some_iff.mp hu).1
      simpa using this
    have le : e < s.heap.objs.size := Heap.lt_size he
    have lit : it < s.heap.objs.size := by obtain ⟨_, q, _⟩ := hit; exact Heap.lt_size q
    refine wpAny_pyNext_enum_itemC (Draws.tuple (A := X.A.in1) (show X.A.in1.handled = none from I.ok.hd hc) it a n3 its.toArray) he ⟨hit, p⟩ hlt n1 n2 fun u' h' tk hu' ho st' hT hsz hk => ?_
    have eu : u' = u := by
      rw [List.getElem?_toArray, hu] at hu'
      exact (Option.some.inj hu').symm
    subst eu
    refine ⟨_, rfl, wpAny_letOwnedTupleGo_enum (s := { s with heap := h', toks := tk + 1 }) ho fun h2 he2 sb => ?_⟩
    have hT2 : h2.get? s.heap.objs.size = some { cls := .type "tuple", data := .seq #[.int i tk, u'] } := (sb.2 _ (Nat.ne_of_gt le)).trans hT
    have ob : ObjOk X.prog X.w (upd H s.heap.objs.size (.frz { cls := .type "tuple", data := .seq #[.int i tk, u'] } (.tup [.int (i : Nat), x]))) h2 s.heap.objs.size (.frz { cls := .type "tuple", data := .seq #[.int i tk, u'] } (.tup [.int (i : Nat), x])) :=
      ⟨hT2, by show 2 ≤ sizeLine; decide, [.int i tk, u'], .cons ⟨_, rfl⟩ (.cons ru .nil), ⟨_, hT2, rfl, _, rfl⟩⟩
    have I2 : Inv X pins σ (upd H s.heap.objs.size (.frz { cls := .type "tuple", data := .seq #[.int i tk, u'] } (.tup [.int (i : Nat), x]))) { s with heap := h2, toks := tk + 1 } :=
      I.turnedNew (ch := [e, it]) (fun b o nb q => (sb.2 b (fun z => nb (by simp [z]))).trans (hk b o (fun z => nb (by simp [z])) (fun z => nb (by simp [z])) q)) hf (Nat.le_refl _) ob
    refine ⟨.ref s.heap.objs.size, _, I2, rfl, ⟨_, x, _, rfl, I.hok.fresh (Nat.le_refl _), rfl, rfl, fun ys hy => by rw [I.tuple_inj hy hq]; exact hx⟩, ⟨⟨u', ?_⟩, st'.1.at fun o q => (sb.2 it (Ne.symm n1)).trans q⟩, fun b hb => ?_⟩
    · rw [show ((i + 1 : Nat) : Int) = (i : Int) + 1 by omega]
      exact he2
    · have lb : b < s.heap.objs.size := by
        rcases List.mem_cons.mp hb with z | z
        · rw [z]; exact le
        · rw [List.mem_singleton.mp z]; exact lit
      rw [upd_ne (Nat.ne_of_lt lb)]
      exact (hf b hb).1
  done := by
    intro X hP hw hK hc i pins s σ H E I hf st hg
    subst hP hw hK
    obtain ⟨⟨old, he⟩, hit⟩ := st
    obtain ⟨xs, hq, hx⟩ := hg
    obtain ⟨its, rv, p0, hz⟩ := I.tuple hq
    have p : s.heap.IsTuple a its.toArray := p0
    obtain ⟨n1, n2, n3⟩ := enum_apart he hit p
    obtain ⟨f0, f1, f2, f3, f4, f5⟩ := hf it (by simp)
    have hl := rv.length
    have hT : s.TypeIs (.ref e) "enumerate" := ⟨_, he, rfl⟩
    have hend : its.toArray[i]? = none := by simp; omega
    unfold pyNext
    refine wpAny_bind (wpAny_attempt (wpAny_callSpecial?_slot (name := Str.ofString "__next__") hT F.slot_enumerate_next (wpAny_call_entry F.slot_enumerate_next hT F.entry_enumerate_next ?_ (F.args_enumerate_next_1 _))))
    show wpAny _ _ (field (.ref e) 2 >>= _) _ _ _
    refine wpAny_bind (wpAny_field he rfl (x := .ref it) rfl (wpAny_bind (wpAny_nextOf_tuple_end (I.ok.hd hc) hit p hend fun h' x e1 e2 => ?_)))
    obtain ⟨o, ho, hcl⟩ := e2
    refine wpAny_bind (wpAny_isInstance (T := "StopIteration") (b := true) ⟨o, ho, hcl⟩ isSubtype_stop (wpAny_pure ⟨rfl, ?_⟩))
    exact I.turned (t' := s.toks) (fun b o hb q => e1 b o hb q) f0 f1 f3 f4 f5
  self := fun A i s Q E st h => let ⟨⟨_, he⟩, _⟩ := st; wpAny_pyIter_enum he h
def iEnumT (K : PySem.W.Frag) (ta : TA) : TI := fun σ H R => ta σ H fun vs H1 => ∃ a xs, vs = [.ref a] ∧ SqT K H1 a xs ∧ R (IteT K a) H1
theorem pi_enumT {X : Cx} {e : Expr} {ta : TA} {p pos tpos : Pos} {elts : List Expr} {kk : Nat} (hg : Gl X "enumerate") (hm : X.mg "enumerate" = none) (ha : PA X [e] ta) (hs : starEach [e] X.env = [(false, eval e X.env)] := by rfl) :
    PI X (.Tuple elts kk tpos) (.Call (.Name "enumerate" p) [e] [] pos) (iEnumT X.K ta) := by
  refine ⟨fun pins s σ H R I h => Call_ (ld_blt I hg hm boot_enumerate (PyProof.Rows.callWith_type1 (thn (ha.run pos pins s σ H _ I h) fun us t ⟨vs, H1, I1, rr, q1⟩ => ?_) hs rfl))⟩
  obtain ⟨a, xs, ex, hq, q⟩ := q1
  subst ex
  cases rr with
  | cons r r' =>
    cases r'
    cases r
    obtain ⟨its, rv, p', hz⟩ := I1.tuple hq
    refine enum_call (show t.heap.IsTuple a its.toArray from p') fun h1 he hit hk => wpAny_pyIter_enum he ?_
    have I2 : Inv X pins σ H1 { t with heap := h1 } := I1.kept (t' := t.toks) hk
    refine ⟨t.heap.objs.size + 1, [t.heap.objs.size + 1, t.heap.objs.size], _, _, H1, rfl, I2, enum_turn a (t.heap.objs.size + 1) t.heap.objs.size, ⟨⟨.none, he⟩, hit⟩, fun b hb => ?_, q⟩
    have le : t.heap.objs.size ≤ b := by
      rcases List.mem_cons.mp hb with z | z
      · rw [z]; exact Nat.le_add_right _ _
      · rw [List.mem_singleton.mp z]; exact Nat.le_refl _
    exact I1.fpOk le (I1.hok.fresh le)
section
variable {X : Cx} {W : WX} {pos : Pos}
def enumD (xs : List D) : List D := xs.zipIdx.map fun p => .tup [.int (p.2 : Nat), p.1]
@[simp] theorem enumD_len (xs : List D) : (enumD xs).length = xs.length := by simp [enumD]
theorem enumD_get {xs : List D} {i : Nat} {d : D} (h : xs[i]? = some d) : (enumD xs)[i]? = some (.tup [.int (i : Nat), d]) := by simp [enumD, h]
theorem walkD_enumT {K : PySem.W.Frag} {α : List Addr} {H : Hp} {a : Addr} {xs : List D} {vs : List V} (h0 : SqT K H a vs) (hr : RDs K α H xs vs) : WalkD K (IteT K a) α H (enumD xs) none := by
  refine ⟨fun H' => SqT K H' a vs, fun i H1 v H2 => ∃ T x o, v = .ref T ∧ H1 T = none ∧ o.dict = none ∧ H2 = upd H1 T (.frz o (.tup [.int (i : Nat), x])) ∧ vs[i]? = some x, ⟨fun i H' hi q => ?_, fun H' q => ?_, fun i H1 x H2 hi q y => ?_⟩, fun α' st' H' p k s g => k.sqT h0, fun i H1 x H2 α' st' p k s g hi y => ?_⟩
  · have hl := hr.len
    rw [enumD_len] at hi
    exact ⟨vs, vs[i]'(by omega), q, by simp⟩
  · exact ⟨vs, q, by rw [enumD_len, hr.len]; exact Nat.le_refl _⟩
  · obtain ⟨T, z, o, e1, e2, e0, e3, e4⟩ := y
    exact ⟨T, z, o, e1, e2, e0, e3, e4 vs q⟩
  · obtain ⟨T, z, o, rfl, e2, e0, rfl, e4⟩ := y
    obtain ⟨d, g1, g2⟩ := hr.get e4
    exact ⟨Keep.fresh e2, s.fresh e2, _, enumD_get g1, .tup (SqP.new e0) (.cons (.int _) (.cons ((g2.mono p k).mono (List.prefix_refl _) (Keep.fresh e2)) .nil))⟩
def iEnumerate (mr : En → Sto → R (List D)) : MI := fun env st => (mr env st).bind fun ds st1 => match ds with
  | [.tup xs] => .ok (enumD xs, none) st1
  | _ => .no
theorem di_enumerate {a : Expr} {mr : En → Sto → R (List D)} {p tpos : Pos} {elts : List Expr} {kk : Nat} (hg : Gl X "enumerate") (hm : X.mg "enumerate" = none) (ha : DA X W [a] mr) (hs : starEach [a] X.env = [(false, eval a X.env)] := by rfl) :
    DI X W (.Tuple elts kk tpos) (.Call (.Name "enumerate" p) [a] [] pos) (iEnumerate mr) := by
  refine PI.weak (pi_enumT hg hm ha hs) fun σ H Rr h => ?_
  obtain ⟨α, env, st, hE, hS, h⟩ := h
  refine ⟨α, env, st, hE, hS, h.bind.mono fun ds st1 α1 H1 p1 k1 s1 h1 vs rvs => ?_⟩
  split at h1
  · obtain ⟨v, rfl, r⟩ := rvs.one
    obtain ⟨b, us, rfl, t1, r1⟩ := r.tup_of
    exact ⟨b, us, rfl, t1, h1.here s1 _ (walkD_enumT t1 r1)⟩
  · exact h1.elim
end
end DL
set_option Elab.async false
set_option linter.all false
set_option maxRecDepth 100000
/-! A dict without entries, as a thing among others. -/
namespace DL
open PySem PySem.Spec PyProof.Rows L2
theorem str_eq_dict (b : Str) (u : Tok) (l : Addr) (es : Array DictEntry) (n : Nat) (dd : Option Addr) (sl : Array (Option Value)) :
    Meets (Builtin.«str.__eq__» ⟨[.str b u, .ref l], []⟩) (fun _ R s => s.heap.get? l = some { cls := .type "dict", dict := dd, data := .dict es n, slots := sl } ∧ R (.ok (.ret .notImplemented)) s) :=
  .of_wp fun prog w A R s h => by
    obtain ⟨hp, g, d, tk, os⟩ := s
    obtain ⟨hl, h⟩ := h
    wp_walk using PySem.AutoSeq1.wpAny_loadPart' hl, wpAny_load hl
    exact ⟨_, rfl, h⟩
theorem dict_eq_str (b : Str) (u : Tok) (l : Addr) :
    Meets (Builtin.«dict.__eq__» ⟨[.ref l, .str b u], []⟩) (fun _ R s => R (.ok (.ret .notImplemented)) s) :=
  .of_wp fun prog w A R s h => by
    obtain ⟨hp, g, d, tk, os⟩ := s
    have f1 := F.sub_str_dict
    wp_walk using wpAny_pure
    exact ⟨_, rfl, h⟩
theorem eqAt_str_dict {A : Around} {s : Shared} {l : Addr} {o : Obj} {es : Array DictEntry} {n : Nat} (b : Str) (u : Tok) (ho : s.heap.get? l = some o) (hc : o.cls = .type "dict") (hd : o.data = .dict es n) (hu : A.units < cLine) : SeqAt.EqAt A s (.str b u) (.ref l) false := fun prog w E Q h => by
  obtain ⟨cls, dd, data, sl⟩ := o
  simp only at hc hd
  subst hc hd
  unfold eqBool
  refine wpAny_holding ?_
  refine wpAny_ite_split (fun hab => absurd (eq_of_beq hab) nofun) (fun _ => ?_)
  refine wpAny_bind ?_
  exact SeqAt.rc_eq_decline_or (k := false) (typeIs_str s b u) ⟨_, ho, rfl⟩ (by decide) F.sub_dict_str F.slot_str_eq F.slot_dict_eq_refl
    (fun _ hq => call_meets F.slot_str_eq (typeIs_str s b u) F.entry_str_eq (F.args_str_eq_2 _ _) (str_eq_dict b u l es n dd sl) ⟨ho, hq⟩)
    (fun _ hq => call_meets F.slot_dict_eq_refl ⟨_, ho, rfl⟩ F.entry_dict_eq (F.args_dict_eq_2 _ _) (dict_eq_str b u l) hq)
    (fun _ hq => wpAny_of_eq (rfl : isSame (.str b u) (.ref l) = pure false) hq) (.inr hu) (wpAny_truthy_bool h)
section
variable {X : Cx} {W : WX} {pos : Pos}
def mEmp (_ : En) (st : Sto) : R D := .ok (.ref st.length) (st ++ [.emp])
theorem de_emp : DE X W (.Dict [] [] pos) mEmp := PE.weak pe_dnewK fun σ H Q h => by
  obtain ⟨α, env, st, hE, hS, h⟩ := h
  intro p hp
  exact h.at (List.prefix_append α [p]) (Keep.fresh hp) (hS.pushE hp) _ (.ref (by rw [← hS.len, List.getElem?_concat_length]))
def strsOf : List D → Option (List Str)
  | [] => some []
  | .str x :: r => (strsOf r).map (x :: ·)
  | _ => none
theorem strsOf_map : ∀ {ds : List D} {xs : List Str}, strsOf ds = some xs → ds = xs.map D.str
  | [], xs, h => by cases h; rfl
  | .str x :: r, xs, h => by
    unfold strsOf at h
    cases e : strsOf r with
    | none => rw [e] at h; cases h
    | some ys => rw [e] at h; cases h; rw [strsOf_map e]; rfl
  | .non :: r, xs, h => by cases h
  | .bl _ :: r, xs, h => by cases h
  | .int _ :: r, xs, h => by cases h
  | .tup _ :: r, xs, h => by cases h
  | .ref _ :: r, xs, h => by cases h
  | .fn _ :: r, xs, h => by cases h
  | .ty _ :: r, xs, h => by cases h
  | .nam _ :: r, xs, h => by cases h
/-- not in, a dict without entries among texts too -/
def oNotInE : O2 := fun a b st => match a, b with
  | .ref r, .tup xs => if isEmp st r then (match strsOf xs with
      | some _ => .ok (.bl true) st
      | none => .no) else oNotIn (.ref r) (.tup xs) st
  | a, b => oNotIn a b st
theorem od_notinE (hu : X.A.units + 66 < cLine) : OD2 X (compareOp .NotIn) oNotInE := by
  intro pins s σ H x y v u Q I rx ry h
  obtain ⟨α, st, a, b, S, ra, rb, h⟩ := h
  unfold oNotInE at h
  split at h
  · rename_i r xs
    split at h
    · rename_i e
      split at h
      · rename_i ss e2
        obtain ⟨p, rfl, a1⟩ := ra.ref_of
        obtain ⟨q, ws, rfl, t1, r1⟩ := rb.tup_of
        rw [strsOf_map e2] at r1
        rw [r1.toStrs] at t1
        obtain ⟨its, rv, tp, _⟩ := I.tuple t1
        obtain ⟨_, _, _, _, o, es, n, ho, ex, hd, _⟩ := I.hok p _ (S.e e a1)
        cases rx
        cases ry
        have hs := rv.strs
        refine SeqAt.notIn_tupleAt (fun _ => false) tp (fun z hz => ?_) ?_
        · obtain ⟨x, t, rfl⟩ := hs.all z (by simpa using hz)
          exact eqAt_str_dict x t ho ex.1 hd (by show X.A.units + 1 < cLine; omega)
        · exact ⟨.bl true, H, I, by simp [L2.RelV], Fin.here h S (.bl _)⟩
      · exact h.elim
    · exact od_notin hu pins s σ H x y v u Q I rx ry ⟨α, st, _, _, S, ra, rb, h⟩
  · exact od_notin hu pins s σ H x y v u Q I rx ry ⟨α, st, _, _, S, ra, rb, h⟩
end
end DL
set_option Elab.async false
set_option linter.all false
set_option maxRecDepth 100000
/-! A tuple from its end: t[::-1]. -/
namespace DL
open PySem PySem.Spec PyProof.Rows L2 HT
theorem filterMap_cong {β γ : Type} {f g : β → Option γ} : ∀ {l : List β}, (∀ a ∈ l, f a = g a) → l.filterMap f = l.filterMap g
  | [], _ => rfl
  | a :: r, h => by
    have ih := filterMap_cong (f := f) (g := g) (l := r) fun x hx => h x (List.mem_cons_of_mem _ hx)
    have e := h a List.mem_cons_self
    cases q : g a with
    | none => rw [List.filterMap_cons_none (by rw [e, q]), List.filterMap_cons_none q, ih]
    | some b => rw [List.filterMap_cons_some (by rw [e, q]), List.filterMap_cons_some q, ih]
theorem rev_pick (xs : Array Value) : ((List.range xs.size).filterMap fun (k : Nat) => xs[((xs.size : Int) - 1 + (k : Int) * -1).toNat]?).toArray = xs.toList.reverse.toArray := by
  congr 1
  have e : ∀ k ∈ List.range xs.size, xs[((xs.size : Int) - 1 + (k : Int) * -1).toNat]? = xs.toList.reverse[k]? := fun k hk => by
    have hk' : k < xs.size := List.mem_range.mp hk
    have e1 : ((xs.size : Int) - 1 + (k : Int) * -1).toNat = xs.size - 1 - k := by omega
    rw [e1, List.getElem?_reverse (by simpa using hk'), Array.length_toList, Array.getElem?_toList]
  rw [filterMap_cong e]
  have l : xs.size = xs.toList.reverse.length := by simp
  rw [l]
  generalize xs.toList.reverse = ys
  clear e l xs
  induction h : ys.length generalizing ys with
  | zero => have := List.eq_nil_of_length_eq_zero h; subst this; rfl
  | succ n ih0 =>
    obtain ⟨ys, y, rfl⟩ : ∃ zs z, ys = zs ++ [z] := ⟨ys.dropLast, ys.getLast (by intro e; subst e; cases h), (List.dropLast_concat_getLast _).symm⟩
    have hl : ys.length = n := by simpa using h
    have ih := ih0 ys hl
    rw [← h]
    rw [List.length_append, List.length_singleton, List.range_succ, List.filterMap_append]
    have e2 : (List.range ys.length).filterMap (fun k => (ys ++ [y])[k]?) = ys := by
      rw [filterMap_cong (g := fun k => ys[k]?) fun k hk => List.getElem?_append_left (List.mem_range.mp hk)]
      rw [hl]; exact ih
    rw [e2]
    simp
section
variable {prog : Program} {w : World} {A : Around} {E : Value → Shared → Prop} {s : Shared}
theorem getItem_tuple_rev {t sl : Addr} {items : Array Value} {vs : Value} {Q : Value → Shared → Prop} (ht : IsTup s.heap t items) (hs : s.heap.IsSliceOf sl .none .none vs) (ps : IsPart vs (some (-1)))
    (h : Q (.ref s.heap.objs.size) { s with heap := s.heap.push { cls := .type "tuple", data := .seq items.toList.reverse.toArray } })
    (hsz : items.size ≤ sizeLine) : wpAny (model prog w) A (getItem (.ref t) (.ref sl)) Q E s := by
  have htake : sizeOk (.seq items.toList.reverse.toArray) := by
    show items.toList.reverse.toArray.size ≤ sizeLine
    rw [List.size_toArray, List.length_reverse, Array.length_toList]
    exact hsz
  obtain ⟨os, hos, hcs, hds⟩ := id hs
  have hTs : s.TypeIs (.ref sl) "slice" := ⟨os, hos, hcs⟩
  unfold getItem
  try with_reducible refine wpAny_holding ?_
  first | refine wpAny_bind (wpAny_pure ?_) | skip
  refine wpAny_bind (wpAny_sequenceKey ht.typeIs (by decide) ?_)
  refine wpAny_bind (wpAny_callSpecial?_slot (name := Str.ofString "__getitem__") ht.typeIs PyProof.Rows.slot_tuple_getitem
    (wpAny_call_entry PyProof.Rows.slot_tuple_getitem ht.typeIs entry_tuple_getitem ?_ (args_tuple_getitem _ _)))
  show wpAny _ _ (Builtin.Tuple.tupleItemsOf (.ref t) >>= _) _ _ s
  refine wpAny_bind (tupleItemsOf_ ht ?_)
  refine wpAny_bind (wpAny_typeOf hTs ?_)
  rw [if_pos (by decide)]
  have hap : ∀ {Q' : Int × Int × Nat → Shared → Prop} {E' : Value → Shared → Prop} {A' : Around}, Q' ((items.size : Int) - 1, -1, items.size) s → wpAny (model prog w) A' (Builtin.Slice.sliceApplied (.ref sl) (pure (items.size : Int))) Q' E' s := by
    intro Q' E' A' hq
    unfold Builtin.Slice.sliceApplied Builtin.Slice.sliceFields
    refine wpAny_bind (wpAny_bind (wpAny_field hos hds (x := .none) rfl (wpAny_bind (wpAny_field hos hds (x := .none) rfl (wpAny_bind (wpAny_field hos hds (x := vs) rfl (wpAny_pure ?_)))))))
    refine wpAny_bind (slicePart_ ps ?_)
    show wpAny _ _ (if ((-1 : Int) == 0) = true then _ else _) _ _ s
    rw [if_neg (by decide)]
    refine wpAny_bind (slicePart_ .none (wpAny_bind (slicePart_ .none (wpAny_bind (wpAny_pure ?_)))))
    show wpAny _ _ (pure (((items.size : Int) - 1), (-1 : Int), Builtin.Slice.slicePlaces ((items.size : Int) - 1) (-1) (-1))) _ _ s
    have ep : Builtin.Slice.slicePlaces ((items.size : Int) - 1) (-1) (-1) = items.size := by
      unfold Builtin.Slice.slicePlaces
      rw [if_neg (by decide)]
      by_cases q : ((items.size : Int) - 1) > -1
      · rw [if_pos q]
        have : ((items.size : Int) - 1 - -1 - 1) / (- -1) + 1 = items.size := by simp
        rw [this]; simp
      · rw [if_neg q]; omega
    rw [ep]
    exact wpAny_pure hq
  refine wpAny_bind (hap ?_)
  have hno : ¬ ((((items.size : Int) - 1) == 0 && (-1 : Int) == 1 && items.size == items.size) = true) := by
    have : ((-1 : Int) == 1) = false := by decide
    rw [this]; simp
  show wpAny _ _ (if (((items.size : Int) - 1) == 0 && (-1 : Int) == 1 && items.size == items.size) = true then _ else _) _ _ s
  rw [if_neg hno, rev_pick]
  first
    | exact wpAny_bind (m := Builtin.Tuple.tupleExact _) (wpAny_newObj_type (wpAny_pure ⟨_, rfl, wpAny_pure h⟩) htake)
    | exact wpAny_bind (m := Builtin.Tuple.tupleExact _) (wpAny_newObj_type (wpAny_bind (wpAny_pure (wpAny_pure ⟨_, rfl, wpAny_pure h⟩))) htake)
    | exact wpAny_bind (wpAny_bind (m := Builtin.Tuple.tupleExact _) (wpAny_newObj_type (wpAny_pure (wpAny_pure ⟨_, rfl, wpAny_pure h⟩)) htake))
    | exact wpAny_bind (wpAny_bind (m := Builtin.Tuple.tupleExact _) (wpAny_newObj_type (wpAny_pure ⟨_, rfl, wpAny_pure h⟩) htake))
end
def tRevT (K : PySem.W.Frag) (te : TE) : TE := fun σ H Q => te σ H fun x H1 => ∃ a xs, x = .ref a ∧ SqT K H1 a xs ∧ NewT H1 xs.reverse Q
section
variable {X : Cx} {W : WX}
theorem pe_revT {e : Expr} {te : TE} {k : Nat} {p1 p2 p3 pos : Pos} (he : PE X e te) : PE X (.Subscript e (.Slice none none (some (.UnaryOp .USub (.Constant (.int 1) k p1) p2)) p3) pos) (tRevT X.K te) := by
  refine ⟨fun pins s σ H Q I h => ?_⟩
  refine Subscript_ (thn (he.run pins s σ H _ I h) fun v s1 ⟨x, H1, I1, r1, q1⟩ => ?_)
  obtain ⟨a, xs, ex, hx, q⟩ := q1
  subst ex
  cases r1
  have hst : PO X (some (.UnaryOp .USub (.Constant (.int 1) k p1) p2)) (tPart (tUn (rU fun i => .int (-i)) (tC (.int 1)))) := po_some (pe_un un_neg pe_int)
  refine wpAny_Slice (thn (po_none.run pins s1 σ H1 (fun o H2 => o = none ∧ H2 = H1) I1 ⟨rfl, rfl⟩) fun vl s2 ⟨l, H2, I2, pl, el, e2⟩ => ?_)
  subst el e2
  refine thn (po_none.run pins s2 σ H2 (fun o H3 => o = none ∧ H3 = H2) I2 ⟨rfl, rfl⟩) fun vu s3 ⟨u, H3, I3, pu, eu, e3⟩ => ?_
  subst eu e3
  refine thn (hst.run pins s3 σ H3 (fun o H4 => o = some (-1) ∧ H4 = H3) I3 ⟨1, rfl, -1, rfl, rfl, rfl⟩) fun vs s4 ⟨o, H4, I4, ps, eo, e4⟩ => ?_
  subst eo e4
  cases pl
  cases pu
  have I5 : Inv X pins σ H4 { s4 with heap := s4.heap.push { cls := .type "slice", data := .fields #[.none, .none, vs] } } := I4.kept (t' := s4.toks) fun b ob q => Heap.get?_push_of_some _ q
  obtain ⟨its, r, ht, hz⟩ := I5.tuple hx
  have hlen := r.length
  show wpAny (model X.prog X.w) X.A (subscriptTail e (.Slice none none (some (.UnaryOp .USub (.Constant (.int 1) k p1) p2)) p3) (.ref a) (.ref s4.heap.objs.size)) (EP X pins σ Q) X.xe { s4 with heap := s4.heap.push { cls := .type "slice", data := .fields #[.none, .none, vs] } }
  refine tail_any (ops := [.ref a, .ref s4.heap.objs.size]) ht.typeIs PyProof.Rows.slot_tuple_getitem.lookup ?_ (by with_unfolding_all rfl)
  refine getItem_tuple_rev ht (Heap.IsSliceOf.new _ .none .none vs) ps ?_ (by rw [List.size_toArray]; omega)
  exact ep_tup (tk := s4.toks) I5 (by rw [List.length_reverse]; exact hz) r.reverse q
/-- t[::-1], of a tuple -/
def mRevT (ma : En → Sto → R D) (env : En) (st : Sto) : R D := (ma env st).bind fun x st1 => match x with
  | .tup xs => .ok (.tup xs.reverse) st1
  | _ => .no
theorem de_revT {a : Expr} {ma : En → Sto → R D} {k : Nat} {p1 p2 p3 pos : Pos} (ha : DE X W a ma) : DE X W (.Subscript a (.Slice none none (some (.UnaryOp .USub (.Constant (.int 1) k p1) p2)) p3) pos) (mRevT ma) := by
  refine PE.weak (pe_revT ha) fun σ H Q h => ?_
  obtain ⟨α, env, st, hE, hS, h⟩ := h
  refine ⟨α, env, st, hE, hS, h.bind.mono fun x st1 α1 H1 p1 k1 s1 h1 v rv => ?_⟩
  split at h1
  · rename_i xs
    obtain ⟨q, us, rfl, t1, r1⟩ := rv.tup_of
    refine ⟨q, us, rfl, t1, fun p o hp ho => ?_⟩
    exact h1.at (List.prefix_refl _) (Keep.fresh hp) (s1.fresh hp) _ (.tup (SqP.new ho) (r1.rev.mono (List.prefix_refl _) (Keep.fresh hp)))
  · exact h1.elim
end
end DL
set_option Elab.async false
set_option linter.all false
set_option maxRecDepth 100000
/-! sum of a tuple of ints; the rising row of a table's names. -/
namespace DL
open PySem PySem.Spec PyProof.Rows L2
section
variable {prog : Program} {w : World} {A : Around} {E : Value → Shared → Prop} {s : Shared} {l : Addr} {its : List Value} {ns : List Int} {Q : Value → Shared → Prop}
theorem sum_rawT (hh : A.handled = none) (hl : s.heap.IsTuple l its.toArray) (hi : IntsAre its ns)
    (h : ∀ h' tk t', (∀ b o, s.heap.get? b = some o → h'.get? b = some o) → Q (.int ns.sum t') { s with heap := h', toks := tk }) : wpAny (model prog w) A (call (.builtin "sum") [.ref l]) Q E s := by
  obtain ⟨xs, e⟩ := hi.allInts.items
  have hn : numsOf (intItems xs).toList = ns := by rw [← e]; exact hi.numsOf
  rw [nums_intItems] at hn
  rw [e] at hl
  refine PySem.W.ktm_sumG hh hl fun h' tk t' hk => ?_
  have := h h' tk t' hk
  rw [preSum_eq, List.take_of_length_le (by simp), hn]; exact this
end
section
variable {X : Cx}
/-- sum of a list or a tuple of ints -/
def bSumA : List D → Sto → R D := fun ds st => match ds with
  | [d] => match intsAt st d with
    | some ns => .ok (.int ns.sum) st
    | none => .no
  | _ => .no
theorem cd_sumA (hc : X.calm = true) : CDs X (.builtin "sum") bSumA := by
  intro pins s σ H vs us Q I rv h
  obtain ⟨α, st, ds, S, rd, h⟩ := h
  unfold bSumA at h
  split at h
  · split at h
    · rename_i ns e
      obtain ⟨v, rfl, r⟩ := rd.one
      obtain ⟨p, its, rfl, rvs, c⟩ := ints_at I S r e
      rw [Vals.ref1 rv]
      have fin : ∀ (h' : Heap) (tk : Nat) (t' : Tok), (∀ b o, s.heap.get? b = some o → h'.get? b = some o) → EP X pins σ Q (.int ns.sum t') { s with heap := h', toks := tk } := fun h' tk t' hk => ⟨.int _, H, I.kept hk, ⟨_, rfl⟩, Fin.here h S (.int _)⟩
      rcases c with c | c
      · exact sum_raw (I.ok.hd hc) c rvs.ints fin
      · exact sum_rawT (I.ok.hd hc) c rvs.ints fin
    · exact h.elim
  · exact h.elim
end
end DL
set_option Elab.async false
set_option linter.all false
set_option maxRecDepth 100000
/-! The rising row of a table's names. -/
namespace DL
open PySem PySem.Spec PyProof.Rows L2
abbrev cl (x : Str) : List Nat := x.cps.toList
theorem cl_inj {x y : Str} (h : cl x = cl y) : x = y := by
  cases x; cases y
  simp only [cl] at h
  congr 1
  exact Array.toList_inj.mp h
theorem lt_le {a b c : List Nat} (h1 : a < b) (h2 : ¬ c < b) : a < c := by
  rcases Classical.em (a < c) with h | h
  · exact h
  · exact absurd (List.lt_of_le_of_lt (List.not_lt.mp h) h1) h2
theorem rising_all : ∀ (p : Str) (l : List Str), risingS p l = true → (∀ x ∈ l, ¬ cl x < cl p) ∧ l.Pairwise fun a b => ¬ cl b < cl a
  | p, [], _ => ⟨fun x h => (List.not_mem_nil h).elim, List.Pairwise.nil⟩
  | p, x :: r, h => by
    have h' : (!ltCps (cl x) (cl p) && risingS x r) = true := h
    rw [Bool.and_eq_true, ltCps_eq] at h'
    have hx : ¬ cl x < cl p := by simpa using h'.1
    obtain ⟨a, b⟩ := rising_all x r h'.2
    refine ⟨fun y hy => ?_, List.pairwise_cons.mpr ⟨a, b⟩⟩
    rcases List.mem_cons.mp hy with rfl | hy
    · exact hx
    · exact fun q => a y hy (lt_le q hx)
theorem sortedS_all : ∀ {l : List Str}, sortedS l = true → l.Pairwise fun a b => ¬ cl b < cl a
  | [], _ => .nil
  | x :: r, h => List.pairwise_cons.mpr (rising_all x r h)
theorem sortS_uniq : ∀ {l m : List Str}, (l.Pairwise fun a b => ¬ cl b < cl a) → (m.Pairwise fun a b => ¬ cl b < cl a) → l.Perm m → l = m
  | [], m, _, _, h => by simp [List.Perm.eq_nil h.symm]
  | x :: l, [], _, _, h => by simp at h
  | x :: l, y :: m, hl, hm, h => by
    have h1 := List.pairwise_cons.mp hl
    have h2 := List.pairwise_cons.mp hm
    have e : x = y := by
      have a : x ∈ y :: m := h.mem_iff.mp List.mem_cons_self
      have b : y ∈ x :: l := h.mem_iff.mpr List.mem_cons_self
      rcases List.mem_cons.mp a with a | a
      · exact a
      · rcases List.mem_cons.mp b with b | b
        · exact b.symm
        · exact cl_inj (List.le_antisymm (List.not_lt.mp (h1.1 y b)) (List.not_lt.mp (h2.1 x a)))
    subst e
    rw [sortS_uniq h1.2 h2.2 h.cons_inv]
theorem EntsOk.pairs {P : Program} {K : PySem.W.Frag} {w : World} : ∀ {es : List DictEntry} {qs : List (Str × D)}, EntsOk K w es qs → ∃ kvs : List (Str × Value), Pairs (strKind P w) es kvs ∧ kvs.map (·.1) = qs.map (·.1)
  | _, _, .nil => ⟨[], .nil, rfl⟩
  | _, _, .cons (e := e) (q := q) h r => by
    obtain ⟨kvs, p, m⟩ := r.pairs (P := P)
    obtain ⟨t, ek⟩ := h.key
    exact ⟨(q.1, e.val) :: kvs, .cons (by rw [ek]; exact strKind_is P w q.1 t) rfl p, by rw [List.map_cons, List.map_cons, m]⟩
section
variable {X : Cx} {T : Tabs}
/-- sorted(TABLE), L being the row that is told -/
def bSortedN (T : Tabs) (L : List Str) : List D → Sto → R D := fun ds st => match ds with
  | [.nam x] => match tabOf T x with
    | some qs => if sortedS L = true ∧ (qs.map (·.1)).Perm L ∧ (qs.map (·.1)).Nodup ∧ qs.length < 64 then .ok (.ref st.length) (st ++ [.lst (L.map D.str)]) else .no
    | none => .no
  | _ => .no
theorem RDs.strs {K : PySem.W.Frag} {α : List Addr} {H : Hp} : ∀ (ns : List Str), RDs K α H (ns.map D.str) (ns.map V.str)
  | [] => .nil
  | n :: ns => .cons (.str n) (RDs.strs ns)
theorem cd_sortedN (hcalm : X.calm = true) (hT : TabsOk X.K X.w T) {L : List Str} : CDs X (.builtin "sorted") (bSortedN T L) := by
  intro pins s σ H vs us Q I rv h
  obtain ⟨α, st, dl, S, rd, h⟩ := h
  unfold bSortedN at h
  split at h
  · rename_i x
    split at h
    · rename_i qs e
      split at h
      · rename_i hL
        obtain ⟨hs, hp, hn, h64⟩ := hL
        obtain ⟨v, rfl, r⟩ := rd.one
        obtain ⟨d, es, m, h1, h2, h3, h4⟩ := (hT.of e).ex
        have ev : v = .ref d := by
          cases r with
          | nam q => rw [h1] at q; cases q; rfl
        subst ev
        rw [Vals.ref1 rv]
        obtain ⟨kvs, pk, mk⟩ := h4.pairs (P := X.prog)
        have hat : s.heap.DictAt (strKind X.prog X.w) d kvs m :=
          ⟨_, es, I.kIn d _ h2, ⟨rfl, rfl, rfl⟩, rfl, fun e he => by
            obtain ⟨y, t, e1, e2⟩ := h4.lit.all e (Array.mem_toList_iff.mpr he)
            exact ⟨y, by rw [e1]; exact strKind_is X.prog X.w y t, e2⟩, pk, by rw [mk]; exact hn⟩
        have hl : kvs.length = qs.length := by
          have := congrArg List.length mk
          rwa [List.length_map, List.length_map] at this
        have h16 : kvs.length ≤ sizeLine := by rw [sizeLine_eq]; omega
        refine Calls.call_function_entry PyProof.Rows.kind_sorted PyProof.Rows.plain_sorted PyProof.Rows.entry_sorted (PyProof.Rows.args_sorted1 _) ?_
        unfold Builtin.«sorted»
        refine wpAny_bind (m := checkCount "sorted" 1 1 _) (wpAny_pure ?_)
        refine wpAny_bind (PySem.W.kdu_collect (A := X.A.in1) (PySem.W.kdl_dict (knd := strKind X.prog X.w) (kvs := kvs) (ep := m) h3) (I.ok.hd hcalm) hat h16 fun h' tk acc hk hacc => ?_)
        have hal : acc.toList.length = (qs.map (·.1)).length := by rw [Array.length_toList, hacc.1, hl, List.length_map]
        have hS : StrsAre acc.toList (qs.map (·.1)) := strs_at hal fun j v e => by
          obtain ⟨k, y, e1, e2⟩ := hacc.2 j v (by rw [← Array.getElem?_toList]; exact e)
          have e3 : (kvs.map (·.1))[j]? = some k := by rw [List.getElem?_map, e1]; rfl
          rw [mk] at e3
          obtain ⟨t, ev⟩ := Value.isStrOf_shape (x := k) (v := v) e2
          exact ⟨k, t, e3, ev⟩
        have I1 : Inv X pins σ H { s with heap := h', toks := tk } := I.kept hk
        refine wpAny_bind (wpAny_newList ?_ (by rw [hal, List.length_map, sizeLine_eq]; omega))
        have hoL : (h'.push (seqObj "list" acc.toList.toArray 0)).get? h'.objs.size = some (seqObj "list" acc.toList.toArray 0) := Heap.get?_push_size _ rfl
        show wpAny _ _ _ _ _ { s with heap := h'.push (seqObj "list" acc.toList.toArray 0), toks := tk }
        refine wpAny_bind (wpAny_holding (wpAny_call_entry PyProof.Rows.slot_list_sort ⟨_, hoL, rfl⟩ PyProof.Rows.entry_list_sort
          (list_sort_treeK strKind_oneLt (s := { s with heap := h'.push (seqObj "list" acc.toList.toArray 0), toks := tk }) hoL hS.keysOf (fun v₁ v₂ rest e => keyKind_strs (by rw [← e]; exact hS)) (by rw [hal, List.length_map]; exact h64) fun st' hp hs => ⟨_, rfl, ?_⟩)
          (PyProof.Rows.args_list_sort _)))
        obtain ⟨ys, g1, g2, g3⟩ := sorted_out_str hS (by assumption) (by assumption)
        have ey : ys = L := sortS_uniq (sortedS_all g3) (sortedS_all (by assumption)) (g2.trans (by assumption))
        subst ey
        obtain ⟨e', he'⟩ := PyProof.Rows.sortedHeap_at (vs := acc.toList) (out := (arrOf st').map (·.2)) hoL
        have hlen : (ys.map V.str).length ≤ sizeLine := by
          rw [List.length_map, g2.length_eq, List.length_map, sizeLine_eq]
          omega
        refine wpAny_pure ⟨_, rfl, .ref h'.objs.size, upd H h'.objs.size (.lst (ys.map V.str)), I1.laid (t' := tk) (fun b u e => ?_) (Nat.le_refl _)
          (show ObjOk X.prog X.w _ _ _ (.lst (ys.map V.str)) from ⟨hlen, ((arrOf st').map (·.2)).toList, e', vals_of_strs g1, by rw [Array.toArray_toList]; exact he'⟩), rfl, Fin.new h S (RDs.strs _) (I1.hok.fresh (Nat.le_refl _))⟩
        have hb : b < h'.objs.size := Heap.lt_size e
        rw [PyProof.Rows.sortedHeap_old (Nat.ne_of_lt hb) (by rw [size_push']; exact Nat.lt_succ_of_lt hb)]
        exact Heap.get?_push_of_some _ e
      · exact h.elim
    · exact h.elim
  · exact h.elim
end
end DL
set_option Elab.async false
set_option linter.all false
set_option maxRecDepth 100000
/-! t.count(x) of a tuple of ints. -/
namespace DL
open PySem PySem.Spec PyProof.Rows L2
section
variable {X : Cx} {W : WX}
theorem sqp_is {pins : List (Addr × Obj)} {σ : L2.St} {H : Hp} {s : Shared} {a : Addr} {xs : List V} (I : Inv X pins σ H s) (h : SqP X.K H a xs) : s.TypeIs (.ref a) "tuple" ∧ ∃ ob, s.heap.get? a = some ob ∧ ob.dict = none := by
  obtain ⟨its, _, t, _⟩ := I.tuple h.t
  refine ⟨IsTup.typeIs t, ?_⟩
  rcases h with ⟨o, h, d⟩ | ⟨o, _, _, h, _, d, _⟩
  · exact ⟨o, (I.hok a _ h).1, d⟩
  · exact ⟨o, I.kIn a o h, d⟩
def tBMT (K : PySem.W.Frag) (r : V → List V → Hp → VK → Prop) (to : TE) (t : TA) : TE := fun σ H Q => to σ H fun x H1 => (∃ a xs, x = .ref a ∧ SqP K H1 a xs) ∧ t σ H1 fun xs H2 => r x xs H2 Q
variable {o e : Expr} {es : List Expr} {name : Str} {apos cpos : Pos} {id : String}
theorem pe_bmT {to : TE} {t : TA} {r : V → List V → Hp → VK → Prop} (slot : Slot "tuple" name id) (hty : typeOf (.builtin id) = pure (.type "method_descriptor")) (hm : MtR X id r) (ho : PE X o to) (ha : PA X (e :: es) t)
    (hbase : attributeBase o name X.env (eval o X.env) = eval o X.env := by rfl)
    (hfew : ((backTo cpos (starEach (e :: es) X.env)).all (fun x => !x.1) && (backToKw cpos (keywordEach [] X.env)).all (fun x => x.1.isSome)
      && decide ((e :: es).length + ([] : List Keyword).length + (if ([] : List Keyword).isEmpty then 0 else 1) < 30)) = true := by rfl)
    (hline : (apos.endLine == cpos.line) = true := by rfl) (hs : starEach (e :: es) X.env = (false, eval e X.env) :: starEach es X.env := by rfl) (hplain : (backTo cpos (starEach es X.env)).any (·.1) = false := by rfl) :
    PE X (.Call (.Attribute o name apos) (e :: es) [] cpos) (tBMT X.K r to t) := by
  refine ⟨fun pins s σ H Q I h => ?_⟩
  refine wpAny_Call_method_late hbase hfew hline rfl (thn (ho.run pins s σ H _ I h) fun v s1 ⟨x, H1, I1, r1, ⟨a, xs, ex, hq⟩, q1⟩ => ?_)
  subst ex
  cases r1
  obtain ⟨h1, ob, h2, h3⟩ := sqp_is I1 hq
  refine ⟨"tuple", id, PySem.F.plainAttrs_tuple, slot, hty, h1, fun b eb => by cases eb; exact ⟨ob, h2, h3⟩, ?_⟩
  have hA := ha.run cpos pins s1 σ H1 _ I1 q1
  rw [hs] at hA ⊢
  refine Calls.callWith_builtin (by show (false || (backTo cpos (starEach es X.env)).any (·.1)) = false; rw [hplain] <;> rfl) (Calls.evalArgs_plain ?_)
  exact thn hA fun us s2 ⟨vs, H2, I2, r2, q2⟩ => hm pins s2 σ H2 (.ref a) vs (.ref a) us Q I2 rfl r2 q2
def mMethT (f : OM) (mo : En → Sto → R D) (mr : En → Sto → R (List D)) (env : En) (st : Sto) : R D := (mo env st).bind fun o st1 => match o with
  | .tup xs => (mr env st1).bind fun ds st2 => noEx (f (.tup xs) ds st2)
  | _ => .no
def fCountT : OM := fun o ds st => match o, ds with
  | .tup xs, [.int k] => match intsOf xs with
    | some ns => .ok (.int (ns.count k : Nat)) st
    | none => .no
  | _, _ => .no
theorem count_ints (k : Int) : ∀ ns : List Int, ((ns.map PyData.int).countP fun y => PyData.eqv y (.int k)) = ns.count k
  | [] => rfl
  | n :: r => by
    rw [List.map_cons, List.countP_cons, List.count_cons, count_ints k r]
    by_cases q : n = k <;> simp [PyData.eqv, q]
theorem plain_ints : ∀ ns : List Int, PyData.plainAll (ns.map PyData.int) = true
  | [] => rfl
  | n :: r => by simp [PyData.plainAll, PyData.plain, plain_ints r]
theorem md_countT (hu : X.A.units + 66 < cLine) : MtR X "tuple.count" (rDm X.K fCountT) := by
  intro pins s σ H x xs v us Q I rx rv h
  obtain ⟨α, st, a, ds, S, ra, rd, h⟩ := h
  unfold fCountT at h
  split at h
  · split at h
    · rename_i ys k _ ns e
      obtain ⟨p, ws, rfl, t1, r1⟩ := ra.tup_of
      rw [intsOf_map e] at r1
      rw [r1.toInts] at t1
      obtain ⟨w, rfl, rw'⟩ := rd.one
      have e2 := rw'.int_of; subst e2
      obtain ⟨its, rvs, tp, _⟩ := I.tuple t1
      cases rx
      obtain ⟨u, rfl, t, rfl⟩ := vals1 rv
      obtain ⟨as, rs⟩ := reads_ints (h := s.heap) rvs
      refine PySem.SeqAt.count_tuple_data (show s.heap.IsTuple p its.toArray from tp) (by simpa using rs) (Reads.int k t) (plain_ints ns) rfl (by have := depth_ints' ns; rw [this]; simp; omega) ?_
      rw [count_ints]
      exact ⟨.int _, H, I.tok _, ⟨_, rfl⟩, Fin.here h S (.int _)⟩
    · exact h.elim
  · exact h.elim
theorem de_countT {mo : En → Sto → R D} {mr : En → Sto → R (List D)} (hu : X.A.units + 66 < cLine) (ho : DE X W o mo) (ha : DA X W (e :: es) mr)
    (hbase : attributeBase o "count" X.env (eval o X.env) = eval o X.env := by rfl)
    (hfew : ((backTo cpos (starEach (e :: es) X.env)).all (fun x => !x.1) && (backToKw cpos (keywordEach [] X.env)).all (fun x => x.1.isSome)
      && decide ((e :: es).length + ([] : List Keyword).length + (if ([] : List Keyword).isEmpty then 0 else 1) < 30)) = true := by rfl)
    (hline : (apos.endLine == cpos.line) = true := by rfl) (hs : starEach (e :: es) X.env = (false, eval e X.env) :: starEach es X.env := by rfl) (hplain : (backTo cpos (starEach es X.env)).any (·.1) = false := by rfl) :
    DE X W (.Call (.Attribute o "count" apos) (e :: es) [] cpos) (mMethT fCountT mo mr) := by
  refine PE.weak (pe_bmT PySem.F.slot_tuple_count PySem.F.type_tuple_count (md_countT hu) ho ha hbase hfew hline hs hplain) fun σ H Q h => ?_
  obtain ⟨α, env, st, hE, hS, h⟩ := h
  refine ⟨α, env, st, hE, hS, h.bind.mono fun x st1 α1 H1 p1 k1 s1 h1 v rv => ?_⟩
  split at h1
  · rename_i xs
    obtain ⟨a, vs, rfl, t1, r1⟩ := rv.tup_ofP
    refine ⟨⟨a, vs, rfl, t1⟩, α1, env, st1, hE.mono p1 k1, s1, h1.bind.mono fun ds st2 α2 H2 p2 k2 s2 h2 ws rws => ?_⟩
    exact ⟨α2, st2, .tup xs, ds, s2, (RD.tup t1 r1).mono p2 k2, rws, h2.rw.mono fun d st3 q α' H' w p k s rw => q α' H' p k s w rw⟩
  · exact h1.elim
end
end DL
set_option Elab.async false
set_option linter.all false
set_option maxRecDepth 100000
/-! tuple(zip(*rows)): columns of lists and tuples. -/
namespace DL
open PySem PySem.W PySem.Calls PyProof.Rows PyProof.V PySem.Spec
abbrev ZipOb (h : Heap) (z TI TO : Addr) (f0 : Value) (f1 : Bool) : Prop :=
  h.get? z = some { cls := .type "zip", dict := none, data := .fields #[f0, .bool f1, .bool false, .ref TI, .ref TO], slots := #[] }
def Drw (h : Heap) (it l : Addr) (i : Nat) (row : Array Value) : Prop := (h.IsListIter it l i ∧ h.IsList l row) ∨ (h.IsTupleIter it l i ∧ h.IsTuple l row)
section
variable {prog : Program} {w : World} {A : Around} {E : Value → Shared → Prop} {s : Shared}
theorem draw_item {it l : Addr} {i : Nat} {row : Array Value} {x : Value} {Q : Value → Shared → Prop} (hne : l ≠ it) (hd : Drw s.heap it l i row) (hx : row[i]? = some x)
    (hQ : ∀ h', Drw h' it l (i + 1) row → Heap.SameBut it s.heap h' → Q x { s with heap := h' }) : wpAny (model prog w) A (Builtin.SmallTypes.nextOf (.ref it)) Q E s := by
  rcases hd with ⟨h1, h2⟩ | ⟨h1, h2⟩
  · exact wpAny_nextOf_list_item h1 h2 hx fun h' a b => hQ h' (.inl ⟨a, h2.extBut b.extBut hne⟩) b
  · exact RZ.nextOf_tuple_item h1 h2 hx fun h' a b => hQ h' (.inr ⟨a, h2.extBut b.extBut hne⟩) b
theorem for_steps {α σ : Type} {f : α → σ → Sem (ForInStep σ)} {Q : σ → Shared → Prop} (I : List α → σ → Shared → Prop)
    (step : ∀ x r st s, I (x :: r) st s → wpAny (model prog w) A (f x st) (fun o s' => ∃ st', o = .yield st' ∧ I r st' s') E s) (done : ∀ st s, I [] st s → Q st s) :
    ∀ l st s, I l st s → wpAny (model prog w) A (forIn l st f) Q E s
  | [], st, s, h => by
    rw [List.forIn_nil]
    exact wpAny_pure (done st s h)
  | x :: r, st, s, h => by
    rw [List.forIn_cons]
    refine wpAny_bind (wpAny_mono (step x r st s h) ?_ fun _ _ h => h)
    rintro _ s' ⟨st', rfl, h'⟩
    exact for_steps I step done r st' s' h'
/-- iterators that stand at i -/
def AllDr (h : Heap) (i : Nat) (ts : List (Addr × Addr × Array Value)) : Prop := ∀ t ∈ ts, Drw h t.1 t.2.1 i t.2.2
theorem Drw.keep {h h' : Heap} {it l : Addr} {i : Nat} {row : Array Value} (d : Drw h it l i row) (k : ∀ c o, c = it ∨ c = l → h.get? c = some o → h'.get? c = some o) : Drw h' it l i row := by
  rcases d with ⟨⟨o, a, b⟩, ⟨o', a', b'⟩⟩ | ⟨⟨o, a, b⟩, ⟨o', a', b'⟩⟩
  · exact .inl ⟨⟨o, k _ _ (.inl rfl) a, b⟩, ⟨o', k _ _ (.inr rfl) a', b'⟩⟩
  · exact .inr ⟨⟨o, k _ _ (.inl rfl) a, b⟩, ⟨o', k _ _ (.inr rfl) a', b'⟩⟩
structure ZApart (z TI TO : Addr) (ts : List (Addr × Addr × Array Value)) : Prop where
  tiz : TI ≠ z
  toz : TO ≠ z
  tito : TI ≠ TO
  its : ∀ t ∈ ts, t.1 ≠ z ∧ t.1 ≠ TI ∧ t.1 ≠ TO ∧ t.2.1 ≠ z ∧ t.2.1 ≠ TO
  nd : (ts.map (·.1)).Nodup
  sep : ∀ t ∈ ts, ∀ u ∈ ts, t.2.1 ≠ u.1
/-- what changes in a turn -/
def ZFr (z TO : Addr) (ts : List (Addr × Addr × Array Value)) (h h' : Heap) : Prop := ∀ c o, c ≠ z → c ≠ TO → (∀ t ∈ ts, c ≠ t.1) → h.get? c = some o → h'.get? c = some o
theorem ZFr.refl {z TO : Addr} {ts : List (Addr × Addr × Array Value)} {h : Heap} : ZFr z TO ts h h := fun _ _ _ _ _ e => e
theorem ZFr.trans {z TO : Addr} {ts : List (Addr × Addr × Array Value)} {h h' h'' : Heap} (a : ZFr z TO ts h h') (b : ZFr z TO ts h' h'') : ZFr z TO ts h h'' := fun c o h1 h2 h3 e => b c o h1 h2 h3 (a c o h1 h2 h3 e)
/-- k steps done of a turn -/
structure ZLoop (z TI TO : Addr) (f0 : Value) (f1 : Bool) (ts : List (Addr × Addr × Array Value)) (i k : Nat) (h0 h : Heap) : Prop where
  zo : ZipOb h z TI TO f0 f1
  fwd : ∀ j t, ts[j]? = some t → Drw h t.1 t.2.1 (if j < k then i + 1 else i) t.2.2
  sz : h.objs.size = h0.objs.size
  fr : ∀ c o, c ≠ TO → (∀ t ∈ ts, c ≠ t.1) → h0.get? c = some o → h.get? c = some o
theorem nd_ne {ts : List (Addr × Addr × Array Value)} (nd : (ts.map (·.1)).Nodup) {j k : Nat} {t u : Addr × Addr × Array Value} (ht : ts[j]? = some t) (hu : ts[k]? = some u) (h : j ≠ k) : t.1 ≠ u.1 := fun e => by
  obtain ⟨lj, ej⟩ := List.getElem?_eq_some_iff.mp ht
  obtain ⟨lk, ek⟩ := List.getElem?_eq_some_iff.mp hu
  have P := List.pairwise_iff_getElem.mp nd
  rcases Nat.lt_or_gt_of_ne h with q | q
  · exact P j k (by simpa using lj) (by simpa using lk) q (by simp [ej, ek, e])
  · exact P k j (by simpa using lk) (by simpa using lj) q (by simp [ej, ek, e])
theorem ZLoop.step {z TI TO : Addr} {f0 : Value} {f1 : Bool} {ts : List (Addr × Addr × Array Value)} {i k : Nat} {h0 h h' : Heap} {t : Addr × Addr × Array Value} (D : ZApart z TI TO ts) (L : ZLoop z TI TO f0 f1 ts i k h0 h) (ht : ts[k]? = some t)
    (d : Drw h' t.1 t.2.1 (i + 1) t.2.2) (sb : Heap.SameBut t.1 h h') : ZLoop z TI TO f0 f1 ts i (k + 1) h0 h' := by
  have mt := List.mem_of_getElem? ht
  refine ⟨sb.extBut _ _ (D.its t mt).1.symm L.zo, fun j u hu => ?_, sb.1.trans L.sz, fun c o c1 c2 e => sb.extBut _ _ (c2 t mt) (L.fr c o c1 c2 e)⟩
  by_cases hj : j = k
  · subst hj
    rw [ht] at hu
    cases hu
    rw [if_pos (Nat.lt_succ_self _)]
    exact d
  · have e : (if j < k + 1 then i + 1 else i) = (if j < k then i + 1 else i) := by
      by_cases h1 : j < k
      · rw [if_pos h1, if_pos (by omega)]
      · rw [if_neg h1, if_neg (by omega)]
    rw [e]
    refine (L.fwd j u hu).keep fun c o hc q => ?_
    rcases hc with rfl | rfl
    · exact sb.extBut _ _ (nd_ne D.nd hu ht hj) q
    · exact sb.extBut _ _ (D.sep u (List.mem_of_getElem? hu) t mt) q
theorem zn_next_more {z TI TO : Addr} {f1 : Bool} {ts : List (Addr × Addr × Array Value)} {i : Nat} {xs : List Value} {Q : Value → Shared → Prop} {a : Addr} {oa : Obj} (D : ZApart z TI TO ts) (haz : a ≠ z)
    (hz : ZipOb s.heap z TI TO (rawInt a) f1) (ha : s.heap.get? a = some oa) (hTI : s.heap.get? TI = some { cls := .type "tuple", data := .seq (ts.map fun t => Value.ref t.1).toArray }) (hn : ts ≠ []) (hd : AllDr s.heap i ts)
    (hx : ts.map (fun t => t.2.2[i]?) = xs.map some) (hzs : xs.length ≤ sizeLine)
    (hQ : ∀ h', ZipOb h' z TI TO (rawInt a) true → AllDr h' (i + 1) ts → h'.get? s.heap.objs.size = some { cls := .type "tuple", data := .seq xs.toArray } → h'.objs.size = s.heap.objs.size + 1 → ZFr z TO ts s.heap h' → Q (.ref s.heap.objs.size) { s with heap := h' }) :
    wpAny (model prog w) A (Builtin.«zip.__next__» ⟨[.ref z], []⟩) (fun fin s' => ∃ v, fin = .done (.ret v) ∧ Q v s') E s := by
  show wpAny _ _ (field (.ref z) 2 >>= _) _ _ _
  refine wpAny_bind (wpAny_field hz rfl (x := .bool false) rfl ?_)
  show wpAny _ _ (field (.ref z) 3 >>= _) _ _ _
  refine wpAny_bind (wpAny_field hz rfl (x := .ref TI) rfl ?_)
  refine wpAny_bind (wpAny_seqItems hTI rfl ?_)
  have hne : ((ts.map fun t => Value.ref t.1).toArray.isEmpty = true) = False := by
    cases ts with
    | nil => exact (hn rfl).elim
    | cons t r => simp
  simp only [hne, if_false]
  refine wpAny_bind ?_
  unfold Builtin.SmallTypes.ownedTupleIsFree
  refine wpAny_bind (wpAny_field hz rfl (x := rawInt a) rfl ?_)
  show wpAny _ _ (loadIfAlive ((a : Int).toNat) >>= _) _ _ _
  rw [Int.toNat_natCast]
  refine wpAny_bind (kdx_alive ha ?_)
  simp only [Option.isNone_some, Bool.false_eq_true, if_false]
  refine wpAny_bind (wpAny_field hz rfl (x := .bool f1) rfl ?_)
  have lx : xs.length = ts.length := by have := congrArg List.length hx; simpa using this.symm
  have key : ∀ h₁, ZipOb h₁ z TI TO (rawInt a) true → Heap.SameBut z s.heap h₁ → ∀ (Q' : Option PySem.Fin × Array Value → Shared → Prop) (f : Value → Option PySem.Fin × Array Value → Sem (ForInStep (Option PySem.Fin × Array Value))),
      (∀ (it : Value) (st : Option PySem.Fin × Array Value) (R : ForInStep (Option PySem.Fin × Array Value) → Shared → Prop) (s' : Shared), wpAny (model prog w) A (Builtin.SmallTypes.nextOf it) (fun x s'' => R (.yield (none, st.2.push x)) s'') E s' → wpAny (model prog w) A (f it st) R E s') →
      (∀ h', ZLoop z TI TO (rawInt a) true ts i ts.length h₁ h' → Q' (none, xs.toArray) { s with heap := h' }) →
      wpAny (model prog w) A (forIn (ts.map fun t => Value.ref t.1).toArray (none, #[]) f) Q' E { s with heap := h₁ } := by
    intro h₁ z1 sb Q' f hf hQ'
    rw [← Array.forIn_toList]
    show wpAny _ _ (forIn (ts.map fun t => Value.ref t.1) (none, #[]) f) _ _ _
    refine for_steps (fun l st s' => ∃ k h, l = (ts.drop k).map (fun t => Value.ref t.1) ∧ k ≤ ts.length ∧ st = (none, (xs.take k).toArray) ∧ s' = { s with heap := h } ∧ ZLoop z TI TO (rawInt a) true ts i k h₁ h) ?_ ?_ _ _ _ ?_
    · rintro x r st s' ⟨k, h, hl, hk, rfl, rfl, L⟩
      have hk2 : k < ts.length := by
        by_cases q : k < ts.length
        · exact q
        · rw [List.drop_eq_nil_of_le (by omega)] at hl; cases hl
      rw [List.drop_eq_getElem_cons hk2, List.map_cons] at hl
      cases hl
      have gt : ts[k]? = some ts[k] := List.getElem?_eq_getElem hk2
      have gx : ts[k].2.2[i]? = some (xs[k]'(by omega)) := by
        have := congrArg (fun l => l[k]?) hx
        simp only [List.getElem?_map, gt, Option.map_some, List.getElem?_eq_getElem (show k < xs.length by omega)] at this
        exact Option.some.inj this
      have d0 := L.fwd k _ gt
      rw [if_neg (Nat.lt_irrefl _)] at d0
      have mt := List.getElem_mem hk2
      refine hf _ _ _ _ (draw_item (s := { s with heap := h }) (D.sep _ mt _ mt) d0 gx fun h' d sb' => ?_)
      refine ⟨_, rfl, k + 1, h', rfl, hk2, ?_, rfl, L.step D gt d sb'⟩
      rw [List.take_add_one, List.getElem?_eq_getElem (show k < xs.length by omega)]
      simp
    · rintro st s' ⟨k, h, hl, hk, rfl, rfl, L⟩
      have ek : k = ts.length := by
        have := congrArg List.length hl
        rw [List.length_map, List.length_drop, List.length_nil] at this
        omega
      subst ek
      rw [← lx, List.take_length]
      exact hQ' h (lx ▸ L)
    · refine ⟨0, h₁, rfl, Nat.zero_le _, rfl, rfl, z1, fun j t ht => ?_, rfl, fun c o _ _ e => e⟩
      rw [if_neg (Nat.not_lt_zero _)]
      have mt := List.mem_of_getElem? ht
      refine (hd t mt).keep fun c o hc q => ?_
      have dt := D.its t mt
      rcases hc with rfl | rfl
      · exact sb.extBut _ _ dt.1 q
      · exact sb.extBut _ _ dt.2.2.2.1 q
  have fin : ∀ h₁, Heap.SameBut z s.heap h₁ → ∀ h', ZLoop z TI TO (rawInt a) true ts i ts.length h₁ h' → wpAny (model prog w) A (newTuple xs.toArray.toList >>= fun t => ret t) (fun fin s' => ∃ v, fin = .done (.ret v) ∧ Q v s') E { s with heap := h' } := by
    intro h₁ sb h' L
    refine wpAny_bind (wpAny_newTuple (wpAny_pure ⟨_, rfl, ?_⟩) (by simpa using hzs))
    have sz : h'.objs.size = s.heap.objs.size := L.sz.trans sb.1
    show Q (.ref h'.objs.size) _
    rw [sz]
    refine hQ _ (Heap.get?_push_of_some _ L.zo) (fun t mt => ?_) ?_ (by rw [Heap.size_push, sz]) fun c o c1 c2 c3 e => Heap.get?_push_of_some _ (L.fr c o c2 c3 (sb.extBut _ _ c1 e))
    · obtain ⟨j, hj⟩ := List.getElem?_of_mem mt
      have := L.fwd j t hj
      rw [if_pos (List.getElem?_eq_some_iff.mp hj).1] at this
      exact this.keep fun c o _ q => Heap.get?_push_of_some _ q
    · rw [← sz]
      simpa using Heap.get?_push_size h' (o := { cls := .type "tuple", data := .seq xs.toArray.toList.toArray }) rfl
  have body : ∀ h₁, ZipOb h₁ z TI TO (rawInt a) true → Heap.SameBut z s.heap h₁ → True := fun _ _ _ => trivial
  cases f1 with
  | true =>
    rw [if_neg (show ¬ ((Value.bool true != Value.bool true) = true) from Bool.false_ne_true)]
    refine wpAny_pure ?_
    simp only [Bool.false_eq_true, if_false]
    refine wpAny_bind (key s.heap hz (Heap.SameBut.refl _ _) _ _ (fun it st R s' hw => ?_) fun h' L => fin s.heap (Heap.SameBut.refl _ _) h' L)
    refine wpAny_bind (wpAny_holding ?_)
    show wpAny _ _ (Builtin.SmallTypes.nextOf it >>= _) _ _ _
    exact wpAny_bind (wpAny_mono hw (fun x s'' h => wpAny_pure (wpAny_pure h)) fun _ _ h => h)
  | false =>
    rw [if_pos (show (Value.bool false != Value.bool true) = true from rfl)]
    refine wpAny_bind (wpAny_setField_rec hz (by simp) fun h₁ z1 sb => ?_)
    replace z1 : ZipOb h₁ z TI TO (rawInt a) true := z1
    refine wpAny_pure ?_
    simp only [Bool.false_eq_true, if_false]
    refine wpAny_bind (key h₁ z1 sb _ _ (fun it st R s' hw => ?_) fun h' L => fin h₁ sb h' L)
    refine wpAny_bind (wpAny_holding ?_)
    show wpAny _ _ (Builtin.SmallTypes.nextOf it >>= _) _ _ _
    exact wpAny_bind (wpAny_mono hw (fun x s'' h => wpAny_pure (wpAny_pure h)) fun _ _ h => h)
theorem ZApart.toit {z TI TO : Addr} {ts : List (Addr × Addr × Array Value)} (D : ZApart z TI TO ts) {t : Addr × Addr × Array Value} (h : t ∈ ts) : TO ≠ t.1 := (D.its t h).2.2.1.symm
theorem zn_next_first {z TI TO : Addr} {f1 : Bool} {ts : List (Addr × Addr × Array Value)} {i : Nat} {xs : List Value} {old : Array Value} {Q : Value → Shared → Prop} (D : ZApart z TI TO ts)
    (hz : ZipOb s.heap z TI TO .none f1) (hTI : s.heap.get? TI = some { cls := .type "tuple", data := .seq (ts.map fun t => Value.ref t.1).toArray }) (hTO : s.heap.get? TO = some { cls := .type "tuple", data := .seq old }) (hold : old.size = ts.length) (hn : ts ≠ []) (hd : AllDr s.heap i ts)
    (hx : ts.map (fun t => t.2.2[i]?) = xs.map some) (hzs : xs.length ≤ sizeLine)
    (hQ : ∀ h', ZipOb h' z TI TO (rawInt s.heap.objs.size) false → AllDr h' (i + 1) ts → h'.get? s.heap.objs.size = some { cls := .type "tuple", data := .seq xs.toArray } → h'.objs.size = s.heap.objs.size + 1 → ZFr z TO ts s.heap h' → Q (.ref s.heap.objs.size) { s with heap := h' }) :
    wpAny (model prog w) A (Builtin.«zip.__next__» ⟨[.ref z], []⟩) (fun fin s' => ∃ v, fin = .done (.ret v) ∧ Q v s') E s := by
  show wpAny _ _ (field (.ref z) 2 >>= _) _ _ _
  refine wpAny_bind (wpAny_field hz rfl (x := .bool false) rfl ?_)
  show wpAny _ _ (field (.ref z) 3 >>= _) _ _ _
  refine wpAny_bind (wpAny_field hz rfl (x := .ref TI) rfl ?_)
  refine wpAny_bind (wpAny_seqItems hTI rfl ?_)
  have hne : ((ts.map fun t => Value.ref t.1).toArray.isEmpty = true) = False := by
    cases ts with
    | nil => exact (hn rfl).elim
    | cons t r => simp
  simp only [hne, if_false]
  refine wpAny_bind ?_
  unfold Builtin.SmallTypes.ownedTupleIsFree
  refine wpAny_bind (wpAny_field hz rfl (x := .none) rfl (wpAny_pure ?_))
  simp only [if_true]
  refine wpAny_bind (wpAny_rule ?_)
  refine wpAny_bind (wpAny_field hz rfl (x := .ref TO) rfl ?_)
  refine wpAny_bind (wpAny_setField_rec hz (by simp) fun h₁ z1 sb => ?_)
  replace z1 : ZipOb h₁ z TI TO .ellipsis f1 := z1
  have lx : xs.length = ts.length := by have := congrArg List.length hx; simpa using this.symm
  have hTO₁ : h₁.get? TO = some { cls := .type "tuple", data := .seq old } := sb.extBut _ _ D.toz hTO
  refine wpAny_bind ?_
  show wpAny _ _ (forIn (ts.map fun t => Value.ref t.1).zipIdx _ _) _ _ _
  refine for_steps (fun l st s' => ∃ k h vals, l = ((ts.drop k).map (fun t => Value.ref t.1)).zipIdx k ∧ k ≤ ts.length ∧ st = (none, ()) ∧ s' = { s with heap := h } ∧ ZLoop z TI TO .ellipsis f1 ts i k h₁ h ∧ h.get? TO = some { cls := .type "tuple", data := .seq vals } ∧ vals.size = ts.length ∧ vals.toList.take k = xs.take k) ?_ ?_ _ _ _ ?_
  · rintro x r st s' ⟨k, h, vals, hl, hk, rfl, rfl, L, gTO, vs, vt⟩
    have hk2 : k < ts.length := by
      by_cases q : k < ts.length
      · exact q
      · rw [List.drop_eq_nil_of_le (by omega)] at hl; cases hl
    rw [List.drop_eq_getElem_cons hk2, List.map_cons, List.zipIdx_cons] at hl
    cases hl
    have gt : ts[k]? = some ts[k] := List.getElem?_eq_getElem hk2
    have gx : ts[k].2.2[i]? = some (xs[k]'(by omega)) := by
      have := congrArg (fun l => l[k]?) hx
      simp only [List.getElem?_map, gt, Option.map_some, List.getElem?_eq_getElem (show k < xs.length by omega)] at this
      exact Option.some.inj this
    have d0 := L.fwd k _ gt
    rw [if_neg (Nat.lt_irrefl _)] at d0
    have mt := List.getElem_mem hk2
    show wpAny _ _ (Sem.onRaise _ _ >>= _) _ _ _
    refine wpAny_bind (wpAny_onRaise ?_)
    show wpAny _ _ (Builtin.SmallTypes.nextOf _ >>= _) _ _ _
    refine wpAny_bind (draw_item (s := { s with heap := h }) (D.sep _ mt _ mt) d0 gx fun h' d sb' => wpAny_pure ?_)
    have gTO' := sb'.extBut _ _ (D.toit mt) gTO
    refine wpAny_bind (wpAny_seqItems gTO' rfl ?_)
    refine wpAny_bind (wpAny_updateSeq gTO' rfl ?_)
    refine wpAny_bind (wpAny_letGo (wpAny_pure ?_))
    have L' := L.step D gt d sb'
    have upO : ∀ c o, c ≠ TO → h'.get? c = some o → (h'.update TO (Obj.mapSeq (·.setIfInBounds k (xs[k]'(by omega))))).get? c = some o := fun c o hc e => (Heap.get?_update_other _ _ (Ne.symm hc)).trans e
    refine ⟨_, rfl, k + 1, _, vals.setIfInBounds k (xs[k]'(by omega)), rfl, hk2, rfl, rfl, ⟨upO _ _ D.toz.symm L'.zo, fun j u hu => (L'.fwd j u hu).keep fun c o hc q => ?_, ?_, fun c o c1 c2 e => upO c o c1 (L'.fr c o c1 c2 e)⟩, ?_, by simpa using vs, ?_⟩
    · have du := D.its u (List.mem_of_getElem? hu)
      rcases hc with rfl | rfl
      · exact upO _ _ du.2.2.1 q
      · exact upO _ _ du.2.2.2.2 q
    · exact (Heap.SameBut.update (a := TO) ..).1.trans L'.sz
    · have q := Heap.get?_update_self (Obj.mapSeq (·.setIfInBounds k (xs[k]'(by omega)))) gTO' rfl
      simpa [Obj.mapSeq] using q
    · rw [Array.toList_setIfInBounds, List.take_add_one, List.take_add_one, List.take_set_of_le (Nat.le_refl _), vt]
      congr 1
      rw [List.getElem?_eq_getElem (show k < xs.length by omega), List.getElem?_set_self (by rw [Array.length_toList]; omega)]
  · rintro st s' ⟨k, h, vals, hl, hk, rfl, rfl, L, gTO, vs, vt⟩
    have ek : k = ts.length := by
      have := congrArg List.length hl
      rw [List.length_zipIdx, List.length_map, List.length_drop, List.length_nil] at this
      omega
    subst ek
    have ev : vals.toList = xs := by
      rw [List.take_of_length_le (by rw [Array.length_toList]; omega), List.take_of_length_le (by omega)] at vt
      exact vt
    show wpAny _ _ (seqItems? (Value.ref TO) >>= _) _ _ _
    refine wpAny_bind (wpAny_seqItems gTO rfl ?_)
    show wpAny _ _ (newTuple vals.toList >>= _) _ _ _
    rw [ev]
    refine wpAny_bind (wpAny_newTuple ?_ (by simpa using hzs))
    have sz : h.objs.size = s.heap.objs.size := L.sz.trans sb.1
    have zlt : z < h.objs.size := Heap.lt_size L.zo
    show wpAny _ _ (Builtin.SmallTypes.ownedTupleHandOut (.ref z) (.ref h.objs.size) >>= _) _ _ _
    refine wpAny_bind ?_
    unfold Builtin.SmallTypes.ownedTupleHandOut
    have z6 : ZipOb (h.push { cls := .type "tuple", data := .seq xs.toArray }) z TI TO .ellipsis f1 := Heap.get?_push_of_some _ L.zo
    refine wpAny_bind (wpAny_setField_rec z6 (by simp) fun h₇ z7 sb7 => ?_)
    replace z7 : ZipOb h₇ z TI TO (rawInt h.objs.size) f1 := z7
    refine wpAny_setField_rec z7 (by simp) fun h₈ z8 sb8 => ?_
    replace z8 : ZipOb h₈ z TI TO (rawInt h.objs.size) false := z8
    have up : ∀ c o, c ≠ z → h.get? c = some o → h₈.get? c = some o := fun c o c1 e => sb8.extBut _ _ c1 (sb7.extBut _ _ c1 (Heap.get?_push_of_some _ e))
    refine wpAny_pure ⟨_, rfl, ?_⟩
    show Q (.ref h.objs.size) _
    have gT : h₈.get? h.objs.size = some { cls := .type "tuple", data := .seq xs.toArray } := sb8.extBut _ _ (Nat.ne_of_gt zlt) (sb7.extBut _ _ (Nat.ne_of_gt zlt) (Heap.get?_push_size _ rfl))
    rw [sz] at z8 gT ⊢
    refine hQ _ z8 (fun t mt => ?_) gT (by rw [sb8.1, sb7.1, Heap.size_push, sz]) fun c o c1 c2 c3 e => up c o c1 (L.fr c o c2 c3 (sb.extBut _ _ c1 e))
    obtain ⟨j, hj⟩ := List.getElem?_of_mem mt
    have := L.fwd j t hj
    rw [if_pos (List.getElem?_eq_some_iff.mp hj).1] at this
    have dt := D.its t mt
    refine this.keep fun c o hc q => ?_
    rcases hc with rfl | rfl
    · exact up _ _ dt.1 q
    · exact up _ _ dt.2.2.2.1 q
  · refine ⟨0, h₁, old, rfl, Nat.zero_le _, rfl, rfl, ⟨z1, fun j t ht => ?_, rfl, fun c o _ _ e => e⟩, hTO₁, hold, by simp⟩
    rw [if_neg (Nat.not_lt_zero _)]
    have mt := List.mem_of_getElem? ht
    refine (hd t mt).keep fun c o hc q => ?_
    have dt := D.its t mt
    rcases hc with rfl | rfl
    · exact sb.extBut _ _ dt.1 q
    · exact sb.extBut _ _ dt.2.2.2.1 q
theorem draw_end {it l : Addr} {i : Nat} {row : Array Value} {Q : Value → Shared → Prop} (hh : A.handled = none) (hd : Drw s.heap it l i row) (hx : row[i]? = none)
    (hE : ∀ h' e, Heap.ExtBut it s.heap h' → (∃ o, h'.get? e = some o ∧ o.cls = .type "StopIteration") → E (.ref e) { s with heap := h' }) : wpAny (model prog w) A (Builtin.SmallTypes.nextOf (.ref it)) Q E s := by
  rcases hd with ⟨h1, h2⟩ | ⟨h1, h2⟩
  · exact wpAny_nextOf_list_end hh h1 h2 hx hE
  · exact RZ.nextOf_tuple_end hh h1 h2 hx hE
theorem zn_next_end {z TI TO : Addr} {f1 : Bool} {t : Addr × Addr × Array Value} {ts : List (Addr × Addr × Array Value)} {i : Nat} {Q : PySem.Fin → Shared → Prop} {a : Addr} {oa : Obj} (hh : A.handled = none) (D : ZApart z TI TO (t :: ts)) (haz : a ≠ z)
    (hz : ZipOb s.heap z TI TO (rawInt a) f1) (ha : s.heap.get? a = some oa) (hTI : s.heap.get? TI = some { cls := .type "tuple", data := .seq ((t :: ts).map fun t => Value.ref t.1).toArray }) (hd : AllDr s.heap i (t :: ts))
    (hx : t.2.2[i]? = none)
    (hE : ∀ h' e, ZFr z TO (t :: ts) s.heap h' → (∃ o, h'.get? e = some o ∧ o.cls = .type "StopIteration") → E (.ref e) { s with heap := h' }) :
    wpAny (model prog w) A (Builtin.«zip.__next__» ⟨[.ref z], []⟩) Q E s := by
  show wpAny _ _ (field (.ref z) 2 >>= _) _ _ _
  refine wpAny_bind (wpAny_field hz rfl (x := .bool false) rfl ?_)
  show wpAny _ _ (field (.ref z) 3 >>= _) _ _ _
  refine wpAny_bind (wpAny_field hz rfl (x := .ref TI) rfl ?_)
  refine wpAny_bind (wpAny_seqItems hTI rfl ?_)
  have hne : (((t :: ts).map fun t => Value.ref t.1).toArray.isEmpty = true) = False := by simp
  simp only [hne, if_false]
  refine wpAny_bind ?_
  unfold Builtin.SmallTypes.ownedTupleIsFree
  refine wpAny_bind (wpAny_field hz rfl (x := rawInt a) rfl ?_)
  show wpAny _ _ (loadIfAlive ((a : Int).toNat) >>= _) _ _ _
  rw [Int.toNat_natCast]
  refine wpAny_bind (kdx_alive ha ?_)
  simp only [Option.isNone_some, Bool.false_eq_true, if_false]
  refine wpAny_bind (wpAny_field hz rfl (x := .bool f1) rfl ?_)
  have m0 : t ∈ t :: ts := List.mem_cons_self
  have key : ∀ h₁, Heap.SameBut z s.heap h₁ → ∀ (Q' : Option PySem.Fin × Array Value → Shared → Prop) (f : Value → Option PySem.Fin × Array Value → Sem (ForInStep (Option PySem.Fin × Array Value))),
      (∀ (it : Value) (st : Option PySem.Fin × Array Value) (R : ForInStep (Option PySem.Fin × Array Value) → Shared → Prop) (s' : Shared), wpAny (model prog w) A (Builtin.SmallTypes.nextOf it) (fun x s'' => R (.yield (none, st.2.push x)) s'') E s' → wpAny (model prog w) A (f it st) R E s') →
      wpAny (model prog w) A (forIn ((t :: ts).map fun t => Value.ref t.1).toArray (none, #[]) f) Q' E { s with heap := h₁ } := by
    intro h₁ sb Q' f hf
    rw [← Array.forIn_toList]
    show wpAny _ _ (forIn ((t :: ts).map fun t => Value.ref t.1) (none, #[]) f) _ _ _
    rw [List.map_cons, List.forIn_cons]
    have d0 : Drw h₁ t.1 t.2.1 i t.2.2 := (hd t m0).keep fun c o hc q => by
      have dt := D.its t m0
      rcases hc with rfl | rfl
      · exact sb.extBut _ _ dt.1 q
      · exact sb.extBut _ _ dt.2.2.2.1 q
    refine wpAny_bind (hf _ _ _ _ (draw_end (s := { s with heap := h₁ }) hh d0 hx fun h' e eb ho => ?_))
    exact hE h' e (fun c o c1 c2 c3 q => eb c o (c3 t m0) (sb.extBut _ _ c1 q)) ho
  cases f1 with
  | true =>
    rw [if_neg (show ¬ ((Value.bool true != Value.bool true) = true) from Bool.false_ne_true)]
    refine wpAny_pure ?_
    simp only [Bool.false_eq_true, if_false]
    refine wpAny_bind (key s.heap (Heap.SameBut.refl _ _) _ _ (fun it st R s' hw => ?_))
    refine wpAny_bind (wpAny_holding ?_)
    show wpAny _ _ (Builtin.SmallTypes.nextOf it >>= _) _ _ _
    exact wpAny_bind (wpAny_mono hw (fun x s'' h => wpAny_pure (wpAny_pure h)) fun _ _ h => h)
  | false =>
    rw [if_pos (show (Value.bool false != Value.bool true) = true from rfl)]
    refine wpAny_bind (wpAny_setField_rec hz (by simp) fun h₁ z1 sb => ?_)
    refine wpAny_pure ?_
    simp only [Bool.false_eq_true, if_false]
    refine wpAny_bind (key h₁ sb _ _ (fun it st R s' hw => ?_))
    refine wpAny_bind (wpAny_holding ?_)
    show wpAny _ _ (Builtin.SmallTypes.nextOf it >>= _) _ _ _
    exact wpAny_bind (wpAny_mono hw (fun x s'' h => wpAny_pure (wpAny_pure h)) fun _ _ h => h)
/-- how a zip stands at turn i -/
structure ZSt (h : Heap) (z TI TO : Addr) (ts : List (Addr × Addr × Array Value)) (i : Nat) (lo : Addr) : Prop where
  ti : h.get? TI = some { cls := .type "tuple", data := .seq (ts.map fun t => Value.ref t.1).toArray }
  dr : AllDr h i ts
  ob : (∃ f1 old, old.size = ts.length ∧ ZipOb h z TI TO .none f1 ∧ h.get? TO = some { cls := .type "tuple", data := .seq old } ∧ i = 0) ∨ ∃ (a : Addr) (oa : Obj) (f1 : Bool), ZipOb h z TI TO (rawInt a) f1 ∧ h.get? a = some oa ∧ lo < a
theorem zn_item {z TI TO lo : Addr} {ts : List (Addr × Addr × Array Value)} {i : Nat} {xs : List Value} {Q : Option Value → Shared → Prop} (D : ZApart z TI TO ts) (hlo : z < lo ∧ TI < lo ∧ TO < lo ∧ ∀ t ∈ ts, t.1 < lo) (hls : lo < s.heap.objs.size) (st : ZSt s.heap z TI TO ts i lo) (hn : ts ≠ [])
    (hx : ts.map (fun t => t.2.2[i]?) = xs.map some) (hzs : xs.length ≤ sizeLine)
    (hQ : ∀ h', ZSt h' z TI TO ts (i + 1) lo → h'.get? s.heap.objs.size = some { cls := .type "tuple", data := .seq xs.toArray } → h'.objs.size = s.heap.objs.size + 1 → ZFr z TO ts s.heap h' → Q (some (.ref s.heap.objs.size)) { s with heap := h' }) :
    wpAny (model prog w) A (pyNext (.ref z)) Q E s := by
  obtain ⟨hTI, dr, ob⟩ := st
  have tiz : ∀ {h'}, ZFr z TO ts s.heap h' → h'.get? TI = some { cls := .type "tuple", data := .seq (ts.map fun t => Value.ref t.1).toArray } := fun fr => fr _ _ D.tiz D.tito (fun t mt => (D.its t mt).2.1.symm) hTI
  rcases ob with ⟨f1, old, ho, hz, hTO, rfl⟩ | ⟨a, oa, f1, hz, ha, hla⟩
  · have hT : s.TypeIs (.ref z) "zip" := ⟨_, hz, rfl⟩
    unfold pyNext
    exact wpAny_bind (wpAny_attempt (wpAny_callSpecial?_slot (name := Str.ofString "__next__") hT PySem.F.slot_zip_next
      (wpAny_call_entry PySem.F.slot_zip_next hT PySem.F.entry_zip_next
        (zn_next_first D hz hTI hTO ho hn dr hx hzs fun h' a1 a2 a3 a4 a5 => wpAny_pure (hQ h' ⟨tiz a5, a2, .inr ⟨_, _, false, a1, a3, hls⟩⟩ a3 a4 a5)) (PySem.F.args_zip_next_1 _))))
  · have hT : s.TypeIs (.ref z) "zip" := ⟨_, hz, rfl⟩
    unfold pyNext
    exact wpAny_bind (wpAny_attempt (wpAny_callSpecial?_slot (name := Str.ofString "__next__") hT PySem.F.slot_zip_next
      (wpAny_call_entry PySem.F.slot_zip_next hT PySem.F.entry_zip_next
        (zn_next_more D (Nat.ne_of_gt (Nat.lt_trans hlo.1 hla)) hz ha hTI hn dr hx hzs fun h' a1 a2 a3 a4 a5 => wpAny_pure (hQ h' ⟨tiz a5, a2, .inr ⟨a, oa, true, a1, a5 _ _ (Nat.ne_of_gt (Nat.lt_trans hlo.1 hla)) (Nat.ne_of_gt (Nat.lt_trans hlo.2.2.1 hla)) (fun t mt => Nat.ne_of_gt (Nat.lt_trans (hlo.2.2.2 t mt) hla)) ha, hla⟩⟩ a3 a4 a5)) (PySem.F.args_zip_next_1 _))))
theorem zn_end {z TI TO lo : Addr} {t : Addr × Addr × Array Value} {ts : List (Addr × Addr × Array Value)} {i : Nat} {Q : Option Value → Shared → Prop} (hh : A.handled = none) (D : ZApart z TI TO (t :: ts)) (hlo : z < lo) (st : ZSt s.heap z TI TO (t :: ts) i lo) (hi : i ≠ 0) (hx : t.2.2[i]? = none)
    (hQ : ∀ h', ZFr z TO (t :: ts) s.heap h' → Q none { s with heap := h' }) : wpAny (model prog w) A (pyNext (.ref z)) Q E s := by
  obtain ⟨hTI, dr, ob⟩ := st
  rcases ob with ⟨_, _, _, _, _, e⟩ | ⟨a, oa, f1, hz, ha, hla⟩
  · exact (hi e).elim
  · have hT : s.TypeIs (.ref z) "zip" := ⟨_, hz, rfl⟩
    unfold pyNext
    refine wpAny_bind (wpAny_attempt (wpAny_callSpecial?_slot (name := Str.ofString "__next__") hT PySem.F.slot_zip_next
      (wpAny_call_entry PySem.F.slot_zip_next hT PySem.F.entry_zip_next (zn_next_end hh D (Nat.ne_of_gt (Nat.lt_trans hlo hla)) hz ha hTI dr hx fun h' e hk he => ?_) (PySem.F.args_zip_next_1 _))))
    obtain ⟨o, ho, hc⟩ := he
    refine wpAny_bind (wpAny_isInstance (T := "StopIteration") (b := true) ⟨o, ho, hc⟩ isSubtype_stop ?_)
    exact wpAny_pure (hQ _ hk)
structure MadeZ (cols : List (List Value)) (lo : Addr) (h : Heap) (as : List Addr) : Prop where
  rise : as.Pairwise (· < ·)
  above : ∀ a ∈ as, lo < a
  tups : ∀ (j : Nat) (a : Addr), as[j]? = some a → ∃ c, cols[j]? = some c ∧ h.get? a = some { cls := .type "tuple", data := .seq c.toArray }
theorem MadeZ.there {cols : List (List Value)} {lo : Addr} {h : Heap} {as : List Addr} (g : MadeZ cols lo h as) {a : Addr} (ha : a ∈ as) : a < h.objs.size := by
  obtain ⟨j, hj⟩ := List.mem_iff_getElem?.mp ha
  obtain ⟨_, _, e⟩ := g.tups j a hj
  exact Heap.lt_size e
/-- all of a walk -/
structure ZCols (ts : List (Addr × Addr × Array Value)) (cols : List (List Value)) : Prop where
  at_ : ∀ (i : Nat) (c : List Value), cols[i]? = some c → ts.map (fun t => t.2.2[i]?) = c.map some ∧ c.length ≤ sizeLine
  pos : 0 < cols.length
  size : cols.length ≤ sizeLine
  ends : ∃ t r, ts = t :: r ∧ t.2.2[cols.length]? = none
theorem loopZ {S z TI TO : Addr} {ts : List (Addr × Addr × Array Value)} {cols : List (List Value)} {R : Result → Shared → Prop} (hh : A.handled = none) (D : ZApart z TI TO ts) (hlo : z < S ∧ TI < S ∧ TO < S ∧ ∀ t ∈ ts, t.1 < S) (hlS : ∀ t ∈ ts, t.2.1 ≠ S) (C : ZCols ts cols) (res : Value) {h₁ : Heap}
    (hR : ∀ h' tk acc c as, (∀ c o, c ≠ S → c ≠ z → c ≠ TO → (∀ t ∈ ts, c ≠ t.1) → h₁.get? c = some o → h'.get? c = some o) → h'.get? S = some { cls := .type "list", dict := none, data := .seq acc c, slots := #[] } → as.length = cols.length → MadeZ cols S h' as →
      acc.toList = as.map Value.ref → R (.ok (.ret res)) { s with heap := h', toks := tk }) :
    ∀ (k i : Nat) (h : Heap) (tk c : Nat) (acc : Array Value) (as : List Addr), cols.length - i = k → i ≤ cols.length → ZSt h z TI TO ts i S → (∀ c o, c ≠ S → c ≠ z → c ≠ TO → (∀ t ∈ ts, c ≠ t.1) → h₁.get? c = some o → h.get? c = some o) →
      h.get? S = some { cls := .type "list", dict := none, data := .seq acc c, slots := #[] } → acc.toList = as.map Value.ref → as.length = i → MadeZ cols S h as →
      codeAny (model prog w) A (.builtin "list.extend.loop" ⟨[.ref S, .ref z, res], []⟩) R { s with heap := h, toks := tk } := by
  obtain ⟨t0, r0, e0, hend⟩ := C.ends
  have frS : ∀ {h h'}, ZFr z TO ts h h' → ∀ o, h.get? S = some o → h'.get? S = some o := fun fr o e => fr S o (Nat.ne_of_gt hlo.1) (Nat.ne_of_gt hlo.2.2.1) (fun t mt => Nat.ne_of_gt (hlo.2.2.2 t mt)) e
  have frA : ∀ {h h'}, ZFr z TO ts h h' → ∀ a o, S < a → h.get? a = some o → h'.get? a = some o := fun fr a o ha e => fr a o (Nat.ne_of_gt (Nat.lt_trans hlo.1 ha)) (Nat.ne_of_gt (Nat.lt_trans hlo.2.2.1 ha)) (fun t mt => Nat.ne_of_gt (Nat.lt_trans (hlo.2.2.2 t mt) ha)) e
  intro k
  induction k with
  | zero =>
    intro i h tk c acc as hk hi hst hkeep hS hacc hal hG
    have ei : i = cols.length := by omega
    refine codeAny_builtin PySem.F.entry_extend_loop ?_
    rw [Around.under_plainId PySem.F.plain_extend_loop _]
    show wpAny _ A.in1 (pyNext (.ref z) >>= _) _ _ _
    subst e0
    refine wpAny_bind (zn_end (s := { s with heap := h, toks := tk }) (A := A.in1) hh D hlo.1 hst (by have := C.pos; omega) (by rw [ei]; exact hend) fun h' fr => ?_)
    refine wpAny_pure (hR h' tk acc c as (fun c o c0 c1 c2 c3 e => fr c o c1 c2 c3 (hkeep c o c0 c1 c2 c3 e)) (frS fr _ hS) (by omega) ⟨hG.rise, hG.above, fun j a hj => ?_⟩ hacc)
    obtain ⟨e, e1, e3⟩ := hG.tups j a hj
    exact ⟨e, e1, frA fr a _ (hG.above a (List.mem_of_getElem? hj)) e3⟩
  | succ k ih =>
    intro i h tk c acc as hk hi hst hkeep hS hacc hal hG
    have hlt : i < cols.length := by omega
    have hsz : acc.size = i := by rw [← Array.length_toList, hacc, List.length_map, hal]
    obtain ⟨hx, hzs⟩ := C.at_ i _ (List.getElem?_eq_getElem hlt)
    have hSl : S < h.objs.size := Heap.lt_size hS
    refine codeAny_builtin PySem.F.entry_extend_loop ?_
    rw [Around.under_plainId PySem.F.plain_extend_loop _]
    show wpAny _ A.in1 (pyNext (.ref z) >>= _) _ _ _
    refine wpAny_bind (zn_item (s := { s with heap := h, toks := tk }) D hlo hSl hst (by rw [e0]; simp) hx hzs fun h' hst' ht hz fr => ?_)
    dsimp only at ht hz fr ⊢
    have hS' := frS fr _ hS
    have up : ∀ b o, b ≠ S → h'.get? b = some o → (h'.update S (Obj.mapSeq (·.push (Value.ref h.objs.size)))).get? b = some o := fun b o hb e => (Heap.get?_update_other _ _ (Ne.symm hb)).trans e
    have size := C.size
    show wpAny _ A.in1 (updateSeq S (·.push (Value.ref h.objs.size)) >>= _) _ _ _
    refine wpAny_bind ?_
    refine wpAny_updateSeq hS' rfl (wpAny_pure ⟨plainId_quiet PySem.F.plain_extend_loop _, ih (i + 1) _ tk _ (acc.push (Value.ref h.objs.size)) (as ++ [h.objs.size]) (by omega) hlt ?_
      (fun c o c0 c1 c2 c3 e => up c o c0 (fr c o c1 c2 c3 (hkeep c o c0 c1 c2 c3 e))) (Heap.get?_update_self _ hS' rfl) (by rw [Array.toList_push, hacc, List.map_append]; rfl) (by rw [List.length_append, hal]; rfl) ⟨?_, ?_, ?_⟩⟩) (by rw [hsz]; omega) (by show (acc.push (Value.ref h.objs.size)).size ≤ sizeLine + 1; rw [Array.size_push, hsz]; omega)
    · refine ⟨up _ _ (Nat.ne_of_lt hlo.2.1) hst'.ti, fun t mt => (hst'.dr t mt).keep fun c o hc q => ?_, ?_⟩
      · rcases hc with rfl | rfl
        · exact up _ _ (Nat.ne_of_lt (hlo.2.2.2 t mt)) q
        · exact up _ _ (hlS t mt) q
      · rcases hst'.ob with ⟨_, _, _, _, _, e⟩ | ⟨a, oa, f1, q1, q2, q3⟩
        · omega
        · exact .inr ⟨a, oa, f1, up _ _ (Nat.ne_of_lt hlo.1) q1, up _ _ (Nat.ne_of_gt q3) q2, q3⟩
    · refine List.pairwise_append.mpr ⟨hG.rise, List.pairwise_singleton _ _, fun a ha b hb => ?_⟩
      rw [List.mem_singleton.mp hb]
      exact hG.there ha
    · intro a ha
      rcases List.mem_append.mp ha with ha | ha
      · exact hG.above a ha
      · rw [List.mem_singleton.mp ha]; exact hSl
    · intro j b hj
      rcases Nat.lt_trichotomy j as.length with h1 | h1 | h1
      · rw [List.getElem?_append_left h1] at hj
        obtain ⟨e', e1, e3⟩ := hG.tups j b hj
        have hb := hG.above b (List.mem_of_getElem? hj)
        exact ⟨e', e1, up b _ (Nat.ne_of_gt hb) (frA fr b _ hb e3)⟩
      · subst h1
        have hb : h.objs.size = b := by simpa using hj
        subst hb
        exact ⟨cols[as.length]'(by rw [hal]; exact hlt), List.getElem?_eq_getElem _, up _ _ (Nat.ne_of_gt hSl) (by subst hal; exact ht)⟩
      · have hnone : (as ++ [h.objs.size])[j]? = none := List.getElem?_eq_none (by rw [List.length_append, List.length_singleton]; omega)
        rw [hnone] at hj; cases hj
theorem zip_tc (us : List Value) : checkTypeCall "zip" ⟨us, []⟩ = pure () := by kernel_rfl
theorem zip_nc (a : Value) (us : List Value) : checkBuiltinCall "zip.__new__" ⟨.type "zip" :: a :: us, []⟩ = pure () := by kernel_rfl
theorem zip_oi (obj : Value) (us : List Value) : argsOk "object.__init__" ⟨obj :: us, []⟩ := by
  unfold argsOk; rw [signature?_of (id := "object.__init__") (n := ['_', '_', 't', 'i', 'n', 'i', '_', '_']) (o := ['t', 'c', 'e', 'j', 'b', 'o']) (by kernel_rfl) PySem.F.owner_object]; kernel_rfl
/-- a list or a tuple that is walked -/
def Src (h : Heap) (l : Addr) (row : Array Value) : Prop := h.IsList l row ∨ h.IsTuple l row
theorem Src.keep {h h' : Heap} {l : Addr} {row : Array Value} (d : Src h l row) (k : ∀ c o, h.get? c = some o → h'.get? c = some o) : Src h' l row := by
  rcases d with ⟨o, a, b⟩ | ⟨o, a, b⟩
  · exact .inl ⟨o, k _ _ a, b⟩
  · exact .inr ⟨o, k _ _ a, b⟩
theorem Src.lt {h : Heap} {l : Addr} {row : Array Value} (d : Src h l row) : l < h.objs.size := by
  rcases d with ⟨o, a, b⟩ | ⟨o, a, b⟩ <;> exact Heap.lt_size a
/-- the triples of sources: their iterators stand one behind another -/
def trips : Addr → List (Addr × Array Value) → List (Addr × Addr × Array Value)
  | _, [] => []
  | b, (l, row) :: r => (b, l, row) :: trips (b + 1) r
theorem trips_mem {b : Addr} {ls : List (Addr × Array Value)} {t : Addr × Addr × Array Value} (h : t ∈ trips b ls) : b ≤ t.1 ∧ t.1 < b + ls.length ∧ (t.2.1, t.2.2) ∈ ls := by
  induction ls generalizing b with
  | nil => cases h
  | cons p r ih =>
    rcases List.mem_cons.mp h with rfl | h
    · exact ⟨Nat.le_refl _, by rw [List.length_cons]; exact Nat.lt_add_of_pos_right (Nat.succ_pos _), List.mem_cons_self⟩
    · obtain ⟨a, c, d⟩ := ih h
      exact ⟨Nat.le_of_succ_le a, by rw [List.length_cons]; exact Nat.lt_of_lt_of_eq c (Nat.succ_add_eq_add_succ _ _), List.mem_cons_of_mem _ d⟩
theorem trips_nd (b : Addr) : ∀ ls : List (Addr × Array Value), ((trips b ls).map (·.1)).Nodup
  | [] => List.nodup_nil
  | p :: r => by
    refine List.nodup_cons.mpr ⟨fun h => ?_, trips_nd (b + 1) r⟩
    obtain ⟨t, ht, e⟩ := List.mem_map.mp h
    have h1 := (trips_mem ht).1
    have e : t.1 = b := e
    rw [e] at h1
    exact Nat.not_succ_le_self b h1
theorem iterAll_ok {ls : List (Addr × Array Value)} {Q : List Value → Shared → Prop} (hs : ∀ p ∈ ls, Src s.heap p.1 p.2)
    (h : ∀ h', (∀ c o, s.heap.get? c = some o → h'.get? c = some o) → h'.objs.size = s.heap.objs.size + ls.length → AllDr h' 0 (trips s.heap.objs.size ls) → Q ((trips s.heap.objs.size ls).map fun t => Value.ref t.1) { s with heap := h' }) :
    wpAny (model prog w) A (Builtin.SmallTypes.iterAll (ls.map fun p => Value.ref p.1)) Q E s := by
  unfold Builtin.SmallTypes.iterAll
  refine wpAny_bind ?_
  refine for_steps (fun l (st : Array Value) s' => ∃ h', (∀ c o, s.heap.get? c = some o → h'.get? c = some o) ∧ s' = { s with heap := h' } ∧ ∃ done rest, ls = done ++ rest ∧ l = rest.map (fun p => Value.ref p.1) ∧ h'.objs.size = s.heap.objs.size + done.length ∧ AllDr h' 0 (trips s.heap.objs.size done) ∧ st.toList = (trips s.heap.objs.size done).map fun t => Value.ref t.1) ?_ ?_ _ _ _ ?_
  · rintro x r st s' ⟨h', hk, rfl, done, rest, hls, hl, hz, dr, hst⟩
    cases rest with
    | nil => cases hl
    | cons p rest =>
      obtain ⟨l, row⟩ := p
      cases hl
      have sl := (hs (l, row) (by rw [hls]; exact List.mem_append_right _ List.mem_cons_self)).keep hk
      have trip : ∀ (done : List (Addr × Array Value)) (b : Addr), trips b (done ++ [(l, row)]) = trips b done ++ [(b + done.length, l, row)] := by
        intro done
        induction done with
        | nil => intro b; rfl
        | cons q r ih => intro b; show (b, q.1, q.2) :: trips (b + 1) (r ++ [(l, row)]) = _; rw [ih]; show _ = (b, q.1, q.2) :: (trips (b + 1) r ++ [(b + (r.length + 1), l, row)]); rw [Nat.add_assoc b 1, Nat.add_comm 1]
      have step : ∀ o, (o = ({ cls := .type "list_iterator", data := .fields #[.ref l, .int 0 0] } : Obj) ∧ h'.IsList l row ∨ o = ({ cls := .type "tuple_iterator", data := .fields #[.ref l, .int 0 0] } : Obj) ∧ h'.IsTuple l row) →
          ∃ st', (ForInStep.yield (st.push (.ref h'.objs.size)) : ForInStep (Array Value)) = .yield st' ∧ ∃ h'', (∀ c o, s.heap.get? c = some o → h''.get? c = some o) ∧ ({ s with heap := h'.push o } : Shared) = { s with heap := h'' } ∧ ∃ done' rest', ls = done' ++ rest' ∧ rest.map (fun p => Value.ref p.1) = rest'.map (fun p => Value.ref p.1) ∧ h''.objs.size = s.heap.objs.size + done'.length ∧ AllDr h'' 0 (trips s.heap.objs.size done') ∧ st'.toList = (trips s.heap.objs.size done').map fun t => Value.ref t.1 := by
        intro o ho
        refine ⟨_, rfl, h'.push o, fun c o' e => Heap.get?_push_of_some _ (hk c o' e), rfl, done ++ [(l, row)], rest, by rw [hls, List.append_assoc]; rfl, rfl, by rw [Heap.size_push, hz, List.length_append]; rfl, ?_, ?_⟩
        · rw [trip]
          intro t ht
          rcases List.mem_append.mp ht with ht | ht
          · exact (dr t ht).keep fun c o' _ e => Heap.get?_push_of_some _ e
          · rw [List.mem_singleton.mp ht, ← hz]
            have fr : o.isFreed = false := by rcases ho with ⟨rfl, _⟩ | ⟨rfl, _⟩ <;> rfl
            have g := Heap.get?_push_size h' fr
            rcases ho with ⟨rfl, q⟩ | ⟨rfl, q⟩
            · exact .inl ⟨⟨_, g, rfl, rfl⟩, let ⟨o', a, b⟩ := q; ⟨o', Heap.get?_push_of_some _ a, b⟩⟩
            · exact .inr ⟨⟨_, g, rfl, rfl⟩, let ⟨o', a, b⟩ := q; ⟨o', Heap.get?_push_of_some _ a, b⟩⟩
        · rw [Array.toList_push, hst, trip, List.map_append, hz]; rfl
      show wpAny _ _ (holding st.toList (pyIter (.ref l)) >>= _) _ _ _
      rcases sl with sl | sl
      · exact wpAny_bind (wpAny_holding (wpAny_pyIter_list (s := { s with heap := h' }) sl (wpAny_pure (step _ (.inl ⟨rfl, sl⟩)))))
      · exact wpAny_bind (wpAny_holding (wpAny_pyIter_tuple (s := { s with heap := h' }) sl (wpAny_pure (step _ (.inr ⟨rfl, sl⟩)))))
  · rintro st s' ⟨h', hk, rfl, done, rest, hls, hl, hz, dr, hst⟩
    have er : rest = [] := by cases rest with | nil => rfl | cons _ _ => cases hl
    subst er
    rw [List.append_nil] at hls
    subst hls
    refine wpAny_pure ?_
    rw [hst]
    exact h h' hk hz dr
  · exact ⟨s.heap, fun _ _ e => e, rfl, [], ls, rfl, rfl, rfl, (fun t ht => by cases ht), rfl⟩
theorem newClass_zip {us : List Value} {Q : Value × List Value → Shared → Prop} (h : Q (.type "zip", us) s) : wpAny (model prog w) A (Builtin.SmallTypes.newClass "zip" ⟨.type "zip" :: us, []⟩) Q E s := by
  have hsub := sub_zip
  unfold Builtin.SmallTypes.newClass
  wp_walk
  exact h
/-- a new zip of these sources -/
structure ZNew (h0 h' : Heap) (ls : List (Addr × Array Value)) : Prop where
  keep : ∀ c o, h0.get? c = some o → h'.get? c = some o
  size : h'.objs.size = h0.objs.size + ls.length + 3
  st : ZSt h' (h0.objs.size + ls.length + 2) (h0.objs.size + ls.length) (h0.objs.size + ls.length + 1) (trips h0.objs.size ls) 0 h'.objs.size
theorem trips_len (b : Addr) : ∀ ls : List (Addr × Array Value), (trips b ls).length = ls.length
  | [] => rfl
  | p :: r => by show (trips (b + 1) r).length + 1 = r.length + 1; rw [trips_len]
theorem zip_newN (ls : List (Addr × Array Value)) (hl : ls.length ≤ sizeLine) : Meets (Builtin.«zip.__new__» ⟨.type "zip" :: ls.map (fun p => Value.ref p.1), []⟩)
    (fun _ R s => (∀ p ∈ ls, Src s.heap p.1 p.2) ∧ ∀ h', ZNew s.heap h' ls → R (.ok (.ret (.ref (s.heap.objs.size + ls.length + 2)))) { s with heap := h' }) :=
  .of_wp fun prog w A R s ⟨hs, h⟩ => by
    unfold Builtin.«zip.__new__»
    refine wpAny_bind (newClass_zip ?_)
    simp only [List.length_nil, gt_iff_lt, Nat.not_lt_zero, if_false]
    refine wpAny_bind (iterAll_ok hs fun h1 hk hz dr => ?_)
    refine wpAny_bind (wpAny_newTuple ?_ (by rw [List.length_map, trips_len]; exact hl))
    refine wpAny_bind (wpAny_newTuple ?_ (by rw [List.length_map, List.length_map, trips_len]; exact hl))
    refine wpAny_bind ?_
    unfold Builtin.SmallTypes.newRecord
    refine wpAny_newObj_type (hd := by show (5 : Nat) ≤ sizeLine + 2; decide) (wpAny_pure ⟨_, rfl, ?_⟩)
    dsimp only
    generalize e1d : h1.push { cls := .type "tuple", data := .seq ((trips s.heap.objs.size ls).map fun t => Value.ref t.1).toArray } = h2
    have e1 : h2.objs.size = s.heap.objs.size + ls.length + 1 := by rw [← e1d, Heap.size_push, hz]
    have g1 : h2.get? h1.objs.size = some { cls := .type "tuple", data := .seq ((trips s.heap.objs.size ls).map fun t => Value.ref t.1).toArray } := by rw [← e1d]; exact Heap.get?_push_size _ rfl
    have k1 : ∀ c o, h1.get? c = some o → h2.get? c = some o := fun c o e => by rw [← e1d]; exact Heap.get?_push_of_some _ e
    generalize e2d : h2.push { cls := .type "tuple", data := .seq (((trips s.heap.objs.size ls).map fun t => Value.ref t.1).map fun _ => Value.none).toArray } = h3
    have e2 : h3.objs.size = s.heap.objs.size + ls.length + 2 := by rw [← e2d, Heap.size_push, e1]
    have g2 : h3.get? h2.objs.size = some { cls := .type "tuple", data := .seq (((trips s.heap.objs.size ls).map fun t => Value.ref t.1).map fun _ => Value.none).toArray } := by rw [← e2d]; exact Heap.get?_push_size _ rfl
    have k2 : ∀ c o, h2.get? c = some o → h3.get? c = some o := fun c o e => by rw [← e2d]; exact Heap.get?_push_of_some _ e
    rw [hz, e1, e2]
    rw [hz] at g1
    rw [e1] at g2
    refine h _ ⟨fun c o e => Heap.get?_push_of_some _ (k2 c o (k1 c o (hk c o e))), by rw [Heap.size_push, e2], Heap.get?_push_of_some _ (k2 _ _ g1), fun t mt => (dr t mt).keep fun c o _ e => Heap.get?_push_of_some _ (k2 c o (k1 c o e)), .inl ⟨false, _, ?_, ?_, Heap.get?_push_of_some _ g2, rfl⟩⟩
    · simp [trips_len]
    · have g3 := Heap.get?_push_size h3 (o := { cls := .type "zip", data := .fields (Builtin.SmallTypes.ownedTupleFields ++ [Value.bool false, .ref (s.heap.objs.size + ls.length), .ref (s.heap.objs.size + ls.length + 1)]).toArray }) rfl
      rw [e2] at g3
      exact g3
theorem zip_no_len : typeLookup (.type "zip") "__len__" = pure none := by rw [typeLookup_type, builtinLookup_eq_fast]; kernel_rfl
theorem zip_no_hint : typeLookup (.type "zip") "__length_hint__" = pure none := by rw [typeLookup_type, builtinLookup_eq_fast]; kernel_rfl
theorem zst_is {h : Heap} {z TI TO lo : Addr} {ts : List (Addr × Addr × Array Value)} {i : Nat} (st : ZSt h z TI TO ts i lo) : ∃ f0 f1, ZipOb h z TI TO f0 f1 := by
  rcases st.ob with ⟨f1, _, _, a, _⟩ | ⟨a, _, f1, b, _⟩
  · exact ⟨_, _, a⟩
  · exact ⟨_, _, b⟩
theorem ZSt.keep {h h' : Heap} {z TI TO lo lo' : Addr} {ts : List (Addr × Addr × Array Value)} (st : ZSt h z TI TO ts 0 lo) (f : ∀ a, ¬ ∃ f1, ZipOb h z TI TO (rawInt a) f1) (k : ∀ c o, h.get? c = some o → h'.get? c = some o) : ZSt h' z TI TO ts 0 lo' :=
  ⟨k _ _ st.ti, fun t mt => (st.dr t mt).keep fun c o _ e => k c o e, .inl (by
    rcases st.ob with ⟨f1, old, a, b, c, d⟩ | ⟨a, oa, f1, b, _⟩
    · exact ⟨f1, old, a, k _ _ b, k _ _ c, d⟩
    · exact (f a ⟨f1, b⟩).elim)⟩
theorem pyIter_zipT {z : Addr} {Q : Value → Shared → Prop} (hT : s.TypeIs (.ref z) "zip") (h : Q (.ref z) s) : wpAny (model prog w) A (pyIter (.ref z)) Q E s := by
  refine wpAny_pyIter_slot hT PySem.F.slot_zip_iter (wpAny_call_entry PySem.F.slot_zip_iter hT PySem.F.entry_zip_iter ?_ (PySem.F.args_zip_iter_1 _))
  show wpAny _ _ (ret (.ref z)) _ _ s
  exact wpAny_pure ⟨_, rfl, "zip", _, hT, PySem.F.slot_zip_next.lookup, h⟩
theorem collectZ {z TI TO : Addr} {ts : List (Addr × Addr × Array Value)} {cols : List (List Value)} {R : List Value → Shared → Prop} (hh : A.handled = none) (D : ZApart z TI TO ts) (hlo : z < s.heap.objs.size ∧ TI < s.heap.objs.size ∧ TO < s.heap.objs.size ∧ ∀ t ∈ ts, t.1 < s.heap.objs.size) (hlS : ∀ t ∈ ts, t.2.1 < s.heap.objs.size) (C : ZCols ts cols)
    (st : ∀ h' lo, (∀ c o, s.heap.get? c = some o → h'.get? c = some o) → ZSt h' z TI TO ts 0 lo)
    (h : ∀ (h' : Heap) (tk : Nat) (as : List Addr), (∀ c o, c ≠ z → c ≠ TO → (∀ t ∈ ts, c ≠ t.1) → s.heap.get? c = some o → h'.get? c = some o) → s.heap.objs.size < h'.objs.size → as.length = cols.length → MadeZ cols s.heap.objs.size h' as → R (as.map Value.ref) { s with heap := h', toks := tk }) :
    wpAny (model prog w) A (collect (.ref z)) R E s := by
  have hT : ∀ {h' : Heap} {s' : Shared}, (∀ c o, s.heap.get? c = some o → h'.get? c = some o) → ({ s with heap := h' } : Shared).TypeIs (.ref z) "zip" := fun {h'} {s'} k => by
    obtain ⟨f0, f1, q⟩ := zst_is (st h' 0 k)
    exact ⟨_, q, rfl⟩
  unfold collect
  refine wpAny_bind (wpAny_runValue (codeAny_builtin PySem.F.entry_proto_collect ?_))
  rw [Around.under_plainId PySem.F.plain_proto_collect _]
  show wpAny _ A.in1 (newList [] >>= fun l => again (.builtin "list.__iadd__" ⟨[l, .ref z], []⟩)) _ _ s
  refine wpAny_bind (wpAny_newObj_type ?_)
  refine wpAny_pure ⟨plainId_quiet PySem.F.plain_list_iadd _, codeAny_builtin PySem.F.entry_list_iadd ?_⟩
  rw [Around.under_plainId PySem.F.plain_list_iadd _]
  have hS₁ : (s.heap.push { cls := .type "list", data := .seq ([] : List Value).toArray }).get? s.heap.objs.size = some { cls := .type "list", data := .seq ([] : List Value).toArray } := Heap.get?_push_size _ rfl
  generalize e1 : s.heap.push { cls := .type "list", data := .seq ([] : List Value).toArray } = h1 at hS₁
  have k1 : ∀ c o, s.heap.get? c = some o → h1.get? c = some o := fun c o e => by rw [← e1]; exact Heap.get?_push_of_some _ e
  have z1 : h1.objs.size = s.heap.objs.size + 1 := by rw [← e1, Heap.size_push]
  show wpAny _ A.in1 (Builtin.List.listExtendWith (.ref s.heap.objs.size) (.ref z) (.ref s.heap.objs.size)) _ _ _
  unfold Builtin.List.listExtendWith
  refine wpAny_bind (wpAny_typeOf (hT (s' := s) k1) ?_)
  have q1 : Builtin.List.listSameRef (.ref s.heap.objs.size) (.ref z) = false := by simp [Builtin.List.listSameRef, Nat.ne_of_gt hlo.1]
  have q2 : (Value.type "zip" == Value.type "list") = false := by decide
  have q3 : (Value.type "zip" == Value.type "tuple") = false := by decide
  simp only [q1, q2, q3, Bool.or_false, Bool.false_eq_true, if_false]
  refine wpAny_bind (pyIter_zipT (hT (s' := s) k1) ?_)
  refine wpAny_bind (wpAny_holding ?_)
  unfold Builtin.List.listLengthHint
  refine wpAny_bind (wpAny_specialOf (hT (s' := s) k1) zip_no_len ?_)
  show wpAny _ A.in1 (specialOf (Value.ref z) (Str.ofString "__length_hint__") >>= _) _ _ _
  refine wpAny_bind (wpAny_specialOf (hT (s' := s) k1) zip_no_hint ?_)
  refine wpAny_pure ?_
  show wpAny _ A.in1 (rule "list.extend.makes-room" >>= fun _ => Builtin.List.listTouch (.ref s.heap.objs.size) >>= fun _ =>
    again (.builtin "list.extend.loop" ⟨[.ref s.heap.objs.size, .ref z, .ref s.heap.objs.size], []⟩)) _ _ _
  refine wpAny_bind (wpAny_rule ?_)
  refine wpAny_bind ?_
  show wpAny _ A.in1 (updateSeq s.heap.objs.size (·.push .none) >>= fun _ => updateSeq s.heap.objs.size (·.pop)) _ _ _
  refine wpAny_bind (wpAny_updateSeq hS₁ rfl ?_)
  have hS₂ := Heap.get?_update_self (Obj.mapSeq (·.push Value.none)) hS₁ rfl
  refine wpAny_updateSeq hS₂ rfl ?_
  have hS₃ := Heap.get?_update_self (Obj.mapSeq (·.pop)) hS₂ rfl
  have oth : ∀ b o, b ≠ s.heap.objs.size → h1.get? b = some o → ((h1.update s.heap.objs.size (Obj.mapSeq (·.push Value.none))).update s.heap.objs.size (Obj.mapSeq (·.pop))).get? b = some o :=
    fun b o hb e => (Heap.get?_update_other _ _ (Ne.symm hb)).trans ((Heap.get?_update_other _ _ (Ne.symm hb)).trans e)
  have k3 : ∀ c o, s.heap.get? c = some o → ((h1.update s.heap.objs.size (Obj.mapSeq (·.push Value.none))).update s.heap.objs.size (Obj.mapSeq (·.pop))).get? c = some o := fun c o e => oth c o (Nat.ne_of_lt (Heap.lt_size e)) (k1 c o e)
  refine wpAny_pure ⟨plainId_quiet PySem.F.plain_extend_loop _, loopZ (s := s) (h₁ := s.heap) hh D hlo (fun t mt => Nat.ne_of_lt (hlS t mt)) C _ (fun h' tk acc c as hk hS' hl hG hacc => ?_) cols.length 0 _ s.toks _ _ [] (Nat.sub_zero _) (Nat.zero_le _) (st _ _ k3) (fun c o _ _ _ _ e => k3 c o e) hS₃ (by simp) rfl ⟨List.Pairwise.nil, (fun _ ha => nomatch ha), (fun j a hj => by simp at hj)⟩⟩
  show wpAny _ A (load s.heap.objs.size >>= _) _ _ _
  refine wpAny_bind (wpAny_load hS' ?_)
  refine wpAny_pure ?_
  show R acc.toList _
  rw [hacc]
  exact h h' tk as (fun c o c1 c2 c3 e => hk c o (Nat.ne_of_lt (Heap.lt_size e)) c1 c2 c3 e) (Heap.lt_size hS') hl hG
theorem zA1 (b n : Nat) : b + n ≠ b + n + 2 ∧ b + n + 1 ≠ b + n + 2 ∧ b + n ≠ b + n + 1 := by omega
theorem zA2 {b n t l : Nat} (h1 : b ≤ t) (h2 : t < b + n) (h3 : l < b) : t ≠ b + n + 2 ∧ t ≠ b + n ∧ t ≠ b + n + 1 ∧ l ≠ b + n + 2 ∧ l ≠ b + n + 1 := by omega
theorem zA3 {b t l : Nat} (h1 : b ≤ t) (h3 : l < b) : l ≠ t := by omega
theorem zA4 {b n z : Nat} (h : z = b + n + 3) : b + n + 2 < z ∧ b + n < z ∧ b + n + 1 < z ∧ b ≤ z := by omega
theorem zA5 {b n z t : Nat} (h : z = b + n + 3) (q : t < b + n) : t < z := by omega
theorem zA6 {b n z t : Nat} (h : z = b + n + 3) (q : t < b) : t < z ∧ t ≠ b + n + 2 ∧ t ≠ b + n + 1 := by omega
/-- the answer of tuple(zip(*sources)) -/
theorem tuple_zip {ls : List (Addr × Array Value)} {cols : List (List Value)} {Q : Value → Shared → Prop} (hh : A.handled = none) (hn : ls ≠ []) (hll : ls.length ≤ sizeLine) (hs : ∀ p ∈ ls, Src s.heap p.1 p.2) (C : ZCols (trips s.heap.objs.size ls) cols)
    (h : ∀ (h' : Heap) (tk : Nat) (as : List Addr), (∀ b o, s.heap.get? b = some o → h'.get? b = some o) → as.length = cols.length → MadeZ cols s.heap.objs.size h' as → Q (.ref h'.objs.size) { s with heap := h'.push { cls := .type "tuple", data := .seq (as.map Value.ref).toArray }, toks := tk }) :
    wpAny (model prog w) A (call (.type "zip") (ls.map fun p => Value.ref p.1)) (fun v s' => wpAny (model prog w) A (call (.type "tuple") [v]) Q E s') E s := by
  obtain ⟨p0, r0, e0⟩ := List.exists_cons_of_ne_nil hn
  refine callType_new PySem.F.called_zip (by decide) (zip_tc _) (by rw [e0]; exact zip_nc _ _) (fun obj => zip_oi obj _) PySem.F.entry_zip_new (zip_newN ls hll) ⟨hs, fun h' N => ?_⟩
  show _ ∧ _
  obtain ⟨f0, f1, zo⟩ := zst_is N.st
  have hT : ({ s with heap := h' } : Shared).TypeIs (.ref (s.heap.objs.size + ls.length + 2)) "zip" := ⟨_, zo, rfl⟩
  refine ⟨hT, ?_⟩
  have key : Meets (Builtin.«tuple.__new__» ⟨[.type "tuple", .ref (s.heap.objs.size + ls.length + 2)], []⟩) (fun A R s1 => s1 = { s with heap := h' } ∧ A.handled = none ∧
      ∀ (h' : Heap) (tk : Nat) (as : List Addr), (∀ b o, s.heap.get? b = some o → h'.get? b = some o) → as.length = cols.length → MadeZ cols s.heap.objs.size h' as → R (.ok (.ret (.ref h'.objs.size))) { s with heap := h'.push { cls := .type "tuple", data := .seq (as.map Value.ref).toArray }, toks := tk }) :=
    .of_wp fun prog w A R s1 ⟨e, hh, h⟩ => by
      subst e
      have hsub := sub_tuple_self
      have hinit := init_tuple_lookup
      have hmh := madeHere_tuple
      have apart : ZApart (s.heap.objs.size + ls.length + 2) (s.heap.objs.size + ls.length) (s.heap.objs.size + ls.length + 1) (trips s.heap.objs.size ls) := by
        refine ⟨(zA1 _ _).1, (zA1 _ _).2.1, (zA1 _ _).2.2, fun t mt => ?_, trips_nd _ _, fun t mt u mu => ?_⟩
        · obtain ⟨a, b, c⟩ := trips_mem mt
          exact zA2 a b (hs _ c).lt
        · exact zA3 (trips_mem mu).1 (hs _ (trips_mem mt).2.2).lt
      have col : ∀ (prog : Program) (w : World) (A : Around) (E : Value → Shared → Prop) (R' : List Value → Shared → Prop), A.handled = none →
          (∀ (h2 : Heap) (tk : Nat) (as : List Addr), (∀ b o, s.heap.get? b = some o → h2.get? b = some o) → as.length = cols.length → MadeZ cols s.heap.objs.size h2 as → R' (as.map Value.ref) { s with heap := h2, toks := tk }) →
          wpAny (model prog w) A (collect (.ref (s.heap.objs.size + ls.length + 2))) R' E { s with heap := h' } := by
        intro prog w A E R' hh hR'
        have sz := N.size
        have z4 := zA4 sz
        refine collectZ (s := { s with heap := h' }) hh apart ⟨z4.1, z4.2.1, z4.2.2.1, fun t mt => zA5 sz (trips_mem mt).2.1⟩ (fun t mt => (zA6 sz (hs _ (trips_mem mt).2.2).lt).1) C (fun h2 lo k => ?_) fun h2 tk as hk hz hl hG => ?_
        · obtain ⟨ti, dr, ob⟩ := N.st
          refine ⟨k _ _ ti, fun t mt => (dr t mt).keep fun c o _ e => k c o e, ?_⟩
          rcases ob with ⟨f1, old, a, b, c, d⟩ | ⟨a, oa, f1, b, c, d⟩
          · exact .inl ⟨f1, old, a, k _ _ b, k _ _ c, d⟩
          · exact absurd (Heap.lt_size c) (Nat.lt_asymm d)
        · refine hR' h2 tk as (fun b o e => ?_) hl ⟨hG.rise, fun a ha => Nat.lt_of_le_of_lt z4.2.2.2 (hG.above a ha), hG.tups⟩
          have hb := zA6 sz (Heap.lt_size e)
          exact hk b o hb.2.1 hb.2.2 (fun t mt => zA3 (trips_mem mt).1 (Heap.lt_size e)) (N.keep b o e)
      wp_walk using wpAny_loadPart' zo, wpAny_typeOf hT, col
      all_goals first
        | exact hh
        | (intro h2 tk as hk hl hG
           refine wpAny_bind (wpAny_pure ?_)
           show wpAny _ _ (Builtin.Tuple.tupleExact (as.map Value.ref).toArray >>= fun v => ret v) _ _ _
           unfold Builtin.Tuple.tupleExact
           refine wpAny_bind (wpAny_newObj_type ?_ (by show (as.map Value.ref).toArray.size ≤ sizeLine; have := C.size; simp only [List.size_toArray, List.length_map, hl]; exact this))
           exact wpAny_pure ⟨_, rfl, h h2 tk as hk hl hG⟩)
  exact callType_new PySem.F.called_tuple (by decide) (PySem.F.typeCall_tuple_1 _) (PySem.F.newCall_tuple_1 _) (fun obj => PySem.F.args_object_init_2 obj _) PySem.F.entry_tuple_new key
    ⟨rfl, hh, fun h2 tk as hk hl hG => ⟨⟨_, Heap.get?_push_size _ rfl, rfl⟩, h h2 tk as hk hl hG⟩⟩
end
end DL
set_option Elab.async false
set_option linter.all false
set_option maxRecDepth 100000
/-! tuple(zip(*rows)), by data. -/
namespace DL
open PySem PySem.Spec PyProof.Rows L2
section
variable {K : PySem.W.Frag} {α : List Addr} {H : Hp} {h : Heap}
/-- rows as data, as values, as they stand -/
inductive Rws (K : PySem.W.Frag) (α : List Addr) (H : Hp) (h : Heap) : List (List D) → List V → List (Addr × Array Value) → List (List V) → Prop where
  | nil : Rws K α H h [] [] [] []
  | cons {a : Addr} {xs : List D} {vs : List V} {its : List Value} {xss : List (List D)} {ws : List V} {ls : List (Addr × Array Value)} {vss : List (List V)} :
      Src h a its.toArray → RDs K α H xs vs → Vals vs its → Rws K α H h xss ws ls vss → Rws K α H h (xs :: xss) (.ref a :: ws) ((a, its.toArray) :: ls) (vs :: vss)
/-- the items of rows -/
def rowsD (st : Sto) : List D → Option (List (List D))
  | [] => some []
  | d :: r => match itemsD st d, rowsD st r with
    | some xs, some xss => some (xs :: xss)
    | _, _ => none
/-- columns of rows of m -/
def colsD (m : Nat) (xss : List (List D)) : List (List D) := (List.range m).map fun j => xss.map fun xs => xs.getD j .non
open Classical in
noncomputable def mZipT (ma : En → Sto → R D) (env : En) (st : Sto) : R D := (ma env st).bind fun d st1 => match itemsD st1 d with
  | some ds => match rowsD st1 ds with
    | some (xs :: xss) => if (∀ ys ∈ xss, ys.length = xs.length) ∧ 0 < xs.length ∧ xs.length ≤ 1000 ∧ xss.length < 1000 then .ok (.tup ((colsD xs.length (xs :: xss)).map .tup)) st1 else .no
    | _ => .no
  | none => .no
theorem rw_of {pins : List (Addr × Obj)} {X : Cx} {σ : L2.St} {s : Shared} {st : Sto} (I : Inv X pins σ H s) (S : SR X.K α st H) : ∀ {ds : List D} {ws : List V} {xss : List (List D)}, RDs X.K α H ds ws → rowsD st ds = some xss → ∃ ls vss, Rws X.K α H s.heap xss ws ls vss
  | [], _, _, r, e => by cases r; cases e; exact ⟨[], [], .nil⟩
  | d :: ds, _, xss, r, e => by
    cases r with
    | cons r1 r2 =>
      unfold rowsD at e
      split at e
      · rename_i xs xss' e1 e2
        cases e
        obtain ⟨p, vs, rfl, rv, hq⟩ := items_of S r1 e1
        obtain ⟨ls, vss, q⟩ := rw_of I S r2 e2
        rcases hq with hq | ⟨hq, _⟩
        · obtain ⟨its, r', pl, _⟩ := I.list hq
          exact ⟨_, _, .cons (.inl pl.isList) rv r' q⟩
        · obtain ⟨its, r', ⟨o, a, b, n, c⟩, _⟩ := I.tuple hq.t
          exact ⟨_, _, .cons (.inr ⟨o, a, b, n, c⟩) rv r' q⟩
      · cases e
theorem Rws.src {xss : List (List D)} {ws : List V} {ls : List (Addr × Array Value)} {vss : List (List V)} (r : Rws K α H h xss ws ls vss) : ∀ p ∈ ls, Src h p.1 p.2 := by
  induction r with
  | nil => intro p hp; cases hp
  | cons a b c _ ih =>
    intro p hp
    rcases List.mem_cons.mp hp with rfl | hp
    · exact a
    · exact ih p hp
theorem Rws.len {xss : List (List D)} {ws : List V} {ls : List (Addr × Array Value)} {vss : List (List V)} (r : Rws K α H h xss ws ls vss) : ls.length = xss.length := by
  induction r with
  | nil => rfl
  | cons a b c _ ih => simp [ih]
theorem Rws.vals {xss : List (List D)} {ws : List V} {ls : List (Addr × Array Value)} {vss : List (List V)} (r : Rws K α H h xss ws ls vss) : ∀ {us : List Value}, Vals ws us → us = ls.map fun p => Value.ref p.1 := by
  induction r with
  | nil => intro us v; cases v; rfl
  | cons a b c _ ih =>
    intro us v
    cases v with
    | cons v1 v2 =>
      cases v1
      rw [ih v2]
      rfl
/-- a column -/
theorem Rws.col {xss : List (List D)} {ws : List V} {ls : List (Addr × Array Value)} {vss : List (List V)} (r : Rws K α H h xss ws ls vss) {m j : Nat} (hm : ∀ xs ∈ xss, xs.length = m) (hj : j < m) :
    ∃ (c : List Value) (cv : List V), ls.map (fun p => p.2[j]?) = c.map some ∧ c.length = xss.length ∧ RDs K α H (xss.map fun xs => xs.getD j .non) cv ∧ Vals cv c := by
  induction r with
  | nil => exact ⟨[], [], rfl, rfl, .nil, .nil⟩
  | @cons a xs vs its xss ws ls vss a1 b c _ ih =>
    obtain ⟨cs, cvs, e1, e2, e3, e4⟩ := ih fun xs hx => hm xs (List.mem_cons_of_mem _ hx)
    have lx := hm xs List.mem_cons_self
    have lv := b.len
    have li := c.length
    have hx : j < xs.length := by omega
    obtain ⟨v, ev, rv⟩ := b.getD (i := j) (List.getElem?_eq_getElem hx)
    obtain ⟨u, eu, ru⟩ := c.get ev
    refine ⟨u :: cs, v :: cvs, ?_, by simp [e2], ?_, .cons ru e4⟩
    · rw [List.map_cons, List.map_cons, e1]
      simp [eu]
    · rw [List.map_cons]
      refine .cons ?_ e3
      rw [List.getD_eq_getElem?_getD, List.getElem?_eq_getElem hx]
      exact rv
theorem Rws.short {xs : List D} {xss : List (List D)} {ws : List V} {ls : List (Addr × Array Value)} {vss : List (List V)} (r : Rws K α H h (xs :: xss) ws ls vss) : ∃ a its ls', ls = (a, its) :: ls' ∧ its[xs.length]? = none := by
  cases r with
  | cons a b c q =>
    refine ⟨_, _, _, rfl, ?_⟩
    have := b.len
    have := c.length
    simp
    omega
end
theorem trips_map {β : Type} (f : Array Value → β) (b : Addr) : ∀ ls : List (Addr × Array Value), (trips b ls).map (fun t => f t.2.2) = ls.map fun p => f p.2
  | [] => rfl
  | p :: r => by
    show f p.2 :: (trips (b + 1) r).map _ = _
    rw [trips_map f (b + 1) r]
    rfl
/-- new tuples, laid by the machine, are taken in -/
theorem take_new {X : Cx} {pins : List (Addr × Obj)} {σ : L2.St} {H0 : Hp} {s : Shared} {h' : Heap} {tk : Nat} {α : List Addr} {st : Sto} (I0 : Inv X pins σ H0 s) : ∀ (L : List Addr) (dss : List (List D)) (H1 : Hp), Inv X pins σ H1 { s with heap := h', toks := tk } → SR X.K α st H1 → Keep H0 H1 → L.Nodup → L.length = dss.length →
    (∀ a ∈ L, s.heap.objs.size ≤ a ∧ H1 a = none) → (∀ (j : Nat) (a : Addr) (ds : List D), L[j]? = some a → dss[j]? = some ds → ∃ (vs : List V) (c : List Value), h'.get? a = some { cls := .type "tuple", data := .seq c.toArray } ∧ Vals vs c ∧ RDs X.K α H0 ds vs ∧ vs.length ≤ sizeLine) →
    ∃ H2, Inv X pins σ H2 { s with heap := h', toks := tk } ∧ SR X.K α st H2 ∧ Keep H1 H2 ∧ (∀ b, H1 b = none → b ∉ L → H2 b = none) ∧ RDs X.K α H2 (dss.map D.tup) (L.map V.ref)
  | [], [], H1, I1, S1, _, _, _, _, _ => ⟨H1, I1, S1, Keep.refl _, fun _ e _ => e, .nil⟩
  | [], d :: ds, _, _, _, _, _, hl, _, _ => by cases hl
  | a :: L, [], _, _, _, _, _, hl, _, _ => by cases hl
  | a :: L, ds :: dss, H1, I1, S1, K1, hn, hl, h, g => by
    obtain ⟨hb, hnone⟩ := h a List.mem_cons_self
    obtain ⟨vs, c, ga, rv, rd, hz⟩ := g 0 a ds rfl rfl
    have ok : ObjOk X.prog X.w (upd H1 a (.frz { cls := .type "tuple", data := .seq c.toArray } (.tup vs))) h' a (.frz { cls := .type "tuple", data := .seq c.toArray } (.tup vs)) := ⟨ga, hz, c, rv, ⟨_, ga, rfl, 0, rfl⟩⟩
    have I2 : Inv X pins σ (upd H1 a (.frz { cls := .type "tuple", data := .seq c.toArray } (.tup vs))) { s with heap := h', toks := tk } := I1.take (h' := h') (t' := tk) (fun b ob _ e => e) (I0.fpOk hb hnone) ok
    rw [List.nodup_cons] at hn
    have K2 : Keep H1 (upd H1 a (.frz { cls := .type "tuple", data := .seq c.toArray } (.tup vs))) := Keep.fresh hnone
    obtain ⟨H2, I3, S3, K3, N3, R3⟩ := take_new I0 L dss _ I2 (S1.fresh hnone) (K1.trans K2) hn.2 (by simpa using hl) (fun b hb => by
      obtain ⟨c1, c2⟩ := h b (List.mem_cons_of_mem _ hb)
      exact ⟨c1, by rw [upd_ne (fun z => hn.1 (by rw [← z]; exact hb))]; exact c2⟩) fun j b es e1 e2 => g (j + 1) b es (by simpa using e1) (by simpa using e2)
    refine ⟨H2, I3, S3, K2.trans K3, fun b e hb => N3 b (by rw [upd_ne (fun z => hb (by rw [z]; exact List.mem_cons_self))]; exact e) fun z => hb (List.mem_cons_of_mem _ z), ?_⟩
    rw [List.map_cons, List.map_cons]
    exact .cons (.tup (K3.sqP (SqP.new rfl)) (rd.mono (List.prefix_refl _) ((K1.trans K2).trans K3))) R3
theorem callWith_typeS {M : Model} {A : Around} {E : Value → Shared → Prop} {s : Shared} {pos : Pos} {T : String} {first : List Value} {args : List (Bool × Sem Value)} {Q : Value → Shared → Prop}
    (hst : args.any (·.1) = true)
    (h : wpAny M A (evalArgs (.type T) true args []) (fun a s₁ => wpAny M A (call (.type T) (first ++ a.pos) a.kw) Q E s₁) E s) :
    wpAny M A (callWith pos (.type T) first args []) Q E s := by
  unfold callWith
  refine wpAny_bind (wpAny_holding (wpAny_mono h (fun a s₁ h₁ => wpAny_bind (wpAny_standAt ?_)) fun _ _ x => x))
  simp only [hst, List.any_nil, Bool.or_false]
  refine wpAny_bind (wpAny_pure ?_)
  exact wpAny_bind (wpAny_mono (wpAny_operating h₁) (fun r s₂ hr => wpAny_bind (wpAny_holding (wpAny_point (wpAny_pure hr)))) fun _ _ x => x)
section
variable {X : Cx} {W : WX}
theorem de_zipT {e : Expr} {ma : En → Sto → R D} {p1 p2 p3 p4 p5 : Pos} (hc : X.calm = true) (hg : Gl X "tuple") (hm : X.mg "tuple" = none) (hg2 : Gl X "zip") (hm2 : X.mg "zip" = none) (ha : DE X W e ma)
    (hst : starEach [.Starred e p3] X.env = [(true, eval e X.env)] := by rfl)
    (na : starEach [.Call (.Name "zip" p2) [.Starred e p3] [] p4] X.env = (false, eval (.Call (.Name "zip" p2) [.Starred e p3] [] p4) X.env) :: starEach [] X.env := by rfl) :
    DE X W (.Call (.Name "tuple" p1) [.Call (.Name "zip" p2) [.Starred e p3] [] p4] [] p5) (mZipT ma) := by
  refine ⟨fun pins s σ H Q I h => ?_⟩
  obtain ⟨α, env, st, hE, hS, h⟩ := h
  have h := h.bind
  let V1 : VK := fun v H1 => ∃ α1 st1 d, SR X.K α1 st1 H1 ∧ RD X.K α1 H1 d v ∧ Go X.K W α1 H1 σ (match itemsD st1 d with
    | some ds => match rowsD st1 ds with
      | some (xs :: xss) => if (∀ ys ∈ xss, ys.length = xs.length) ∧ 0 < xs.length ∧ xs.length ≤ 1000 ∧ xss.length < 1000 then .ok (.tup ((colsD xs.length (xs :: xss)).map .tup)) st1 else .no
      | _ => .no
    | none => .no) fun d _ α' H' => ∀ v, RD X.K α' H' d v → Q v H'
  have hv : tE X.K W ma σ H V1 := ⟨α, env, st, hE, hS, h.mono fun x st1 α1 H1 p1 k1 s1 h1 v rv => ⟨α1, st1, x, s1, rv, h1⟩⟩
  refine Call_ (ld_blt I hg hm boot_tuple (PyProof.Rows.callWith_type1 (args_cons (Call_ (ld_blt I hg2 hm2 PyProof.Rows.boot_zip ?_)) na) na))
  rw [hst]
  refine callWith_typeS rfl (PySem.W.ks_lone (thn (ha.run pins s σ H _ I hv) ?_))
  rintro v s1 ⟨y, H1, I1, ry, α1, st1, d, S1, rd, h1⟩
  split at h1
  · rename_i ds e1
    split at h1
    · rename_i xs xss e2
      split at h1
      · rename_i hz
        obtain ⟨q, ws, rfl, rws, hq⟩ := items_of S1 rd e1
        obtain rfl : v = Value.ref q := ry
        have hq' : SqT X.K H1 q ws ∨ SqL X.K H1 q ws := hq.elim .inr fun z => .inl z.1.t
        refine StX.star_any I1 hq' fun us s2 I2 rv => ?_
        obtain ⟨ls, vss, R⟩ := rw_of I2 S1 rws e2
        have eu := R.vals rv
        rw [List.nil_append, eu]
        have hl := R.len
        have hll : ls.length ≤ sizeLine := Nat.le_trans (by rw [hl]; simp; omega : ls.length ≤ 1000) (by decide)
        have hm' : ∀ ys ∈ xs :: xss, ys.length = xs.length := fun ys hy => by
          rcases List.mem_cons.mp hy with rfl | hy
          · rfl
          · exact hz.1 ys hy
        -- the columns as values
        have cols : ∃ (cs : List (List Value)), cs.length = xs.length ∧ ∀ (j : Nat) (c : List Value), cs[j]? = some c → ls.map (fun p => p.2[j]?) = c.map some ∧ c.length = (xs :: xss).length ∧ ∃ cv, RDs X.K α1 H1 ((xs :: xss).map fun xs => xs.getD j .non) cv ∧ Vals cv c := by
          have key : ∀ m, m ≤ xs.length → ∃ (cs : List (List Value)), cs.length = m ∧ ∀ (j : Nat) (c : List Value), cs[j]? = some c → ls.map (fun p => p.2[j]?) = c.map some ∧ c.length = (xs :: xss).length ∧ ∃ cv, RDs X.K α1 H1 ((xs :: xss).map fun xs => xs.getD j .non) cv ∧ Vals cv c := by
            intro m
            induction m with
            | zero => exact fun _ => ⟨[], rfl, fun j c e => by simp at e⟩
            | succ m ih =>
              intro hm2
              obtain ⟨cs, l1, g1⟩ := ih (by omega)
              obtain ⟨c, cv, g2, g3, g4, g5⟩ := R.col hm' (show m < xs.length by omega)
              refine ⟨cs ++ [c], by simp [l1], fun j c' e => ?_⟩
              by_cases hj : j < cs.length
              · rw [List.getElem?_append_left hj] at e
                exact g1 j c' e
              · have := (List.getElem?_eq_some_iff.mp e).1
                have ej : j = cs.length := by simp at this; omega
                subst ej
                rw [List.getElem?_concat_length] at e
                cases e
                rw [l1]
                exact ⟨g2, g3, cv, g4, g5⟩
          exact key _ (Nat.le_refl _)
        obtain ⟨cs, lc, gc⟩ := cols
        have C : ZCols (trips s2.heap.objs.size ls) cs := by
          refine ⟨fun i c e => ?_, by omega, Nat.le_trans (by omega : cs.length ≤ 1000) (by decide), ?_⟩
          · obtain ⟨a1, a2, _⟩ := gc i c e
            rw [trips_map (fun row => row[i]?)]
            exact ⟨a1, Nat.le_trans (by rw [a2]; simp; omega : c.length ≤ 1000) (by decide)⟩
          · obtain ⟨a, its, ls', e, sh⟩ := R.short
            subst e
            exact ⟨_, _, rfl, by rw [lc]; exact sh⟩
        refine wpAny_mono (tuple_zip (I2.ok.hd hc) (by intro e; rw [e] at hl; simp at hl) hll R.src C (Q := EP X pins σ Q) fun h' tk as hk hla hG => ?_) (fun v s3 h3 => args_nil h3) fun _ _ h => h
        have I3 : Inv X pins σ H1 { s2 with heap := h', toks := tk } := I2.kept hk
        have nd : as.Nodup := List.Pairwise.imp (fun h => Nat.ne_of_lt h) hG.rise
        obtain ⟨H2, I4, S4, K4, N4, R4⟩ := take_new I2 as (colsD xs.length (xs :: xss)) H1 I3 S1 (Keep.refl _) nd (by rw [hla, lc]; simp [colsD]) (fun a ha => ⟨Nat.le_of_lt (hG.above a ha), I2.hok.fresh (Nat.le_of_lt (hG.above a ha))⟩) fun j a ds ej ed => by
          obtain ⟨c, ec, ga⟩ := hG.tups j a ej
          obtain ⟨a1, a2, cv, a3, a4⟩ := gc j c ec
          have ej2 : ds = (xs :: xss).map fun xs => xs.getD j .non := by
            have hj : j < xs.length := by have := (List.getElem?_eq_some_iff.mp ec).1; omega
            simp only [colsD, List.getElem?_map, List.getElem?_range hj, Option.map_some, Option.some.injEq] at ed
            exact ed.symm
          subst ej2
          exact ⟨cv, c, ga, a4, a3, Nat.le_trans (by rw [a4.length, a2]; simp; omega : cv.length ≤ 1000) (by decide)⟩
        have rvs : Vals (as.map V.ref) (as.map Value.ref) := by
          clear hla hG nd R4 N4 K4 S4 I4
          induction as with
          | nil => exact .nil
          | cons a r ih => exact .cons rfl ih
        refine ep_tup (tk := tk) I4 (Nat.le_trans (by rw [List.length_map, hla, lc]; omega : (as.map V.ref).length ≤ 1000) (by decide)) rvs fun p o hp ho => ?_
        exact h1.at (List.prefix_refl _) (K4.trans (Keep.fresh hp)) (S4.fresh hp) _ (.tup (SqP.new ho) (R4.mono (List.prefix_refl _) (Keep.fresh hp)))
      · exact h1.elim
    · exact h1.elim
  · exact h1.elim
end
end DL
set_option Elab.async false
set_option linter.all false
set_option maxRecDepth 100000
/-! `a | b` of ints; a dict display of told numbers, looked into at once. -/
namespace DL
open PySem PySem.Spec PyProof.Rows L2
def oOr : O2 := fun a b st => match a, b with
  | .int i, .int j => .ok (.int (Builtin.bitOr i j)) st
  | _, _ => .no
theorem od_or {X : Cx} : OD2 X (binaryOp .BitOr) oOr := by
  intro pins s σ H x y v u Q I rx ry h
  obtain ⟨α, st, a, b, S, ra, rb, h⟩ := h
  unfold oOr at h
  split at h
  · have e1 := ra.int_of; have e2 := rb.int_of; subst e1; subst e2
    exact op_or pins s σ H _ _ v u Q I rx ry ⟨_, _, rfl, rfl, Fin.here h S (.int _)⟩
  · exact h.elim
/-- an expression that is a number by the names alone -/
def NumE (X : Cx) (e : Expr) (m : En → Option Int) : Prop := ∃ te : TE, PE X e te ∧ ∀ (α : List Addr) (env : En) (σ : L2.St) (H : Hp) (Q : VK) (i : Int), ER X.K α env σ H → m env = some i → Q (.int i) H → te σ H Q
def nVar (i : Nat) (env : En) : Option Int := match env[i]? with
  | some (some (.int n)) => some n
  | _ => none
def nC (i : Int) (_ : En) : Option Int := some i
def n2 (f : Int → Int → Int) (ma mb : En → Option Int) (env : En) : Option Int := match ma env, mb env with
  | some i, some j => some (f i j)
  | _, _ => none
def nMul (ma mb : En → Option Int) (env : En) : Option Int := match ma env, mb env with
  | some i, some j => if Small i ∨ Small j then some (i * j) else none
  | _, _ => none
section
variable {X : Cx} {a b : Expr} {ma mb : En → Option Int} {pos : Pos}
theorem nu_var (i : Nat) {x : Str} (hN : X.N[i]? = some x := by rfl) (hv : Vis X.env.scope x := by first | exact Or.inl rfl | exact Or.inr (Or.inl rfl) | exact Or.inr (Or.inr rfl)) (hd : (x == ("__debug__" : Str)) = false := by decide)
    (hcd : (x == ("__classdict__" : Str)) = false := by decide) : NumE X (.Name x pos) (nVar i) := by
  refine ⟨tVar i, pe_var hN hv hd hcd, fun α env σ H Q n hE e q => ?_⟩
  unfold nVar at e
  split at e
  · rename_i k ek
    cases e
    obtain ⟨v, e1, e2⟩ := hE.2 i _ ek
    have := e2.int_of
    subst this
    exact ⟨_, e1, q⟩
  · cases e
theorem nu_c {i : Int} {j : Nat} : NumE X (.Constant (.int i) j pos) (nC i) := ⟨_, pe_int, fun α env σ H Q n hE e q => by cases e; exact q⟩
theorem nu_add (ha : NumE X a ma) (hb : NumE X b mb) : NumE X (.BinOp a .Add b pos) (n2 (· + ·) ma mb) := by
  obtain ⟨ta, pa, qa⟩ := ha
  obtain ⟨tb, pb, qb⟩ := hb
  refine ⟨_, pe_op op_add pa pb, fun α env σ H Q n hE e q => ?_⟩
  unfold n2 at e
  split at e
  · rename_i i j ei ej
    cases e
    exact qa α env σ H _ i hE ei (qb α env σ H _ j hE ej ⟨i, j, rfl, rfl, q⟩)
  · cases e
theorem nu_sub (ha : NumE X a ma) (hb : NumE X b mb) : NumE X (.BinOp a .Sub b pos) (n2 (· - ·) ma mb) := by
  obtain ⟨ta, pa, qa⟩ := ha
  obtain ⟨tb, pb, qb⟩ := hb
  refine ⟨_, pe_op op_sub pa pb, fun α env σ H Q n hE e q => ?_⟩
  unfold n2 at e
  split at e
  · rename_i i j ei ej
    cases e
    exact qa α env σ H _ i hE ei (qb α env σ H _ j hE ej ⟨i, j, rfl, rfl, q⟩)
  · cases e
theorem nu_mul (ha : NumE X a ma) (hb : NumE X b mb) : NumE X (.BinOp a .Mult b pos) (nMul ma mb) := by
  obtain ⟨ta, pa, qa⟩ := ha
  obtain ⟨tb, pb, qb⟩ := hb
  refine ⟨_, pe_op op_mul pa pb, fun α env σ H Q n hE e q => ?_⟩
  unfold nMul at e
  split at e
  · rename_i i j ei ej
    split at e
    · rename_i hs
      cases e
      exact qa α env σ H _ i hE ei (qb α env σ H _ j hE ej ⟨i, j, rfl, rfl, hs, q⟩)
    · cases e
  · cases e
end
/-- the pairs of a display, by the names alone -/
def numsOf : List (Str × (En → Option Int)) → En → Option (List (Str × Int))
  | [], _ => some []
  | p :: r, env => match p.2 env, numsOf r env with
    | some n, some ns => some ((p.1, n) :: ns)
    | _, _ => none
def NumPs (X : Cx) (dpos : Pos) (keys : List (Option Expr)) (values : List Expr) (kms : List (Str × (En → Option Int))) : Prop := ∃ trs, PPs X dpos keys values trs ∧ ∀ (α : List Addr) (env : En) (σ : L2.St) (H : Hp) (Q : List (V × V) → Hp → Prop) (ns : List (Str × Int)), ER X.K α env σ H → numsOf kms env = some ns → Q (ns.map fun kn => (.str kn.1, .int kn.2)) H → tPairs trs σ H Q
theorem nps_nil {X : Cx} {dpos : Pos} : NumPs X dpos [] [] [] := ⟨[], pps_nil, fun α env σ H Q ns hE e q => by cases e; exact q⟩
theorem nps_cons {X : Cx} {dpos : Pos} {k : Str} {j : Nat} {kp : Pos} {e : Expr} {m : En → Option Int} {keys : List (Option Expr)} {values : List Expr} {kms : List (Str × (En → Option Int))} (h : NumE X e m) (hr : NumPs X dpos keys values kms) :
    NumPs X dpos (some (.Constant (.str k) j kp) :: keys) (e :: values) ((k, m) :: kms) := by
  obtain ⟨te, pe, qe⟩ := h
  obtain ⟨trs, pr, qr⟩ := hr
  refine ⟨_, pps_cons pe_str pe pr, fun α env σ H Q ns hE e q => ?_⟩
  unfold numsOf at e
  split at e
  · rename_i n ns' e1 e2
    cases e
    exact qe α env σ H _ n hE e1 (qr α env σ H _ ns' hE e2 q)
  · cases e
/-- the last of a key -/
def lastN : List (Str × Int) → Str → Option Int
  | [], _ => none
  | p :: r, k => (lastN r k).or (if k = p.1 then some p.2 else none)
theorem lastN_merge : ∀ (ns : List (Str × Int)) (acc : List (Key × V)) (k : Str), valV (mergeK acc (ns.map fun kn => (Sum.inr kn.1, V.int kn.2))) (Sum.inr k) = ((lastN ns k).map V.int).or (valV acc (Sum.inr k))
  | [], acc, k => by simp [mergeK, lastN]
  | p :: r, acc, k => by
    have ih := lastN_merge r (putK acc (Sum.inr p.1) (V.int p.2)) k
    show valV (mergeK (putK acc (Sum.inr p.1) (V.int p.2)) (r.map fun kn => (Sum.inr kn.1, V.int kn.2))) (Sum.inr k) = _
    rw [ih, valV_put]
    have e0 : lastN (p :: r) k = (lastN r k).or (if k = p.1 then some p.2 else none) := rfl
    rw [e0]
    by_cases h : k = p.1
    · subst h
      cases lastN r p.1 <;> simp
    · have h2 : ¬ ((Sum.inr k : Key) = Sum.inr p.1) := fun z => h (Sum.inr.inj z)
      rw [if_neg h, if_neg h2]
      cases lastN r k <;> simp
def mDispIx (kms : List (Str × (En → Option Int))) (i : Nat) (env : En) (st : Sto) : R D := match numsOf kms env, env[i]? with
  | some ns, some (some (.str k)) => match lastN ns k with
    | some n => .ok (.int n) st
    | none => .no
  | _, _ => .no
theorem numsOf_len : ∀ {kms : List (Str × (En → Option Int))} {env : En} {ns : List (Str × Int)}, numsOf kms env = some ns → ns.length = kms.length
  | [], _, _, e => by cases e; rfl
  | p :: r, env, ns, e => by
    unfold numsOf at e
    split at e
    · rename_i n ns' e1 e2
      cases e
      simp [numsOf_len e2]
    · cases e
theorem de_dispIx {X : Cx} {W : WX} {dpos ipos pos : Pos} {keys : List (Option Expr)} {values : List Expr} {kms : List (Str × (En → Option Int))} (hu : X.A.units + 66 < cLine) (h : NumPs X dpos keys values kms) (i : Nat) {x : Str}
    (hall : keys.all (·.isSome) = true := by rfl) (hl : keys.length = values.length := by rfl) (h0 : keys ≠ [] := by exact List.cons_ne_nil _ _) (h15 : keys.length ≤ 15 := by decide) (hk : kms.length ≤ 15 := by decide)
    (hN : X.N[i]? = some x := by rfl) (hv : Vis X.env.scope x := by first | exact Or.inl rfl | exact Or.inr (Or.inl rfl) | exact Or.inr (Or.inr rfl)) (hd : (x == ("__debug__" : Str)) = false := by decide)
    (hcd : (x == ("__classdict__" : Str)) = false := by decide) (hs : NoSl (.Name x ipos) := by exact fun _ _ => rfl) : DE X W (.Subscript (.Dict keys values dpos) (.Name x ipos) pos) (mDispIx kms i) := by
  obtain ⟨trs, hp, hq⟩ := h
  refine PE.weak (pe_dget (by omega) (pe_disp hp hall hl h0 h15) (pe_var hN hv hd hcd) hs) fun σ H Q h => ?_
  obtain ⟨α, env, st, hE, hS, h⟩ := h
  unfold mDispIx at h
  split at h
  · rename_i ns k e1 e2
    split at h
    · rename_i n e3
      intro p hp
      refine hq α env σ _ _ ns (hE.mono (List.prefix_refl _) (Keep.fresh hp)) e1 ?_
      refine ⟨upd_same, ns.map fun kn => (Sum.inr kn.1, V.int kn.2), by rw [List.map_map]; rfl, by rw [List.length_map, numsOf_len e1]; exact hk, ?_⟩
      obtain ⟨v, e4, rv⟩ := hE.2 i _ e2
      have := rv.str_of
      subst this
      refine ⟨_, e4, p, .int n, rfl, ?_, ?_⟩
      · have g := DGet.k (H := upd (upd H p (.dK [])) p (.dK (mergeK [] (ns.map fun kn => (Sum.inr kn.1, V.int kn.2))))) (a := p) (k := Sum.inr k) upd_same
        rw [lastN_merge, e3] at g
        exact g
      · rw [upd_upd]
        exact h α _ (List.prefix_refl _) (Keep.fresh hp) (hS.fresh hp) _ (.int n)
    · exact h.elim
  · exact h.elim
/-! ### xs.count(k) of a list of ints -/
def fCount : OM := fun o ds st => match o, ds with
  | .ref r, [.int k] => match (rdL st r).bind intsOf with
    | some ns => .ok (.int (ns.count k : Nat)) st
    | none => .no
  | _, _ => .no
section
variable {X : Cx} {W : WX} {o e : Expr} {es : List Expr} {apos cpos : Pos} {mo : En → Sto → R D} {mr : En → Sto → R (List D)}
theorem md_count : MtR X "list.count" (rDm X.K fCount) := by
  intro pins s σ H x xs v us Q I rx rv h
  obtain ⟨α, st, a, ds, S, ra, rd, h⟩ := h
  unfold fCount at h
  split at h
  · rename_i q k
    split at h
    · rename_i ns e1
      cases hr : rdL st q with
      | none => rw [hr] at e1; cases e1
      | some ys =>
        rw [hr] at e1
        have e1 : intsOf ys = some ns := e1
        obtain ⟨p, rfl, ea⟩ := ra.ref_of
        obtain ⟨ws, h0, r1⟩ := S.l hr ea
        rw [intsOf_map e1] at r1
        rw [r1.toInts] at h0
        obtain ⟨w, rfl, rw'⟩ := rd.one
        have e2 := rw'.int_of; subst e2
        obtain ⟨its, ri, hl, hz⟩ := I.list h0
        cases rx
        obtain ⟨u, rfl, t, rfl⟩ := vals1 rv
        refine count_list_ints hl.isList ri.ints ?_
        exact ⟨.int _, H, I.tok _, ⟨_, rfl⟩, Fin.here h S (.int _)⟩
    · exact h.elim
  · exact h.elim
theorem de_count (ho : DE X W o mo) (ha : DA X W (e :: es) mr)
    (hbase : attributeBase o "count" X.env (eval o X.env) = eval o X.env := by rfl)
    (hfew : ((backTo cpos (starEach (e :: es) X.env)).all (fun x => !x.1) && (backToKw cpos (keywordEach [] X.env)).all (fun x => x.1.isSome)
      && decide ((e :: es).length + ([] : List Keyword).length + (if ([] : List Keyword).isEmpty then 0 else 1) < 30)) = true := by rfl)
    (hline : (apos.endLine == cpos.line) = true := by rfl) (hs : starEach (e :: es) X.env = (false, eval e X.env) :: starEach es X.env := by rfl) (hplain : (backTo cpos (starEach es X.env)).any (·.1) = false := by rfl) :
    DE X W (.Call (.Attribute o "count" apos) (e :: es) [] cpos) (mMeth fCount mo mr) := de_meth PySem.F.plainAttrs_list PySem.F.slot_list_count PySem.F.type_list_count md_count ho ha hbase hfew hline hs hplain
end
end DL
set_option Elab.async false
set_option linter.all false
set_option maxRecDepth 10000
/-! Reasoning about mirrors: stores that grow, pools, loops. -/
namespace DL
open PySem PySem.Spec PyProof.Rows L2

/-! ### stores -/
abbrev Gr (st st' : Sto) : Prop := st <+: st'
theorem Gr.len {st st' : Sto} (h : Gr st st') : st.length ≤ st'.length := h.length_le
theorem Gr.get {st st' : Sto} (h : Gr st st') {i : Nat} (hi : i < st.length) : st'[i]? = st[i]? := by
  obtain ⟨t, rfl⟩ := h
  exact List.getElem?_append_left hi
theorem rdL_of {st st' : Sto} {r : Nat} (h : st'[r]? = st[r]?) : rdL st' r = rdL st r := by unfold rdL; rw [h]
theorem rdW_of {st st' : Sto} {r : Nat} (h : st'[r]? = st[r]?) : rdW st' r = rdW st r := by unfold rdW; rw [h]
theorem rdL_lt {st : Sto} {r : Nat} {xs : List D} (h : rdL st r = some xs) : r < st.length := by
  unfold rdL at h
  by_cases q : r < st.length
  · exact q
  · rw [List.getElem?_eq_none (by omega)] at h; cases h
theorem rdW_lt {st : Sto} {r : Nat} {xs : List D} (h : rdW st r = some xs) : r < st.length := by
  unfold rdW at h
  by_cases q : r < st.length
  · exact q
  · rw [List.getElem?_eq_none (by omega)] at h; cases h
theorem rdL_gr {st st' : Sto} {r : Nat} {xs : List D} (h : Gr st st') (e : rdL st r = some xs) : rdL st' r = some xs := by rw [rdL_of (h.get (rdL_lt e))]; exact e
theorem rdW_gr {st st' : Sto} {r : Nat} {xs : List D} (h : Gr st st') (e : rdW st r = some xs) : rdW st' r = some xs := by rw [rdW_of (h.get (rdW_lt e))]; exact e
@[simp] theorem rdL_new (st : Sto) (xs : List D) : rdL (st ++ [.lst xs]) st.length = some xs := by simp [rdL]
@[simp] theorem rdW_new (st : Sto) (xs : List D) : rdW (st ++ [.lst xs]) st.length = some xs := by simp [rdW]
theorem rdL_newG (st g : Sto) (xs : List D) : rdL (st ++ .lst xs :: g) st.length = some xs := by simp [rdL]
theorem rdW_newG (st g : Sto) (xs : List D) : rdW (st ++ .lst xs :: g) st.length = some xs := by simp [rdW]
theorem rdW_iff {st : Sto} {r : Nat} {xs : List D} : rdW st r = some xs ↔ st[r]? = some (.lst xs) := by
  unfold rdW
  constructor
  · intro h; split at h
    · cases h; assumption
    · cases h
  · intro h; rw [h]
theorem rdL_W {st : Sto} {r : Nat} {xs : List D} (h : rdW st r = some xs) : rdL st r = some xs := by
  rw [rdW_iff] at h
  simp [rdL, h]

/-! ### pools -/
def IsPool (st : Sto) (r : Nat) : Prop := ∃ a b c : Int, st[r]? = some (.lst [.int a, .int b, .int c])
/-- nothing old has changed but the pool -/
structure Ev (r : Nat) (st st' : Sto) : Prop where
  len : st.length ≤ st'.length
  same : ∀ i, i < st.length → i ≠ r → st'[i]? = st[i]?
  pool : IsPool st' r
theorem IsPool.lt {st : Sto} {r : Nat} (h : IsPool st r) : r < st.length := by
  obtain ⟨a, b, c, h⟩ := h
  exact (List.getElem?_eq_some_iff.mp h).1
theorem Ev.refl {r : Nat} {st : Sto} (h : IsPool st r) : Ev r st st := ⟨Nat.le_refl _, fun _ _ _ => rfl, h⟩
theorem Ev.trans {r : Nat} {st st' st'' : Sto} (a : Ev r st st') (b : Ev r st' st'') : Ev r st st'' :=
  ⟨Nat.le_trans a.len b.len, fun i hi hr => (b.same i (Nat.lt_of_lt_of_le hi a.len) hr).trans (a.same i hi hr), b.pool⟩
theorem Ev.gr {r : Nat} {st st' : Sto} (h : IsPool st r) (g : Gr st st') : Ev r st st' := by
  refine ⟨g.len, fun i hi _ => g.get hi, ?_⟩
  obtain ⟨a, b, c, e⟩ := h
  exact ⟨a, b, c, by rw [g.get (List.getElem?_eq_some_iff.mp e).1]; exact e⟩
theorem Ev.rdL {r q : Nat} {st st' : Sto} {xs : List D} (h : Ev r st st') (e : rdL st q = some xs) (hn : q ≠ r) : rdL st' q = some xs := by rw [rdL_of (h.same q (rdL_lt e) hn)]; exact e
theorem Ev.rdW {r q : Nat} {st st' : Sto} {xs : List D} (h : Ev r st st') (e : rdW st q = some xs) (hn : q ≠ r) : rdW st' q = some xs := by rw [rdW_of (h.same q (rdW_lt e) hn)]; exact e
/-- a change beyond what stood -/
theorem Ev.beyond {r q : Nat} {st st' : Sto} {c : Cl} (h : Ev r st st') (hq : st.length ≤ q) (hr : r < st.length) : Ev r st (st'.set q c) := by
  refine ⟨by rw [List.length_set]; exact h.len, fun i hi hn => ?_, ?_⟩
  · rw [List.getElem?_set_ne (by omega)]
    exact h.same i hi hn
  · obtain ⟨a, b, c', e⟩ := h.pool
    exact ⟨a, b, c', by rw [List.getElem?_set_ne (by omega)]; exact e⟩
theorem Gr.beyond {q : Nat} {st st' : Sto} {c : Cl} (h : Gr st st') (hq : st.length ≤ q) : Gr st (st'.set q c) := by
  obtain ⟨t, rfl⟩ := h
  rw [List.set_append_right _ _ hq]
  exact List.prefix_append _ _

/-! ### loops -/
theorem loopS_ok {ds : List D} {gd : Option Nat} {g : GT} {mb : En → Sto → RS} {env : En} {st : Sto} (I : Nat → En → Sto → Prop) (h0 : I 0 env st) (hg : ∀ i env st, i ≤ ds.length → I i env st → gOk ds gd st)
    (hs : ∀ i env st, (hi : i < ds.length) → I i env st → ∃ env1 st1 env2 st2, g ds[i] env st = some (env1, st1) ∧ mb env1 st1 = .nx env2 st2 ∧ I (i + 1) env2 st2) :
    ∃ env' st', loopS ds gd g mb ds env st = .nx env' st' ∧ I ds.length env' st' := by
  have key : ∀ (n i : Nat) (env : En) (st : Sto), i + n = ds.length → I i env st → ∃ env' st', loopS ds gd g mb (ds.drop i) env st = .nx env' st' ∧ I ds.length env' st' := by
    intro n
    induction n with
    | zero =>
      intro i env st e hI
      have ei : i = ds.length := by omega
      subst ei
      rw [List.drop_length]
      unfold loopS
      rw [if_pos (hg _ _ _ (Nat.le_refl _) hI)]
      exact ⟨env, st, rfl, hI⟩
    | succ n ih =>
      intro i env st e hI
      have hi : i < ds.length := by omega
      rw [List.drop_eq_getElem_cons hi]
      unfold loopS
      rw [if_pos (hg _ _ _ (by omega) hI)]
      obtain ⟨env1, st1, env2, st2, e1, e2, hI2⟩ := hs i env st hi hI
      simp only [e1, e2]
      exact ih (i + 1) env2 st2 (by omega) hI2
  have := key ds.length 0 env st (by omega) h0
  rwa [List.drop_zero] at this
/-- a comprehension, any turns: what is kept is told by I over the turn, what was made, the store -/
theorem loopC_ok {ds : List D} {gd : Option Nat} {g : GT} {mt : En → Sto → R Bool} {me : En → Sto → R D} {env0 : En} {r0 : Nat} {st : Sto} (I : Nat → List D → Sto → Prop) (h0 : I 0 [] st) (hw : ∀ i acc st, I i acc st → rdW st r0 = some acc ∧ acc.length ≤ i) (hz : ds.length < sizeLine)
    (hg : ∀ i acc st, i ≤ ds.length → I i acc st → gOk ds gd st)
    (hs : ∀ i acc st, (hi : i < ds.length) → I i acc st → ∃ env1 st1, g ds[i] env0 st = some (env1, st1) ∧ ((∃ st2, mt env1 st1 = .ok false st2 ∧ I (i + 1) acc st2) ∨
      ∃ st2 y st3, mt env1 st1 = .ok true st2 ∧ me env1 st2 = .ok y st3 ∧ rdW st3 r0 = some acc ∧ I (i + 1) (acc ++ [y]) (st3.set r0 (.lst (acc ++ [y]))))) :
    ∃ acc st', loopC ds gd g mt me env0 r0 ds st = .ok (.ref r0) st' ∧ I ds.length acc st' := by
  have key : ∀ (n i : Nat) (acc : List D) (st : Sto), i + n = ds.length → I i acc st → ∃ acc st', loopC ds gd g mt me env0 r0 (ds.drop i) st = .ok (.ref r0) st' ∧ I ds.length acc st' := by
    intro n
    induction n with
    | zero =>
      intro i acc st e hI
      have ei : i = ds.length := by omega
      subst ei
      rw [List.drop_length]
      unfold loopC
      rw [if_pos (hg _ _ _ (Nat.le_refl _) hI)]
      exact ⟨acc, st, rfl, hI⟩
    | succ n ih =>
      intro i acc st e hI
      have hi : i < ds.length := by omega
      rw [List.drop_eq_getElem_cons hi]
      unfold loopC
      rw [if_pos (hg _ _ _ (by omega) hI)]
      obtain ⟨env1, st1, e1, h | h⟩ := hs i acc st hi hI
      · obtain ⟨st2, e2, hI2⟩ := h
        simp only [e1, e2]
        exact ih (i + 1) acc st2 (by omega) hI2
      · obtain ⟨st2, y, st3, e2, e3, e4, hI2⟩ := h
        have hl : acc.length < sizeLine := by have := (hw i acc st hI).2; omega
        simp only [e1, e2, e3, e4, if_pos hl]
        exact ih (i + 1) (acc ++ [y]) _ (by omega) hI2
  have := key ds.length 0 [] st (by omega) h0
  rwa [List.drop_zero] at this
theorem gOk_gr {ds : List D} {gd : Option Nat} {st st' : Sto} (h : gOk ds gd st) (g : Gr st st') : gOk ds gd st' := by
  cases gd with
  | none => trivial
  | some r => exact rdL_gr g h
/-- a comprehension that changes nothing -/
theorem mLc_pure {mi : MI} {g : GT} {mt : En → Sto → R Bool} {me : En → Sto → R D} {vs : List Nat} {env : En} {st st1 : Sto} {ds : List D} {gd : Option Nat} (p : D → Bool) (f : D → D) (hi : mi env st = .ok (ds, gd) st1) (hg : gOk ds gd st1) (hz : ds.length < sizeLine)
    (hs : ∀ d ∈ ds, ∀ st', Gr st1 st' → ∃ env1, g d (wipeE env vs) st' = some (env1, st') ∧ ∃ st2, mt env1 st' = .ok (p d) st2 ∧ Gr st' st2 ∧ (p d = true → ∃ st3, me env1 st2 = .ok (f d) st3 ∧ Gr st2 st3)) :
    ∃ st', mLc mi g mt me vs env st = .ok (.ref st1.length) st' ∧ Gr (st1 ++ [.lst ((ds.filter p).map f)]) st' := by
  have main := loopC_ok (ds := ds) (gd := gd) (g := g) (mt := mt) (me := me) (env0 := wipeE env vs) (r0 := st1.length) (st := st1 ++ [.lst []]) (fun i acc st => acc = ((ds.take i).filter p).map f ∧ ∃ t, st = st1 ++ .lst acc :: t)
    ⟨rfl, [], rfl⟩ (by
      rintro i acc st ⟨rfl, t, rfl⟩
      refine ⟨rdW_newG _ _ _, ?_⟩
      rw [List.length_map]
      exact Nat.le_trans (List.length_filter_le _ _) (by rw [List.length_take]; omega)) hz (by
      rintro i acc st hi ⟨rfl, t, rfl⟩
      exact gOk_gr hg ⟨_, rfl⟩) (by
      rintro i acc st hi ⟨rfl, t, rfl⟩
      have mem : ds[i] ∈ ds := List.getElem_mem hi
      have tk : ds.take (i + 1) = ds.take i ++ [ds[i]] := by rw [List.take_add_one, List.getElem?_eq_getElem hi]; rfl
      obtain ⟨env1, e1, st2, e2, ⟨t2, g2⟩, h3⟩ := hs ds[i] mem (st1 ++ .lst (((ds.take i).filter p).map f) :: t) ⟨_, rfl⟩
      subst g2
      refine ⟨env1, _, e1, ?_⟩
      cases hp : p ds[i] with
      | false =>
        refine .inl ⟨_, by rw [hp] at e2; exact e2, ?_, t ++ t2, by simp⟩
        rw [tk, List.filter_append, List.filter_cons_of_neg (by rw [hp]; decide)]
        simp
      | true =>
        obtain ⟨st3, e3, ⟨t3, g3⟩⟩ := h3 hp
        subst g3
        have tk2 : ((ds.take (i + 1)).filter p).map f = ((ds.take i).filter p).map f ++ [f ds[i]] := by
          rw [tk, List.filter_append, List.filter_cons_of_pos hp]
          simp
        refine .inr ⟨_, _, _, by rw [hp] at e2; exact e2, e3, ?_, tk2.symm, t ++ t2 ++ t3, ?_⟩
        · simp only [List.append_assoc, List.cons_append]
          exact rdW_newG _ _ _
        · simp only [List.append_assoc, List.cons_append]
          rw [List.set_append_right _ _ (Nat.le_refl _), Nat.sub_self, List.set_cons_zero])
  obtain ⟨acc, st', e, rfl, t, rfl⟩ := main
  refine ⟨_, by unfold mLc; rw [hi]; exact e, ?_⟩
  rw [List.take_length]
  exact ⟨t, by simp⟩
/-- a comprehension whose elements take from a pool -/
theorem mLc_pool {mi : MI} {g : GT} {me : En → Sto → R D} {vs : List Nat} {env : En} {st st1 : Sto} {ds : List D} {gd : Option Nat} {r : Nat} (P : Nat → D → Prop) (hi : mi env st = .ok (ds, gd) st1) (hg : gOk ds gd st1) (hgr : gd ≠ some r) (hz : ds.length < sizeLine) (hp : IsPool st1 r)
    (hs : ∀ i (hi : i < ds.length) st', Ev r st1 st' → ∃ env1, g ds[i] (wipeE env vs) st' = some (env1, st') ∧ ∃ y st3, me env1 st' = .ok y st3 ∧ Ev r st' st3 ∧ P i y) :
    ∃ ys st', mLc mi g mYes me vs env st = .ok (.ref st1.length) st' ∧ rdW st' st1.length = some ys ∧ ys.length = ds.length ∧ (∀ i y, ys[i]? = some y → P i y) ∧ Ev r st1 st' := by
  have hr := hp.lt
  have main := loopC_ok (ds := ds) (gd := gd) (g := g) (mt := mYes) (me := me) (env0 := wipeE env vs) (r0 := st1.length) (st := st1 ++ [.lst []]) (fun i acc st => rdW st st1.length = some acc ∧ acc.length = i ∧ (∀ j y, acc[j]? = some y → P j y) ∧ Ev r st1 st)
    ⟨rdW_new _ _, rfl, fun j y h => by simp at h, Ev.gr hp (List.prefix_append _ _)⟩ (fun i acc st h => ⟨h.1, by omega⟩) hz (by
      rintro i acc st hi ⟨h1, h2, h3, h4⟩
      cases gd with
      | none => trivial
      | some q => exact h4.rdL hg (fun e => hgr (by rw [e]))) (by
      rintro i acc st hi ⟨h1, h2, h3, h4⟩
      obtain ⟨env1, e1, y, st3, e2, e3, e4⟩ := hs i hi st h4
      have w3 : rdW st3 st1.length = some acc := e3.rdW h1 (by omega)
      refine ⟨env1, st, e1, .inr ⟨st, y, st3, rfl, e2, w3, ?_, by simp [h2], fun j z hj => ?_, (h4.trans e3).beyond (Nat.le_refl _) hr⟩⟩
      · rw [rdW_iff, List.getElem?_set_self (rdW_lt w3)]
      · by_cases hj2 : j < acc.length
        · rw [List.getElem?_append_left hj2] at hj
          exact h3 j z hj
        · have hl := (List.getElem?_eq_some_iff.mp hj).1
          have ej : j = acc.length := by simp at hl; omega
          subst ej
          rw [List.getElem?_concat_length] at hj
          cases hj
          rw [h2]
          exact e4)
  obtain ⟨acc, st', e, h⟩ := main
  exact ⟨acc, st', by unfold mLc; rw [hi]; exact e, h.1, h.2.1, h.2.2.1, h.2.2.2⟩
end DL
set_option Elab.async false
set_option linter.all false
set_option maxRecDepth 10000
/-! Ends of comprehensions, indices, equality of leaves: free of any program. -/
namespace DL
open PySem PySem.Spec PyProof.Rows L2
theorem ixN_at {n : Nat} {i : Nat} (h : i < n) : ixN n (i : Int) = some i := by
  unfold ixN
  rw [if_pos (Int.natCast_nonneg i), if_pos (by exact_mod_cast h)]
  simp
theorem atI_at {xs : List D} {i : Nat} {d : D} (h : xs[i]? = some d) : L2.atI xs (i : Int) = some d := L2.atI_nat h
@[simp] theorem atI0 (a : D) (r : List D) : L2.atI (a :: r) 0 = some a := L2.atI_nat (j := 0) rfl
@[simp] theorem atI1 (a b : D) (r : List D) : L2.atI (a :: b :: r) 1 = some b := L2.atI_nat (j := 1) rfl
@[simp] theorem atI2 (a b c : D) (r : List D) : L2.atI (a :: b :: c :: r) 2 = some c := L2.atI_nat (j := 2) rfl
@[simp] theorem ixN30 : ixN 3 0 = some 0 := rfl
@[simp] theorem ixN32 : ixN 3 2 = some 2 := rfl
theorem blsOf_all {ds : List D} (h : ∀ d ∈ ds, d = .bl true) : ∃ bs, blsOf ds = some bs ∧ bs.all id = true := by
  induction ds with
  | nil => exact ⟨[], rfl, rfl⟩
  | cons d r ih =>
    obtain ⟨bs, e, a⟩ := ih fun x hx => h x (List.mem_cons_of_mem _ hx)
    have := h d List.mem_cons_self
    subst this
    exact ⟨true :: bs, by simp [blsOf, e], by simp [a]⟩
theorem rdL_of_new {st st' : Sto} {xs : List D} (h : Gr (st ++ [.lst xs]) st') : rdL st' st.length = some xs := rdL_gr h (rdL_new _ _)
theorem all_true {mi : MI} {g : GT} {me : En → Sto → R D} {vs : List Nat} {env : En} {st st1 : Sto} {ds : List D} {gd : Option Nat} (hi : mi env st = .ok (ds, gd) st1) (hg : gOk ds gd st1) (hz : ds.length < sizeLine)
    (hs : ∀ d ∈ ds, ∀ st', Gr st1 st' → ∃ env1, g d (wipeE env vs) st' = some (env1, st') ∧ ∃ st3, me env1 st' = .ok (.bl true) st3 ∧ Gr st' st3) :
    ∃ st', mLc mi g mYes me vs env st = .ok (.ref st1.length) st' ∧ bAll [.ref st1.length] st' = .ok (.bl true) st' ∧ Gr st1 st' := by
  obtain ⟨st', e, h⟩ := mLc_pure (mt := mYes) (me := me) (vs := vs) (fun _ => true) (fun _ => .bl true) hi hg hz fun d hd st' g' => by
    obtain ⟨env1, e1, st3, e2, g3⟩ := hs d hd st' g'
    exact ⟨env1, e1, st', rfl, List.prefix_refl _, fun _ => ⟨st3, e2, g3⟩⟩
  have r := rdL_of_new h
  obtain ⟨bs, eb, ab⟩ := blsOf_all (ds := (ds.filter fun _ => true).map fun _ => D.bl true) (by intro d hd; obtain ⟨_, _, rfl⟩ := List.mem_map.mp hd; rfl)
  refine ⟨st', e, ?_, (List.prefix_append _ _).trans h⟩
  simp only [bAll, r, Option.bind_some, eb, ab]
@[simp] theorem oEq_int (a b : Int) (st : Sto) : oEq (.int a) (.int b) st = .ok (.bl (decide (a = b))) st := by
  have r4 : ∀ n : Int, toP st (.int n) = some (.int n) := fun n => rfl
  have r5 : PyData.eqv (.int a) (.int b) = decide (a = b) := by simp only [PyData.eqv]; rw [Bool.eq_iff_iff]; simp
  have r6 : ∀ n : Int, SeqAt.shaped (.int n) = true := fun n => by simp [SeqAt.shaped, PyData.canLay0, PyData.depth]
  simp [oEq, r4, r5, r6]
theorem rdW_set {st : Sto} {r : Nat} {xs ys : List D} (h : rdW st r = some xs) : rdW (st.set r (.lst ys)) r = some ys := by
  rw [rdW_iff, List.getElem?_set_self (rdW_lt h)]
theorem rdW_setne {st : Sto} {r q : Nat} {xs : List D} {c : Cl} (n : r ≠ q) (h : rdW st r = some xs) : rdW (st.set q c) r = some xs := by
  rw [rdW_iff, List.getElem?_set_ne (Ne.symm n)]
  exact rdW_iff.mp h
theorem rng_of {n : Nat} {d : D} (h : d ∈ rngD 0 n) : ∃ i : Nat, i < n ∧ d = .int (i : Nat) := by
  obtain ⟨i, hi, rfl⟩ := List.mem_map.mp h
  exact ⟨i, List.mem_range.mp hi, by rw [Int.zero_add]⟩
theorem iRng1_nat {mr : En → Sto → R (List D)} {env : En} {st st1 : Sto} {n : Nat} (e : mr env st = .ok [.int n] st1) (hm : Mid (n : Int)) : DL.iRng1 mr env st = .ok (rngD 0 n, none) st1 := by
  unfold DL.iRng1
  rw [e]
  simp only [R.bind]
  rw [if_pos hm, Int.toNat_natCast]
@[simp] theorem rngD_len (lo : Int) (n : Nat) : (rngD lo n).length = n := by simp [rngD]
theorem rngD_get {n i : Nat} (h : i < (rngD 0 n).length) : (rngD 0 n)[i] = .int (i : Nat) := by simp [rngD]
def isLeaf : D → Bool
  | .int _ => true
  | .non => true
  | .bl _ => true
  | _ => false
theorem leaf_pd {d : D} (h : isLeaf d = true) : ∃ p, (∀ rd, pd rd d = some p) ∧ p.canLay0 = true ∧ p.depth = 0 ∧ PyData.eqv p p = true := by
  cases d with
  | int i => exact ⟨.int i, fun _ => rfl, rfl, rfl, by simp [PyData.eqv]⟩
  | non => exact ⟨.none, fun _ => rfl, rfl, rfl, rfl⟩
  | bl b => exact ⟨.bool b, fun _ => rfl, rfl, rfl, by simp [PyData.eqv]⟩
  | _ => cases h
theorem leafs_pd : ∀ {ds : List D}, (∀ d ∈ ds, isLeaf d = true) → ∃ ps, (∀ rd, pds rd ds = some ps) ∧ PyData.canLayAll0 ps = true ∧ PyData.depthAll ps = 0 ∧ PyData.eqvAll ps ps = true
  | [], _ => ⟨[], fun _ => rfl, rfl, rfl, rfl⟩
  | d :: ds, h => by
    obtain ⟨p, a1, a2, a3, a4⟩ := leaf_pd (h d List.mem_cons_self)
    obtain ⟨ps, b1, b2, b3, b4⟩ := leafs_pd fun x hx => h x (List.mem_cons_of_mem _ hx)
    exact ⟨p :: ps, fun rd => by simp [pds, a1 rd, b1 rd], by simp [PyData.canLayAll0, a2, b2], by simp [PyData.depthAll, a3, b3], by simp [PyData.eqvAll, a4, b4]⟩
theorem oNe_leaf {d : D} (h : isLeaf d = true) (st : Sto) : oNe d d st = .ok (.bl false) st := by
  obtain ⟨p, a1, a2, a3, a4⟩ := leaf_pd h
  have r : SeqAt.shaped p = true := by simp [SeqAt.shaped, a2, a3]
  simp [oNe, toP, a1, r, a4]
theorem oNe_tup {ds : List D} (h : ∀ d ∈ ds, isLeaf d = true) (st : Sto) : oNe (.tup ds) (.tup ds) st = .ok (.bl false) st := by
  obtain ⟨p, a1, a2, a3, a4⟩ := leafs_pd h
  have r : SeqAt.shaped (.tuple p) = true := by simp [SeqAt.shaped, PyData.canLay0, PyData.depth, a2, a3]
  simp [oNe, toP, pd, a1, r, PyData.eqv, a4]
theorem toP_ref {ds : List D} (h : ∀ d ∈ ds, isLeaf d = true) : ∃ ps, (∀ st r, rdL st r = some ds → toP st (.ref r) = some (.list ps)) ∧ SeqAt.shaped (.list ps) = true ∧ PyData.eqvAll ps ps = true ∧ (ds = [] → ps = []) ∧ (ds ≠ [] → ps ≠ []) := by
  obtain ⟨p, a1, a2, a3, a4⟩ := leafs_pd h
  refine ⟨p, fun st r e => by simp [toP, pd, rdP, e, a1], by simp [SeqAt.shaped, PyData.canLay0, PyData.depth, a2, a3], a4, fun e => ?_, fun e q => ?_⟩
  · subst e; have := a1 fun _ => none; simp [pds] at this; exact this
  · subst q
    obtain ⟨d, r, rfl⟩ := List.exists_cons_of_ne_nil e
    have := a1 fun _ => none
    unfold pds at this
    split at this <;> cases this
theorem oNe_ref {ds : List D} {st : Sto} {a b : Nat} (h : ∀ d ∈ ds, isLeaf d = true) (ha : rdL st a = some ds) (hb : rdL st b = some ds) : oNe (.ref a) (.ref b) st = .ok (.bl false) st := by
  obtain ⟨p, a1, a2, a3, _⟩ := toP_ref h
  simp [oNe, a1 _ _ ha, a1 _ _ hb, a2, PyData.eqv, a3]
theorem oEq_nils {st : Sto} {a b : Nat} (ha : rdL st a = some []) (hb : rdL st b = some []) : oEq (.ref a) (.ref b) st = .ok (.bl true) st := by
  obtain ⟨p, a1, a2, a3, _⟩ := toP_ref (ds := []) (by simp)
  simp [oEq, a1 _ _ ha, a1 _ _ hb, a2, PyData.eqv, a3]
theorem oEq_nil {ds : List D} {st : Sto} {a b : Nat} (h : ∀ d ∈ ds, isLeaf d = true) (hn : ds ≠ []) (ha : rdL st a = some ds) (hb : rdL st b = some []) : oEq (.ref a) (.ref b) st = .ok (.bl false) st := by
  obtain ⟨p, a1, a2, a3, _, a5⟩ := toP_ref h
  obtain ⟨q, b1, b2, b3, b4, _⟩ := toP_ref (ds := []) (by simp)
  have := a5 hn
  have eq := b4 rfl
  subst eq
  obtain ⟨x, r, rfl⟩ := List.exists_cons_of_ne_nil this
  simp [oEq, a1 _ _ ha, b1 _ _ hb, a2, b2, PyData.eqv, PyData.eqvAll]
theorem oEq_pair (a b c d : Int) (st : Sto) : oEq (.tup [.int a, .int b]) (.tup [.int c, .int d]) st = .ok (.bl (decide (a = c ∧ b = d))) st := by
  have r4 : ∀ n m : Int, toP st (.tup [.int n, .int m]) = some (.tuple [.int n, .int m]) := fun n m => rfl
  have r5 : PyData.eqv (.tuple [.int a, .int b]) (.tuple [.int c, .int d]) = decide (a = c ∧ b = d) := by
    rw [Bool.eq_iff_iff]
    simp [PyData.eqv, PyData.eqvAll]
  have r6 : ∀ n m : Int, SeqAt.shaped (.tuple [.int n, .int m]) = true := fun n m => by
    simp [SeqAt.shaped, PyData.canLay0, PyData.canLayAll0, PyData.depth, PyData.depthAll]
  simp [oEq, r4, r5, r6]
theorem sFor_rng {mr : En → Sto → R (List D)} {g : GT} {mb : En → Sto → RS} {env env' : En} {st st1 st' : Sto} {n : Nat} (e : mr env st = .ok [.int n] st1) (hm : Mid (n : Int)) (h : loopS (rngD 0 n) none g mb (rngD 0 n) env st1 = .nx env' st') : sFor (DL.iRng1 mr) g mb env st = .nx env' st' := by
  unfold sFor
  rw [iRng1_nat e hm]
  exact h
theorem leaf_ints {xs : List Int} : ∀ d ∈ xs.map D.int, isLeaf d = true := fun d hd => by
  obtain ⟨x, _, rfl⟩ := List.mem_map.mp hd; rfl
def intD : D → Int
  | .int i => i
  | _ => 0
theorem ints_filter {p : Int → Bool} {q : D → Bool} {f : D → D} {g : Int → D} (xs : List Int) (hp : ∀ x, q (.int x) = p x) (hf : ∀ x, f (.int x) = g x) : ((xs.map D.int).filter q).map f = (xs.filter p).map g := by
  rw [List.filter_map, List.map_map]
  have e : (q ∘ D.int) = p := funext hp
  rw [e]
  exact List.map_congr_left fun x _ => hf x
/-- a comprehension over the neighbours of a seat -/
theorem over_row {xs : List Int} (hx : xs.length < 1000) {mi : MI} {i : Nat} {vs : List Nat} {me : En → Sto → R D} {env : En} (f : Int → D) {st st1 : Sto} (hi : mi env st = .ok (xs.map D.int, none) st1)
    (hs : ∀ y ∈ xs, ∀ st', Gr st1 st' → me ((wipeE env vs).set i (some (.int y))) st' = .ok (f y) st') :
    ∃ st', mLc mi (gN i) mYes me vs env st = .ok (.ref st1.length) st' ∧ Gr st1 st' ∧ rdW st' st1.length = some (xs.map f) := by
  have hz : (1000 : Nat) < sizeLine := by decide
  obtain ⟨st2, e2, g2⟩ := mLc_pure (mi := mi) (g := gN i) (mt := mYes) (me := me) (vs := vs) (env := env) (st := st) (st1 := st1) (ds := xs.map D.int) (gd := none) (fun d => true) (fun d => f (intD d)) hi trivial (by simp; omega) (by
    intro d hd st' g'
    obtain ⟨y, hy, rfl⟩ := List.mem_map.mp hd
    exact ⟨_, rfl, st', rfl, List.prefix_refl _, fun _ => ⟨st', hs y hy st' g', List.prefix_refl _⟩⟩)
  refine ⟨st2, e2, (List.prefix_append _ _).trans g2, ?_⟩
  rw [ints_filter (p := fun _ => true) (g := f) _ (fun _ => rfl) (fun _ => rfl), List.filter_eq_self.mpr (fun _ _ => rfl)] at g2
  exact rdW_gr g2 (rdW_new _ _)
theorem seq_assoc {a b c : En → Sto → RS} {env : En} {st : Sto} : sSeq a (sSeq b c) env st = sSeq (sSeq a b) c env st := by
  unfold sSeq
  cases a env st <;> rfl
theorem seq_nx {a b : En → Sto → RS} {env env' : En} {st st' : Sto} (h : a env st = .nx env' st') : sSeq a b env st = b env' st' := by
  unfold sSeq; rw [h]; rfl
end DL
set_option Elab.async false
set_option linter.all false
set_option maxRecDepth 10000
/-! Texts of data: how long they are at most. -/
namespace DL
open PySem PySem.Spec PyProof.Rows L2
theorem piled_le {ts : List Str} {B : Nat} (h : ∀ t ∈ ts, t.length ≤ B) : (PySem.piled ts) ≤ ts.length * (B + 2) := by
  induction ts with
  | nil => simp [PySem.piled]
  | cons t r ih =>
    have h1 := h t List.mem_cons_self
    have h2 := ih fun x hx => h x (List.mem_cons_of_mem _ hx)
    rw [PySem.piled_cons, List.length_cons, Nat.add_mul]
    omega
theorem tupleText_le {ts : List Str} {B : Nat} (h : ∀ t ∈ ts, t.length ≤ B) : (PySem.tupleText ts).length ≤ ts.length * (B + 2) + 3 := by
  have h1 := piled_le h
  unfold PySem.tupleText
  rw [strLen_append, strLen_append]
  have e1 : ((("(" : String) : Str)).length = 1 := rfl
  have e3 : (((if ts.length == 1 then ",)" else ")" : String) : Str)).length ≤ 2 := by split <;> decide
  rw [e1]
  by_cases q : ts = []
  · subst q
    have : (Str.join ", " []).length = 0 := rfl
    omega
  · have := PySem.join_length_add ts q
    omega
theorem strOk_append {a b : Str} (h : PyData.strOk a = true) (h' : PyData.strOk b = true) : PyData.strOk (a ++ b) = true := by
  unfold PyData.strOk at *
  rw [PySem.Str.cps_append, Array.all_append, h, h']
  rfl
theorem strOk_join {sep : Str} (hs : PyData.strOk sep = true) : ∀ {ts : List Str}, (∀ t ∈ ts, PyData.strOk t = true) → PyData.strOk (Str.join sep ts) = true
  | [], _ => by show PyData.strOk Str.empty = true; decide +kernel
  | [x], h => h x List.mem_cons_self
  | x :: y :: r, h => by
    show PyData.strOk (x ++ sep ++ Str.join sep (y :: r)) = true
    exact strOk_append (strOk_append (h x List.mem_cons_self) hs) (strOk_join hs fun t ht => h t (List.mem_cons_of_mem _ ht))
theorem strOk_tupleText {ts : List Str} (h : ∀ t ∈ ts, PyData.strOk t = true) : PyData.strOk (PySem.tupleText ts) = true := by
  unfold PySem.tupleText
  refine strOk_append (strOk_append (by decide +kernel) (strOk_join (by decide +kernel) h)) ?_
  split <;> decide +kernel
end DL
set_option Elab.async false
set_option linter.all false
set_option maxRecDepth 10000
namespace DL
open PySem PySem.Spec PyProof.Rows L2
/-- x in a row of ints -/
theorem pds_ints (rd : Nat → Option PyData) : ∀ ys : List Int, pds rd (ys.map .int) = some (ys.map .int)
  | [] => rfl
  | y :: ys => by simp [pds, pd, pds_ints rd ys]
theorem lay_ints : ∀ ys : List Int, PyData.canLayAll0 (ys.map .int) = true
  | [] => rfl
  | y :: ys => by simp [PyData.canLayAll0, PyData.canLay0, lay_ints ys]
theorem oIn_ints (x : Int) (ys : List Int) (st : Sto) : oIn (.int x) (.tup (ys.map .int)) st = .ok (.bl (decide (x ∈ ys))) st := by
  have r4 : toP st (.int x) = some (.int x) := rfl
  have r5 : toP st (.tup (ys.map .int)) = some (.tuple (ys.map .int)) := by simp [toP, pd, pds_ints]
  have r6 : SeqAt.shaped (.int x) = true := by simp [SeqAt.shaped, PyData.canLay0, PyData.depth]
  have r7 : ((ys.map PyData.int).any fun z => PyData.eqv z (.int x)) = decide (x ∈ ys) := by
    rw [Bool.eq_iff_iff, List.any_eq_true, decide_eq_true_iff]
    constructor
    · rintro ⟨_, ha, e⟩
      obtain ⟨a, h, rfl⟩ := List.mem_map.mp ha
      simp [PyData.eqv] at e
      subst e
      exact h
    · intro h
      exact ⟨_, List.mem_map.mpr ⟨x, h, rfl⟩, by simp [PyData.eqv]⟩
  simp [oIn, r4, r5, r6, lay_ints, r7]
theorem pds_map {β : Type} (rd : Nat → Option PyData) {f : β → D} {g : β → PyData} : ∀ {xs : List β}, (∀ x ∈ xs, pd rd (f x) = some (g x)) → pds rd (xs.map f) = some (xs.map g)
  | [], _ => rfl
  | x :: xs, h => by
    have h1 := h x List.mem_cons_self
    have h2 := pds_map rd (xs := xs) fun y hy => h y (List.mem_cons_of_mem _ hy)
    simp [pds, h1, h2]
theorem shown_map {β : Type} {g : β → PyData} : ∀ {xs : List β}, PyData.shownAll (xs.map g) = xs.map fun x => (g x).shown
  | [] => rfl
  | x :: xs => by simp [PyData.shownAll, shown_map (xs := xs)]
theorem lay_map {β : Type} {g : β → PyData} : ∀ {xs : List β}, (∀ x ∈ xs, (g x).canLay0 = true) → PyData.canLayAll0 (xs.map g) = true
  | [], _ => rfl
  | x :: xs, h => by simp [PyData.canLayAll0, h x List.mem_cons_self, lay_map (xs := xs) fun y hy => h y (List.mem_cons_of_mem _ hy)]
theorem depth_map {β : Type} {g : β → PyData} {k : Nat} : ∀ {xs : List β}, (∀ x ∈ xs, (g x).depth ≤ k) → PyData.depthAll (xs.map g) ≤ k
  | [], _ => Nat.zero_le _
  | x :: xs, h => by
    have h1 := h x List.mem_cons_self
    have h2 := depth_map (xs := xs) fun y hy => h y (List.mem_cons_of_mem _ hy)
    simp only [List.map_cons, PyData.depthAll]
    omega
theorem showable_map {β : Type} {g : β → PyData} : ∀ {xs : List β}, (∀ x ∈ xs, (g x).showable = true) → PyData.showableAll (xs.map g) = true
  | [], _ => rfl
  | x :: xs, h => by simp [PyData.showableAll, h x List.mem_cons_self, showable_map (xs := xs) fun y hy => h y (List.mem_cons_of_mem _ hy)]
/-- a small number's text -/
theorem shown_ok {i : Int} (h0 : 0 ≤ i) (h1 : i < 100) : PyData.strOk (PyData.int i).shown = true := by
  obtain ⟨k, rfl⟩ : ∃ k : Nat, i = k := ⟨i.toNat, by omega⟩
  have hk : k < 100 := by omega
  have all : ∀ k : _root_.Fin 100, PyData.strOk (PyData.int ((k : Nat) : Int)).shown = true := by decide +kernel
  exact all ⟨k, hk⟩
theorem shown_small {i : Int} (h0 : 0 ≤ i) (h1 : i < 100) : (PyData.int i).shown.length ≤ 2 ∧ (PyData.int i).showable = true := by
  obtain ⟨k, rfl⟩ : ∃ k : Nat, i = k := ⟨i.toNat, by omega⟩
  have hk : k < 100 := by omega
  have all : ∀ k : _root_.Fin 100, (PyData.int ((k : Nat) : Int)).shown.length ≤ 2 ∧ (PyData.int ((k : Nat) : Int)).showable = true := by decide +kernel
  exact all ⟨k, hk⟩
end DL
set_option Elab.async false
set_option linter.all false
set_option maxRecDepth 10000
/-! Texts and equality of rows of leaves: small numbers, None, truths. -/
namespace DL
open PySem PySem.Spec PyProof.Rows L2
theorem textFrom_le : ∀ (ts : List Str) (k : Nat) (acc : Str), (PySem.textFrom k acc ts).length ≤ acc.length + PySem.piled ts
  | [], k, acc => by simp [PySem.textFrom, PySem.piled]
  | t :: r, k, acc => by
    have ih := textFrom_le r (k + 1) (acc ++ (if k > 0 then ", " else "" : String) ++ t)
    have e : (acc ++ (if k > 0 then ", " else "" : String) ++ t).length ≤ acc.length + 2 + t.length := by
      rw [strLen_append, strLen_append]
      have : (((if k > 0 then ", " else "" : String) : Str)).length ≤ 2 := by split <;> decide
      omega
    rw [PySem.piled_cons]
    show (PySem.textFrom (k + 1) _ r).length ≤ _
    omega
theorem listText_le {ts : List Str} {B : Nat} (h : ∀ t ∈ ts, t.length ≤ B) : (PySem.listText ts).length ≤ ts.length * (B + 2) + 2 := by
  have h1 := piled_le h
  have h2 := textFrom_le ts 0 "["
  unfold PySem.listText
  rw [strLen_append]
  have e1 : ((("[" : String) : Str)).length = 1 := rfl
  have e2 : ((("]" : String) : Str)).length = 1 := rfl
  rw [e1] at h2
  rw [e2]
  omega
theorem strOk_textFrom : ∀ {ts : List Str} (k : Nat) {acc : Str}, PyData.strOk acc = true → (∀ t ∈ ts, PyData.strOk t = true) → PyData.strOk (PySem.textFrom k acc ts) = true
  | [], k, acc, h, _ => h
  | t :: r, k, acc, h, ht => by
    show PyData.strOk (PySem.textFrom (k + 1) _ r) = true
    refine strOk_textFrom (k + 1) (strOk_append (strOk_append h ?_) (ht t List.mem_cons_self)) fun x hx => ht x (List.mem_cons_of_mem _ hx)
    split <;> decide +kernel
theorem strOk_listText {ts : List Str} (h : ∀ t ∈ ts, PyData.strOk t = true) : PyData.strOk (PySem.listText ts) = true := by
  unfold PySem.listText
  exact strOk_append (strOk_textFrom 0 (by decide +kernel) h) (by decide +kernel)
/-- a leaf with a short text -/
def SmLeaf : D → Prop
  | .int i => 0 ≤ i ∧ i < 100
  | .non => True
  | .bl _ => True
  | _ => False
def lpd : D → PyData
  | .int i => .int i
  | .bl b => .bool b
  | _ => .none
theorem smleaf_pd {d : D} (h : SmLeaf d) : (∀ rd, pd rd d = some (lpd d)) ∧ (lpd d).canLay0 = true ∧ (lpd d).depth = 0 ∧ (lpd d).showable = true ∧ (lpd d).shown.length ≤ 5 ∧ PyData.strOk (lpd d).shown = true ∧ isLeaf d = true := by
  cases d with
  | int i =>
    have := shown_small h.1 h.2
    exact ⟨fun _ => rfl, rfl, rfl, this.2, by show (PyData.int i).shown.length ≤ 5; omega, shown_ok h.1 h.2, rfl⟩
  | non => exact ⟨fun _ => rfl, rfl, rfl, rfl, by decide +kernel, by decide +kernel, rfl⟩
  | bl b => cases b <;> exact ⟨fun _ => rfl, rfl, rfl, rfl, by decide +kernel, by decide +kernel, rfl⟩
  | _ => cases h
theorem leafs_facts {ds : List D} (h : ∀ d ∈ ds, SmLeaf d) (hl : ds.length ≤ 1000) :
    (∀ rd, pds rd ds = some (ds.map lpd)) ∧ PyData.canLayAll0 (ds.map lpd) = true ∧ PyData.depthAll (ds.map lpd) ≤ 0 ∧ PyData.showableAll (ds.map lpd) = true ∧ (∀ t ∈ PyData.shownAll (ds.map lpd), t.length ≤ 5) ∧ (∀ t ∈ PyData.shownAll (ds.map lpd), PyData.strOk t = true) ∧ (PyData.shownAll (ds.map lpd)).length = ds.length := by
  refine ⟨fun rd => ?_, lay_map fun d hd => (smleaf_pd (h d hd)).2.1, depth_map fun d hd => by rw [(smleaf_pd (h d hd)).2.2.1]; exact Nat.le_refl _, showable_map fun d hd => (smleaf_pd (h d hd)).2.2.2.1, ?_, ?_, by rw [shown_map]; simp⟩
  · have := pds_map rd (f := fun d : D => d) (g := lpd) (xs := ds) fun d hd => (smleaf_pd (h d hd)).1 rd
    rw [List.map_id'] at this
    exact this
  · rw [shown_map]
    intro t ht
    obtain ⟨d, hd, rfl⟩ := List.mem_map.mp ht
    exact (smleaf_pd (h d hd)).2.2.2.2.1
  · rw [shown_map]
    intro t ht
    obtain ⟨d, hd, rfl⟩ := List.mem_map.mp ht
    exact (smleaf_pd (h d hd)).2.2.2.2.2.1
theorem repr_tup {ds : List D} (h : ∀ d ∈ ds, SmLeaf d) (hl : ds.length ≤ 1000) : ∃ x, PyData.strOk x = true ∧ ∀ st, bRepr [.tup ds] st = .ok (.str x) st := by
  obtain ⟨a1, a2, a3, a4, a5, a6, a7⟩ := leafs_facts h hl
  have hz : (10000 : Nat) ≤ sizeLine := by decide
  have sh : SeqAt.shaped (.tuple (ds.map lpd)) = true := by
    unfold SeqAt.shaped
    rw [Bool.and_eq_true, decide_eq_true_iff]
    exact ⟨by simp only [PyData.canLay0, a2], by simp only [PyData.depth]; omega⟩
  have len := tupleText_le a5
  rw [a7] at len
  have e3 : (PyData.tuple (ds.map lpd)).shown = PySem.tupleText (PyData.shownAll (ds.map lpd)) := by rw [PyData.shown]
  refine ⟨(PyData.tuple (ds.map lpd)).shown, by rw [e3]; exact strOk_tupleText a6, fun st => ?_⟩
  have e : toP st (.tup ds) = some (.tuple (ds.map lpd)) := by simp [toP, pd, a1]
  have s1 : (PyData.tuple (ds.map lpd)).showable = true := by rw [PyData.showable]; exact a4
  have s2 : (PyData.tuple (ds.map lpd)).shown.length ≤ sizeLine := by
    rw [e3]
    have : ds.length * (5 + 2) ≤ 1000 * (5 + 2) := Nat.mul_le_mul_right _ hl
    omega
  cases ds with
  | nil => simp only [bRepr, e, sh, s1, s2, and_self, if_true]
  | cons d ds => simp only [bRepr, e, sh, s1, s2, and_self, if_true]
theorem repr_ref {ds : List D} (h : ∀ d ∈ ds, SmLeaf d) (hl : ds.length ≤ 1000) : ∃ x, PyData.strOk x = true ∧ ∀ st r, rdL st r = some ds → bRepr [.ref r] st = .ok (.str x) st := by
  obtain ⟨a1, a2, a3, a4, a5, a6, a7⟩ := leafs_facts h hl
  have hz : (10000 : Nat) ≤ sizeLine := by decide
  have sh : SeqAt.shaped (.list (ds.map lpd)) = true := by
    unfold SeqAt.shaped
    rw [Bool.and_eq_true, decide_eq_true_iff]
    exact ⟨by simp only [PyData.canLay0, a2], by simp only [PyData.depth]; omega⟩
  have len := listText_le a5
  rw [a7] at len
  have e3 : (PyData.list (ds.map lpd)).shown = PySem.listText (PyData.shownAll (ds.map lpd)) := by rw [PyData.shown]
  refine ⟨(PyData.list (ds.map lpd)).shown, by rw [e3]; exact strOk_listText a6, fun st r hr => ?_⟩
  have e : toP st (.ref r) = some (.list (ds.map lpd)) := by simp [toP, pd, rdP, hr, a1]
  have s1 : (PyData.list (ds.map lpd)).showable = true := by rw [PyData.showable]; exact a4
  have s2 : (PyData.list (ds.map lpd)).shown.length ≤ sizeLine := by
    rw [e3]
    have : ds.length * (5 + 2) ≤ 1000 * (5 + 2) := Nat.mul_le_mul_right _ hl
    omega
  simp only [bRepr, e, sh, s1, s2, and_self, if_true]
theorem oNe_str {x : Str} (hx : PyData.strOk x = true) (st : Sto) : oNe (.str x) (.str x) st = .ok (.bl false) st := by
  have r4 : toP st (.str x) = some (.str x) := rfl
  have r5 : PyData.eqv (.str x) (.str x) = true := by simp [PyData.eqv]
  have r6 : SeqAt.shaped (.str x) = true := by simp [SeqAt.shaped, PyData.canLay0, PyData.depth, hx]
  simp [oNe, r4, r5, r6]
theorem oEq_tup {ds : List D} (h : ∀ d ∈ ds, isLeaf d = true) (st : Sto) : oEq (.tup ds) (.tup ds) st = .ok (.bl true) st := by
  obtain ⟨p, a1, a2, a3, a4⟩ := leafs_pd h
  have r : SeqAt.shaped (.tuple p) = true := by simp [SeqAt.shaped, PyData.canLay0, PyData.depth, a2, a3]
  simp [oEq, toP, pd, a1, r, PyData.eqv, a4]
theorem oEq_ref {ds : List D} {st : Sto} {a b : Nat} (h : ∀ d ∈ ds, isLeaf d = true) (ha : rdL st a = some ds) (hb : rdL st b = some ds) : oEq (.ref a) (.ref b) st = .ok (.bl true) st := by
  obtain ⟨p, a1, a2, a3, _⟩ := toP_ref h
  simp [oEq, a1 _ _ ha, a1 _ _ hb, a2, PyData.eqv, a3]
theorem minI_ex {xs : List Int} (h : xs ≠ []) : ∃ m, minI xs = some m := by
  cases xs with
  | nil => exact (h rfl).elim
  | cons x xs => exact ⟨_, rfl⟩
end DL
set_option Elab.async false
set_option linter.all false
set_option maxRecDepth 10000
/-! Texts of data of any shape: how long they are at most. -/
namespace DL
open PySem PySem.Spec PyProof.Rows L2
structure PdOk (p : PyData) (B n : Nat) : Prop where
  lay : p.canLay0 = true
  depth : p.depth ≤ n
  showable : p.showable = true
  len : p.shown.length ≤ B
  ok : PyData.strOk p.shown = true
/-- it has a text of at most B signs, and is at most n deep -/
def Shw (d : D) (B n : Nat) : Prop := ∃ p, (∀ rd, pd rd d = some p) ∧ PdOk p B n
theorem Shw.mono {d : D} {B n B' n' : Nat} (h : Shw d B n) (hB : B ≤ B') (hn : n ≤ n') : Shw d B' n' :=
  let ⟨p, e, a⟩ := h
  ⟨p, e, a.lay, Nat.le_trans a.depth hn, a.showable, Nat.le_trans a.len hB, a.ok⟩
theorem shw_all {ds : List D} {B n : Nat} (h : ∀ d ∈ ds, Shw d B n) : ∃ f : D → PyData, (∀ rd, pds rd ds = some (ds.map f)) ∧ ∀ d ∈ ds, PdOk (f d) B n := by
  classical
  refine ⟨fun d => if q : Shw d B n then q.choose else .none, fun rd => ?_, fun d hd => ?_⟩
  · have := pds_map rd (f := fun d : D => d) (g := fun d => if q : Shw d B n then q.choose else .none) (xs := ds) fun d hd => by
      simp only [dif_pos (h d hd)]
      exact (h d hd).choose_spec.1 rd
    rwa [List.map_id'] at this
  · simp only [dif_pos (h d hd)]
    exact (h d hd).choose_spec.2
theorem shw_tupP {ds : List D} {B n : Nat} (h : ∀ d ∈ ds, Shw d B n) : ∃ ps, (∀ rd, pds rd ds = some ps) ∧ PdOk (.tuple ps) (ds.length * (B + 2) + 3) (n + 1) ∧ PdOk (.list ps) (ds.length * (B + 2) + 3) (n + 1) := by
  obtain ⟨f, e, a⟩ := shw_all h
  have a1 : PyData.canLayAll0 (ds.map f) = true := lay_map fun d hd => (a d hd).lay
  have a2 : PyData.depthAll (ds.map f) ≤ n := depth_map fun d hd => (a d hd).depth
  have a3 : PyData.showableAll (ds.map f) = true := showable_map fun d hd => (a d hd).showable
  have a4 : ∀ t ∈ PyData.shownAll (ds.map f), t.length ≤ B := by
    rw [shown_map]; intro t ht; obtain ⟨d, hd, rfl⟩ := List.mem_map.mp ht; exact (a d hd).len
  have a5 : ∀ t ∈ PyData.shownAll (ds.map f), PyData.strOk t = true := by
    rw [shown_map]; intro t ht; obtain ⟨d, hd, rfl⟩ := List.mem_map.mp ht; exact (a d hd).ok
  have a6 : (PyData.shownAll (ds.map f)).length = ds.length := by rw [shown_map]; simp
  have e3 : (PyData.tuple (ds.map f)).shown = PySem.tupleText (PyData.shownAll (ds.map f)) := by rw [PyData.shown]
  have e4 : (PyData.list (ds.map f)).shown = PySem.listText (PyData.shownAll (ds.map f)) := by rw [PyData.shown]
  have l1 := tupleText_le a4
  have l2 := listText_le a4
  rw [a6] at l1 l2
  refine ⟨ds.map f, e, ⟨by simp only [PyData.canLay0, a1], by simp only [PyData.depth]; omega, by rw [PyData.showable]; exact a3, by rw [e3]; exact l1, by rw [e3]; exact strOk_tupleText a5⟩,
    ⟨by simp only [PyData.canLay0, a1], by simp only [PyData.depth]; omega, by rw [PyData.showable]; exact a3, by rw [e4]; omega, by rw [e4]; exact strOk_listText a5⟩⟩
theorem shw_tup {ds : List D} {B n : Nat} (h : ∀ d ∈ ds, Shw d B n) : Shw (.tup ds) (ds.length * (B + 2) + 3) (n + 1) := by
  obtain ⟨ps, e, a, _⟩ := shw_tupP h
  exact ⟨.tuple ps, fun rd => by simp [pd, e], a⟩
theorem shw_row {ds : List D} {B n k : Nat} (h : ∀ d ∈ ds, Shw d B n) (hk : ds.length ≤ k) : Shw (.tup ds) (k * (B + 2) + 3) (n + 1) :=
  (shw_tup h).mono (by have := Nat.mul_le_mul_right (B + 2) hk; omega) (Nat.le_refl _)
theorem shw_int {i : Int} (h0 : 0 ≤ i) (h1 : i < 1000) : Shw (.int i) 3 0 := by
  obtain ⟨k, rfl⟩ : ∃ k : Nat, i = k := ⟨i.toNat, by omega⟩
  have all : ∀ k : _root_.Fin 1000, (PyData.int ((k : Nat) : Int)).shown.length ≤ 3 ∧ (PyData.int ((k : Nat) : Int)).showable = true ∧ PyData.strOk (PyData.int ((k : Nat) : Int)).shown = true := by decide +kernel
  have a := all ⟨k, by omega⟩
  exact ⟨.int k, fun _ => rfl, rfl, Nat.le_refl _, a.2.1, a.1, a.2.2⟩
theorem shw_bl (b : Bool) : Shw (.bl b) 5 0 := by
  cases b
  · exact ⟨.bool false, fun _ => rfl, rfl, Nat.le_refl _, rfl, by decide +kernel, by decide +kernel⟩
  · exact ⟨.bool true, fun _ => rfl, rfl, Nat.le_refl _, rfl, by decide +kernel, by decide +kernel⟩
theorem repr_tupS {ds : List D} {B n : Nat} (h : Shw (.tup ds) B n) (hB : B ≤ 10000000) (hn : n ≤ 60) : ∃ x, PyData.strOk x = true ∧ ∀ st, bRepr [.tup ds] st = .ok (.str x) st := by
  obtain ⟨p, e, a⟩ := h
  have hz : (10000000 : Nat) ≤ sizeLine := by decide
  have sh : SeqAt.shaped p = true := by
    unfold SeqAt.shaped
    rw [Bool.and_eq_true, decide_eq_true_iff]
    exact ⟨a.lay, by have := a.depth; omega⟩
  have s2 : p.shown.length ≤ sizeLine := by have := a.len; omega
  refine ⟨p.shown, a.ok, fun st => ?_⟩
  have e1 : toP st (.tup ds) = some p := e _
  cases ds with
  | nil => simp only [bRepr, e1, sh, a.showable, s2, and_self, if_true]
  | cons d r => simp only [bRepr, e1, sh, a.showable, s2, and_self, if_true]
theorem repr_lstS {ds : List D} {B n : Nat} (h : ∀ d ∈ ds, Shw d B n) (hB : ds.length * (B + 2) + 3 ≤ 10000000) (hn : n ≤ 60) : ∃ x, PyData.strOk x = true ∧ ∀ st r, rdL st r = some ds → bRepr [.ref r] st = .ok (.str x) st := by
  obtain ⟨ps, e, _, a⟩ := shw_tupP h
  have hz : (10000000 : Nat) ≤ sizeLine := by decide
  have sh : SeqAt.shaped (.list ps) = true := by
    unfold SeqAt.shaped
    rw [Bool.and_eq_true, decide_eq_true_iff]
    exact ⟨a.lay, by have := a.depth; omega⟩
  have s2 : (PyData.list ps).shown.length ≤ sizeLine := by have := a.len; omega
  refine ⟨(PyData.list ps).shown, a.ok, fun st r hr => ?_⟩
  have e1 : toP st (.ref r) = some (.list ps) := by simp [toP, pd, rdP, hr, e]
  simp only [bRepr, e1, sh, a.showable, s2, and_self, if_true]
end DL
set_option Elab.async false
set_option linter.all false
set_option maxRecDepth 10000
/-! What a mirror comes to, told goal by goal: Rn of an expression, Rs of a statement. -/
namespace DL
open PySem PySem.Spec PyProof.Rows L2
/-- it ends well, so that Q, or with an exception, so that E -/
def Rn {β : Type} (r : R β) (Q : β → Sto → Prop) (E : Ex → Sto → Prop) : Prop := match r with
  | .ok b s => Q b s
  | .ex x s => E x s
  | .no => False
/-- no exception is looked for -/
abbrev E0 : Ex → Sto → Prop := fun _ _ => False
abbrev E1 : Ex → En → Sto → Prop := fun _ _ _ => False
abbrev B0 : En → Sto → Prop := fun _ _ => False
def Rs (r : RS) (N : En → Sto → Prop) (T : D → Sto → Prop) (B : En → Sto → Prop) (E : Ex → En → Sto → Prop) : Prop := match r with
  | .nx e s => N e s
  | .rt d s => T d s
  | .bk e s => B e s
  | .ct _ _ => False
  | .ex x e s => E x e s
  | .no => False
/-- a fork -/
def Br (b : Bool) (A B : Prop) : Prop := if b = true then A else B
/-- a new list -/
def New (s : Sto) (xs : List D) (Q : D → Sto → Prop) : Prop := Q (.ref s.length) (s ++ [.lst xs])
/-- a target's turn -/
def Pg (o : Option (En × Sto)) (N : En → Sto → Prop) : Prop := match o with
  | some p => N p.1 p.2
  | none => False
section
variable {β γ : Type} {r r' : R β} {Q Q' : β → Sto → Prop} {E E' : Ex → Sto → Prop} {st : Sto} {env : En}
theorem rn_ok {b : β} : Rn (.ok b st) Q E ↔ Q b st := Iff.rfl
theorem rn_no : Rn (.no : R β) Q E ↔ False := Iff.rfl
theorem rn_ex {x : Ex} : Rn (.ex x st : R β) Q E ↔ E x st := Iff.rfl
theorem rn_bind {k : γ → Sto → R β} {r : R γ} : Rn (r.bind k) Q E ↔ Rn r (fun b s => Rn (k b s) Q E) E := by cases r <;> exact Iff.rfl
theorem rn_noEx : Rn (noEx r) Q E ↔ Rn r Q E0 := by cases r <;> exact Iff.rfl
theorem rn_ite {c : Prop} [Decidable c] : Rn (if c then r else .no) Q E ↔ c ∧ Rn r Q E := by
  by_cases h : c <;> simp [h, Rn]
theorem Rn.mono (h : Rn r Q E) (f : ∀ b s, Q b s → Q' b s) : Rn r Q' E := by
  cases r with
  | ok b s => exact f b s h
  | ex x s => exact h
  | no => exact h
theorem Rn.of (h : Rn r Q E0) (f : ∀ b s, Q b s → Q' b s) : Rn r Q' E := by
  cases r with
  | ok b s => exact f b s h
  | ex x s => exact h.elim
  | no => exact h
theorem Rn.eq {b : β} (e : r = .ok b st) (h : Q b st) : Rn r Q E := by subst e; exact h
theorem Rn.ex (h : Rn r Q E0) : ∃ b s, r = .ok b s ∧ Q b s := by
  cases r with
  | ok b s => exact ⟨b, s, rfl, h⟩
  | ex x s => exact h.elim
  | no => exact h.elim
theorem Rn.told {b : β} {G : Sto → Prop} (h : Rn r (fun d s => d = b ∧ G s) E0) : ∃ s, r = .ok b s ∧ G s := by
  obtain ⟨b', s, e, rfl, g⟩ := h.ex
  exact ⟨s, e, g⟩
theorem br_t {A B : Prop} : Br true A B ↔ A := by simp [Br]
theorem br_f {A B : Prop} : Br false A B ↔ B := by simp [Br]
theorem Br.of {b : Bool} {A B : Prop} (h1 : b = true → A) (h2 : b = false → B) : Br b A B := by cases b <;> simp [Br, h1, h2]
theorem Br.dec {p : Prop} [Decidable p] {A B : Prop} (h1 : p → A) (h2 : ¬ p → B) : Br (decide p) A B := Br.of (fun h => h1 (of_decide_eq_true h)) fun h => h2 (of_decide_eq_false h)
theorem New.of {s : Sto} {xs : List D} {Q : D → Sto → Prop} (h : ∀ r s', Gr s s' → s.length ≤ r → r < s'.length → rdW s' r = some xs → rdL s' r = some xs → Q (.ref r) s') : New s xs Q :=
  h _ _ (List.prefix_append _ _) (Nat.le_refl _) (by simp) (rdW_new _ _) (rdL_new _ _)
theorem pg_some {e : En} {s : Sto} {N : En → Sto → Prop} : Pg (some (e, s)) N ↔ N e s := Iff.rfl
theorem pg_none {N : En → Sto → Prop} : Pg none N ↔ False := Iff.rfl
/-! ### expressions -/
section
variable {Q : D → Sto → Prop} {ma mb mc : En → Sto → R D} {f g : O2} {mr : En → Sto → R (List D)}
theorem rn_and : Rn (mAnd ma mb env st) Q E ↔ Rn (ma env st) (fun x s => ∃ b, x = .bl b ∧ Br b (Rn (mb env s) Q E) (Q (.bl false) s)) E := by
  unfold mAnd
  rw [rn_bind]
  cases ma env st with
  | ok x s =>
    simp only [Rn]
    cases x with
    | bl b => cases b <;> simp [Br]
    | _ => simp
  | ex x s => exact Iff.rfl
  | no => exact Iff.rfl
theorem rn_or : Rn (mOr ma mb env st) Q E ↔ Rn (ma env st) (fun x s => ∃ b, x = .bl b ∧ Br b (Q (.bl true) s) (Rn (mb env s) Q E)) E := by
  unfold mOr
  rw [rn_bind]
  cases ma env st with
  | ok x s =>
    simp only [Rn]
    cases x with
    | bl b => cases b <;> simp [Br]
    | _ => simp
  | ex x s => exact Iff.rfl
  | no => exact Iff.rfl
theorem rn_not : Rn (mNot ma env st) Q E ↔ Rn (ma env st) (fun x s => ∃ b, x = .bl b ∧ Q (.bl (!b)) s) E := by
  unfold mNot
  rw [rn_bind]
  cases ma env st with
  | ok x s => cases x <;> simp [Rn]
  | ex x s => exact Iff.rfl
  | no => exact Iff.rfl
theorem rn_chain : Rn (mChain f g ma mb mc env st) Q E ↔ Rn (ma env st) (fun x s1 => Rn (mb env s1) (fun y s2 => Rn (f x y s2) (fun z s3 => ∃ b, z = .bl b ∧ Br b (Rn (mc env s3) (fun w s4 => Rn (g y w s4) Q E0) E) (Q (.bl false) s3)) E0) E) E := by
  unfold mChain
  simp only [rn_bind, rn_noEx]
  cases ma env st with
  | ok x s1 =>
    simp only [Rn]
    cases mb env s1 with
    | ok y s2 =>
      simp only
      cases f x y s2 with
      | ok z s3 =>
        cases z with
        | bl b =>
          cases b
          · simp [Br]
          · simp only [Br, if_true, D.bl.injEq, exists_eq_left']
            show Rn ((mc env s3).bind fun w st4 => noEx (g y w st4)) Q E ↔ _
            rw [rn_bind]
            simp only [rn_noEx]
            exact Iff.rfl
        | _ => simp
      | ex x s => exact Iff.rfl
      | no => exact Iff.rfl
    | ex x s => exact Iff.rfl
    | no => exact Iff.rfl
  | ex x s => exact Iff.rfl
  | no => exact Iff.rfl
theorem rn_mB {Q : Bool → Sto → Prop} : Rn (mB ma env st) Q E ↔ Rn (ma env st) (fun x s => ∃ b, x = .bl b ∧ Q b s) E := by
  unfold mB
  rw [rn_bind]
  cases ma env st with
  | ok x s => cases x <;> simp [Rn]
  | ex x s => exact Iff.rfl
  | no => exact Iff.rfl
variable {ta tb : En → Sto → R Bool}
theorem rn_tand {Q : Bool → Sto → Prop} : Rn (tmAnd ta tb env st) Q E ↔ Rn (ta env st) (fun b s => Br b (Rn (tb env s) Q E) (Q false s)) E := by
  unfold tmAnd
  rw [rn_bind]
  cases ta env st with
  | ok b s => cases b <;> simp [Rn, Br]
  | ex x s => exact Iff.rfl
  | no => exact Iff.rfl
theorem rn_tor {Q : Bool → Sto → Prop} : Rn (tmOr ta tb env st) Q E ↔ Rn (ta env st) (fun b s => Br b (Q true s) (Rn (tb env s) Q E)) E := by
  unfold tmOr
  rw [rn_bind]
  cases ta env st with
  | ok b s => cases b <;> simp [Rn, Br]
  | ex x s => exact Iff.rfl
  | no => exact Iff.rfl
theorem rn_tnot {Q : Bool → Sto → Prop} : Rn (tmNot ta env st) Q E ↔ Rn (ta env st) (fun b s => Q (!b) s) E := by
  unfold tmNot
  rw [rn_bind]
  cases ta env st <;> exact Iff.rfl
theorem rn_if : Rn (mIf ta ma mb env st) Q E ↔ Rn (ta env st) (fun b s => Br b (Rn (ma env s) Q E) (Rn (mb env s) Q E)) E := by
  unfold mIf
  rw [rn_bind]
  cases ta env st with
  | ok b s => cases b <;> simp [Rn, Br]
  | ex x s => exact Iff.rfl
  | no => exact Iff.rfl
theorem rn_tup : Rn (mTup mr env st) Q E ↔ Rn (mr env st) (fun xs s => xs.length ≤ sizeLine ∧ Q (.tup xs) s) E := by
  unfold mTup
  simp only [rn_bind, rn_ite, rn_ok]
theorem rn_lst : Rn (mLst mr env st) Q E ↔ Rn (mr env st) (fun xs s => xs.length ≤ sizeLine ∧ New s xs Q) E := by
  unfold mLst
  simp only [rn_bind, rn_ite, rn_ok]
  exact Iff.rfl
theorem rn_call {h : List D → Sto → R D} : Rn (mCall h mr env st) Q E ↔ Rn (mr env st) (fun ds s => Rn (h ds s) Q E) E := by
  unfold mCall
  rw [rn_bind]
theorem rn_fn {h : List D → Sto → R D} : Rn (mFn h mr env st) Q E ↔ Rn (mr env st) (fun ds s => Rn (h ds s) Q E0) E := by
  unfold mFn
  simp only [rn_bind, rn_noEx]
theorem rn_m2 : Rn (m2 f ma mb env st) Q E ↔ Rn (ma env st) (fun x s1 => Rn (mb env s1) (fun y s2 => Rn (f x y s2) Q E0) E) E := by
  unfold m2
  simp only [rn_bind, rn_noEx]
theorem rn_m1 {f : O1} : Rn (m1 f ma env st) Q E ↔ Rn (ma env st) (fun x s1 => Rn (f x s1) Q E0) E := by
  unfold m1
  simp only [rn_bind, rn_noEx]
theorem rn_cons {Q : List D → Sto → Prop} : Rn (aCons ma mr env st) Q E ↔ Rn (ma env st) (fun x s1 => Rn (mr env s1) (fun xs s2 => Q (x :: xs) s2) E) E := by
  unfold aCons
  simp only [rn_bind, rn_ok]
theorem rn_nil {Q : List D → Sto → Prop} : Rn (aNil env st) Q E ↔ Q [] st := Iff.rfl
theorem rn_c {d : D} : Rn (mC d env st) Q E ↔ Q d st := Iff.rfl
theorem rn_var {i : Nat} {d : D} (h : env[i]? = some (some d)) : Rn (mVar i env st) Q E ↔ Q d st := by
  unfold mVar
  rw [h]
  exact Iff.rfl
theorem rn_v0 {d : D} {e : En} : Rn (mVar 0 (some d :: e) st) Q E ↔ Q d st := Iff.rfl
theorem rn_vs {i : Nat} {o : Option D} {e : En} : Rn (mVar (i + 1) (o :: e) st) Q E ↔ Rn (mVar i e st) Q E := by
  unfold mVar
  rw [List.getElem?_cons_succ]
theorem rn_yes {Q : Bool → Sto → Prop} : Rn (mYes env st) Q E ↔ Q true st := Iff.rfl
theorem rn_pNone {Q : Option Int → Sto → Prop} : Rn (pNone env st) Q E ↔ Q none st := Iff.rfl
theorem rn_pSome {Q : Option Int → Sto → Prop} : Rn (pSome ma env st) Q E ↔ Rn (ma env st) (fun x s => ∃ i, x = .int i ∧ Q (some i) s) E := by
  unfold pSome
  rw [rn_bind]
  cases ma env st with
  | ok x s => cases x <;> simp [Rn]
  | ex x s => exact Iff.rfl
  | no => exact Iff.rfl
theorem rn_sl {pl ph : En → Sto → R (Option Int)} : Rn (mSl ma pl ph env st) Q E ↔ Rn (ma env st) (fun x s1 => Rn (pl env s1) (fun lo s2 => Rn (ph env s2) (fun hi s3 => Rn (oSl x lo hi s3) Q E0) E) E) E := by
  unfold mSl
  simp only [rn_bind, rn_noEx]
theorem rn_def {n : Nat} {body : En → Sto → RS} {ds : List D} : Rn (mDef n body ds st) Q E ↔ Rs (body (ds.map some ++ List.replicate (n - ds.length) none) st) (fun _ s => Q .non s) (fun d s => Q d s) B0 (fun x _ s => E x s) := by
  unfold mDef
  cases body (ds.map some ++ List.replicate (n - ds.length) none) st <;> exact Iff.rfl
theorem rn_meth {h : OM} : Rn (mMeth h ma mr env st) Q E ↔ Rn (ma env st) (fun o s1 => ∃ r xs, o = .ref r ∧ rdL s1 r = some xs ∧ Rn (mr env s1) (fun ds s2 => Rn (h (.ref r) ds s2) Q E0) E) E := by
  unfold mMeth
  rw [rn_bind]
  cases ma env st with
  | ok x s =>
    simp only [Rn]
    cases x with
    | ref r =>
      simp only
      cases q : rdL s r with
      | none => simp [Rn, q]
      | some xs =>
        simp only [D.ref.injEq]
        constructor
        · intro z
          have z : Rn ((mr env s).bind fun ds st2 => noEx (h (.ref r) ds st2)) Q E := z
          rw [rn_bind] at z
          simp only [rn_noEx] at z
          exact ⟨r, xs, rfl, q, z⟩
        · rintro ⟨r', xs', e, _, z⟩
          cases e
          show Rn ((mr env s).bind fun ds st2 => noEx (h (.ref r) ds st2)) Q E
          rw [rn_bind]
          simp only [rn_noEx]
          exact z
    | _ => simp
  | ex x s => exact Iff.rfl
  | no => exact Iff.rfl
theorem rn_methT {h : OM} : Rn (mMethT h ma mr env st) Q E ↔ Rn (ma env st) (fun o s1 => ∃ xs, o = .tup xs ∧ Rn (mr env s1) (fun ds s2 => Rn (h (.tup xs) ds s2) Q E0) E) E := by
  unfold mMethT
  rw [rn_bind]
  cases ma env st with
  | ok x s =>
    simp only [Rn]
    cases x with
    | tup xs => simp only [D.tup.injEq, exists_eq_left']; exact (rn_bind (Q := Q) (E := E) (r := mr env s)).trans (by simp only [rn_noEx]; exact Iff.rfl)
    | _ => simp
  | ex x s => exact Iff.rfl
  | no => exact Iff.rfl
end
/-! ### statements -/
section
variable {N B : En → Sto → Prop} {T : D → Sto → Prop} {E : Ex → En → Sto → Prop} {a b : En → Sto → RS} {m ma mb : En → Sto → R D} {mr : En → Sto → R (List D)}
theorem rs_toS {β : Type} {r : R β} {k : β → Sto → RS} : Rs (r.toS env k) N T B E ↔ Rn r (fun b s => Rs (k b s) N T B E) (fun x s => E x env s) := by cases r <;> exact Iff.rfl
theorem rs_seq : Rs (sSeq a b env st) N T B E ↔ Rs (a env st) (fun e s => Rs (b e s) N T B E) T B E := by
  unfold sSeq
  cases a env st <;> exact Iff.rfl
theorem rs_nil : Rs (sNil env st) N T B E ↔ N env st := Iff.rfl
theorem rs_break : Rs (sBreak env st) N T B E ↔ B env st := Iff.rfl
theorem rs_retN : Rs (sRetN env st) N T B E ↔ T .non st := Iff.rfl
theorem rs_ret : Rs (sRet m env st) N T B E ↔ Rn (m env st) (fun d s => T d s) (fun x s => E x env s) := by
  unfold sRet; rw [rs_toS]; exact Iff.rfl
theorem rs_expr : Rs (sExpr m env st) N T B E ↔ Rn (m env st) (fun _ s => N env s) (fun x s => E x env s) := by
  unfold sExpr; rw [rs_toS]; exact Iff.rfl
theorem rs_if {c : En → Sto → R Bool} : Rs (sIf c a b env st) N T B E ↔ Rn (c env st) (fun x s => Br x (Rs (a env s) N T B E) (Rs (b env s) N T B E)) (fun x s => E x env s) := by
  unfold sIf
  rw [rs_toS]
  cases c env st with
  | ok x s => cases x <;> simp [Rn, Br]
  | ex x s => exact Iff.rfl
  | no => exact Iff.rfl
theorem rs_asg {g : GT} : Rs (sAsg m g env st) N T B E ↔ Rn (m env st) (fun d s => Pg (g d env s) N) (fun x s => E x env s) := by
  unfold sAsg
  rw [rs_toS]
  cases m env st with
  | ok x s =>
    simp only [Rn]
    cases g x env s with
    | none => exact Iff.rfl
    | some p => exact Iff.rfl
  | ex x s => exact Iff.rfl
  | no => exact Iff.rfl
theorem rs_asg2 {g g' : GT} : Rs (sAsg2 m g g' env st) N T B E ↔ Rn (m env st) (fun d s => Pg (g d env s) fun e s' => Pg (g' d e s') N) (fun x s => E x env s) := by
  unfold sAsg2
  rw [rs_toS]
  cases m env st with
  | ok x s =>
    simp only [Rn]
    cases g x env s with
    | none => exact Iff.rfl
    | some p =>
      simp only [Pg]
      cases g' x p.1 p.2 with
      | none => exact Iff.rfl
      | some p => exact Iff.rfl
  | ex x s => exact Iff.rfl
  | no => exact Iff.rfl
theorem rs_par {i j : Nat} : Rs (sPar i j mr env st) N T B E ↔ Rn (mr env st) (fun ds s => ∃ d d', ds = [d, d'] ∧ N ((env.set i (some d)).set j (some d')) s) (fun x s => E x env s) := by
  unfold sPar
  rw [rs_toS]
  cases mr env st with
  | ok ds s =>
    simp only [Rn]
    match ds with
    | [] => simp [Rs]
    | [d] => simp [Rs]
    | [d, d'] =>
      constructor
      · intro h; exact ⟨d, d', rfl, h⟩
      · rintro ⟨x, y, e, h⟩; cases e; exact h
    | d :: d' :: d'' :: r => simp [Rs]
  | ex x s => exact Iff.rfl
  | no => exact Iff.rfl
theorem rs_aug {i : Nat} {f : O2} {x : D} (h : env[i]? = some (some x)) : Rs (sAug i m f env st) N T B E ↔ Rn (m env st) (fun y s => Rn (f x y s) (fun z s' => N (env.set i (some z)) s') E0) (fun x s => E x env s) := by
  unfold sAug
  rw [h]
  simp only [rs_toS]
  cases m env st with
  | ok y s =>
    simp only [Rn]
    cases f x y s <;> exact Iff.rfl
  | ex x s => exact Iff.rfl
  | no => exact Iff.rfl
theorem pg_gN {i : Nat} {d : D} : Pg (gN i d env st) N ↔ N (env.set i (some d)) st := Iff.rfl
theorem pg_tup {gs : List D → En → Sto → Option (En × Sto)} {n : Nat} {xs : List D} (h : xs.length = n) : Pg (DL.gTup gs n (.tup xs) env st) N ↔ Pg (gs xs env st) N := by
  unfold DL.gTup; simp only [if_pos h]
theorem pg_seqT {gs : List D → En → Sto → Option (En × Sto)} {n : Nat} {xs : List D} (h : xs.length = n) : Pg (DL.gSeq gs n (.tup xs) env st) N ↔ Pg (gs xs env st) N := by
  unfold DL.gSeq; simp only [if_pos h]
theorem pg_seqL {gs : List D → En → Sto → Option (En × Sto)} {n r : Nat} {xs : List D} (e : rdL st r = some xs) (h : xs.length = n) : Pg (DL.gSeq gs n (.ref r) env st) N ↔ Pg (gs xs env st) N := by
  unfold DL.gSeq; simp only [e, if_pos h]
theorem pg_cons {g : GT} {gs : List D → En → Sto → Option (En × Sto)} {d : D} {r : List D} : Pg (gsCons g gs (d :: r) env st) N ↔ Pg (g d env st) (fun e s => Pg (gs r e s) N) := by
  unfold gsCons
  simp only
  cases g d env st <;> exact Iff.rfl
theorem pg_nil : Pg (gsNil [] env st) N ↔ N env st := Iff.rfl
theorem Rs.mono {r : RS} {N' : En → Sto → Prop} {T' : D → Sto → Prop} (h : Rs r N T B E) (f : ∀ e s, N e s → N' e s) (f' : ∀ d s, T d s → T' d s) : Rs r N' T' B E := by
  cases r with
  | nx e s => exact f e s h
  | rt d s => exact f' d s h
  | _ => exact h
theorem Rs.weak {r : RS} {N' B' : En → Sto → Prop} {T' : D → Sto → Prop} {E' : Ex → En → Sto → Prop} (h : Rs r N T B0 E1) (f : ∀ e s, N e s → N' e s) (f' : ∀ d s, T d s → T' d s) : Rs r N' T' B' E' := by
  cases r with
  | nx e s => exact f e s h
  | rt d s => exact f' d s h
  | _ => exact h.elim
theorem Rs.eq {r : RS} {e : En} {s : Sto} (q : r = .nx e s) (h : N e s) : Rs r N T B E := by subst q; exact h
theorem Rs.nx {r : RS} (h : Rs r N (fun _ _ => False) B0 E1) : ∃ e s, r = .nx e s ∧ N e s := by
  cases r with
  | nx e s => exact ⟨e, s, rfl, h⟩
  | _ => exact h.elim
/-- a loop whose turns keep I, and may return -/
theorem loop_wp {ds : List D} {gd : Option Nat} {g : GT} {mb : En → Sto → RS} (I : Nat → En → Sto → Prop) (h0 : I 0 env st) (hg : ∀ i env st, i ≤ ds.length → I i env st → gOk ds gd st)
    (hs : ∀ i env st, (hi : i < ds.length) → I i env st → Pg (g ds[i] env st) fun e s => Rs (mb e s) (I (i + 1)) T N E) (hn : ∀ env st, I ds.length env st → N env st) : Rs (loopS ds gd g mb ds env st) N T B E := by
  have key : ∀ (n i : Nat) (env : En) (st : Sto), i + n = ds.length → I i env st → Rs (loopS ds gd g mb (ds.drop i) env st) N T B E := by
    intro n
    induction n with
    | zero =>
      intro i env st e hI
      have ei : i = ds.length := by omega
      subst ei
      rw [List.drop_length]
      unfold loopS
      rw [if_pos (hg _ _ _ (Nat.le_refl _) hI)]
      exact hn _ _ hI
    | succ n ih =>
      intro i env st e hI
      have hi : i < ds.length := by omega
      rw [List.drop_eq_getElem_cons hi]
      unfold loopS
      rw [if_pos (hg _ _ _ (by omega) hI)]
      have h := hs i env st hi hI
      revert h
      cases g ds[i] env st with
      | none => exact fun h => h.elim
      | some p =>
        show Rs (mb p.1 p.2) (I (i + 1)) T N E → _
        simp only
        cases mb p.1 p.2 with
        | nx e2 s2 => exact fun h => ih (i + 1) e2 s2 (by omega) h
        | rt d s => exact fun h => h
        | bk e s => exact fun h => h
        | ct e s => exact fun h => h.elim
        | ex x e s => exact fun h => h
        | no => exact fun h => h.elim
  have := key ds.length 0 env st (by omega) h0
  rwa [List.drop_zero] at this
theorem loop_nil {ds : List D} {gd : Option Nat} {g : GT} {mb : En → Sto → RS} (hg : gOk ds gd st) (h : N env st) : Rs (loopS ds gd g mb [] env st) N T B E := by
  unfold loopS
  rw [if_pos hg]
  exact h
theorem loop_cons {ds r : List D} {d : D} {gd : Option Nat} {g : GT} {mb : En → Sto → RS} (hg : gOk ds gd st) (h : Pg (g d env st) fun e s => Rs (mb e s) (fun e s => Rs (loopS ds gd g mb r e s) N T B E) T N E) : Rs (loopS ds gd g mb (d :: r) env st) N T B E := by
  unfold loopS
  rw [if_pos hg]
  revert h
  cases g d env st with
  | none => exact fun h => h.elim
  | some p =>
    show Rs (mb p.1 p.2) _ T N E → _
    simp only
    cases mb p.1 p.2 with
    | nx e2 s2 => exact fun h => h
    | rt d s => exact fun h => h
    | bk e s => exact fun h => h
    | ct e s => exact fun h => h.elim
    | ex x e s => exact fun h => h
    | no => exact fun h => h.elim
theorem rs_for {mi : MI} {g : GT} {mb : En → Sto → RS} : Rs (sFor mi g mb env st) N T B E ↔ Rn (mi env st) (fun p s => Rs (loopS p.1 p.2 g mb p.1 env s) N T B E) (fun x s => E x env s) := by
  unfold sFor; rw [rs_toS]
end
/-! ### what is walked -/
section
variable {Q : List D × Option Nat → Sto → Prop} {m : En → Sto → R D} {mr : En → Sto → R (List D)}
/-- the items of a list or a tuple -/
def Itm (d : D) (s : Sto) (Q : List D × Option Nat → Sto → Prop) : Prop := match d with
  | .tup xs => Q (xs, none) s
  | .ref r => match rdL s r with
    | some xs => Q (xs, some r) s
    | none => False
  | _ => False
theorem itm_t {xs : List D} : Itm (.tup xs) st Q ↔ Q (xs, none) st := Iff.rfl
theorem itm_r {r : Nat} {xs : List D} (h : rdL st r = some xs) : Itm (.ref r) st Q ↔ Q (xs, some r) st := by
  unfold Itm; simp only [h]
theorem rn_iVal : Rn (DL.iVal m env st) Q E ↔ Rn (m env st) (fun d s => Itm d s Q) E := by
  unfold DL.iVal
  rw [rn_bind]
  cases m env st with
  | ok d s =>
    simp only [Rn]
    cases d with
    | tup xs => exact Iff.rfl
    | ref r =>
      unfold Itm
      cases q : rdL s r with
      | none => simp only [q]
      | some xs => simp only [q]
    | _ => exact Iff.rfl
  | ex x s => exact Iff.rfl
  | no => exact Iff.rfl
theorem mid_nat {n : Nat} (h : n < 4611686018427387904) : Mid (n : Int) := by unfold Mid; omega
theorem rn_rng1 : Rn (DL.iRng1 mr env st) Q E ↔ Rn (mr env st) (fun ds s => ∃ j, ds = [.int j] ∧ Mid j ∧ Q (rngD 0 j.toNat, none) s) E := by
  unfold DL.iRng1
  rw [rn_bind]
  cases mr env st with
  | ok ds s =>
    simp only [Rn]
    match ds with
    | [] => simp
    | [d] =>
      cases d with
      | int j =>
        by_cases hm : Mid j
        · simp [hm]
        · simp [hm]
      | _ => simp
    | d :: d' :: r => simp
  | ex x s => exact Iff.rfl
  | no => exact Iff.rfl
theorem rn_rng2 : Rn (DL.iRng2 mr env st) Q E ↔ Rn (mr env st) (fun ds s => ∃ i j, ds = [.int i, .int j] ∧ Mid i ∧ Mid j ∧ Q (rngD i (j - i).toNat, none) s) E := by
  unfold DL.iRng2
  rw [rn_bind]
  cases mr env st with
  | ok ds s =>
    simp only [Rn]
    match ds with
    | [] => simp
    | [d] => simp
    | [d, d'] =>
      cases d <;> cases d' <;> simp
      rename_i i j
      by_cases hm : Mid i ∧ Mid j
      · simp only [hm, and_self, if_true]
        constructor
        · intro h; exact ⟨i, j, ⟨rfl, rfl⟩, hm.1, hm.2, h⟩
        · rintro ⟨a, b, ⟨rfl, rfl⟩, _, _, h⟩; exact h
      · simp only [hm, if_false]
        constructor
        · intro h; exact h.elim
        · rintro ⟨a, b, ⟨rfl, rfl⟩, h1, h2, h⟩; exact (hm ⟨h1, h2⟩).elim
    | d :: d' :: d'' :: r => simp
  | ex x s => exact Iff.rfl
  | no => exact Iff.rfl
theorem rn_enum : Rn (DL.iEnumerate mr env st) Q E ↔ Rn (mr env st) (fun ds s => ∃ xs, ds = [.tup xs] ∧ Q (enumD xs, none) s) E := by
  unfold DL.iEnumerate
  rw [rn_bind]
  cases mr env st with
  | ok ds s =>
    simp only [Rn]
    match ds with
    | [] => simp
    | [d] => cases d <;> simp
    | d :: d' :: r => simp
  | ex x s => exact Iff.rfl
  | no => exact Iff.rfl
end
end
end DL
set_option Elab.async false
set_option linter.all false
set_option maxRecDepth 10000
/-! Comprehensions and built-ins, told by Rn. -/
namespace DL
open PySem PySem.Spec PyProof.Rows L2
theorem sz_le {n : Nat} (h : n ≤ 1000000) : (n ≤ sizeLine) = True := eq_true (Nat.le_trans h (by decide))
theorem sz_lt {n : Nat} (h : n ≤ 1000000) : n < sizeLine := Nat.lt_of_le_of_lt h (by decide)
/-! ### built-ins on told data -/
section
variable {Q : D → Sto → Prop} {E : Ex → Sto → Prop} {st : Sto}
theorem p_add {i j : Int} : Rn (oAdd (.int i) (.int j) st) Q E ↔ Q (.int (i + j)) st := Iff.rfl
theorem p_addI {i j : Int} : Rn (oAddI (.int i) (.int j) st) Q E ↔ Q (.int (i + j)) st := Iff.rfl
theorem p_sub {i j : Int} : Rn (oSub (.int i) (.int j) st) Q E ↔ Q (.int (i - j)) st := Iff.rfl
theorem p_mul {i j : Int} : Rn (oMul (.int i) (.int j) st) Q E ↔ (Small i ∨ Small j) ∧ Q (.int (i * j)) st := by
  unfold oMul; simp only [rn_ite, rn_ok]
theorem p_mulI {i j : Int} : Rn (oMulI (.int i) (.int j) st) Q E ↔ (Small i ∨ Small j) ∧ Q (.int (i * j)) st := by
  unfold oMulI; simp only [rn_ite, rn_ok]
theorem p_div {i j : Int} : Rn (oDiv (.int i) (.int j) st) Q E ↔ (0 < j ∧ j < 1073741824) ∧ Q (.int (i / j)) st := by
  unfold oDiv; simp only [rn_ite, rn_ok]
theorem p_mod {i j : Int} : Rn (oMod (.int i) (.int j) st) Q E ↔ 0 < j ∧ Q (.int (i % j)) st := by
  unfold oMod; simp only [rn_ite, rn_ok]
theorem p_neg {i : Int} : Rn (oNeg (.int i) st) Q E ↔ Q (.int (-i)) st := Iff.rfl
theorem p_lt {i j : Int} : Rn (oLt (.int i) (.int j) st) Q E ↔ Q (.bl (decide (i < j))) st := Iff.rfl
theorem p_ltT {i j : Int} : Rn (oLtT (.int i) (.int j) st) Q E ↔ Q (.bl (decide (i < j))) st := Iff.rfl
theorem p_le {i j : Int} : Rn (oLe (.int i) (.int j) st) Q E ↔ Q (.bl (decide (i ≤ j))) st := Iff.rfl
theorem p_gt {i j : Int} : Rn (oGt (.int i) (.int j) st) Q E ↔ Q (.bl (decide (i > j))) st := Iff.rfl
theorem p_ge {i j : Int} : Rn (oGe (.int i) (.int j) st) Q E ↔ Q (.bl (decide (i ≥ j))) st := Iff.rfl
theorem p_eq {i j : Int} : Rn (oEq (.int i) (.int j) st) Q E ↔ Q (.bl (decide (i = j))) st := by rw [oEq_int]; exact Iff.rfl
theorem p_ne {i j : Int} : Rn (oNe (.int i) (.int j) st) Q E ↔ Q (.bl (!decide (i = j))) st := by
  have r4 : ∀ n : Int, toP st (.int n) = some (.int n) := fun n => rfl
  have r5 : PyData.eqv (.int i) (.int j) = decide (i = j) := by simp only [PyData.eqv]; rw [Bool.eq_iff_iff]; simp
  have r6 : ∀ n : Int, SeqAt.shaped (.int n) = true := fun n => by simp [SeqAt.shaped, PyData.canLay0, PyData.depth]
  have : oNe (.int i) (.int j) st = .ok (.bl (!decide (i = j))) st := by simp [oNe, r4, r5, r6]
  rw [this]; exact Iff.rfl
theorem p_neS {x : Str} (hx : PyData.strOk x = true) : Rn (oNe (.str x) (.str x) st) Q E ↔ Q (.bl false) st := by rw [oNe_str hx]; exact Iff.rfl
theorem p_addT {xs ys : List D} : Rn (oAdd (.tup xs) (.tup ys) st) Q E ↔ xs.length + ys.length ≤ sizeLine ∧ Q (.tup (xs ++ ys)) st := by
  unfold oAdd; simp only [rn_ite, rn_ok]
theorem p_lenT {xs : List D} : Rn (bLen [.tup xs] st) Q E ↔ Q (.int xs.length) st := Iff.rfl
theorem p_len {r : Nat} {xs : List D} (h : rdL st r = some xs) : Rn (bLen [.ref r] st) Q E ↔ Q (.int xs.length) st := by
  unfold bLen; simp only [h]; exact Iff.rfl
theorem p_tupT {xs : List D} : Rn (bTuple [.tup xs] st) Q E ↔ Q (.tup xs) st := Iff.rfl
theorem p_tuple {r : Nat} {xs : List D} (h : rdL st r = some xs) : Rn (bTuple [.ref r] st) Q E ↔ Q (.tup xs) st := by
  unfold bTuple itemsD; simp only [h]; exact Iff.rfl
theorem p_listT {xs : List D} : Rn (bList [.tup xs] st) Q E ↔ New st xs Q := Iff.rfl
theorem p_list {r : Nat} {xs : List D} (h : rdL st r = some xs) : Rn (bList [.ref r] st) Q E ↔ New st xs Q := by
  unfold bList itemsD; simp only [h]; exact Iff.rfl
theorem p_max2 {i j : Int} : Rn (bMax2 [.int i, .int j] st) Q E ↔ Q (.int (max i j)) st := by
  have : (if j > i then j else i) = max i j := by omega
  rw [← this]; exact Iff.rfl
theorem p_min2 {i j : Int} : Rn (bMin2 [.int i, .int j] st) Q E ↔ Q (.int (min i j)) st := by
  have : (if j < i then j else i) = min i j := by omega
  rw [← this]; exact Iff.rfl
theorem p_abs {i : Int} : Rn (bAbs [.int i] st) Q E ↔ Q (.int (if i < 0 then -i else i)) st := Iff.rfl
theorem p_int {i : Int} : Rn (bInt [.int i] st) Q E ↔ Q (.int i) st := Iff.rfl
theorem p_intB {b : Bool} : Rn (bInt [.bl b] st) Q E ↔ Q (.int (if b then 1 else 0)) st := Iff.rfl
theorem p_type {d : D} {n : String} (h : kindD st d = some n) : Rn (bType [d] st) Q E ↔ Q (.ty n) st := by
  unfold bType; simp only [h]; exact Iff.rfl
theorem p_is {m n : String} : Rn (oIs (.ty m) (.ty n) st) Q E ↔ Q (.bl (decide (m = n))) st := Iff.rfl
theorem p_isnot {m n : String} : Rn (oIsNot (.ty m) (.ty n) st) Q E ↔ Q (.bl (!decide (m = n))) st := Iff.rfl
theorem p_isN {d : D} : Rn (oIs d .non st) Q E ↔ Q (.bl (isNon d)) st := by cases d <;> exact Iff.rfl
theorem p_isnotN {d : D} : Rn (oIsNot d .non st) Q E ↔ Q (.bl (!isNon d)) st := by cases d <;> exact Iff.rfl
theorem p_ixT {xs : List D} {i : Int} {d : D} (h : L2.atI xs i = some d) : Rn (oIx (.tup xs) (.int i) st) Q E ↔ Q d st := by
  unfold oIx; simp only [h]; exact Iff.rfl
theorem p_ix {r : Nat} {xs : List D} {i : Int} {d : D} (e : rdL st r = some xs) (h : L2.atI xs i = some d) : Rn (oIx (.ref r) (.int i) st) Q E ↔ Q d st := by
  unfold oIx; simp only [e, h]; exact Iff.rfl
theorem p_slT {xs : List D} {lo hi : Option Int} : Rn (oSl (.tup xs) lo hi st) Q E ↔ Q (.tup (cutD xs lo hi)) st := Iff.rfl
theorem p_sl {r : Nat} {xs : List D} {lo hi : Option Int} (h : rdL st r = some xs) : Rn (oSl (.ref r) lo hi st) Q E ↔ New st (cutD xs lo hi) Q := by
  unfold oSl; simp only [h]; exact Iff.rfl
theorem p_all {r : Nat} {bs : List Bool} (h : rdL st r = some (bs.map D.bl)) : Rn (bAll [.ref r] st) Q E ↔ Q (.bl (bs.all id)) st := by
  unfold bAll; simp only [h, Option.bind_some, blsOf_bls]; exact Iff.rfl
theorem p_any {r : Nat} {bs : List Bool} (h : rdL st r = some (bs.map D.bl)) : Rn (bAny [.ref r] st) Q E ↔ Q (.bl (bs.any id)) st := by
  unfold bAny; simp only [h, Option.bind_some, blsOf_bls]; exact Iff.rfl
theorem p_sumT {ns : List Int} : Rn (bSumA [.tup (ns.map D.int)] st) Q E ↔ Q (.int ns.sum) st := by
  unfold bSumA intsAt; simp only [intsOf_ints]; exact Iff.rfl
theorem p_sum {r : Nat} {ns : List Int} (h : rdL st r = some (ns.map D.int)) : Rn (bSumA [.ref r] st) Q E ↔ Q (.int ns.sum) st := by
  unfold bSumA intsAt; simp only [h, Option.bind_some, intsOf_ints]; exact Iff.rfl
theorem p_maxT {ns : List Int} {m : Int} (h : maxI ns = some m) : Rn (bMaxA [.tup (ns.map D.int)] st) Q E ↔ Q (.int m) st := by
  unfold bMaxA intsAt; simp only [intsOf_ints, Option.bind_some, h]; exact Iff.rfl
theorem p_max {r : Nat} {ns : List Int} {m : Int} (e : rdL st r = some (ns.map D.int)) (h : maxI ns = some m) : Rn (bMaxA [.ref r] st) Q E ↔ Q (.int m) st := by
  unfold bMaxA intsAt; simp only [e, Option.bind_some, intsOf_ints, h]; exact Iff.rfl
theorem p_minT {ns : List Int} {m : Int} (h : minI ns = some m) : Rn (bMinA [.tup (ns.map D.int)] st) Q E ↔ Q (.int m) st := by
  unfold bMinA intsAt; simp only [intsOf_ints, Option.bind_some, h]; exact Iff.rfl
theorem p_min {r : Nat} {ns : List Int} {m : Int} (e : rdL st r = some (ns.map D.int)) (h : minI ns = some m) : Rn (bMinA [.ref r] st) Q E ↔ Q (.int m) st := by
  unfold bMinA intsAt; simp only [e, Option.bind_some, intsOf_ints, h]; exact Iff.rfl
end
/-! ### calls by a table -/
section
variable {Q : D → Sto → Prop} {E : Ex → Sto → Prop} {st : Sto} {env : En} {mf : En → Sto → R D} {mr : En → Sto → R (List D)} {F : Defs}
theorem rn_callE : Rn (mCallE F mf mr env st) Q E ↔ Rn (mf env st) (fun d s => ∃ x g, d = .nam x ∧ defAt F x = some g ∧ Rn (mr env s) (fun ds s' => Rn (g ds s') Q E) E) E := by
  unfold mCallE
  rw [rn_bind]
  cases mf env st with
  | ok d s =>
    simp only [Rn]
    cases d with
    | nam x =>
      cases q : defAt F x with
      | none =>
        simp only [q]
        constructor
        · exact fun h => h.elim
        · rintro ⟨y, g, e, e2, _⟩
          cases e
          rw [q] at e2
          cases e2
      | some g =>
        simp only [q]
        show Rn (mCall g mr env s) Q E ↔ _
        rw [rn_call]
        constructor
        · exact fun h => ⟨x, g, rfl, q, h⟩
        · rintro ⟨y, g', e, e2, h⟩
          cases e
          rw [q] at e2
          cases e2
          exact h
    | _ => simp
  | ex x s => exact Iff.rfl
  | no => exact Iff.rfl
theorem rn_callL {i : Nat} {x : Str} {g : List D → Sto → R D} (h : env[i]? = some (some (.nam x))) (e : defAt F x = some g) : Rn (mCallL F i mr env st) Q E ↔ Rn (mr env st) (fun ds s => Rn (g ds s) Q E) E := by
  unfold mCallL
  simp only [h, e]
  exact rn_call
theorem p_instI {i : Int} : Rn (bIsInst [.int i, .ty "int"] st) Q E ↔ Q (.bl true) st := by
  have : bIsInst [.int i, .ty "int"] st = .ok (.bl true) st := by simp [bIsInst, kindD, isT, kinds6, types5]
  rw [this]; exact Iff.rfl
end
/-! ### comprehensions -/
section
variable {Q : D → Sto → Prop} {E : Ex → Sto → Prop} {st : Sto} {env : En} {mi : MI} {g : GT} {me : En → Sto → R D} {mt : En → Sto → R Bool} {vs : List Nat} {β : Type}
theorem lc_filter (xs : List β) (f F : β → D) (p : β → Bool) (h : Rn (mi env st) (fun q s1 => q.1 = xs.map f ∧ gOk q.1 q.2 s1 ∧ xs.length ≤ 1000000 ∧
      (∀ x ∈ xs, ∀ s, Gr s1 s → Pg (g (f x) (wipeE env vs) s) fun e s' => s = s' ∧ Rn (mt e s') (fun b s2 => b = p x ∧ Gr s' s2 ∧ (p x = true → Rn (me e s2) (fun y s3 => y = F x ∧ Gr s2 s3) E0)) E0) ∧
      ∀ r s, Gr s1 s → s1.length ≤ r → r < s.length → rdW s r = some ((xs.filter p).map F) → rdL s r = some ((xs.filter p).map F) → Q (.ref r) s) E) : Rn (mLc mi g mt me vs env st) Q E := by
  unfold mLc
  rw [rn_bind]
  refine Rn.mono h fun q s1 ⟨hq, hg, hl, hs, hQ⟩ => ?_
  obtain ⟨ds, gd⟩ := q
  simp only at hq hg ⊢
  subst hq
  have main := loopC_ok (ds := xs.map f) (gd := gd) (g := g) (mt := mt) (me := me) (env0 := wipeE env vs) (r0 := s1.length) (st := s1 ++ [.lst []]) (fun i acc st => acc = ((xs.take i).filter p).map F ∧ ∃ t, st = s1 ++ .lst acc :: t)
    ⟨rfl, [], rfl⟩ (by
      rintro i acc st ⟨rfl, t, rfl⟩
      refine ⟨rdW_newG _ _ _, ?_⟩
      rw [List.length_map]
      exact Nat.le_trans (List.length_filter_le _ _) (by rw [List.length_take]; omega)) (by rw [List.length_map]; exact sz_lt hl) (by
      rintro i acc st hi ⟨rfl, t, rfl⟩
      exact gOk_gr hg ⟨_, rfl⟩) (by
      rintro i acc st hi ⟨rfl, t, rfl⟩
      have hi' : i < xs.length := by rwa [List.length_map] at hi
      have tk : xs.take (i + 1) = xs.take i ++ [xs[i]] := by rw [List.take_add_one, List.getElem?_eq_getElem hi']; rfl
      have h1 := hs xs[i] (List.getElem_mem hi') (s1 ++ .lst (((xs.take i).filter p).map F) :: t) ⟨_, rfl⟩
      rw [List.getElem_map]
      revert h1
      cases g (f xs[i]) (wipeE env vs) (s1 ++ .lst (((xs.take i).filter p).map F) :: t) with
      | none => exact fun h => h.elim
      | some q =>
        obtain ⟨env1, s'⟩ := q
        rintro ⟨rfl, h2⟩
        refine ⟨env1, _, rfl, ?_⟩
        obtain ⟨b, s2, e2, rfl, ⟨t2, g2⟩, h3⟩ := h2.ex
        subst g2
        cases hp : p xs[i] with
        | false =>
          refine .inl ⟨_, by rw [hp] at e2; exact e2, ?_, t ++ t2, by simp⟩
          rw [tk, List.filter_append, List.filter_cons_of_neg (by rw [hp]; decide)]
          simp
        | true =>
          obtain ⟨y, s3, e3, rfl, ⟨t3, g3⟩⟩ := (h3 hp).ex
          subst g3
          have tk2 : ((xs.take (i + 1)).filter p).map F = ((xs.take i).filter p).map F ++ [F xs[i]] := by
            rw [tk, List.filter_append, List.filter_cons_of_pos hp]
            simp
          refine .inr ⟨_, _, _, by rw [hp] at e2; exact e2, e3, ?_, tk2.symm, t ++ t2 ++ t3, ?_⟩
          · simp only [List.append_assoc, List.cons_append]
            exact rdW_newG _ _ _
          · simp only [List.append_assoc, List.cons_append]
            rw [List.set_append_right _ _ (Nat.le_refl _), Nat.sub_self, List.set_cons_zero])
  obtain ⟨acc, st', e, rfl, t, rfl⟩ := main
  rw [List.length_map, List.take_length] at *
  exact Rn.eq e (hQ _ _ ⟨_, rfl⟩ (Nat.le_refl _) (by simp) (rdW_newG _ _ _) (rdL_newG _ _ _))
theorem lc_map (xs : List β) (f F : β → D) (h : Rn (mi env st) (fun q s1 => q.1 = xs.map f ∧ gOk q.1 q.2 s1 ∧ xs.length ≤ 1000000 ∧
      (∀ x ∈ xs, ∀ s, Gr s1 s → Pg (g (f x) (wipeE env vs) s) fun e s' => s = s' ∧ Rn (me e s') (fun y s3 => y = F x ∧ Gr s' s3) E0) ∧
      ∀ r s, Gr s1 s → s1.length ≤ r → r < s.length → rdW s r = some (xs.map F) → rdL s r = some (xs.map F) → Q (.ref r) s) E) : Rn (mLc mi g mYes me vs env st) Q E := by
  refine lc_filter xs f F (fun _ => true) (Rn.mono h fun q s1 ⟨a, b, c, d, e⟩ => ⟨a, b, c, fun x hx s gs => ?_, fun r s h1 h2 h3 h4 h5 => ?_⟩)
  · have h1 := d x hx s gs
    revert h1
    cases g (f x) (wipeE env vs) s with
    | none => exact fun h => h
    | some p => exact fun ⟨e1, e2⟩ => ⟨e1, rfl, List.prefix_refl _, fun _ => e2⟩
  · rw [List.filter_eq_self.mpr (fun _ _ => rfl)] at h4 h5
    exact e r s h1 h2 h3 h4 h5
/-- elements that take from a pool -/
theorem lc_draw {γ : Type} {r : Nat} (xs : List β) (f : β → D) (F : γ → D) (P : β → γ → Prop) (h : Rn (mi env st) (fun q s1 => q.1 = xs.map f ∧ gOk q.1 q.2 s1 ∧ q.2 ≠ some r ∧ xs.length ≤ 1000000 ∧ IsPool s1 r ∧
      (∀ x ∈ xs, ∀ s, Ev r s1 s → Pg (g (f x) (wipeE env vs) s) fun e s' => s = s' ∧ Rn (me e s') (fun y s3 => (∃ z, y = F z ∧ P x z) ∧ Ev r s' s3) E0) ∧
      ∀ (zs : List γ) q s, Ev r s1 s → s1.length ≤ q → q < s.length → rdW s q = some (zs.map F) → rdL s q = some (zs.map F) → zs.length = xs.length → (∀ (i : Nat) (x : β) (z : γ), xs[i]? = some x → zs[i]? = some z → P x z) → Q (.ref q) s) E) : Rn (mLc mi g mYes me vs env st) Q E := by
  unfold mLc
  rw [rn_bind]
  refine Rn.mono h fun q s1 ⟨hq, hg, hgr, hl, hp, hs, hQ⟩ => ?_
  obtain ⟨ds, gd⟩ := q
  have hq : ds = xs.map f := hq
  have hg : gOk ds gd s1 := hg
  have hgr : gd ≠ some r := hgr
  subst hq
  have hr := hp.lt
  have main := loopC_ok (ds := xs.map f) (gd := gd) (g := g) (mt := mYes) (me := me) (env0 := wipeE env vs) (r0 := s1.length) (st := s1 ++ [.lst []]) (fun i acc st => rdW st s1.length = some acc ∧ acc.length = i ∧ (∃ zs : List γ, acc = zs.map F ∧ ∀ (j : Nat) (x : β) (z : γ), xs[j]? = some x → zs[j]? = some z → P x z) ∧ Ev r s1 st)
    ⟨rdW_new _ _, rfl, ⟨([] : List γ), rfl, fun j x z _ h => by cases h⟩, Ev.gr hp (List.prefix_append _ _)⟩ (fun i acc st h => ⟨h.1, by omega⟩) (by rw [List.length_map]; exact sz_lt hl) (by
      rintro i acc st hi ⟨h1, h2, h3, h4⟩
      cases gd with
      | none => trivial
      | some q => exact h4.rdL hg (fun e => hgr (by rw [e]))) (by
      rintro i acc st hi ⟨h1, h2, ⟨zs, hz, h3⟩, h4⟩
      have hi' : i < xs.length := by rwa [List.length_map] at hi
      have h1' := hs xs[i] (List.getElem_mem hi') st h4
      rw [List.getElem_map]
      revert h1'
      cases g (f xs[i]) (wipeE env vs) st with
      | none => exact fun h => h.elim
      | some q =>
        obtain ⟨env1, s'⟩ := q
        rintro ⟨rfl, h2'⟩
        obtain ⟨y, st3, e2, ⟨z, rfl, e4⟩, e3⟩ := h2'.ex
        have w3 : rdW st3 s1.length = some acc := e3.rdW h1 (by omega)
        refine ⟨env1, st, rfl, .inr ⟨st, F z, st3, rfl, e2, w3, ?_, by simp [h2], ⟨zs ++ [z], by rw [hz]; simp, fun j x w hx hj => ?_⟩, (h4.trans e3).beyond (Nat.le_refl _) hr⟩⟩
        · rw [rdW_iff, List.getElem?_set_self (rdW_lt w3)]
        · have lz : zs.length = i := by rw [← h2, hz, List.length_map]
          by_cases hj2 : j < zs.length
          · rw [List.getElem?_append_left hj2] at hj
            exact h3 j x w hx hj
          · have hl := (List.getElem?_eq_some_iff.mp hj).1
            have ej : j = zs.length := by simp at hl; omega
            subst ej
            rw [List.getElem?_concat_length] at hj
            cases hj
            rw [lz, List.getElem?_eq_getElem hi'] at hx
            cases hx
            exact e4)
  obtain ⟨acc, st', e, h1, h2, ⟨zs, hz, h3⟩, h4⟩ := main
  subst hz
  rw [List.length_map, List.length_map] at h2
  exact Rn.eq e (hQ zs _ _ h4 (Nat.le_refl _) (rdW_lt h1) h1 (rdL_W h1) h2 h3)
/-- over range(n) -/
theorem map_rng {mr : En → Sto → R (List D)} (n : Nat) (F : Nat → D) (h : Rn (mr env st) (fun ds s1 => ds = [.int (n : Nat)] ∧ n ≤ 1000000 ∧
      (∀ i, i < n → ∀ s, Gr s1 s → Pg (g (.int (i : Nat)) (wipeE env vs) s) fun e s' => s = s' ∧ Rn (me e s') (fun y s3 => y = F i ∧ Gr s' s3) E0) ∧
      ∀ r s, Gr s1 s → s1.length ≤ r → r < s.length → rdW s r = some ((List.range n).map F) → rdL s r = some ((List.range n).map F) → Q (.ref r) s) E) : Rn (mLc (DL.iRng1 mr) g mYes me vs env st) Q E := by
  refine lc_map (List.range n) (fun i => D.int (0 + (i : Nat))) F ?_
  rw [rn_rng1]
  refine Rn.mono h fun ds s1 ⟨e, hn, hs, hQ⟩ => ⟨_, e, mid_nat (by omega), rfl, trivial, by simpa using hn, fun i hi s gs => ?_, hQ⟩
  rw [Int.zero_add]
  exact hs i (List.mem_range.mp hi) s gs
/-- draws, over range(n) -/
theorem draw_rng {γ : Type} {mr : En → Sto → R (List D)} (r : Nat) (F : γ → D) (P : γ → Prop) (h : Rn (mr env st) (fun ds s1 => ∃ n : Nat, ds = [.int (n : Nat)] ∧ n ≤ 1000000 ∧ IsPool s1 r ∧
      (∀ i, i < n → ∀ s, Ev r s1 s → Pg (g (.int (i : Nat)) (wipeE env vs) s) fun e s' => s = s' ∧ Rn (me e s') (fun y s3 => (∃ z, y = F z ∧ P z) ∧ Ev r s' s3) E0) ∧
      ∀ (zs : List γ) q s, Ev r s1 s → s1.length ≤ q → q < s.length → rdW s q = some (zs.map F) → rdL s q = some (zs.map F) → zs.length = n → (∀ z ∈ zs, P z) → Q (.ref q) s) E) : Rn (mLc (DL.iRng1 mr) g mYes me vs env st) Q E := by
  have key : Rn (mr env st) (fun ds s1 => ∃ n : Nat, ds = [.int (n : Nat)] ∧ n ≤ 1000000 ∧ Rn (mLc (fun _ _ => .ok (rngD 0 n, none) s1) g mYes me vs env st) Q E) E := by
    refine Rn.mono h fun ds s1 ⟨n, e, hn, hp, hs, hQ⟩ => ⟨n, e, hn, ?_⟩
    refine lc_draw (r := r) (List.range n) (fun i => D.int (0 + (i : Nat))) F (fun _ z => P z) ?_
    refine ⟨rfl, trivial, by simp, by simpa using hn, hp, fun i hi s gs => ?_, fun zs q s g1 h1 h2 h3 h4 h5 h6 => hQ zs q s g1 h1 h2 h3 h4 (by rw [h5, List.length_range]) fun z hz => ?_⟩
    · rw [Int.zero_add]
      exact hs i (List.mem_range.mp hi) s gs
    · obtain ⟨i, hi⟩ := List.getElem?_of_mem hz
      have : i < n := by have := (List.getElem?_eq_some_iff.mp hi).1; rw [h5, List.length_range] at this; exact this
      exact h6 i i z (by simp [this]) hi
  unfold mLc at key ⊢
  rw [rn_bind, rn_rng1]
  refine Rn.mono key fun ds s1 ⟨n, e, hn, hq⟩ => ⟨n, e, mid_nat (by omega), ?_⟩
  rw [Int.toNat_natCast]
  exact hq
end
end DL
set_option Elab.async false
set_option linter.all false
set_option maxRecDepth 10000
/-! Lists that grow and are set; rows of rows; columns. -/
namespace DL
open PySem PySem.Spec PyProof.Rows L2
/-- nothing old has changed but these -/
structure Fr (M : List Nat) (st st' : Sto) : Prop where
  len : st.length ≤ st'.length
  same : ∀ i, i < st.length → i ∉ M → st'[i]? = st[i]?
theorem Fr.refl {M : List Nat} {st : Sto} : Fr M st st := ⟨Nat.le_refl _, fun _ _ _ => rfl⟩
theorem Fr.trans {M : List Nat} {a b c : Sto} (h : Fr M a b) (k : Fr M b c) : Fr M a c :=
  ⟨Nat.le_trans h.len k.len, fun i hi hm => (k.same i (Nat.lt_of_lt_of_le hi h.len) hm).trans (h.same i hi hm)⟩
theorem Fr.of_gr {M : List Nat} {a b : Sto} (h : Gr a b) : Fr M a b := ⟨h.len, fun i hi _ => h.get hi⟩
theorem Gr.of_fr {M : List Nat} {a b : Sto} (h : Fr M a b) (hm : ∀ m ∈ M, a.length ≤ m) : Gr a b := by
  refine List.prefix_iff_getElem?.mpr fun i hi => ?_
  rw [h.same i hi fun z => by have := hm i z; omega, List.getElem?_eq_getElem hi]
theorem Fr.gr {M : List Nat} {a b c : Sto} (g : Gr a b) (h : Fr M b c) (hm : ∀ m ∈ M, a.length ≤ m) : Gr a c := Gr.of_fr ((Fr.of_gr g).trans h) hm
theorem Fr.mono {M N : List Nat} {a b : Sto} (h : Fr M a b) (hm : ∀ m ∈ M, m ∈ N) : Fr N a b := ⟨h.len, fun i hi n => h.same i hi fun z => n (hm i z)⟩
theorem Fr.drop {m : Nat} {M : List Nat} {a b : Sto} (h : Fr (m :: M) a b) (hm : a.length ≤ m) : Fr M a b :=
  ⟨h.len, fun i hi n => h.same i hi fun z => by
    rcases List.mem_cons.mp z with rfl | z
    · omega
    · exact n z⟩
theorem Fr.rdL {M : List Nat} {a b : Sto} (h : Fr M a b) {r : Nat} {xs : List D} (e : DL.rdL a r = some xs) (hr : r ∉ M) : DL.rdL b r = some xs := by
  rw [rdL_of (h.same r (rdL_lt e) hr)]; exact e
theorem Fr.rdW {M : List Nat} {a b : Sto} (h : Fr M a b) {r : Nat} {xs : List D} (e : DL.rdW a r = some xs) (hr : r ∉ M) : DL.rdW b r = some xs := by
  rw [rdW_of (h.same r (rdW_lt e) hr)]; exact e
theorem Fr.pool {M : List Nat} {a b : Sto} (h : Fr M a b) {r : Nat} (e : IsPool a r) (hr : r ∉ M) : IsPool b r := by
  obtain ⟨x, y, z, q⟩ := id e
  exact ⟨x, y, z, by rw [h.same r e.lt hr]; exact q⟩
theorem Fr.ev {M : List Nat} {a b : Sto} (h : Fr M a b) {r : Nat} (e : IsPool a r) (hm : ∀ m ∈ M, a.length ≤ m) : Ev r a b := Ev.gr e (Gr.of_fr h hm)
theorem Ev.fr {a b : Sto} {r : Nat} (h : Ev r a b) : Fr [r] a b := ⟨h.len, fun i hi n => h.same i hi fun z => n (by simp [z])⟩
/-- a list is set -/
def Put (s : Sto) (r : Nat) (xs : List D) (Q : Sto → Prop) : Prop := Q (s.set r (.lst xs))
theorem Put.of {s : Sto} {r : Nat} {xs ys : List D} {Q : Sto → Prop} (e : rdW s r = some ys) (h : ∀ s', Fr [r] s s' → s'.length = s.length → rdW s' r = some xs → rdL s' r = some xs → Q s') : Put s r xs Q := by
  have w := rdW_set (ys := xs) e
  exact h _ ⟨by rw [List.length_set]; exact Nat.le_refl _, fun i hi n => List.getElem?_set_ne fun z => n (by simp [z])⟩ (by rw [List.length_set]) w (rdL_W w)
section
variable {Q : D → Sto → Prop} {E : Ex → Sto → Prop} {st : Sto} {env : En}
theorem p_append {r : Nat} {xs : List D} {d : D} (h : rdW st r = some xs) (hl : xs.length ≤ 1000000) : Rn (fAppend (.ref r) [d] st) Q E ↔ Put st r (xs ++ [d]) (Q .non) := by
  unfold fAppend
  simp only [h, if_pos (sz_lt hl)]
  exact Iff.rfl
theorem p_extend {r q : Nat} {xs ys : List D} (h : rdW st r = some xs) (h' : rdW st q = some ys) (hl : xs.length + ys.length ≤ 1000000) : Rn (fExtend (.ref r) [.ref q] st) Q E ↔ Put st r (xs ++ ys) (Q .non) := by
  unfold fExtend
  simp only [h, h', if_pos (Nat.le_of_lt (sz_lt hl))]
  exact Iff.rfl
theorem pg_set {mo mi : En → Sto → R D} {d : D} {N : En → Sto → Prop} : Pg (gSet mo mi d env st) N ↔ Rn (mo env st) (fun x s1 => Rn (mi env s1) (fun y s2 => ∃ r k xs j, x = .ref r ∧ y = .int k ∧ rdW s2 r = some xs ∧ ixN xs.length k = some j ∧ Put s2 r (xs.set j d) (N env)) E0) E0 := by
  unfold gSet
  cases mo env st with
  | ok x s1 =>
    simp only [Rn]
    cases x with
    | ref r =>
      simp only
      cases mi env s1 with
      | ok y s2 =>
        cases y with
        | int k =>
          simp only
          cases e : rdW s2 r with
          | none => simp [Pg, e]
          | some xs =>
            simp only [e]
            cases e2 : ixN xs.length k with
            | none => simp [Pg, e2, e]
            | some j =>
              constructor
              · exact fun h => ⟨r, k, xs, j, rfl, rfl, e, e2, h⟩
              · rintro ⟨r', k', xs', j', h1, h2, h3, h4, h5⟩
                cases h1; cases h2
                rw [e] at h3; cases h3
                rw [e2] at h4; cases h4
                exact h5
        | _ => simp [Pg]
      | ex x s => exact Iff.rfl
      | no => exact Iff.rfl
    | _ =>
      simp only [reduceCtorEq, false_and, exists_false, and_false]
      cases mi env s1 <;> exact Iff.rfl
  | ex x s => exact Iff.rfl
  | no => exact Iff.rfl
theorem p_catL {r q : Nat} {xs ys : List D} (h : rdW st r = some xs) (h' : rdW st q = some ys) (hl : xs.length + ys.length ≤ 1000000) : Rn (oAdd (.ref r) (.ref q) st) Q E ↔ New st (xs ++ ys) Q := by
  unfold oAdd
  simp only [h, h', if_pos (Nat.le_of_lt (sz_lt hl))]
  exact Iff.rfl
theorem small_of {k : Int} (h : -1000 ≤ k) (h' : k ≤ 1000000) : Small k := by unfold Small; omega
theorem p_repL {r : Nat} {x : D} {k : Int} (h : rdW st r = some [x]) (h1 : -1000 ≤ k) (h2 : k ≤ 1000000) : Rn (oMul (.ref r) (.int k) st) Q E ↔ New st (List.replicate k.toNat x) Q := by
  have hz : (1000000 : Nat) ≤ sizeLine := by decide
  unfold oMul
  simp only [h]
  rw [if_pos ⟨small_of h1 h2, by omega, by omega, by simp; omega⟩]
  have e : (List.replicate k.toNat [x]).flatten = List.replicate k.toNat x := by
    induction k.toNat with
    | zero => rfl
    | succ n ih => rw [List.replicate_succ, List.flatten_cons, ih]; rfl
  rw [e]
  exact Iff.rfl
theorem p_repT {x : D} {k : Int} (h1 : -1000 ≤ k) (h2 : k ≤ 1000) : Rn (oMul (.tup [x]) (.int k) st) Q E ↔ Q (.tup (List.replicate k.toNat x)) st := by
  unfold oMul
  simp only
  rw [if_pos ⟨h1, h2, by simp⟩]
  have e : (List.replicate k.toNat [x]).flatten = List.replicate k.toNat x := by
    induction k.toNat with
    | zero => rfl
    | succ n ih => rw [List.replicate_succ, List.flatten_cons, ih]; rfl
  rw [e]
  exact Iff.rfl
end
/-- rows of rows, in lists -/
structure LL (s : Sto) (r : Nat) (rs : List Nat) (xss : List (List D)) : Prop where
  top : rdL s r = some (rs.map D.ref)
  len : rs.length = xss.length
  row : ∀ (i q : Nat) (xs : List D), rs[i]? = some q → xss[i]? = some xs → rdL s q = some xs
theorem LL.fr {M : List Nat} {s s' : Sto} {r : Nat} {rs : List Nat} {xss : List (List D)} (h : LL s r rs xss) (f : Fr M s s') (h1 : r ∉ M) (h2 : ∀ q ∈ rs, q ∉ M) : LL s' r rs xss :=
  ⟨f.rdL h.top h1, h.len, fun i q xs e e' => f.rdL (h.row i q xs e e') (h2 q (List.mem_of_getElem? e))⟩
theorem LL.gr {s s' : Sto} {r : Nat} {rs : List Nat} {xss : List (List D)} (h : LL s r rs xss) (g : Gr s s') : LL s' r rs xss := h.fr (M := []) (Fr.of_gr g) (by simp) (by simp)
theorem LL.lt {s : Sto} {r : Nat} {rs : List Nat} {xss : List (List D)} (h : LL s r rs xss) : ∀ q ∈ rs, q < s.length := fun q hq => by
  obtain ⟨i, hi⟩ := List.getElem?_of_mem hq
  have : i < xss.length := by rw [← h.len]; exact (List.getElem?_eq_some_iff.mp hi).1
  exact rdL_lt (h.row i q _ hi (List.getElem?_eq_getElem this))
theorem LL.rows {s : Sto} {rs : List Nat} {xss : List (List D)} : rs.length = xss.length → (∀ (i q : Nat) (xs : List D), rs[i]? = some q → xss[i]? = some xs → rdL s q = some xs) → rowsD s (rs.map D.ref) = some xss := by
  intro hl h
  induction rs generalizing xss with
  | nil => cases xss with
    | nil => rfl
    | cons _ _ => cases hl
  | cons q r ih =>
    cases xss with
    | nil => cases hl
    | cons xs xss =>
      have e1 := h 0 q xs rfl rfl
      have e2 := ih (xss := xss) (by simpa using hl) fun i q' xs' a b => h (i + 1) q' xs' (by simpa using a) (by simpa using b)
      simp only [List.map_cons, rowsD, itemsD, e1, e2]
theorem LL.at_ {s : Sto} {r : Nat} {rs : List Nat} {xss : List (List D)} (h : LL s r rs xss) {i : Nat} (hi : i < xss.length) : ∃ q, q ∈ rs ∧ L2.atI (rs.map D.ref) (i : Int) = some (.ref q) ∧ rdL s q = some xss[i] := by
  have hr : i < rs.length := by rw [h.len]; exact hi
  refine ⟨rs[i], List.getElem_mem hr, atI_at (by rw [List.getElem?_map, List.getElem?_eq_getElem hr]; rfl), h.row i _ _ (List.getElem?_eq_getElem hr) (List.getElem?_eq_getElem hi)⟩
theorem rn_zipT {ma : En → Sto → R D} {env : En} {st : Sto} {Q : D → Sto → Prop} {E : Ex → Sto → Prop} (m : Nat) (h : Rn (ma env st) (fun d s => ∃ r rs xss, d = .ref r ∧ LL s r rs xss ∧ (∀ ys ∈ xss, ys.length = m) ∧ 0 < m ∧ m ≤ 1000 ∧ xss ≠ [] ∧ xss.length ≤ 1000 ∧ Q (.tup ((colsD m xss).map .tup)) s) E) : Rn (mZipT ma env st) Q E := by
  unfold mZipT
  rw [rn_bind]
  refine Rn.mono h fun d s ⟨r, rs, xss, e, l, hm, h0, h1, hn, h2, q⟩ => ?_
  subst e
  obtain ⟨xs, xss', rfl⟩ := List.exists_cons_of_ne_nil hn
  have e1 : itemsD s (.ref r) = some (rs.map D.ref) := l.top
  have e2 := LL.rows l.len l.row
  have lx : xs.length = m := hm xs List.mem_cons_self
  simp only [e1, e2]
  rw [if_pos ⟨fun ys hy => by rw [lx]; exact hm ys (List.mem_cons_of_mem _ hy), by omega, by omega, by simp at h2; omega⟩, lx]
  exact q
end DL
set_option Elab.async false
set_option linter.all false
set_option maxRecDepth 10000
/-! Comprehensions of fresh lists; fresh rows that grow. -/
namespace DL
open PySem PySem.Spec PyProof.Rows L2
/-- rows of rows that are ours: all can be written -/
structure LW (s : Sto) (L : Nat) (r : Nat) (rs : List Nat) (xss : List (List D)) : Prop where
  top : rdW s r = some (rs.map D.ref)
  len : rs.length = xss.length
  row : ∀ (i q : Nat) (xs : List D), rs[i]? = some q → xss[i]? = some xs → rdW s q = some xs
  nd : rs.Nodup
  out : r ∉ rs
  new : L ≤ r ∧ ∀ q ∈ rs, L ≤ q
theorem LW.ll {s : Sto} {L r : Nat} {rs : List Nat} {xss : List (List D)} (h : LW s L r rs xss) : LL s r rs xss :=
  ⟨rdL_W h.top, h.len, fun i q xs e e' => rdL_W (h.row i q xs e e')⟩
theorem LW.fr {M : List Nat} {s s' : Sto} {L r : Nat} {rs : List Nat} {xss : List (List D)} (h : LW s L r rs xss) (f : Fr M s s') (h1 : r ∉ M) (h2 : ∀ q ∈ rs, q ∉ M) : LW s' L r rs xss :=
  ⟨f.rdW h.top h1, h.len, fun i q xs e e' => f.rdW (h.row i q xs e e') (h2 q (List.mem_of_getElem? e)), h.nd, h.out, h.new⟩
theorem LW.gr {s s' : Sto} {L r : Nat} {rs : List Nat} {xss : List (List D)} (h : LW s L r rs xss) (g : Gr s s') : LW s' L r rs xss := h.fr (M := []) (Fr.of_gr g) (by simp) (by simp)
theorem LW.lt {s : Sto} {L r : Nat} {rs : List Nat} {xss : List (List D)} (h : LW s L r rs xss) : r < s.length ∧ ∀ q ∈ rs, q < s.length := ⟨rdW_lt h.top, h.ll.lt⟩
/-- the row at i -/
theorem LW.at_ {s : Sto} {L r : Nat} {rs : List Nat} {xss : List (List D)} (h : LW s L r rs xss) {i : Nat} (hi : i < xss.length) : ∃ q, rs[i]? = some q ∧ q ∈ rs ∧ L2.atI (rs.map D.ref) (i : Int) = some (.ref q) ∧ rdW s q = some xss[i] := by
  have hi' : i < rs.length := by rw [h.len]; exact hi
  refine ⟨rs[i], List.getElem?_eq_getElem hi', List.getElem_mem hi', atI_at (by rw [List.getElem?_map, List.getElem?_eq_getElem hi']; rfl), h.row i _ _ (List.getElem?_eq_getElem hi') (List.getElem?_eq_getElem hi)⟩
/-- the row at i is set -/
theorem LW.set {s s' : Sto} {L r : Nat} {rs : List Nat} {xss : List (List D)} (h : LW s L r rs xss) {i q : Nat} {ys : List D} (hq : rs[i]? = some q) (f : Fr [q] s s') (w : rdW s' q = some ys) : LW s' L r rs (xss.set i ys) := by
  have hqm := List.mem_of_getElem? hq
  refine ⟨f.rdW h.top (by simp; exact fun z => h.out (z ▸ hqm)), by rw [List.length_set]; exact h.len, fun j p xs e e' => ?_, h.nd, h.out, h.new⟩
  obtain ⟨hj, ej⟩ := List.getElem?_eq_some_iff.mp e
  obtain ⟨hi, ei⟩ := List.getElem?_eq_some_iff.mp hq
  by_cases hji : i = j
  · subst hji
    rw [hq] at e
    cases e
    rw [List.getElem?_set_self (by rw [← h.len]; exact hi)] at e'
    cases e'
    exact w
  · rw [List.getElem?_set_ne hji] at e'
    refine f.rdW (h.row j p xs e e') (by
      simp only [List.mem_singleton]
      intro z
      exact hji ((List.getElem_inj h.nd).mp (ei.trans (z.symm.trans ej.symm))))
section
variable {β : Type} {mi : MI} {g : GT} {me : En → Sto → R D} {vs : List Nat} {env : En} {st : Sto} {Q : D → Sto → Prop} {E : Ex → Sto → Prop}
theorem lc_rows (xs : List β) (f : β → D) (G : β → List D) (h : Rn (mi env st) (fun q s1 => q.1 = xs.map f ∧ gOk q.1 q.2 s1 ∧ xs.length ≤ 1000000 ∧
      (∀ x ∈ xs, ∀ s, Gr s1 s → Pg (g (f x) (wipeE env vs) s) fun e s' => s = s' ∧ Rn (me e s') (fun y s3 => (∃ q, y = .ref q ∧ s'.length ≤ q ∧ rdW s3 q = some (G x)) ∧ Gr s' s3) E0) ∧
      ∀ r rs s, Gr s1 s → LW s s1.length r rs (xs.map G) → Q (.ref r) s) E) : Rn (mLc mi g mYes me vs env st) Q E := by
  unfold mLc
  rw [rn_bind]
  refine Rn.mono h fun q s1 ⟨hq, hg, hl, hs, hQ⟩ => ?_
  obtain ⟨ds, gd⟩ := q
  have hq : ds = xs.map f := hq
  have hg : gOk ds gd s1 := hg
  subst hq
  have main := loopC_ok (ds := xs.map f) (gd := gd) (g := g) (mt := mYes) (me := me) (env0 := wipeE env vs) (r0 := s1.length) (st := s1 ++ [.lst []]) (fun i acc st => Gr s1 st ∧ acc.length = i ∧ ∃ rs : List Nat, acc = rs.map D.ref ∧ LW st s1.length s1.length rs ((xs.take i).map G))
    ⟨List.prefix_append _ _, rfl, [], rfl, ⟨rdW_new _ _, rfl, fun i q xs e _ => by simp at e, List.nodup_nil, List.not_mem_nil, Nat.le_refl _, fun q h => by simp at h⟩⟩
    (fun i acc st ⟨_, h2, rs, h3, h4⟩ => ⟨by rw [h3]; exact h4.top, by omega⟩) (by rw [List.length_map]; exact sz_lt hl) (by
      rintro i acc st hi ⟨h1, _⟩
      cases gd with
      | none => trivial
      | some q => exact rdL_gr h1 hg) (by
      rintro i acc st hi ⟨h1, h2, rs, h3, h4⟩
      have hi' : i < xs.length := by rwa [List.length_map] at hi
      have h1' := hs xs[i] (List.getElem_mem hi') st h1
      rw [List.getElem_map]
      revert h1'
      cases g (f xs[i]) (wipeE env vs) st with
      | none => exact fun h => h.elim
      | some q =>
        obtain ⟨env1, s'⟩ := q
        rintro ⟨rfl, h2'⟩
        obtain ⟨y, st3, e2, ⟨q, rfl, hq1, hq2⟩, e3⟩ := h2'.ex
        have w4 := h4.gr e3
        have hlt := h4.lt
        have hq1 : st.length ≤ q := hq1
        have hq2 : rdW st3 q = some (G xs[i]) := hq2
        have nq : q ≠ s1.length := by omega
        refine ⟨env1, st, rfl, .inr ⟨st, .ref q, st3, rfl, e2, by rw [h3]; exact w4.top, ?_⟩⟩
        subst h3
        refine Put.of (Q := fun s' => Gr s1 s' ∧ (rs.map D.ref ++ [D.ref q]).length = i + 1 ∧ ∃ rs' : List Nat, rs.map D.ref ++ [D.ref q] = rs'.map D.ref ∧ LW s' s1.length s1.length rs' ((xs.take (i + 1)).map G)) w4.top fun s5 f5 _ w5 _ => ?_
        refine ⟨f5.gr (h1.trans e3) (fun m hm => by rw [List.mem_singleton] at hm; omega), by simpa using h2, rs ++ [q], by simp, ⟨w5.trans (by simp), ?_, fun j p ys e e' => ?_, ?_, ?_, Nat.le_refl _, ?_⟩⟩
        · rw [List.length_append, h4.len, List.take_add_one, List.getElem?_eq_getElem hi']
          simp
          omega
        · have lr : rs.length = i := by simpa using h2
          rw [List.getElem?_map, List.getElem?_take] at e'
          split at e'
          · rename_i hj
            by_cases hj2 : j < rs.length
            · rw [List.getElem?_append_left hj2] at e
              refine f5.rdW (w4.row j p ys e ?_) (by simp; exact fun z => h4.out (z ▸ List.mem_of_getElem? e))
              rw [List.getElem?_map, List.getElem?_take, if_pos (by omega)]
              exact e'
            · have ej : j = rs.length := by omega
              subst ej
              rw [List.getElem?_concat_length] at e
              cases e
              rw [lr, List.getElem?_eq_getElem hi'] at e'
              cases e'
              exact f5.rdW hq2 (by simp [nq])
          · cases e'
        · rw [List.nodup_append]
          refine ⟨h4.nd, List.pairwise_singleton _ _, fun a ha b hb => ?_⟩
          rw [List.mem_singleton] at hb
          have := hlt.2 a ha
          omega
        · rw [List.mem_append, List.mem_singleton]
          rintro (z | z)
          · exact h4.out z
          · exact nq z.symm
        · intro p hp
          rcases List.mem_append.mp hp with hp | hp
          · exact h4.new.2 p hp
          · rw [List.mem_singleton] at hp
            have := hlt.1
            omega)
  obtain ⟨acc, st', e, h1, h2, rs, h3, h4⟩ := main
  rw [List.length_map, List.take_length] at h4
  exact Rn.eq e (hQ _ rs _ h1 h4)
end
/-- rows over range(n) -/
theorem rows_rng {mr : En → Sto → R (List D)} {g : GT} {me : En → Sto → R D} {vs : List Nat} {env : En} {st : Sto} {Q : D → Sto → Prop} {E : Ex → Sto → Prop} (n : Nat) (G : Nat → List D) (h : Rn (mr env st) (fun ds s1 => ds = [.int (n : Nat)] ∧ n ≤ 1000000 ∧
      (∀ i, i < n → ∀ s, Gr s1 s → Pg (g (.int (i : Nat)) (wipeE env vs) s) fun e s' => s = s' ∧ Rn (me e s') (fun y s3 => (∃ q, y = .ref q ∧ s'.length ≤ q ∧ rdW s3 q = some (G i)) ∧ Gr s' s3) E0) ∧
      ∀ r rs s, Gr s1 s → LW s s1.length r rs ((List.range n).map G) → Q (.ref r) s) E) : Rn (mLc (DL.iRng1 mr) g mYes me vs env st) Q E := by
  refine lc_rows (List.range n) (fun i => D.int (0 + (i : Nat))) G ?_
  rw [rn_rng1]
  refine Rn.mono h fun ds s1 ⟨e, hn, hs, hQ⟩ => ⟨_, e, mid_nat (by omega), rfl, trivial, by simpa using hn, fun i hi s gs => ?_, hQ⟩
  rw [Int.zero_add]
  exact hs i (List.mem_range.mp hi) s gs
end DL
set_option Elab.async false
set_option linter.all false
set_option maxRecDepth 100000
set_option maxHeartbeats 2000000
namespace Pr
open PySem PySem.Spec PyProof.Rows L2 DL
def topS (i : Nat) : Stmt := PySem.Challenge.pw_comeright_k04_what_terms_come_to.main.body.getD i (.Pass ⟨0, 0, 0, 0⟩)
abbrev d_PAIR_OF_FIRST : D := (.tup [])
abbrev d_BARE_OF_FIRST : D := (.tup [(.str "word"), (.str "ties")])
abbrev d_PAIR_OF_NEXT : D := (.tup [(.str "many")])
abbrev d_BARE_OF_NEXT : D := (.tup [(.str "own"), (.str "ties"), (.str "least"), (.str "most"), (.str "sum")])
abbrev d_TABS : Tabs := [("OPS", [("plus", (.nam "plus")), ("minus", (.nam "minus")), ("times", (.nam "times")), ("over", (.nam "over")), ("rest", (.nam "rest")), ("less", (.nam "less")), ("same", (.nam "same")), ("low", (.nam "low")), ("high", (.nam "high"))]), ("BARE", [("word", (.nam "own_worth")), ("own", (.nam "own_worth")), ("ties", (.nam "heap_ties")), ("sum", (.nam "heap_sum")), ("least", (.nam "heap_least")), ("most", (.nam "heap_most"))])]
structure Txt (K : PySem.W.Frag) (w : World) (mg : Str → Option Value) : Prop where
  tabs : TabsOk K w d_TABS
  t_OPS : ∃ a, mg "OPS" = some (.ref a) ∧ PySem.W.nsIn K mainGlobals "OPS" = some (some (.ref a))
  t_BARE : ∃ a, mg "BARE" = some (.ref a) ∧ PySem.W.nsIn K mainGlobals "BARE" = some (some (.ref a))
  t_plus : ∃ a, mg "plus" = some (.ref a) ∧ PySem.W.nsIn K mainGlobals "plus" = some (some (.ref a))
  t_minus : ∃ a, mg "minus" = some (.ref a) ∧ PySem.W.nsIn K mainGlobals "minus" = some (some (.ref a))
  t_times : ∃ a, mg "times" = some (.ref a) ∧ PySem.W.nsIn K mainGlobals "times" = some (some (.ref a))
  t_over : ∃ a, mg "over" = some (.ref a) ∧ PySem.W.nsIn K mainGlobals "over" = some (some (.ref a))
  t_rest : ∃ a, mg "rest" = some (.ref a) ∧ PySem.W.nsIn K mainGlobals "rest" = some (some (.ref a))
  t_less : ∃ a, mg "less" = some (.ref a) ∧ PySem.W.nsIn K mainGlobals "less" = some (some (.ref a))
  t_same : ∃ a, mg "same" = some (.ref a) ∧ PySem.W.nsIn K mainGlobals "same" = some (some (.ref a))
  t_low : ∃ a, mg "low" = some (.ref a) ∧ PySem.W.nsIn K mainGlobals "low" = some (some (.ref a))
  t_high : ∃ a, mg "high" = some (.ref a) ∧ PySem.W.nsIn K mainGlobals "high" = some (some (.ref a))
  t_own_worth : ∃ a, mg "own_worth" = some (.ref a) ∧ PySem.W.nsIn K mainGlobals "own_worth" = some (some (.ref a))
  t_heap_ties : ∃ a, mg "heap_ties" = some (.ref a) ∧ PySem.W.nsIn K mainGlobals "heap_ties" = some (some (.ref a))
  t_heap_sum : ∃ a, mg "heap_sum" = some (.ref a) ∧ PySem.W.nsIn K mainGlobals "heap_sum" = some (some (.ref a))
  t_heap_least : ∃ a, mg "heap_least" = some (.ref a) ∧ PySem.W.nsIn K mainGlobals "heap_least" = some (some (.ref a))
  t_heap_most : ∃ a, mg "heap_most" = some (.ref a) ∧ PySem.W.nsIn K mainGlobals "heap_most" = some (some (.ref a))
  t__law_any_first : ∃ a, mg "_law_any_first" = some (.ref a) ∧ PySem.W.nsIn K mainGlobals "_law_any_first" = some (some (.ref a))
  t__law_any_next : ∃ a, mg "_law_any_next" = some (.ref a) ∧ PySem.W.nsIn K mainGlobals "_law_any_next" = some (some (.ref a))
  b_len : mg "len" = none
  b_abs : mg "abs" = none
  b_int : mg "int" = none
  b_min : mg "min" = none
  b_max : mg "max" = none
  b_sorted : mg "sorted" = none
  b_range : mg "range" = none
  b_repr : mg "repr" = none
  b_isinstance : mg "isinstance" = none
  b_sum : mg "sum" = none
  b_type : mg "type" = none
  b_str : mg "str" = none
  b_tuple : mg "tuple" = none
  b_all : mg "all" = none
  b_list : mg "list" = none
  c_WORTHS : ∃ t, mg "WORTHS" = some (.int 997 t)
  c_NO_TERM : ∃ t, mg "NO_TERM" = some (.int 41 t)
  c_MOST_WITHIN : ∃ t, mg "MOST_WITHIN" = some (.int 5 t)
  c_MOST_TERMS : ∃ t, mg "MOST_TERMS" = some (.int 40 t)
  c_PAIR_OF_FIRST : ∃ a, mg "PAIR_OF_FIRST" = some (.ref a) ∧ ∀ α H, RD K α H d_PAIR_OF_FIRST (.ref a)
  c_BARE_OF_FIRST : ∃ a, mg "BARE_OF_FIRST" = some (.ref a) ∧ ∀ α H, RD K α H d_BARE_OF_FIRST (.ref a)
  c_PAIR_OF_NEXT : ∃ a, mg "PAIR_OF_NEXT" = some (.ref a) ∧ ∀ α H, RD K α H d_PAIR_OF_NEXT (.ref a)
  c_BARE_OF_NEXT : ∃ a, mg "BARE_OF_NEXT" = some (.ref a) ∧ ∀ α H, RD K α H d_BARE_OF_NEXT (.ref a)
  c_MOST_HEAP : ∃ t, mg "MOST_HEAP" = some (.int 11 t)
abbrev TxtX {K : PySem.W.Frag} {h : Heap} (_ : K.In h) (w : World) (mg : Str → Option Value) : Prop := Txt K w mg
section
variable {P : Program} {w : World} {K : PySem.W.Frag} {mg : Str → Option Value} {base : Heap}
/-! ### _law_pool -/
abbrev s_law_pool : Stmt := topS 45
abbrev N_law_pool : List Str := ["cells", "k", "cell", "great", "mixed"]
theorem S_law_pool : FnScope N_law_pool ["cells", "k"] (defScope s_law_pool) := ⟨rfl, rfl, rfl, by decide +kernel, rfl, by decide +kernel, by decide +kernel⟩
noncomputable def b_law_pool : En → Sto → RS :=
 (sSeq (sAsg (mIf (mB (m2 oLtT (mVar 1) (mFn bLen (aCons (mVar 0) aNil)))) (m2 oIx (mVar 0) (mVar 1)) (mC (.int 0))) (gN 2))
 (sSeq (sAsg (mFn bAbs (aCons (mVar 2) aNil)) (gN 3))
 (sSeq (sAsg (m2 oMod (m2 oAdd (m2 oAdd (m2 oAdd (m2 oMul (m2 oMod (mVar 3) (mC (.int 2147483629))) (mC (.int 48271))) (m2 oMul (mC (.int 977)) (mVar 1))) (m2 oMul (mC (.int 2)) (mFn bInt (aCons (m2 oLtT (mVar 2) (mC (.int 0))) aNil)))) (mC (.int 5))) (mC (.int 2147483647))) (gN 4))
 (sRet (mLst (aCons (mIf (mB (m2 oGe (mVar 3) (m2 oPow (mC (.int 10)) (mC (.int 18))))) (m2 oSub (mVar 3) (m2 oPow (mC (.int 10)) (mC (.int 18)))) (mC (.int 0))) (aCons (mVar 4) (aCons (mC (.int 0)) aNil))))))))
noncomputable def f_law_pool : List D → Sto → R D := mDef 5 b_law_pool
theorem ok_law_pool (T : Txt K w mg) (Tf : TopFn K mg "_law_pool" s_law_pool ["cells", "k"])  : DefOk P w K mg base "_law_pool" 2 1 f_law_pool := by
  have S := S_law_pool
  refine def_ok (N := N_law_pool) Tf S rfl (body := b_law_pool) fun f cdv A outer s H E rg tk hp => ?_
  exact (dss_cons (ds_set (i := 2) S.nd rfl (by first | exact Or.inl rfl | exact Or.inr rfl) (de_if (dt_cmp (od_ltT rg.r.units0) (de_var 1) (de_callB cd_len (by rfl) T.b_len (by decide +kernel) (da_cons (de_var 0) da_nil)) (nomark _)) (de_ix (de_var 0) (de_var 1) (fun _ _ => rfl)) de_int))
 (dss_cons (ds_set (i := 3) S.nd rfl (by first | exact Or.inl rfl | exact Or.inr rfl) (de_callB cd_abs (by rfl) T.b_abs (by decide +kernel) (da_cons (de_var 2) da_nil)))
 (dss_cons (ds_set (i := 4) S.nd rfl (by first | exact Or.inl rfl | exact Or.inr rfl) (de_bin od_mod (de_bin od_add (de_bin od_add (de_bin od_add (de_bin od_mul (de_bin od_mod (de_var 3) de_int) de_int) (de_bin od_mul de_int (de_var 1))) (de_bin od_mul de_int (de_callTy cd_int (by rfl) T.b_int (by decide +kernel) (da_cons (de_cmp (od_ltT rg.r.units0) (de_var 2) de_int (nomark _)) da_nil)))) de_int) de_int))
 (dss_one (ds_ret (de_lst (da_cons (de_if (dt_cmp (od_ge) (de_var 3) (de_bin od_pow de_int de_int) (nomark _)) (de_bin od_sub (de_var 3) (de_bin od_pow de_int de_int)) de_int) (da_cons (de_var 4) (da_cons de_int da_nil)))))))))
/-! ### _law_take -/
abbrev s_law_take : Stmt := topS 46
abbrev N_law_take : List Str := ["pool", "many", "found", "one", "two"]
theorem S_law_take : FnScope N_law_take ["pool", "many"] (defScope s_law_take) := ⟨rfl, rfl, rfl, by decide +kernel, rfl, by decide +kernel, by decide +kernel⟩
noncomputable def b_law_take : En → Sto → RS :=
 (sSeq (sIf (mB (m2 oGt (m2 oIx (mVar 0) (mC (.int 0))) (mC (.int 0))))
  (sSeq (sAsg (m2 oMod (m2 oIx (mVar 0) (mC (.int 0))) (mVar 1)) (gN 2))
 (sSeq (sAsg (m2 oDiv (m2 oIx (mVar 0) (mC (.int 0))) (mVar 1)) (gSet (mVar 0) (mC (.int 0))))
 (sRet (mVar 2))))
  sNil)
 (sSeq (sAsg (m2 oAdd (m2 oIx (mVar 0) (mC (.int 2))) (mC (.int 1))) (gSet (mVar 0) (mC (.int 2))))
 (sSeq (sAsg (m2 oMod (m2 oAdd (m2 oIx (mVar 0) (mC (.int 1))) (m2 oMul (mC (.int 1000003)) (m2 oIx (mVar 0) (mC (.int 2))))) (mC (.int 2305843009213693951))) (gN 3))
 (sSeq (sAsg (m2 oMod (m2 oAdd (m2 oMul (m2 oMod (m2 oMul (mVar 3) (mVar 3)) (mC (.int 2305843009213693921))) (mVar 3)) (m2 oMul (mC (.int 8191)) (m2 oIx (mVar 0) (mC (.int 2))))) (mC (.int 2305843009213693907))) (gN 4))
 (sRet (m2 oMod (m2 oDiv (mVar 4) (mC (.int 4096))) (mVar 1)))))))
noncomputable def f_law_take : List D → Sto → R D := mDef 5 b_law_take
theorem ok_law_take (T : Txt K w mg) (Tf : TopFn K mg "_law_take" s_law_take ["pool", "many"])  : DefOk P w K mg base "_law_take" 2 1 f_law_take := by
  have S := S_law_take
  refine def_ok (N := N_law_take) Tf S rfl (body := b_law_take) fun f cdv A outer s H E rg tk hp => ?_
  exact (dss_cons (ds_if (dt_cmp (od_gt) (de_ix (de_var 0) de_int (fun _ _ => rfl)) de_int (nomark _))
  (dss_cons (ds_set (i := 2) S.nd rfl (by first | exact Or.inl rfl | exact Or.inr rfl) (de_bin od_mod (de_ix (de_var 0) de_int (fun _ _ => rfl)) (de_var 1)))
 (dss_cons (ds_asg (vs := []) (de_bin od_div (de_ix (de_var 0) de_int (fun _ _ => rfl)) (de_var 1)) (dg_set (W := W0) (de_var 0) de_int))
 (dss_one (ds_ret (de_var 2)))))
  dss_nil)
 (dss_cons (ds_asg (vs := []) (de_bin od_add (de_ix (de_var 0) de_int (fun _ _ => rfl)) de_int) (dg_set (W := W0) (de_var 0) de_int))
 (dss_cons (ds_set (i := 3) S.nd rfl (by first | exact Or.inl rfl | exact Or.inr rfl) (de_bin od_mod (de_bin od_add (de_ix (de_var 0) de_int (fun _ _ => rfl)) (de_bin od_mul de_int (de_ix (de_var 0) de_int (fun _ _ => rfl)))) de_int))
 (dss_cons (ds_set (i := 4) S.nd rfl (by first | exact Or.inl rfl | exact Or.inr rfl) (de_bin od_mod (de_bin od_add (de_bin od_mul (de_bin od_mod (de_bin od_mul (de_var 3) (de_var 3)) de_int) (de_var 3)) (de_bin od_mul de_int (de_ix (de_var 0) de_int (fun _ _ => rfl)))) de_int))
 (dss_one (ds_ret (de_bin od_mod (de_bin od_div (de_var 4) de_int) (de_var 1))))))))
/-! ### plus -/
abbrev s_plus : Stmt := topS 18
abbrev N_plus : List Str := ["one", "two"]
theorem S_plus : FnScope N_plus ["one", "two"] (defScope s_plus) := ⟨rfl, rfl, rfl, by decide +kernel, rfl, by decide +kernel, by decide +kernel⟩
noncomputable def b_plus : En → Sto → RS :=
 (sRet (m2 oMod (m2 oAdd (mVar 0) (mVar 1)) (mC (.int 997))))
noncomputable def f_plus : List D → Sto → R D := mDef 2 b_plus
theorem ok_plus (T : Txt K w mg) (Tf : TopFn K mg "plus" s_plus ["one", "two"])  : DefOk P w K mg base "plus" 2 1 f_plus := by
  have S := S_plus
  refine def_ok (N := N_plus) Tf S rfl (body := b_plus) fun f cdv A outer s H E rg tk hp => ?_
  exact (dss_one (ds_ret (de_bin od_mod (de_bin od_add (de_var 0) (de_var 1)) (de_globI (by rfl) T.c_WORTHS))))
/-! ### minus -/
abbrev s_minus : Stmt := topS 19
abbrev N_minus : List Str := ["one", "two"]
theorem S_minus : FnScope N_minus ["one", "two"] (defScope s_minus) := ⟨rfl, rfl, rfl, by decide +kernel, rfl, by decide +kernel, by decide +kernel⟩
noncomputable def b_minus : En → Sto → RS :=
 (sRet (m2 oMod (m2 oSub (mVar 0) (mVar 1)) (mC (.int 997))))
noncomputable def f_minus : List D → Sto → R D := mDef 2 b_minus
theorem ok_minus (T : Txt K w mg) (Tf : TopFn K mg "minus" s_minus ["one", "two"])  : DefOk P w K mg base "minus" 2 1 f_minus := by
  have S := S_minus
  refine def_ok (N := N_minus) Tf S rfl (body := b_minus) fun f cdv A outer s H E rg tk hp => ?_
  exact (dss_one (ds_ret (de_bin od_mod (de_bin od_sub (de_var 0) (de_var 1)) (de_globI (by rfl) T.c_WORTHS))))
/-! ### times -/
abbrev s_times : Stmt := topS 20
abbrev N_times : List Str := ["one", "two"]
theorem S_times : FnScope N_times ["one", "two"] (defScope s_times) := ⟨rfl, rfl, rfl, by decide +kernel, rfl, by decide +kernel, by decide +kernel⟩
noncomputable def b_times : En → Sto → RS :=
 (sRet (m2 oMod (m2 oMul (mVar 0) (mVar 1)) (mC (.int 997))))
noncomputable def f_times : List D → Sto → R D := mDef 2 b_times
theorem ok_times (T : Txt K w mg) (Tf : TopFn K mg "times" s_times ["one", "two"])  : DefOk P w K mg base "times" 2 1 f_times := by
  have S := S_times
  refine def_ok (N := N_times) Tf S rfl (body := b_times) fun f cdv A outer s H E rg tk hp => ?_
  exact (dss_one (ds_ret (de_bin od_mod (de_bin od_mul (de_var 0) (de_var 1)) (de_globI (by rfl) T.c_WORTHS))))
/-! ### over -/
abbrev s_over : Stmt := topS 21
abbrev N_over : List Str := ["one", "two"]
theorem S_over : FnScope N_over ["one", "two"] (defScope s_over) := ⟨rfl, rfl, rfl, by decide +kernel, rfl, by decide +kernel, by decide +kernel⟩
noncomputable def b_over : En → Sto → RS :=
 (sSeq (sIf (mB (m2 oEq (mVar 1) (mC (.int 0))))
  (sRet (mC (.int 0)))
  sNil)
 (sRet (m2 oDiv (mVar 0) (mVar 1))))
noncomputable def f_over : List D → Sto → R D := mDef 2 b_over
theorem ok_over (T : Txt K w mg) (Tf : TopFn K mg "over" s_over ["one", "two"])  : DefOk P w K mg base "over" 2 1 f_over := by
  have S := S_over
  refine def_ok (N := N_over) Tf S rfl (body := b_over) fun f cdv A outer s H E rg tk hp => ?_
  exact (dss_cons (ds_if (dt_cmp ((od_eq rg.r.units)) (de_var 1) de_int (nomark _))
  (dss_one (ds_ret de_int))
  dss_nil)
 (dss_one (ds_ret (de_bin od_div (de_var 0) (de_var 1)))))
/-! ### rest -/
abbrev s_rest : Stmt := topS 22
abbrev N_rest : List Str := ["one", "two"]
theorem S_rest : FnScope N_rest ["one", "two"] (defScope s_rest) := ⟨rfl, rfl, rfl, by decide +kernel, rfl, by decide +kernel, by decide +kernel⟩
noncomputable def b_rest : En → Sto → RS :=
 (sSeq (sIf (mB (m2 oEq (mVar 1) (mC (.int 0))))
  (sRet (mC (.int 0)))
  sNil)
 (sRet (m2 oMod (mVar 0) (mVar 1))))
noncomputable def f_rest : List D → Sto → R D := mDef 2 b_rest
theorem ok_rest (T : Txt K w mg) (Tf : TopFn K mg "rest" s_rest ["one", "two"])  : DefOk P w K mg base "rest" 2 1 f_rest := by
  have S := S_rest
  refine def_ok (N := N_rest) Tf S rfl (body := b_rest) fun f cdv A outer s H E rg tk hp => ?_
  exact (dss_cons (ds_if (dt_cmp ((od_eq rg.r.units)) (de_var 1) de_int (nomark _))
  (dss_one (ds_ret de_int))
  dss_nil)
 (dss_one (ds_ret (de_bin od_mod (de_var 0) (de_var 1)))))
/-! ### less -/
abbrev s_less : Stmt := topS 23
abbrev N_less : List Str := ["one", "two"]
theorem S_less : FnScope N_less ["one", "two"] (defScope s_less) := ⟨rfl, rfl, rfl, by decide +kernel, rfl, by decide +kernel, by decide +kernel⟩
noncomputable def b_less : En → Sto → RS :=
 (sRet (mIf (mB (m2 oLtT (mVar 0) (mVar 1))) (mC (.int 1)) (mC (.int 0))))
noncomputable def f_less : List D → Sto → R D := mDef 2 b_less
theorem ok_less (T : Txt K w mg) (Tf : TopFn K mg "less" s_less ["one", "two"])  : DefOk P w K mg base "less" 2 1 f_less := by
  have S := S_less
  refine def_ok (N := N_less) Tf S rfl (body := b_less) fun f cdv A outer s H E rg tk hp => ?_
  exact (dss_one (ds_ret (de_if (dt_cmp (od_ltT rg.r.units0) (de_var 0) (de_var 1) (nomark _)) de_int de_int)))
/-! ### same -/
abbrev s_same : Stmt := topS 24
abbrev N_same : List Str := ["one", "two"]
theorem S_same : FnScope N_same ["one", "two"] (defScope s_same) := ⟨rfl, rfl, rfl, by decide +kernel, rfl, by decide +kernel, by decide +kernel⟩
noncomputable def b_same : En → Sto → RS :=
 (sRet (mIf (mB (m2 oEq (mVar 0) (mVar 1))) (mC (.int 1)) (mC (.int 0))))
noncomputable def f_same : List D → Sto → R D := mDef 2 b_same
theorem ok_same (T : Txt K w mg) (Tf : TopFn K mg "same" s_same ["one", "two"])  : DefOk P w K mg base "same" 2 1 f_same := by
  have S := S_same
  refine def_ok (N := N_same) Tf S rfl (body := b_same) fun f cdv A outer s H E rg tk hp => ?_
  exact (dss_one (ds_ret (de_if (dt_cmp ((od_eq rg.r.units)) (de_var 0) (de_var 1) (nomark _)) de_int de_int)))
/-! ### low -/
abbrev s_low : Stmt := topS 25
abbrev N_low : List Str := ["one", "two"]
theorem S_low : FnScope N_low ["one", "two"] (defScope s_low) := ⟨rfl, rfl, rfl, by decide +kernel, rfl, by decide +kernel, by decide +kernel⟩
noncomputable def b_low : En → Sto → RS :=
 (sRet (mIf (mB (m2 oLtT (mVar 0) (mVar 1))) (mVar 0) (mVar 1)))
noncomputable def f_low : List D → Sto → R D := mDef 2 b_low
theorem ok_low (T : Txt K w mg) (Tf : TopFn K mg "low" s_low ["one", "two"])  : DefOk P w K mg base "low" 2 1 f_low := by
  have S := S_low
  refine def_ok (N := N_low) Tf S rfl (body := b_low) fun f cdv A outer s H E rg tk hp => ?_
  exact (dss_one (ds_ret (de_if (dt_cmp (od_ltT rg.r.units0) (de_var 0) (de_var 1) (nomark _)) (de_var 0) (de_var 1))))
/-! ### high -/
abbrev s_high : Stmt := topS 26
abbrev N_high : List Str := ["one", "two"]
theorem S_high : FnScope N_high ["one", "two"] (defScope s_high) := ⟨rfl, rfl, rfl, by decide +kernel, rfl, by decide +kernel, by decide +kernel⟩
noncomputable def b_high : En → Sto → RS :=
 (sRet (mIf (mB (m2 oLtT (mVar 0) (mVar 1))) (mVar 1) (mVar 0)))
noncomputable def f_high : List D → Sto → R D := mDef 2 b_high
theorem ok_high (T : Txt K w mg) (Tf : TopFn K mg "high" s_high ["one", "two"])  : DefOk P w K mg base "high" 2 1 f_high := by
  have S := S_high
  refine def_ok (N := N_high) Tf S rfl (body := b_high) fun f cdv A outer s H E rg tk hp => ?_
  exact (dss_one (ds_ret (de_if (dt_cmp (od_ltT rg.r.units0) (de_var 0) (de_var 1) (nomark _)) (de_var 1) (de_var 0))))
/-! ### _law_any_worth -/
abbrev s_law_any_worth : Stmt := topS 47
abbrev N_law_any_worth : List Str := ["pool"]
theorem S_law_any_worth : FnScope N_law_any_worth ["pool"] (defScope s_law_any_worth) := ⟨rfl, rfl, rfl, by decide +kernel, rfl, by decide +kernel, by decide +kernel⟩
noncomputable def b_law_any_worth : En → Sto → RS :=
 (sRet (m2 oIx (mLst (aCons (mCall f_law_take (aCons (mVar 0) (aCons (mC (.int 4)) aNil))) (aCons (mCall f_law_take (aCons (mVar 0) (aCons (mC (.int 12)) aNil))) (aCons (mCall f_law_take (aCons (mVar 0) (aCons (mC (.int 997)) aNil))) (aCons (mC (.int 996)) (aCons (mC (.int 0)) aNil)))))) (mCall f_law_take (aCons (mVar 0) (aCons (mC (.int 5)) aNil)))))
noncomputable def f_law_any_worth : List D → Sto → R D := mDef 1 b_law_any_worth
theorem ok_law_any_worth (T : Txt K w mg) (Tf : TopFn K mg "_law_any_worth" s_law_any_worth ["pool"]) (h_law_take : DefOk P w K mg base "_law_take" 2 1 f_law_take) : DefOk P w K mg base "_law_any_worth" 1 2 f_law_any_worth := by
  have S := S_law_any_worth
  refine def_ok (N := N_law_any_worth) Tf S rfl (body := b_law_any_worth) fun f cdv A outer s H E rg tk hp => ?_
  exact (dss_one (ds_ret (de_ix (de_lst (da_cons (de_f h_law_take rg (by omega) (by rfl) tk (da_cons (de_var 0) (da_cons de_int da_nil)) rfl (al_cons (al_cons al_nil))) (da_cons (de_f h_law_take rg (by omega) (by rfl) tk (da_cons (de_var 0) (da_cons de_int da_nil)) rfl (al_cons (al_cons al_nil))) (da_cons (de_f h_law_take rg (by omega) (by rfl) tk (da_cons (de_var 0) (da_cons de_int da_nil)) rfl (al_cons (al_cons al_nil))) (da_cons de_int (da_cons de_int da_nil)))))) (de_f h_law_take rg (by omega) (by rfl) tk (da_cons (de_var 0) (da_cons de_int da_nil)) rfl (al_cons (al_cons al_nil))) (fun _ _ => rfl))))
/-! ### _law_made -/
abbrev s_law_made : Stmt := topS 52
abbrev N_law_made : List Str := ["op", "one", "other"]
theorem S_law_made : FnScope N_law_made ["op", "one", "other"] (defScope s_law_made) := ⟨rfl, rfl, rfl, by decide +kernel, rfl, by decide +kernel, by decide +kernel⟩
noncomputable def b_law_made : En → Sto → RS :=
 (sSeq (sIf (tmAnd (mB (m2 oIn (mVar 0) (mTup (aCons (mC (.str "over")) (aCons (mC (.str "rest")) aNil))))) (mB (m2 oEq (mVar 2) (mC (.int 0)))))
  (sRet (mC (.int 0)))
  sNil)
 (sSeq (sIf (mB (m2 oIn (mVar 0) (mTup (aCons (mC (.str "over")) (aCons (mC (.str "rest")) aNil)))))
  (sRet (mIf (mB (m2 oEq (mVar 0) (mC (.str "over")))) (m2 oDiv (mVar 1) (mVar 2)) (m2 oMod (mVar 1) (mVar 2))))
  sNil)
 (sSeq (sIf (mB (m2 oIn (mVar 0) (mTup (aCons (mC (.str "less")) (aCons (mC (.str "same")) aNil)))))
  (sRet (mIf (mB (m2 oEq (mVar 0) (mC (.str "less")))) (mFn bInt (aCons (m2 oLtT (mVar 1) (mVar 2)) aNil)) (mFn bInt (aCons (m2 oEq (mVar 1) (mVar 2)) aNil))))
  sNil)
 (sSeq (sIf (mB (m2 oIn (mVar 0) (mTup (aCons (mC (.str "low")) (aCons (mC (.str "high")) aNil)))))
  (sRet (mIf (mB (m2 oEq (mVar 0) (mC (.str "low")))) (mFn bMin2 (aCons (mVar 1) (aCons (mVar 2) aNil))) (mFn bMax2 (aCons (mVar 1) (aCons (mVar 2) aNil)))))
  sNil)
 (sRet (m2 oMod (mDispIx [("plus", (n2 (· + ·) (nVar 1) (nVar 2))), ("minus", (n2 (· - ·) (nVar 1) (nVar 2))), ("times", (nMul (nVar 1) (nVar 2)))] 0) (mC (.int 997))))))))
noncomputable def f_law_made : List D → Sto → R D := mDef 3 b_law_made
theorem ok_law_made (T : Txt K w mg) (Tf : TopFn K mg "_law_made" s_law_made ["op", "one", "other"])  : DefOk P w K mg base "_law_made" 3 1 f_law_made := by
  have S := S_law_made
  refine def_ok (N := N_law_made) Tf S rfl (body := b_law_made) fun f cdv A outer s H E rg tk hp => ?_
  exact (dss_cons (ds_if (dt_w (dw_and (dt_cmp ((od_in rg.u66)) (de_var 0) (de_tup (da_cons de_str (da_cons de_str da_nil))) (by with_unfolding_all rfl)) (dw_and1 (dt_cmp ((od_eq rg.r.units)) (de_var 2) de_int (nomark _)))))
  (dss_one (ds_ret de_int))
  dss_nil)
 (dss_cons (ds_if (dt_cmp ((od_in rg.u66)) (de_var 0) (de_tup (da_cons de_str (da_cons de_str da_nil))) (by with_unfolding_all rfl))
  (dss_one (ds_ret (de_if (dt_cmp ((od_eq rg.r.units)) (de_var 0) de_str (nomark _)) (de_bin od_div (de_var 1) (de_var 2)) (de_bin od_mod (de_var 1) (de_var 2)))))
  dss_nil)
 (dss_cons (ds_if (dt_cmp ((od_in rg.u66)) (de_var 0) (de_tup (da_cons de_str (da_cons de_str da_nil))) (by with_unfolding_all rfl))
  (dss_one (ds_ret (de_if (dt_cmp ((od_eq rg.r.units)) (de_var 0) de_str (nomark _)) (de_callTy cd_int (by rfl) T.b_int (by decide +kernel) (da_cons (de_cmp (od_ltT rg.r.units0) (de_var 1) (de_var 2) (nomark _)) da_nil)) (de_callTy cd_int (by rfl) T.b_int (by decide +kernel) (da_cons (de_cmp ((od_eq rg.r.units)) (de_var 1) (de_var 2) (nomark _)) da_nil)))))
  dss_nil)
 (dss_cons (ds_if (dt_cmp ((od_in rg.u66)) (de_var 0) (de_tup (da_cons de_str (da_cons de_str da_nil))) (by with_unfolding_all rfl))
  (dss_one (ds_ret (de_if (dt_cmp ((od_eq rg.r.units)) (de_var 0) de_str (nomark _)) (de_callB (cd_min2 rfl) (by rfl) T.b_min (by decide +kernel) (da_cons (de_var 1) (da_cons (de_var 2) da_nil))) (de_callB (cd_max2 rfl) (by rfl) T.b_max (by decide +kernel) (da_cons (de_var 1) (da_cons (de_var 2) da_nil))))))
  dss_nil)
 (dss_one (ds_ret (de_bin od_mod (de_dispIx rg.u66 (nps_cons (nu_add (nu_var 1) (nu_var 2)) (nps_cons (nu_sub (nu_var 1) (nu_var 2)) (nps_cons (nu_mul (nu_var 1) (nu_var 2)) nps_nil))) 0) de_int)))))))
noncomputable def fs_OPS : Defs := [("plus", f_plus), ("minus", f_minus), ("times", f_times), ("over", f_over), ("rest", f_rest), ("less", f_less), ("same", f_same), ("low", f_low), ("high", f_high)]
/-! ### _law_ops_right -/
abbrev s_law_ops_right : Stmt := topS 56
abbrev N_law_ops_right : List Str := ["pool", "names", "turn", "name", "left", "right"]
theorem S_law_ops_right : FnScope N_law_ops_right ["pool"] (defScope s_law_ops_right) := ⟨rfl, rfl, rfl, by decide +kernel, rfl, by decide +kernel, by decide +kernel⟩
noncomputable abbrev L1_law_ops_right : En → Sto → RS :=
 (sIf (mB (m2 oNe (mFn bRepr (aCons (mCallE fs_OPS (m2 (oIxT d_TABS) (mC (.nam "OPS")) (mVar 3)) (aCons (mVar 4) (aCons (mVar 5) aNil))) aNil)) (mFn bRepr (aCons (mCall f_law_made (aCons (mVar 3) (aCons (mVar 4) (aCons (mVar 5) aNil)))) aNil))))
  (sRet (mC (.bl false)))
  sNil)
noncomputable abbrev L2_law_ops_right : En → Sto → RS :=
 (sSeq (sPar 4 5 (aCons (mCall f_law_any_worth (aCons (mVar 0) aNil)) (aCons (mCall f_law_any_worth (aCons (mVar 0) aNil)) aNil)))
 (sFor (iVal (mVar 1)) (gN 3)
  L1_law_ops_right))
noncomputable def b_law_ops_right : En → Sto → RS :=
 (sSeq (sAsg (mLst (aCons (mC (.str "high")) (aCons (mC (.str "less")) (aCons (mC (.str "low")) (aCons (mC (.str "minus")) (aCons (mC (.str "over")) (aCons (mC (.str "plus")) (aCons (mC (.str "rest")) (aCons (mC (.str "same")) (aCons (mC (.str "times")) aNil)))))))))) (gN 1))
 (sSeq (sIf (mB (m2 oNe (mFn (bSortedN d_TABS ["high", "less", "low", "minus", "over", "plus", "rest", "same", "times"]) (aCons (mC (.nam "OPS")) aNil)) (mVar 1)))
  (sRet (mC (.bl false)))
  sNil)
 (sSeq (sFor (iRng1 (aCons (mC (.int 6)) aNil)) (gN 2)
  L2_law_ops_right)
 (sRet (mC (.bl true))))))
noncomputable def f_law_ops_right : List D → Sto → R D := mDef 6 b_law_ops_right
theorem ok_law_ops_right (T : Txt K w mg) (Tf : TopFn K mg "_law_ops_right" s_law_ops_right ["pool"]) (h_law_any_worth : DefOk P w K mg base "_law_any_worth" 1 2 f_law_any_worth) (h_plus : DefOk P w K mg base "plus" 2 1 f_plus) (h_minus : DefOk P w K mg base "minus" 2 1 f_minus) (h_times : DefOk P w K mg base "times" 2 1 f_times) (h_over : DefOk P w K mg base "over" 2 1 f_over) (h_rest : DefOk P w K mg base "rest" 2 1 f_rest) (h_less : DefOk P w K mg base "less" 2 1 f_less) (h_same : DefOk P w K mg base "same" 2 1 f_same) (h_low : DefOk P w K mg base "low" 2 1 f_low) (h_high : DefOk P w K mg base "high" 2 1 f_high) (h_law_made : DefOk P w K mg base "_law_made" 3 1 f_law_made) (hc_OPS : CalsOk P w K mg base 1 2 fs_OPS) : DefOk P w K mg base "_law_ops_right" 1 3 f_law_ops_right := by
  have S := S_law_ops_right
  refine def_ok (N := N_law_ops_right) Tf S rfl (body := b_law_ops_right) fun f cdv A outer s H E rg tk hp => ?_
  exact (dss_cons (ds_set (i := 1) S.nd rfl (by first | exact Or.inl rfl | exact Or.inr rfl) (de_lst (da_cons de_str (da_cons de_str (da_cons de_str (da_cons de_str (da_cons de_str (da_cons de_str (da_cons de_str (da_cons de_str (da_cons de_str da_nil)))))))))))
 (dss_cons (ds_if (dt_cmp ((od_ne rg.r.units)) (de_callB (cd_sortedN rfl T.tabs) (by rfl) T.b_sorted (by decide +kernel) (da_cons (de_globN (by rfl) T.t_OPS) da_nil)) (de_var 1) (nomark _))
  (dss_one (ds_ret de_bl))
  dss_nil)
 (dss_cons (ds_for (vs := [2]) hp rfl (di_rng1 (by rfl) T.b_range (da_cons de_int da_nil)) (dg_name (i := 2) S.nd rfl (by first | exact Or.inl rfl | exact Or.inr rfl))
  (dss_cons (ds_par (i := 4) (j := 5) rfl S.nd rfl rfl (by decide) rfl rfl (da_cons (de_f h_law_any_worth rg (by omega) (by rfl) tk (da_cons (de_var 0) da_nil) rfl (al_cons al_nil)) (da_cons (de_f h_law_any_worth rg (by omega) (by rfl) tk (da_cons (de_var 0) da_nil) rfl (al_cons al_nil)) da_nil)) (by rfl))
 (dss_one (ds_for (vs := [3]) hp rfl (di_val (de_var 1)) (dg_name (i := 3) S.nd rfl (by first | exact Or.inl rfl | exact Or.inr rfl))
  (dss_one (ds_if (dt_cmp ((od_ne rg.r.units)) (de_callB (cd_repr rg.g rg.u66) (by rfl) T.b_repr (by decide +kernel) (da_cons (de_fE hc_OPS (de_ixT T.tabs (de_globN (by rfl) T.t_OPS) (de_var 3) (fun _ _ => rfl)) rg (by omega) tk (da_cons (de_var 4) (da_cons (de_var 5) da_nil)) (al_cons (al_cons al_nil))) da_nil)) (de_callB (cd_repr rg.g rg.u66) (by rfl) T.b_repr (by decide +kernel) (da_cons (de_f h_law_made rg (by omega) (by rfl) tk (da_cons (de_var 3) (da_cons (de_var 4) (da_cons (de_var 5) da_nil))) rfl (al_cons (al_cons (al_cons al_nil)))) da_nil)) (nomark _))
  (dss_one (ds_ret de_bl))
  dss_nil))))))
 (dss_one (ds_ret de_bl)))))
/-! ### _law_sized -/
abbrev s_law_sized : Stmt := topS 54
abbrev N_law_sized : List Str := ["pool", "leaves", "many", "leaf", "op", "one", "left"]
theorem S_law_sized : FnScope N_law_sized ["pool", "leaves", "many"] (defScope s_law_sized) := ⟨rfl, rfl, rfl, by decide +kernel, rfl, by decide +kernel, by decide +kernel⟩
noncomputable def b_law_sized (rec : List D → Sto → R D) : En → Sto → RS :=
 (sSeq (sIf (mB (m2 oLtT (mVar 2) (mC (.int 3))))
  (sSeq (sAsg (m2 oIx (mVar 1) (mCall f_law_take (aCons (mVar 0) (aCons (mFn bLen (aCons (mVar 1) aNil)) aNil)))) (gN 3))
 (sRet (mIf (mB (m2 oEq (mVar 3) (mTup (aCons (mC (.str "many")) aNil)))) (mTup (aCons (mC (.str "many")) (aCons (mCall f_law_take (aCons (mVar 0) (aCons (mC (.int 997)) aNil))) aNil))) (mVar 3))))
  sNil)
 (sSeq (sAsg (m2 oIx (mLst (aCons (mC (.str "plus")) (aCons (mC (.str "minus")) (aCons (mC (.str "times")) (aCons (mC (.str "over")) (aCons (mC (.str "rest")) (aCons (mC (.str "less")) (aCons (mC (.str "same")) (aCons (mC (.str "low")) (aCons (mC (.str "high")) aNil)))))))))) (mCall f_law_take (aCons (mVar 0) (aCons (mC (.int 9)) aNil)))) (gN 4))
 (sSeq (sIf (mB (m2 oEq (m2 oMod (mVar 2) (mC (.int 2))) (mC (.int 1))))
  (sSeq (sAsg (m2 oOr (m2 oDiv (m2 oSub (mVar 2) (mC (.int 1))) (mC (.int 2))) (mC (.int 1))) (gN 5))
 (sRet (mTup (aCons (mVar 4) (aCons (mCall rec (aCons (mVar 0) (aCons (mVar 1) (aCons (mVar 5) aNil)))) (aCons (mCall rec (aCons (mVar 0) (aCons (mVar 1) (aCons (m2 oSub (m2 oSub (mVar 2) (mC (.int 1))) (mVar 5)) aNil)))) aNil))))))
  sNil)
 (sSeq (sAsg (m2 oOr (m2 oDiv (m2 oSub (mVar 2) (mC (.int 1))) (mC (.int 3))) (mC (.int 1))) (gN 5))
 (sSeq (sAsg (mCall rec (aCons (mVar 0) (aCons (mVar 1) (aCons (m2 oSub (m2 oSub (mVar 2) (mC (.int 1))) (m2 oMul (mC (.int 2)) (mVar 5))) aNil)))) (gN 6))
 (sRet (mTup (aCons (mC (.str "if")) (aCons (mVar 6) (aCons (mCall rec (aCons (mVar 0) (aCons (mVar 1) (aCons (mVar 5) aNil)))) (aCons (mCall rec (aCons (mVar 0) (aCons (mVar 1) (aCons (mVar 5) aNil)))) aNil)))))))))))
noncomputable def f_law_sized : Nat → List D → Sto → R D
  | 0 => fun _ _ => .no
  | d + 1 => mDef 7 (b_law_sized (f_law_sized d))
theorem ok_law_sized (T : Txt K w mg) (Tf : TopFn K mg "_law_sized" s_law_sized ["pool", "leaves", "many"]) (h_law_take : DefOk P w K mg base "_law_take" 2 1 f_law_take) : ∀ d, DefOk P w K mg base "_law_sized" 3 (1 + d) (f_law_sized d) := by
  have S := S_law_sized
  refine def_rec (N := N_law_sized) Tf S rfl rfl (fun _ => rfl) (body := b_law_sized) fun d ih f cdv A outer s H E rg tk hp => ?_
  exact (dss_cons (ds_if (dt_cmp (od_ltT rg.r.units0) (de_var 2) de_int (nomark _))
  (dss_cons (ds_set (i := 3) S.nd rfl (by first | exact Or.inl rfl | exact Or.inr rfl) (de_ix (de_var 1) (de_f h_law_take rg (by omega) (by rfl) tk (da_cons (de_var 0) (da_cons (de_callB cd_len (by rfl) T.b_len (by decide +kernel) (da_cons (de_var 1) da_nil)) da_nil)) rfl (al_cons (al_cons al_nil))) (fun _ _ => rfl)))
 (dss_one (ds_ret (de_if (dt_cmp ((od_eq rg.r.units)) (de_var 3) (de_tup (da_cons de_str da_nil)) (nomark _)) (de_tup (da_cons de_str (da_cons (de_f h_law_take rg (by omega) (by rfl) tk (da_cons (de_var 0) (da_cons de_int da_nil)) rfl (al_cons (al_cons al_nil))) da_nil))) (de_var 3)))))
  dss_nil)
 (dss_cons (ds_set (i := 4) S.nd rfl (by first | exact Or.inl rfl | exact Or.inr rfl) (de_ix (de_lst (da_cons de_str (da_cons de_str (da_cons de_str (da_cons de_str (da_cons de_str (da_cons de_str (da_cons de_str (da_cons de_str (da_cons de_str da_nil)))))))))) (de_f h_law_take rg (by omega) (by rfl) tk (da_cons (de_var 0) (da_cons de_int da_nil)) rfl (al_cons (al_cons al_nil))) (fun _ _ => rfl)))
 (dss_cons (ds_if (dt_cmp ((od_eq rg.r.units)) (de_bin od_mod (de_var 2) de_int) de_int (nomark _))
  (dss_cons (ds_set (i := 5) S.nd rfl (by first | exact Or.inl rfl | exact Or.inr rfl) (de_bin od_or (de_bin od_div (de_bin od_sub (de_var 2) de_int) de_int) de_int))
 (dss_one (ds_ret (de_tup (da_cons (de_var 4) (da_cons (de_f ih rg (by omega) (by rfl) tk (da_cons (de_var 0) (da_cons (de_var 1) (da_cons (de_var 5) da_nil))) rfl (al_cons (al_cons (al_cons al_nil)))) (da_cons (de_f ih rg (by omega) (by rfl) tk (da_cons (de_var 0) (da_cons (de_var 1) (da_cons (de_bin od_sub (de_bin od_sub (de_var 2) de_int) (de_var 5)) da_nil))) rfl (al_cons (al_cons (al_cons al_nil)))) da_nil)))))))
  dss_nil)
 (dss_cons (ds_set (i := 5) S.nd rfl (by first | exact Or.inl rfl | exact Or.inr rfl) (de_bin od_or (de_bin od_div (de_bin od_sub (de_var 2) de_int) de_int) de_int))
 (dss_cons (ds_set (i := 6) S.nd rfl (by first | exact Or.inl rfl | exact Or.inr rfl) (de_f ih rg (by omega) (by rfl) tk (da_cons (de_var 0) (da_cons (de_var 1) (da_cons (de_bin od_sub (de_bin od_sub (de_var 2) de_int) (de_bin od_mul de_int (de_var 5))) da_nil))) rfl (al_cons (al_cons (al_cons al_nil)))))
 (dss_one (ds_ret (de_tup (da_cons de_str (da_cons (de_var 6) (da_cons (de_f ih rg (by omega) (by rfl) tk (da_cons (de_var 0) (da_cons (de_var 1) (da_cons (de_var 5) da_nil))) rfl (al_cons (al_cons (al_cons al_nil)))) (da_cons (de_f ih rg (by omega) (by rfl) tk (da_cons (de_var 0) (da_cons (de_var 1) (da_cons (de_var 5) da_nil))) rfl (al_cons (al_cons (al_cons al_nil)))) da_nil))))))))))))
/-! ### _law_value -/
abbrev s_law_value : Stmt := topS 51
abbrev N_law_value : List Str := ["term", "worth", "heap", "word", "one", "other"]
theorem S_law_value : FnScope N_law_value ["term", "worth", "heap"] (defScope s_law_value) := ⟨rfl, rfl, rfl, by decide +kernel, rfl, by decide +kernel, by decide +kernel⟩
noncomputable def b_law_value (rec : List D → Sto → R D) : En → Sto → RS :=
 (sSeq (sIf (mB (mFn bIsInst (aCons (mVar 0) (aCons (mC (.ty "int")) aNil))))
  (sRet (mVar 0))
  sNil)
 (sSeq (sAsg (m2 oIx (mVar 0) (mC (.int 0))) (gN 3))
 (sSeq (sIf (mB (m2 oIn (mVar 3) (mTup (aCons (mC (.str "word")) (aCons (mC (.str "own")) aNil)))))
  (sRet (mVar 1))
  sNil)
 (sSeq (sIf (mB (m2 oEq (mVar 3) (mC (.str "ties"))))
  (sRet (mFn bLen (aCons (mVar 2) aNil)))
  sNil)
 (sSeq (sIf (mB (m2 oEq (mVar 3) (mC (.str "sum"))))
  (sRet (m2 oMod (mFn bSumA (aCons (mVar 2) aNil)) (mC (.int 997))))
  sNil)
 (sSeq (sIf (mB (m2 oIn (mVar 3) (mTup (aCons (mC (.str "least")) (aCons (mC (.str "most")) aNil)))))
  (sRet (mIf (mB (m2 oEq (mVar 2) (mLst aNil))) (mC (.int 0)) (mIf (mB (m2 oEq (mVar 3) (mC (.str "least")))) (mFn bMinA (aCons (mVar 2) aNil)) (mFn bMaxA (aCons (mVar 2) aNil)))))
  sNil)
 (sSeq (sIf (mB (m2 oEq (mVar 3) (mC (.str "many"))))
  (sRet (mMeth fCount (mVar 2) (aCons (m2 oIx (mVar 0) (mC (.int 1))) aNil)))
  sNil)
 (sSeq (sIf (mB (m2 oEq (mVar 3) (mC (.str "if"))))
  (sRet (mCall rec (aCons (m2 oIx (mVar 0) (m2 oAdd (mC (.int 2)) (mFn bInt (aCons (m2 oEq (mCall rec (aCons (m2 oIx (mVar 0) (mC (.int 1))) (aCons (mVar 1) (aCons (mVar 2) aNil)))) (mC (.int 0))) aNil)))) (aCons (mVar 1) (aCons (mVar 2) aNil)))))
  sNil)
 (sSeq (sPar 4 5 (aCons (mCall rec (aCons (m2 oIx (mVar 0) (mC (.int 1))) (aCons (mVar 1) (aCons (mVar 2) aNil)))) (aCons (mCall rec (aCons (m2 oIx (mVar 0) (mC (.int 2))) (aCons (mVar 1) (aCons (mVar 2) aNil)))) aNil)))
 (sRet (mCall f_law_made (aCons (mVar 3) (aCons (mVar 4) (aCons (mVar 5) aNil))))))))))))))
noncomputable def f_law_value : Nat → List D → Sto → R D
  | 0 => fun _ _ => .no
  | d + 1 => mDef 6 (b_law_value (f_law_value d))
theorem ok_law_value (T : Txt K w mg) (Tf : TopFn K mg "_law_value" s_law_value ["term", "worth", "heap"]) (h_law_made : DefOk P w K mg base "_law_made" 3 1 f_law_made) : ∀ d, DefOk P w K mg base "_law_value" 3 (1 + d) (f_law_value d) := by
  have S := S_law_value
  refine def_rec (N := N_law_value) Tf S rfl rfl (fun _ => rfl) (body := b_law_value) fun d ih f cdv A outer s H E rg tk hp => ?_
  exact (dss_cons (ds_if (dt_val (de_callB cd_isinst (by rfl) T.b_isinstance (by decide +kernel) (da_cons (de_var 0) (da_cons (de_ty (by rfl) T.b_int (by decide +kernel)) da_nil))))
  (dss_one (ds_ret (de_var 0)))
  dss_nil)
 (dss_cons (ds_set (i := 3) S.nd rfl (by first | exact Or.inl rfl | exact Or.inr rfl) (de_ix (de_var 0) de_int (fun _ _ => rfl)))
 (dss_cons (ds_if (dt_cmp ((od_in rg.u66)) (de_var 3) (de_tup (da_cons de_str (da_cons de_str da_nil))) (by with_unfolding_all rfl))
  (dss_one (ds_ret (de_var 1)))
  dss_nil)
 (dss_cons (ds_if (dt_cmp ((od_eq rg.r.units)) (de_var 3) de_str (nomark _))
  (dss_one (ds_ret (de_callB cd_len (by rfl) T.b_len (by decide +kernel) (da_cons (de_var 2) da_nil))))
  dss_nil)
 (dss_cons (ds_if (dt_cmp ((od_eq rg.r.units)) (de_var 3) de_str (nomark _))
  (dss_one (ds_ret (de_bin od_mod (de_callB (cd_sumA rfl) (by rfl) T.b_sum (by decide +kernel) (da_cons (de_var 2) da_nil)) de_int)))
  dss_nil)
 (dss_cons (ds_if (dt_cmp ((od_in rg.u66)) (de_var 3) (de_tup (da_cons de_str (da_cons de_str da_nil))) (by with_unfolding_all rfl))
  (dss_one (ds_ret (de_if (dt_cmp ((od_eq rg.r.units)) (de_var 2) (de_lst da_nil) (nomark _)) de_int (de_if (dt_cmp ((od_eq rg.r.units)) (de_var 3) de_str (nomark _)) (de_callB (cd_minA rfl rg.u66) (by rfl) T.b_min (by decide +kernel) (da_cons (de_var 2) da_nil)) (de_callB (cd_maxA rfl rg.u66) (by rfl) T.b_max (by decide +kernel) (da_cons (de_var 2) da_nil))))))
  dss_nil)
 (dss_cons (ds_if (dt_cmp ((od_eq rg.r.units)) (de_var 3) de_str (nomark _))
  (dss_one (ds_ret (de_count (de_var 2) (da_cons (de_ix (de_var 0) de_int (fun _ _ => rfl)) da_nil))))
  dss_nil)
 (dss_cons (ds_if (dt_cmp ((od_eq rg.r.units)) (de_var 3) de_str (nomark _))
  (dss_one (ds_ret (de_f ih rg (by omega) (by rfl) tk (da_cons (de_ix (de_var 0) (de_bin od_add de_int (de_callTy cd_int (by rfl) T.b_int (by decide +kernel) (da_cons (de_cmp ((od_eq rg.r.units)) (de_f ih rg (by omega) (by rfl) tk (da_cons (de_ix (de_var 0) de_int (fun _ _ => rfl)) (da_cons (de_var 1) (da_cons (de_var 2) da_nil))) rfl (al_cons (al_cons (al_cons al_nil)))) de_int (nomark _)) da_nil))) (fun _ _ => rfl)) (da_cons (de_var 1) (da_cons (de_var 2) da_nil))) rfl (al_cons (al_cons (al_cons al_nil))))))
  dss_nil)
 (dss_cons (ds_par (i := 4) (j := 5) rfl S.nd rfl rfl (by decide) rfl rfl (da_cons (de_f ih rg (by omega) (by rfl) tk (da_cons (de_ix (de_var 0) de_int (fun _ _ => rfl)) (da_cons (de_var 1) (da_cons (de_var 2) da_nil))) rfl (al_cons (al_cons (al_cons al_nil)))) (da_cons (de_f ih rg (by omega) (by rfl) tk (da_cons (de_ix (de_var 0) de_int (fun _ _ => rfl)) (da_cons (de_var 1) (da_cons (de_var 2) da_nil))) rfl (al_cons (al_cons (al_cons al_nil)))) da_nil)) (by rfl))
 (dss_one (ds_ret (de_f h_law_made rg (by omega) (by rfl) tk (da_cons (de_var 3) (da_cons (de_var 4) (da_cons (de_var 5) da_nil))) rfl (al_cons (al_cons (al_cons al_nil)))))))))))))))
/-! ### is_below -/
abbrev s_is_below : Stmt := topS 6
abbrev N_is_below : List Str := ["thing", "top"]
theorem S_is_below : FnScope N_is_below ["thing", "top"] (defScope s_is_below) := ⟨rfl, rfl, rfl, by decide +kernel, rfl, by decide +kernel, by decide +kernel⟩
noncomputable def b_is_below : En → Sto → RS :=
 (sRet (mAnd (m2 oIs (mFn bType (aCons (mVar 0) aNil)) (mC (.ty "int"))) (mChain oLe oLtT (mC (.int 0)) (mVar 0) (mVar 1))))
noncomputable def f_is_below : List D → Sto → R D := mDef 2 b_is_below
theorem ok_is_below (T : Txt K w mg) (Tf : TopFn K mg "is_below" s_is_below ["thing", "top"])  : DefOk P w K mg base "is_below" 2 1 f_is_below := by
  have S := S_is_below
  refine def_ok (N := N_is_below) Tf S rfl (body := b_is_below) fun f cdv A outer s H E rg tk hp => ?_
  exact (dss_one (ds_ret (de_and (de_cmp (od_is) (de_callTy cd_type (by rfl) T.b_type (by decide +kernel) (da_cons (de_var 0) da_nil)) (de_ty (by rfl) T.b_int (by decide +kernel)) (nomark _)) (de_one (de_chain (od_le) (od_ltT rg.r.units0) de_int (de_var 0) (de_var 1))))))
/-! ### is_worth -/
abbrev s_is_worth : Stmt := topS 34
abbrev N_is_worth : List Str := ["thing"]
theorem S_is_worth : FnScope N_is_worth ["thing"] (defScope s_is_worth) := ⟨rfl, rfl, rfl, by decide +kernel, rfl, by decide +kernel, by decide +kernel⟩
noncomputable def b_is_worth : En → Sto → RS :=
 (sRet (mCall f_is_below (aCons (mVar 0) (aCons (mC (.int 997)) aNil))))
noncomputable def f_is_worth : List D → Sto → R D := mDef 1 b_is_worth
theorem ok_is_worth (T : Txt K w mg) (Tf : TopFn K mg "is_worth" s_is_worth ["thing"]) (h_is_below : DefOk P w K mg base "is_below" 2 1 f_is_below) : DefOk P w K mg base "is_worth" 1 2 f_is_worth := by
  have S := S_is_worth
  refine def_ok (N := N_is_worth) Tf S rfl (body := b_is_worth) fun f cdv A outer s H E rg tk hp => ?_
  exact (dss_one (ds_ret (de_f h_is_below rg (by omega) (by rfl) tk (da_cons (de_var 0) (da_cons (de_globI (by rfl) T.c_WORTHS) da_nil)) rfl (al_cons (al_cons al_nil)))))
/-! ### count_terms -/
abbrev s_count_terms : Stmt := topS 35
abbrev N_count_terms : List Str := ["thing", "bare", "pair", "deep", "many", "head", "part", "size"]
theorem S_count_terms : FnScope N_count_terms ["thing", "bare", "pair", "deep"] (defScope s_count_terms) := ⟨rfl, rfl, rfl, by decide +kernel, rfl, by decide +kernel, by decide +kernel⟩
noncomputable def b_count_terms (rec : List D → Sto → R D) : En → Sto → RS :=
 (sSeq (sAsg (mFn bLen (aCons (mVar 0) aNil)) (gN 4))
 (sSeq (sAsg (m2 oIx (mVar 0) (mC (.int 0))) (gN 5))
 (sSeq (sIf (tmOr (mB (m2 oEq (mVar 3) (mC (.int 0)))) (tmAnd (mB (m2 oEq (mVar 4) (mC (.int 3)))) (tmOr (mB (m2 oIsNot (mFn bType (aCons (mVar 5) aNil)) (mC (.ty "str")))) (mB (m2 (oNotInT d_TABS) (mVar 5) (mC (.nam "OPS")))))))
  (sRet (mC (.int 41)))
  sNil)
 (sSeq (sIf (tmAnd (mB (m2 oGt (mVar 4) (mC (.int 3)))) (tmOr (mB (m2 oGt (mVar 4) (mC (.int 4)))) (mB (m2 oNe (mVar 5) (mC (.str "if"))))))
  (sRet (mC (.int 41)))
  sNil)
 (sSeq (sFor (iVal (mSl (mVar 0) (pSome (mC (.int 1))) pNone)) (gN 6)
  (sIf (mB (m2 oIs (mFn bType (aCons (mVar 6) aNil)) (mC (.ty "tuple"))))
  (sSeq (sAsg (mFn bLen (aCons (mVar 6) aNil)) (gN 7))
 (sIf (mB (m2 oEq (mVar 7) (mC (.int 1))))
  (sIf (mB (m2 oNotIn (m2 oIx (mVar 6) (mC (.int 0))) (mVar 1)))
  (sRet (mC (.int 41)))
  sNil)
  (sIf (mB (m2 oGt (mVar 7) (mC (.int 2))))
  (sAug 4 (m2 oSub (mCall rec (aCons (mVar 6) (aCons (mVar 1) (aCons (mVar 2) (aCons (m2 oSub (mVar 3) (mC (.int 1))) aNil))))) (mC (.int 1))) oAddI)
  (sIf (tmOr (mB (m2 oEq (mVar 7) (mC (.int 0)))) (tmOr (mB (m2 oNotIn (m2 oIx (mVar 6) (mC (.int 0))) (mVar 2))) (tmNot (mB (mCall f_is_worth (aCons (m2 oIx (mVar 6) (mC (.int 1))) aNil))))))
  (sRet (mC (.int 41)))
  sNil))))
  (sIf (tmOr (mB (m2 oIsNot (mFn bType (aCons (mVar 6) aNil)) (mC (.ty "int")))) (tmNot (mB (mChain oLe oLtT (mC (.int 0)) (mVar 6) (mC (.int 997))))))
  (sRet (mC (.int 41)))
  sNil)))
 (sRet (mVar 4)))))))
noncomputable def f_count_terms : Nat → List D → Sto → R D
  | 0 => fun _ _ => .no
  | d + 1 => mDef 8 (b_count_terms (f_count_terms d))
theorem ok_count_terms (T : Txt K w mg) (Tf : TopFn K mg "count_terms" s_count_terms ["thing", "bare", "pair", "deep"]) (h_is_worth : DefOk P w K mg base "is_worth" 1 2 f_is_worth) : ∀ d, DefOk P w K mg base "count_terms" 4 (2 + d) (f_count_terms d) := by
  have S := S_count_terms
  refine def_rec (N := N_count_terms) Tf S rfl rfl (fun _ => rfl) (body := b_count_terms) fun d ih f cdv A outer s H E rg tk hp => ?_
  exact (dss_cons (ds_set (i := 4) S.nd rfl (by first | exact Or.inl rfl | exact Or.inr rfl) (de_callB cd_len (by rfl) T.b_len (by decide +kernel) (da_cons (de_var 0) da_nil)))
 (dss_cons (ds_set (i := 5) S.nd rfl (by first | exact Or.inl rfl | exact Or.inr rfl) (de_ix (de_var 0) de_int (fun _ _ => rfl)))
 (dss_cons (ds_if (dt_w (dw_or (dt_cmp ((od_eq rg.r.units)) (de_var 3) de_int (nomark _)) (dw_or1 (dt_w (dw_and (dt_cmp ((od_eq rg.r.units)) (de_var 4) de_int (nomark _)) (dw_and1 (dt_w (dw_or (dt_cmp (od_isnot) (de_callTy cd_type (by rfl) T.b_type (by decide +kernel) (da_cons (de_var 5) da_nil)) (de_ty (by rfl) T.b_str (by decide +kernel)) (nomark _)) (dw_or1 (dt_cmp (od_notinT T.tabs) (de_var 5) (de_globN (by rfl) T.t_OPS) (by with_unfolding_all rfl)))))))))))
  (dss_one (ds_ret (de_globI (by rfl) T.c_NO_TERM)))
  dss_nil)
 (dss_cons (ds_if (dt_w (dw_and (dt_cmp (od_gt) (de_var 4) de_int (nomark _)) (dw_and1 (dt_w (dw_or (dt_cmp (od_gt) (de_var 4) de_int (nomark _)) (dw_or1 (dt_cmp ((od_ne rg.r.units)) (de_var 5) de_str (nomark _))))))))
  (dss_one (ds_ret (de_globI (by rfl) T.c_NO_TERM)))
  dss_nil)
 (dss_cons (ds_for (vs := [6]) hp rfl (di_val (de_sl (de_var 0) (dp_some de_int) dp_none)) (dg_name (i := 6) S.nd rfl (by first | exact Or.inl rfl | exact Or.inr rfl))
  (dss_one (ds_if (dt_cmp (od_is) (de_callTy cd_type (by rfl) T.b_type (by decide +kernel) (da_cons (de_var 6) da_nil)) (de_ty (by rfl) T.b_tuple (by decide +kernel)) (nomark _))
  (dss_cons (ds_set (i := 7) S.nd rfl (by first | exact Or.inl rfl | exact Or.inr rfl) (de_callB cd_len (by rfl) T.b_len (by decide +kernel) (da_cons (de_var 6) da_nil)))
 (dss_one (ds_if (dt_cmp ((od_eq rg.r.units)) (de_var 7) de_int (nomark _))
  (dss_one (ds_if (dt_cmp ((od_notin rg.u66)) (de_ix (de_var 6) de_int (fun _ _ => rfl)) (de_var 1) (by with_unfolding_all rfl))
  (dss_one (ds_ret (de_globI (by rfl) T.c_NO_TERM)))
  dss_nil))
  (dss_one (ds_if (dt_cmp (od_gt) (de_var 7) de_int (nomark _))
  (dss_one (ds_aug (i := 4) S.nd rfl (by first | exact Or.inl rfl | exact Or.inr rfl) (de_bin od_sub (de_f ih rg (by omega) (by rfl) tk (da_cons (de_var 6) (da_cons (de_var 1) (da_cons (de_var 2) (da_cons (de_bin od_sub (de_var 3) de_int) da_nil)))) rfl (al_cons (al_cons (al_cons (al_cons al_nil))))) de_int) pd_add))
  (dss_one (ds_if (dt_w (dw_or (dt_cmp ((od_eq rg.r.units)) (de_var 7) de_int (nomark _)) (dw_or (dt_cmp ((od_notin rg.u66)) (de_ix (de_var 6) de_int (fun _ _ => rfl)) (de_var 2) (by with_unfolding_all rfl)) (dw_or1 (dt_not (dt_val (de_f h_is_worth rg (by omega) (by rfl) tk (da_cons (de_ix (de_var 6) de_int (fun _ _ => rfl)) da_nil) rfl (al_cons al_nil))))))))
  (dss_one (ds_ret (de_globI (by rfl) T.c_NO_TERM)))
  dss_nil)))))))
  (dss_one (ds_if (dt_w (dw_or (dt_cmp (od_isnot) (de_callTy cd_type (by rfl) T.b_type (by decide +kernel) (da_cons (de_var 6) da_nil)) (de_ty (by rfl) T.b_int (by decide +kernel)) (nomark _)) (dw_or1 (dt_not (dt_chain (od_le) (od_ltT rg.r.units0) de_int (de_var 6) (de_globI (by rfl) T.c_WORTHS))))))
  (dss_one (ds_ret (de_globI (by rfl) T.c_NO_TERM)))
  dss_nil)))))
 (dss_one (ds_ret (de_var 4))))))))
/-! ### are_terms -/
abbrev s_are_terms : Stmt := topS 36
abbrev N_are_terms : List Str := ["things", "bare", "pair", "thing", "size"]
theorem S_are_terms : FnScope N_are_terms ["things", "bare", "pair"] (defScope s_are_terms) := ⟨rfl, rfl, rfl, by decide +kernel, rfl, by decide +kernel, by decide +kernel⟩
noncomputable abbrev L1_are_terms : En → Sto → RS :=
 (sIf (mB (m2 oIs (mFn bType (aCons (mVar 3) aNil)) (mC (.ty "tuple"))))
  (sSeq (sAsg (mFn bLen (aCons (mVar 3) aNil)) (gN 4))
 (sIf (mB (m2 oEq (mVar 4) (mC (.int 1))))
  (sIf (mB (m2 oNotIn (m2 oIx (mVar 3) (mC (.int 0))) (mVar 1)))
  (sRet (mC (.bl false)))
  sNil)
  (sIf (mB (m2 oGt (mVar 4) (mC (.int 2))))
  (sIf (mB (m2 oGt (mCall (f_count_terms 45) (aCons (mVar 3) (aCons (mVar 1) (aCons (mVar 2) (aCons (mC (.int 5)) aNil))))) (mC (.int 40))))
  (sRet (mC (.bl false)))
  sNil)
  (sIf (tmOr (mB (m2 oEq (mVar 4) (mC (.int 0)))) (tmOr (mB (m2 oNotIn (m2 oIx (mVar 3) (mC (.int 0))) (mVar 2))) (tmNot (mB (mCall f_is_worth (aCons (m2 oIx (mVar 3) (mC (.int 1))) aNil))))))
  (sRet (mC (.bl false)))
  sNil))))
  (sIf (tmOr (mB (m2 oIsNot (mFn bType (aCons (mVar 3) aNil)) (mC (.ty "int")))) (tmNot (mB (mChain oLe oLtT (mC (.int 0)) (mVar 3) (mC (.int 997))))))
  (sRet (mC (.bl false)))
  sNil))
noncomputable def b_are_terms : En → Sto → RS :=
 (sSeq (sFor (iVal (mVar 0)) (gN 3)
  L1_are_terms)
 (sRet (mC (.bl true))))
noncomputable def f_are_terms : List D → Sto → R D := mDef 5 b_are_terms
theorem ok_are_terms (T : Txt K w mg) (Tf : TopFn K mg "are_terms" s_are_terms ["things", "bare", "pair"]) (h_count_terms : DefOk P w K mg base "count_terms" 4 47 (f_count_terms 45)) (h_is_worth : DefOk P w K mg base "is_worth" 1 2 f_is_worth) : DefOk P w K mg base "are_terms" 3 48 f_are_terms := by
  have S := S_are_terms
  refine def_ok (N := N_are_terms) Tf S rfl (body := b_are_terms) fun f cdv A outer s H E rg tk hp => ?_
  exact (dss_cons (ds_for (vs := [3]) hp rfl (di_val (de_var 0)) (dg_name (i := 3) S.nd rfl (by first | exact Or.inl rfl | exact Or.inr rfl))
  (dss_one (ds_if (dt_cmp (od_is) (de_callTy cd_type (by rfl) T.b_type (by decide +kernel) (da_cons (de_var 3) da_nil)) (de_ty (by rfl) T.b_tuple (by decide +kernel)) (nomark _))
  (dss_cons (ds_set (i := 4) S.nd rfl (by first | exact Or.inl rfl | exact Or.inr rfl) (de_callB cd_len (by rfl) T.b_len (by decide +kernel) (da_cons (de_var 3) da_nil)))
 (dss_one (ds_if (dt_cmp ((od_eq rg.r.units)) (de_var 4) de_int (nomark _))
  (dss_one (ds_if (dt_cmp ((od_notin rg.u66)) (de_ix (de_var 3) de_int (fun _ _ => rfl)) (de_var 1) (by with_unfolding_all rfl))
  (dss_one (ds_ret de_bl))
  dss_nil))
  (dss_one (ds_if (dt_cmp (od_gt) (de_var 4) de_int (nomark _))
  (dss_one (ds_if (dt_cmp (od_gt) (de_f h_count_terms rg (by omega) (by rfl) tk (da_cons (de_var 3) (da_cons (de_var 1) (da_cons (de_var 2) (da_cons (de_globI (by rfl) T.c_MOST_WITHIN) da_nil)))) rfl (al_cons (al_cons (al_cons (al_cons al_nil))))) (de_globI (by rfl) T.c_MOST_TERMS) (nomark _))
  (dss_one (ds_ret de_bl))
  dss_nil))
  (dss_one (ds_if (dt_w (dw_or (dt_cmp ((od_eq rg.r.units)) (de_var 4) de_int (nomark _)) (dw_or (dt_cmp ((od_notin rg.u66)) (de_ix (de_var 3) de_int (fun _ _ => rfl)) (de_var 2) (by with_unfolding_all rfl)) (dw_or1 (dt_not (dt_val (de_f h_is_worth rg (by omega) (by rfl) tk (da_cons (de_ix (de_var 3) de_int (fun _ _ => rfl)) da_nil) rfl (al_cons al_nil))))))))
  (dss_one (ds_ret de_bl))
  dss_nil)))))))
  (dss_one (ds_if (dt_w (dw_or (dt_cmp (od_isnot) (de_callTy cd_type (by rfl) T.b_type (by decide +kernel) (da_cons (de_var 3) da_nil)) (de_ty (by rfl) T.b_int (by decide +kernel)) (nomark _)) (dw_or1 (dt_not (dt_chain (od_le) (od_ltT rg.r.units0) de_int (de_var 3) (de_globI (by rfl) T.c_WORTHS))))))
  (dss_one (ds_ret de_bl))
  dss_nil)))))
 (dss_one (ds_ret de_bl)))
/-! ### are_firsts -/
abbrev s_are_firsts : Stmt := topS 37
abbrev N_are_firsts : List Str := ["things"]
theorem S_are_firsts : FnScope N_are_firsts ["things"] (defScope s_are_firsts) := ⟨rfl, rfl, rfl, by decide +kernel, rfl, by decide +kernel, by decide +kernel⟩
noncomputable def b_are_firsts : En → Sto → RS :=
 (sRet (mCall f_are_terms (aCons (mVar 0) (aCons (mC d_BARE_OF_FIRST) (aCons (mC d_PAIR_OF_FIRST) aNil)))))
noncomputable def f_are_firsts : List D → Sto → R D := mDef 1 b_are_firsts
theorem ok_are_firsts (T : Txt K w mg) (Tf : TopFn K mg "are_firsts" s_are_firsts ["things"]) (h_are_terms : DefOk P w K mg base "are_terms" 3 48 f_are_terms) : DefOk P w K mg base "are_firsts" 1 49 f_are_firsts := by
  have S := S_are_firsts
  refine def_ok (N := N_are_firsts) Tf S rfl (body := b_are_firsts) fun f cdv A outer s H E rg tk hp => ?_
  exact (dss_one (ds_ret (de_f h_are_terms rg (by omega) (by rfl) tk (da_cons (de_var 0) (da_cons (de_globD (by rfl) T.c_BARE_OF_FIRST) (da_cons (de_globD (by rfl) T.c_PAIR_OF_FIRST) da_nil))) rfl (al_cons (al_cons (al_cons al_nil))))))
/-! ### is_first -/
abbrev s_is_first : Stmt := topS 39
abbrev N_is_first : List Str := ["thing"]
theorem S_is_first : FnScope N_is_first ["thing"] (defScope s_is_first) := ⟨rfl, rfl, rfl, by decide +kernel, rfl, by decide +kernel, by decide +kernel⟩
noncomputable def b_is_first : En → Sto → RS :=
 (sRet (mCall f_are_firsts (aCons (mTup (aCons (mVar 0) aNil)) aNil)))
noncomputable def f_is_first : List D → Sto → R D := mDef 1 b_is_first
theorem ok_is_first (T : Txt K w mg) (Tf : TopFn K mg "is_first" s_is_first ["thing"]) (h_are_firsts : DefOk P w K mg base "are_firsts" 1 49 f_are_firsts) : DefOk P w K mg base "is_first" 1 50 f_is_first := by
  have S := S_is_first
  refine def_ok (N := N_is_first) Tf S rfl (body := b_is_first) fun f cdv A outer s H E rg tk hp => ?_
  exact (dss_one (ds_ret (de_f h_are_firsts rg (by omega) (by rfl) tk (da_cons (de_tup (da_cons (de_var 0) da_nil)) da_nil) rfl (al_cons al_nil))))
/-! ### are_nexts -/
abbrev s_are_nexts : Stmt := topS 38
abbrev N_are_nexts : List Str := ["things"]
theorem S_are_nexts : FnScope N_are_nexts ["things"] (defScope s_are_nexts) := ⟨rfl, rfl, rfl, by decide +kernel, rfl, by decide +kernel, by decide +kernel⟩
noncomputable def b_are_nexts : En → Sto → RS :=
 (sRet (mCall f_are_terms (aCons (mVar 0) (aCons (mC d_BARE_OF_NEXT) (aCons (mC d_PAIR_OF_NEXT) aNil)))))
noncomputable def f_are_nexts : List D → Sto → R D := mDef 1 b_are_nexts
theorem ok_are_nexts (T : Txt K w mg) (Tf : TopFn K mg "are_nexts" s_are_nexts ["things"]) (h_are_terms : DefOk P w K mg base "are_terms" 3 48 f_are_terms) : DefOk P w K mg base "are_nexts" 1 49 f_are_nexts := by
  have S := S_are_nexts
  refine def_ok (N := N_are_nexts) Tf S rfl (body := b_are_nexts) fun f cdv A outer s H E rg tk hp => ?_
  exact (dss_one (ds_ret (de_f h_are_terms rg (by omega) (by rfl) tk (da_cons (de_var 0) (da_cons (de_globD (by rfl) T.c_BARE_OF_NEXT) (da_cons (de_globD (by rfl) T.c_PAIR_OF_NEXT) da_nil))) rfl (al_cons (al_cons (al_cons al_nil))))))
/-! ### is_next -/
abbrev s_is_next : Stmt := topS 40
abbrev N_is_next : List Str := ["thing"]
theorem S_is_next : FnScope N_is_next ["thing"] (defScope s_is_next) := ⟨rfl, rfl, rfl, by decide +kernel, rfl, by decide +kernel, by decide +kernel⟩
noncomputable def b_is_next : En → Sto → RS :=
 (sRet (mCall f_are_nexts (aCons (mTup (aCons (mVar 0) aNil)) aNil)))
noncomputable def f_is_next : List D → Sto → R D := mDef 1 b_is_next
theorem ok_is_next (T : Txt K w mg) (Tf : TopFn K mg "is_next" s_is_next ["thing"]) (h_are_nexts : DefOk P w K mg base "are_nexts" 1 49 f_are_nexts) : DefOk P w K mg base "is_next" 1 50 f_is_next := by
  have S := S_is_next
  refine def_ok (N := N_is_next) Tf S rfl (body := b_is_next) fun f cdv A outer s H E rg tk hp => ?_
  exact (dss_one (ds_ret (de_f h_are_nexts rg (by omega) (by rfl) tk (da_cons (de_tup (da_cons (de_var 0) da_nil)) da_nil) rfl (al_cons al_nil))))
/-! ### need_term -/
abbrev s_need_term : Stmt := topS 41
abbrev N_need_term : List Str := ["term"]
theorem S_need_term : FnScope N_need_term ["term"] (defScope s_need_term) := ⟨rfl, rfl, rfl, by decide +kernel, rfl, by decide +kernel, by decide +kernel⟩
noncomputable def b_need_term : En → Sto → RS :=
 (sIf (tmAnd (tmNot (mB (mCall f_is_first (aCons (mVar 0) aNil)))) (tmNot (mB (mCall f_is_next (aCons (mVar 0) aNil)))))
  sNo
  sNil)
noncomputable def f_need_term : List D → Sto → R D := mDef 1 b_need_term
theorem ok_need_term (T : Txt K w mg) (Tf : TopFn K mg "need_term" s_need_term ["term"]) (h_is_first : DefOk P w K mg base "is_first" 1 50 f_is_first) (h_is_next : DefOk P w K mg base "is_next" 1 50 f_is_next) : DefOk P w K mg base "need_term" 1 51 f_need_term := by
  have S := S_need_term
  refine def_ok (N := N_need_term) Tf S rfl (body := b_need_term) fun f cdv A outer s H E rg tk hp => ?_
  exact (dss_one (ds_if (dt_w (dw_and (dt_not (dt_val (de_f h_is_first rg (by omega) (by rfl) tk (da_cons (de_var 0) da_nil) rfl (al_cons al_nil)))) (dw_and1 (dt_not (dt_val (de_f h_is_next rg (by omega) (by rfl) tk (da_cons (de_var 0) da_nil) rfl (al_cons al_nil)))))))
  (dss_one ds_never)
  dss_nil))
/-! ### own_worth -/
abbrev s_own_worth : Stmt := topS 28
abbrev N_own_worth : List Str := ["worth", "heap"]
theorem S_own_worth : FnScope N_own_worth ["worth", "heap"] (defScope s_own_worth) := ⟨rfl, rfl, rfl, by decide +kernel, rfl, by decide +kernel, by decide +kernel⟩
noncomputable def b_own_worth : En → Sto → RS :=
 (sRet (mVar 0))
noncomputable def f_own_worth : List D → Sto → R D := mDef 2 b_own_worth
theorem ok_own_worth (T : Txt K w mg) (Tf : TopFn K mg "own_worth" s_own_worth ["worth", "heap"])  : DefOk P w K mg base "own_worth" 2 1 f_own_worth := by
  have S := S_own_worth
  refine def_ok (N := N_own_worth) Tf S rfl (body := b_own_worth) fun f cdv A outer s H E rg tk hp => ?_
  exact (dss_one (ds_ret (de_var 0)))
/-! ### heap_ties -/
abbrev s_heap_ties : Stmt := topS 29
abbrev N_heap_ties : List Str := ["worth", "heap"]
theorem S_heap_ties : FnScope N_heap_ties ["worth", "heap"] (defScope s_heap_ties) := ⟨rfl, rfl, rfl, by decide +kernel, rfl, by decide +kernel, by decide +kernel⟩
noncomputable def b_heap_ties : En → Sto → RS :=
 (sRet (mFn bLen (aCons (mVar 1) aNil)))
noncomputable def f_heap_ties : List D → Sto → R D := mDef 2 b_heap_ties
theorem ok_heap_ties (T : Txt K w mg) (Tf : TopFn K mg "heap_ties" s_heap_ties ["worth", "heap"])  : DefOk P w K mg base "heap_ties" 2 1 f_heap_ties := by
  have S := S_heap_ties
  refine def_ok (N := N_heap_ties) Tf S rfl (body := b_heap_ties) fun f cdv A outer s H E rg tk hp => ?_
  exact (dss_one (ds_ret (de_callB cd_len (by rfl) T.b_len (by decide +kernel) (da_cons (de_var 1) da_nil))))
/-! ### heap_sum -/
abbrev s_heap_sum : Stmt := topS 30
abbrev N_heap_sum : List Str := ["worth", "heap"]
theorem S_heap_sum : FnScope N_heap_sum ["worth", "heap"] (defScope s_heap_sum) := ⟨rfl, rfl, rfl, by decide +kernel, rfl, by decide +kernel, by decide +kernel⟩
noncomputable def b_heap_sum : En → Sto → RS :=
 (sRet (m2 oMod (mFn bSumA (aCons (mVar 1) aNil)) (mC (.int 997))))
noncomputable def f_heap_sum : List D → Sto → R D := mDef 2 b_heap_sum
theorem ok_heap_sum (T : Txt K w mg) (Tf : TopFn K mg "heap_sum" s_heap_sum ["worth", "heap"])  : DefOk P w K mg base "heap_sum" 2 1 f_heap_sum := by
  have S := S_heap_sum
  refine def_ok (N := N_heap_sum) Tf S rfl (body := b_heap_sum) fun f cdv A outer s H E rg tk hp => ?_
  exact (dss_one (ds_ret (de_bin od_mod (de_callB (cd_sumA rfl) (by rfl) T.b_sum (by decide +kernel) (da_cons (de_var 1) da_nil)) (de_globI (by rfl) T.c_WORTHS))))
/-! ### heap_least -/
abbrev s_heap_least : Stmt := topS 31
abbrev N_heap_least : List Str := ["worth", "heap"]
theorem S_heap_least : FnScope N_heap_least ["worth", "heap"] (defScope s_heap_least) := ⟨rfl, rfl, rfl, by decide +kernel, rfl, by decide +kernel, by decide +kernel⟩
noncomputable def b_heap_least : En → Sto → RS :=
 (sRet (mIf (mB (m2 oGt (mFn bLen (aCons (mVar 1) aNil)) (mC (.int 0)))) (mFn bMinA (aCons (mVar 1) aNil)) (mC (.int 0))))
noncomputable def f_heap_least : List D → Sto → R D := mDef 2 b_heap_least
theorem ok_heap_least (T : Txt K w mg) (Tf : TopFn K mg "heap_least" s_heap_least ["worth", "heap"])  : DefOk P w K mg base "heap_least" 2 1 f_heap_least := by
  have S := S_heap_least
  refine def_ok (N := N_heap_least) Tf S rfl (body := b_heap_least) fun f cdv A outer s H E rg tk hp => ?_
  exact (dss_one (ds_ret (de_if (dt_cmp (od_gt) (de_callB cd_len (by rfl) T.b_len (by decide +kernel) (da_cons (de_var 1) da_nil)) de_int (nomark _)) (de_callB (cd_minA rfl rg.u66) (by rfl) T.b_min (by decide +kernel) (da_cons (de_var 1) da_nil)) de_int)))
/-! ### heap_most -/
abbrev s_heap_most : Stmt := topS 32
abbrev N_heap_most : List Str := ["worth", "heap"]
theorem S_heap_most : FnScope N_heap_most ["worth", "heap"] (defScope s_heap_most) := ⟨rfl, rfl, rfl, by decide +kernel, rfl, by decide +kernel, by decide +kernel⟩
noncomputable def b_heap_most : En → Sto → RS :=
 (sRet (mIf (mB (m2 oGt (mFn bLen (aCons (mVar 1) aNil)) (mC (.int 0)))) (mFn bMaxA (aCons (mVar 1) aNil)) (mC (.int 0))))
noncomputable def f_heap_most : List D → Sto → R D := mDef 2 b_heap_most
theorem ok_heap_most (T : Txt K w mg) (Tf : TopFn K mg "heap_most" s_heap_most ["worth", "heap"])  : DefOk P w K mg base "heap_most" 2 1 f_heap_most := by
  have S := S_heap_most
  refine def_ok (N := N_heap_most) Tf S rfl (body := b_heap_most) fun f cdv A outer s H E rg tk hp => ?_
  exact (dss_one (ds_ret (de_if (dt_cmp (od_gt) (de_callB cd_len (by rfl) T.b_len (by decide +kernel) (da_cons (de_var 1) da_nil)) de_int (nomark _)) (de_callB (cd_maxA rfl rg.u66) (by rfl) T.b_max (by decide +kernel) (da_cons (de_var 1) da_nil)) de_int)))
noncomputable def fs_BARE : Defs := [("own_worth", f_own_worth), ("heap_ties", f_heap_ties), ("heap_sum", f_heap_sum), ("heap_least", f_heap_least), ("heap_most", f_heap_most)]
/-! ### worth_of -/
abbrev s_worth_of : Stmt := topS 42
abbrev N_worth_of : List Str := ["term", "worth", "heap", "size", "telling", "action", "chosen"]
theorem S_worth_of : FnScope N_worth_of ["term", "worth", "heap"] (defScope s_worth_of) := ⟨rfl, rfl, rfl, by decide +kernel, rfl, by decide +kernel, by decide +kernel⟩
noncomputable def b_worth_of (rec : List D → Sto → R D) : En → Sto → RS :=
 (sSeq (sIf (mB (m2 oIs (mFn bType (aCons (mVar 0) aNil)) (mC (.ty "int"))))
  (sRet (mVar 0))
  sNil)
 (sSeq (sAsg (mFn bLen (aCons (mVar 0) aNil)) (gN 3))
 (sSeq (sIf (mB (m2 oEq (mVar 3) (mC (.int 1))))
  (sSeq (sAsg (m2 (oIxT d_TABS) (mC (.nam "BARE")) (m2 oIx (mVar 0) (mC (.int 0)))) (gN 4))
 (sRet (mCallL fs_BARE 4 (aCons (mVar 1) (aCons (mVar 2) aNil)))))
  sNil)
 (sSeq (sIf (mB (m2 oEq (mVar 3) (mC (.int 2))))
  (sRet (mMethT fCountT (mVar 2) (aCons (m2 oIx (mVar 0) (mC (.int 1))) aNil)))
  sNil)
 (sSeq (sIf (mB (m2 oEq (mVar 3) (mC (.int 3))))
  (sSeq (sAsg (m2 (oIxT d_TABS) (mC (.nam "OPS")) (m2 oIx (mVar 0) (mC (.int 0)))) (gN 5))
 (sRet (mCallL fs_OPS 5 (aCons (mCall rec (aCons (m2 oIx (mVar 0) (mC (.int 1))) (aCons (mVar 1) (aCons (mVar 2) aNil)))) (aCons (mCall rec (aCons (m2 oIx (mVar 0) (mC (.int 2))) (aCons (mVar 1) (aCons (mVar 2) aNil)))) aNil)))))
  sNil)
 (sSeq (sAsg (mIf (mB (m2 oEq (mCall rec (aCons (m2 oIx (mVar 0) (mC (.int 1))) (aCons (mVar 1) (aCons (mVar 2) aNil)))) (mC (.int 0)))) (m2 oIx (mVar 0) (mC (.int 3))) (m2 oIx (mVar 0) (mC (.int 2)))) (gN 6))
 (sRet (mCall rec (aCons (mVar 6) (aCons (mVar 1) (aCons (mVar 2) aNil)))))))))))
noncomputable def f_worth_of : Nat → List D → Sto → R D
  | 0 => fun _ _ => .no
  | d + 1 => mDef 7 (b_worth_of (f_worth_of d))
theorem ok_worth_of (T : Txt K w mg) (Tf : TopFn K mg "worth_of" s_worth_of ["term", "worth", "heap"]) (h_own_worth : DefOk P w K mg base "own_worth" 2 1 f_own_worth) (h_heap_ties : DefOk P w K mg base "heap_ties" 2 1 f_heap_ties) (h_heap_sum : DefOk P w K mg base "heap_sum" 2 1 f_heap_sum) (h_heap_least : DefOk P w K mg base "heap_least" 2 1 f_heap_least) (h_heap_most : DefOk P w K mg base "heap_most" 2 1 f_heap_most) (h_plus : DefOk P w K mg base "plus" 2 1 f_plus) (h_minus : DefOk P w K mg base "minus" 2 1 f_minus) (h_times : DefOk P w K mg base "times" 2 1 f_times) (h_over : DefOk P w K mg base "over" 2 1 f_over) (h_rest : DefOk P w K mg base "rest" 2 1 f_rest) (h_less : DefOk P w K mg base "less" 2 1 f_less) (h_same : DefOk P w K mg base "same" 2 1 f_same) (h_low : DefOk P w K mg base "low" 2 1 f_low) (h_high : DefOk P w K mg base "high" 2 1 f_high) (hc_BARE : CalsOk P w K mg base 1 2 fs_BARE) (hc_OPS : CalsOk P w K mg base 1 2 fs_OPS) : ∀ d, DefOk P w K mg base "worth_of" 3 (1 + d) (f_worth_of d) := by
  have S := S_worth_of
  refine def_rec (N := N_worth_of) Tf S rfl rfl (fun _ => rfl) (body := b_worth_of) fun d ih f cdv A outer s H E rg tk hp => ?_
  exact (dss_cons (ds_if (dt_cmp (od_is) (de_callTy cd_type (by rfl) T.b_type (by decide +kernel) (da_cons (de_var 0) da_nil)) (de_ty (by rfl) T.b_int (by decide +kernel)) (nomark _))
  (dss_one (ds_ret (de_var 0)))
  dss_nil)
 (dss_cons (ds_set (i := 3) S.nd rfl (by first | exact Or.inl rfl | exact Or.inr rfl) (de_callB cd_len (by rfl) T.b_len (by decide +kernel) (da_cons (de_var 0) da_nil)))
 (dss_cons (ds_if (dt_cmp ((od_eq rg.r.units)) (de_var 3) de_int (nomark _))
  (dss_cons (ds_set (i := 4) S.nd rfl (by first | exact Or.inl rfl | exact Or.inr rfl) (de_ixT T.tabs (de_globN (by rfl) T.t_BARE) (de_ix (de_var 0) de_int (fun _ _ => rfl)) (fun _ _ => rfl)))
 (dss_one (ds_ret (de_fL hc_BARE rg (by omega) rfl (by first | exact Or.inl rfl | exact Or.inr rfl) tk (da_cons (de_var 1) (da_cons (de_var 2) da_nil)) (al_cons (al_cons al_nil))))))
  dss_nil)
 (dss_cons (ds_if (dt_cmp ((od_eq rg.r.units)) (de_var 3) de_int (nomark _))
  (dss_one (ds_ret (de_countT rg.u66 (de_var 2) (da_cons (de_ix (de_var 0) de_int (fun _ _ => rfl)) da_nil))))
  dss_nil)
 (dss_cons (ds_if (dt_cmp ((od_eq rg.r.units)) (de_var 3) de_int (nomark _))
  (dss_cons (ds_set (i := 5) S.nd rfl (by first | exact Or.inl rfl | exact Or.inr rfl) (de_ixT T.tabs (de_globN (by rfl) T.t_OPS) (de_ix (de_var 0) de_int (fun _ _ => rfl)) (fun _ _ => rfl)))
 (dss_one (ds_ret (de_fL hc_OPS rg (by omega) rfl (by first | exact Or.inl rfl | exact Or.inr rfl) tk (da_cons (de_f ih rg (by omega) (by rfl) tk (da_cons (de_ix (de_var 0) de_int (fun _ _ => rfl)) (da_cons (de_var 1) (da_cons (de_var 2) da_nil))) rfl (al_cons (al_cons (al_cons al_nil)))) (da_cons (de_f ih rg (by omega) (by rfl) tk (da_cons (de_ix (de_var 0) de_int (fun _ _ => rfl)) (da_cons (de_var 1) (da_cons (de_var 2) da_nil))) rfl (al_cons (al_cons (al_cons al_nil)))) da_nil)) (al_cons (al_cons al_nil))))))
  dss_nil)
 (dss_cons (ds_set (i := 6) S.nd rfl (by first | exact Or.inl rfl | exact Or.inr rfl) (de_if (dt_cmp ((od_eq rg.r.units)) (de_f ih rg (by omega) (by rfl) tk (da_cons (de_ix (de_var 0) de_int (fun _ _ => rfl)) (da_cons (de_var 1) (da_cons (de_var 2) da_nil))) rfl (al_cons (al_cons (al_cons al_nil)))) de_int (nomark _)) (de_ix (de_var 0) de_int (fun _ _ => rfl)) (de_ix (de_var 0) de_int (fun _ _ => rfl))))
 (dss_one (ds_ret (de_f ih rg (by omega) (by rfl) tk (da_cons (de_var 6) (da_cons (de_var 1) (da_cons (de_var 2) da_nil))) rfl (al_cons (al_cons (al_cons al_nil))))))))))))
/-! ### is_row -/
abbrev s_is_row : Stmt := topS 7
abbrev N_is_row : List Str := ["thing", "least", "most"]
theorem S_is_row : FnScope N_is_row ["thing", "least", "most"] (defScope s_is_row) := ⟨rfl, rfl, rfl, by decide +kernel, rfl, by decide +kernel, by decide +kernel⟩
noncomputable def b_is_row : En → Sto → RS :=
 (sRet (mAnd (m2 oIs (mFn bType (aCons (mVar 0) aNil)) (mC (.ty "tuple"))) (mChain oLe oLe (mVar 1) (mFn bLen (aCons (mVar 0) aNil)) (mVar 2))))
noncomputable def f_is_row : List D → Sto → R D := mDef 3 b_is_row
theorem ok_is_row (T : Txt K w mg) (Tf : TopFn K mg "is_row" s_is_row ["thing", "least", "most"])  : DefOk P w K mg base "is_row" 3 1 f_is_row := by
  have S := S_is_row
  refine def_ok (N := N_is_row) Tf S rfl (body := b_is_row) fun f cdv A outer s H E rg tk hp => ?_
  exact (dss_one (ds_ret (de_and (de_cmp (od_is) (de_callTy cd_type (by rfl) T.b_type (by decide +kernel) (da_cons (de_var 0) da_nil)) (de_ty (by rfl) T.b_tuple (by decide +kernel)) (nomark _)) (de_one (de_chain (od_le) (od_le) (de_var 1) (de_callB cd_len (by rfl) T.b_len (by decide +kernel) (da_cons (de_var 0) da_nil)) (de_var 2))))))
/-! ### comes_to -/
abbrev s_comes_to : Stmt := topS 43
abbrev N_comes_to : List Str := ["term", "worth", "heap", "part"]
theorem S_comes_to : FnScope N_comes_to ["term", "worth", "heap"] (defScope s_comes_to) := ⟨rfl, rfl, rfl, by decide +kernel, rfl, by decide +kernel, by decide +kernel⟩
noncomputable abbrev E1_comes_to : En → Sto → R D :=
 (mCall f_is_worth (aCons (mVar 3) aNil))
noncomputable def b_comes_to : En → Sto → RS :=
 (sSeq (sExpr (mCall f_need_term (aCons (mVar 0) aNil)))
 (sSeq (sIf (tmNot (mB (mCall f_is_worth (aCons (mVar 1) aNil))))
  sNo
  sNil)
 (sSeq (sIf (tmOr (tmNot (mB (mCall f_is_row (aCons (mVar 2) (aCons (mC (.int 0)) (aCons (mC (.int 11)) aNil)))))) (tmNot (mB (mFn bAll (aCons (mLc (iVal (mVar 2)) (gN 3) mYes E1_comes_to [3]) aNil)))))
  sNo
  sNil)
 (sRet (mCall (f_worth_of 45) (aCons (mVar 0) (aCons (mVar 1) (aCons (mVar 2) aNil))))))))
noncomputable def f_comes_to : List D → Sto → R D := mDef 4 b_comes_to
theorem ok_comes_to (T : Txt K w mg) (Tf : TopFn K mg "comes_to" s_comes_to ["term", "worth", "heap"]) (h_need_term : DefOk P w K mg base "need_term" 1 51 f_need_term) (h_is_worth : DefOk P w K mg base "is_worth" 1 2 f_is_worth) (h_is_row : DefOk P w K mg base "is_row" 3 1 f_is_row) (h_worth_of : DefOk P w K mg base "worth_of" 3 46 (f_worth_of 45)) : DefOk P w K mg base "comes_to" 3 52 f_comes_to := by
  have S := S_comes_to
  refine def_ok (N := N_comes_to) Tf S rfl (body := b_comes_to) fun f cdv A outer s H E rg tk hp => ?_
  exact (dss_cons (ds_expr (de_f h_need_term rg (by omega) (by rfl) tk (da_cons (de_var 0) da_nil) rfl (al_cons al_nil)))
 (dss_cons (ds_if (dt_not (dt_val (de_f h_is_worth rg (by omega) (by rfl) tk (da_cons (de_var 1) da_nil) rfl (al_cons al_nil))))
  (dss_one ds_never)
  dss_nil)
 (dss_cons (ds_if (dt_w (dw_or (dt_not (dt_val (de_f h_is_row rg (by omega) (by rfl) tk (da_cons (de_var 2) (da_cons de_int (da_cons (de_globI (by rfl) T.c_MOST_HEAP) da_nil))) rfl (al_cons (al_cons (al_cons al_nil)))))) (dw_or1 (dt_not (dt_val (de_callB (cd_all rfl) (by rfl) T.b_all (by decide +kernel) (da_cons (de_lc rfl S.nd (di_val (de_var 2)) (blkOk_by (by kernel_rfl)) (own := [("part", 3)]) (ts := [3]) (by decide) (fun _ _ _ _ _ => (dg_name (i := 3) S.nd rfl (by first | exact Or.inl rfl | exact Or.inr rfl))) (fun _ _ _ _ _ => dts_nil) (fun _ _ _ _ _ => (de_f h_is_worth rg (by omega) (by rfl) takes0 (da_cons (de_var 3) da_nil) rfl (al_cons al_nil)))) da_nil)))))))
  (dss_one ds_never)
  dss_nil)
 (dss_one (ds_ret (de_f h_worth_of rg (by omega) (by rfl) tk (da_cons (de_var 0) (da_cons (de_var 1) (da_cons (de_var 2) da_nil))) rfl (al_cons (al_cons (al_cons al_nil)))))))))
/-! ### _law_any_term -/
abbrev s_law_any_term : Stmt := topS 48
abbrev N_law_any_term : List Str := ["pool", "leaves", "deep", "way", "leaf", "one", "other", "ops"]
theorem S_law_any_term : FnScope N_law_any_term ["pool", "leaves", "deep"] (defScope s_law_any_term) := ⟨rfl, rfl, rfl, by decide +kernel, rfl, by decide +kernel, by decide +kernel⟩
noncomputable def b_law_any_term (rec : List D → Sto → R D) : En → Sto → RS :=
 (sSeq (sAsg (mCall f_law_take (aCons (mVar 0) (aCons (mC (.int 8)) aNil))) (gN 3))
 (sSeq (sIf (tmOr (mB (m2 oLtT (mVar 2) (mC (.int 1)))) (mB (m2 oLtT (mVar 3) (mC (.int 2)))))
  (sSeq (sIf (mB (m2 oEq (mCall f_law_take (aCons (mVar 0) (aCons (mC (.int 4)) aNil))) (mC (.int 0))))
  (sRet (mCall f_law_any_worth (aCons (mVar 0) aNil)))
  sNil)
 (sSeq (sAsg (m2 oIx (mVar 1) (mCall f_law_take (aCons (mVar 0) (aCons (mFn bLen (aCons (mVar 1) aNil)) aNil)))) (gN 4))
 (sRet (mIf (mB (m2 oEq (mVar 4) (mTup (aCons (mC (.str "many")) aNil)))) (mTup (aCons (mC (.str "many")) (aCons (mCall f_law_take (aCons (mVar 0) (aCons (mC (.int 4)) aNil))) aNil))) (mVar 4)))))
  sNil)
 (sSeq (sPar 5 6 (aCons (mCall rec (aCons (mVar 0) (aCons (mVar 1) (aCons (m2 oSub (mVar 2) (mC (.int 1))) aNil)))) (aCons (mCall rec (aCons (mVar 0) (aCons (mVar 1) (aCons (m2 oSub (mVar 2) (mC (.int 1))) aNil)))) aNil)))
 (sSeq (sIf (mB (m2 oEq (mVar 3) (mC (.int 7))))
  (sRet (mTup (aCons (mC (.str "if")) (aCons (mCall rec (aCons (mVar 0) (aCons (mVar 1) (aCons (m2 oSub (mVar 2) (mC (.int 2))) aNil)))) (aCons (mVar 5) (aCons (mVar 6) aNil))))))
  sNil)
 (sSeq (sAsg (mLst (aCons (mC (.str "plus")) (aCons (mC (.str "minus")) (aCons (mC (.str "times")) (aCons (mC (.str "over")) (aCons (mC (.str "rest")) (aCons (mC (.str "less")) (aCons (mC (.str "same")) (aCons (mC (.str "low")) (aCons (mC (.str "high")) (aCons (mC (.str "plus")) (aCons (mC (.str "low")) aNil)))))))))))) (gN 7))
 (sRet (mTup (aCons (m2 oIx (mVar 7) (mCall f_law_take (aCons (mVar 0) (aCons (mC (.int 11)) aNil)))) (aCons (mVar 5) (aCons (mVar 6) aNil))))))))))
noncomputable def f_law_any_term : Nat → List D → Sto → R D
  | 0 => fun _ _ => .no
  | d + 1 => mDef 8 (b_law_any_term (f_law_any_term d))
theorem ok_law_any_term (T : Txt K w mg) (Tf : TopFn K mg "_law_any_term" s_law_any_term ["pool", "leaves", "deep"]) (h_law_take : DefOk P w K mg base "_law_take" 2 1 f_law_take) (h_law_any_worth : DefOk P w K mg base "_law_any_worth" 1 2 f_law_any_worth) : ∀ d, DefOk P w K mg base "_law_any_term" 3 (2 + d) (f_law_any_term d) := by
  have S := S_law_any_term
  refine def_rec (N := N_law_any_term) Tf S rfl rfl (fun _ => rfl) (body := b_law_any_term) fun d ih f cdv A outer s H E rg tk hp => ?_
  exact (dss_cons (ds_set (i := 3) S.nd rfl (by first | exact Or.inl rfl | exact Or.inr rfl) (de_f h_law_take rg (by omega) (by rfl) tk (da_cons (de_var 0) (da_cons de_int da_nil)) rfl (al_cons (al_cons al_nil))))
 (dss_cons (ds_if (dt_w (dw_or (dt_cmp (od_ltT rg.r.units0) (de_var 2) de_int (nomark _)) (dw_or1 (dt_cmp (od_ltT rg.r.units0) (de_var 3) de_int (nomark _)))))
  (dss_cons (ds_if (dt_cmp ((od_eq rg.r.units)) (de_f h_law_take rg (by omega) (by rfl) tk (da_cons (de_var 0) (da_cons de_int da_nil)) rfl (al_cons (al_cons al_nil))) de_int (nomark _))
  (dss_one (ds_ret (de_f h_law_any_worth rg (by omega) (by rfl) tk (da_cons (de_var 0) da_nil) rfl (al_cons al_nil))))
  dss_nil)
 (dss_cons (ds_set (i := 4) S.nd rfl (by first | exact Or.inl rfl | exact Or.inr rfl) (de_ix (de_var 1) (de_f h_law_take rg (by omega) (by rfl) tk (da_cons (de_var 0) (da_cons (de_callB cd_len (by rfl) T.b_len (by decide +kernel) (da_cons (de_var 1) da_nil)) da_nil)) rfl (al_cons (al_cons al_nil))) (fun _ _ => rfl)))
 (dss_one (ds_ret (de_if (dt_cmp ((od_eq rg.r.units)) (de_var 4) (de_tup (da_cons de_str da_nil)) (nomark _)) (de_tup (da_cons de_str (da_cons (de_f h_law_take rg (by omega) (by rfl) tk (da_cons (de_var 0) (da_cons de_int da_nil)) rfl (al_cons (al_cons al_nil))) da_nil))) (de_var 4))))))
  dss_nil)
 (dss_cons (ds_par (i := 5) (j := 6) rfl S.nd rfl rfl (by decide) rfl rfl (da_cons (de_f ih rg (by omega) (by rfl) tk (da_cons (de_var 0) (da_cons (de_var 1) (da_cons (de_bin od_sub (de_var 2) de_int) da_nil))) rfl (al_cons (al_cons (al_cons al_nil)))) (da_cons (de_f ih rg (by omega) (by rfl) tk (da_cons (de_var 0) (da_cons (de_var 1) (da_cons (de_bin od_sub (de_var 2) de_int) da_nil))) rfl (al_cons (al_cons (al_cons al_nil)))) da_nil)) (by rfl))
 (dss_cons (ds_if (dt_cmp ((od_eq rg.r.units)) (de_var 3) de_int (nomark _))
  (dss_one (ds_ret (de_tup (da_cons de_str (da_cons (de_f ih rg (by omega) (by rfl) tk (da_cons (de_var 0) (da_cons (de_var 1) (da_cons (de_bin od_sub (de_var 2) de_int) da_nil))) rfl (al_cons (al_cons (al_cons al_nil)))) (da_cons (de_var 5) (da_cons (de_var 6) da_nil)))))))
  dss_nil)
 (dss_cons (ds_set (i := 7) S.nd rfl (by first | exact Or.inl rfl | exact Or.inr rfl) (de_lst (da_cons de_str (da_cons de_str (da_cons de_str (da_cons de_str (da_cons de_str (da_cons de_str (da_cons de_str (da_cons de_str (da_cons de_str (da_cons de_str (da_cons de_str da_nil)))))))))))))
 (dss_one (ds_ret (de_tup (da_cons (de_ix (de_var 7) (de_f h_law_take rg (by omega) (by rfl) tk (da_cons (de_var 0) (da_cons de_int da_nil)) rfl (al_cons (al_cons al_nil))) (fun _ _ => rfl)) (da_cons (de_var 5) (da_cons (de_var 6) da_nil)))))))))))
/-! ### _law_any_first -/
abbrev s_law_any_first : Stmt := topS 49
abbrev N_law_any_first : List Str := ["pool"]
theorem S_law_any_first : FnScope N_law_any_first ["pool"] (defScope s_law_any_first) := ⟨rfl, rfl, rfl, by decide +kernel, rfl, by decide +kernel, by decide +kernel⟩
noncomputable def b_law_any_first : En → Sto → RS :=
 (sRet (mCall (f_law_any_term 45) (aCons (mVar 0) (aCons (mLst (aCons (mTup (aCons (mC (.str "word")) aNil)) (aCons (mTup (aCons (mC (.str "word")) aNil)) (aCons (mTup (aCons (mC (.str "ties")) aNil)) aNil)))) (aCons (m2 oIx (mLst (aCons (mC (.int 0)) (aCons (mC (.int 1)) (aCons (mC (.int 2)) aNil)))) (mCall f_law_take (aCons (mVar 0) (aCons (mC (.int 3)) aNil)))) aNil)))))
noncomputable def f_law_any_first : List D → Sto → R D := mDef 1 b_law_any_first
theorem ok_law_any_first (T : Txt K w mg) (Tf : TopFn K mg "_law_any_first" s_law_any_first ["pool"]) (h_law_any_term : DefOk P w K mg base "_law_any_term" 3 47 (f_law_any_term 45)) (h_law_take : DefOk P w K mg base "_law_take" 2 1 f_law_take) : DefOk P w K mg base "_law_any_first" 1 48 f_law_any_first := by
  have S := S_law_any_first
  refine def_ok (N := N_law_any_first) Tf S rfl (body := b_law_any_first) fun f cdv A outer s H E rg tk hp => ?_
  exact (dss_one (ds_ret (de_f h_law_any_term rg (by omega) (by rfl) tk (da_cons (de_var 0) (da_cons (de_lst (da_cons (de_tup (da_cons de_str da_nil)) (da_cons (de_tup (da_cons de_str da_nil)) (da_cons (de_tup (da_cons de_str da_nil)) da_nil)))) (da_cons (de_ix (de_lst (da_cons de_int (da_cons de_int (da_cons de_int da_nil)))) (de_f h_law_take rg (by omega) (by rfl) tk (da_cons (de_var 0) (da_cons de_int da_nil)) rfl (al_cons (al_cons al_nil))) (fun _ _ => rfl)) da_nil))) rfl (al_cons (al_cons (al_cons al_nil))))))
/-! ### _law_any_next -/
abbrev s_law_any_next : Stmt := topS 50
abbrev N_law_any_next : List Str := ["pool", "heap"]
theorem S_law_any_next : FnScope N_law_any_next ["pool"] (defScope s_law_any_next) := ⟨rfl, rfl, rfl, by decide +kernel, rfl, by decide +kernel, by decide +kernel⟩
noncomputable def b_law_any_next : En → Sto → RS :=
 (sSeq (sIf (mB (m2 oEq (mCall f_law_take (aCons (mVar 0) (aCons (mC (.int 3)) aNil))) (mC (.int 0))))
  (sRet (mCall (f_law_any_term 45) (aCons (mVar 0) (aCons (mLst (aCons (mTup (aCons (mC (.str "own")) aNil)) (aCons (mTup (aCons (mC (.str "own")) aNil)) (aCons (mTup (aCons (mC (.str "ties")) aNil)) aNil)))) (aCons (mC (.int 2)) aNil)))))
  sNil)
 (sSeq (sAsg (m2 oIx (mLst (aCons (mTup (aCons (mC (.str "sum")) aNil)) (aCons (mTup (aCons (mC (.str "least")) aNil)) (aCons (mTup (aCons (mC (.str "most")) aNil)) (aCons (mTup (aCons (mC (.str "many")) aNil)) aNil))))) (mCall f_law_take (aCons (mVar 0) (aCons (mC (.int 4)) aNil)))) (gN 1))
 (sRet (mCall (f_law_any_term 45) (aCons (mVar 0) (aCons (mLst (aCons (mVar 1) (aCons (mVar 1) (aCons (mTup (aCons (mC (.str "own")) aNil)) (aCons (mTup (aCons (mC (.str "sum")) aNil)) (aCons (mTup (aCons (mC (.str "ties")) aNil)) aNil)))))) (aCons (m2 oIx (mLst (aCons (mC (.int 0)) (aCons (mC (.int 1)) (aCons (mC (.int 2)) (aCons (mC (.int 3)) aNil))))) (mCall f_law_take (aCons (mVar 0) (aCons (mC (.int 4)) aNil)))) aNil)))))))
noncomputable def f_law_any_next : List D → Sto → R D := mDef 2 b_law_any_next
theorem ok_law_any_next (T : Txt K w mg) (Tf : TopFn K mg "_law_any_next" s_law_any_next ["pool"]) (h_law_take : DefOk P w K mg base "_law_take" 2 1 f_law_take) (h_law_any_term : DefOk P w K mg base "_law_any_term" 3 47 (f_law_any_term 45)) : DefOk P w K mg base "_law_any_next" 1 48 f_law_any_next := by
  have S := S_law_any_next
  refine def_ok (N := N_law_any_next) Tf S rfl (body := b_law_any_next) fun f cdv A outer s H E rg tk hp => ?_
  exact (dss_cons (ds_if (dt_cmp ((od_eq rg.r.units)) (de_f h_law_take rg (by omega) (by rfl) tk (da_cons (de_var 0) (da_cons de_int da_nil)) rfl (al_cons (al_cons al_nil))) de_int (nomark _))
  (dss_one (ds_ret (de_f h_law_any_term rg (by omega) (by rfl) tk (da_cons (de_var 0) (da_cons (de_lst (da_cons (de_tup (da_cons de_str da_nil)) (da_cons (de_tup (da_cons de_str da_nil)) (da_cons (de_tup (da_cons de_str da_nil)) da_nil)))) (da_cons de_int da_nil))) rfl (al_cons (al_cons (al_cons al_nil))))))
  dss_nil)
 (dss_cons (ds_set (i := 1) S.nd rfl (by first | exact Or.inl rfl | exact Or.inr rfl) (de_ix (de_lst (da_cons (de_tup (da_cons de_str da_nil)) (da_cons (de_tup (da_cons de_str da_nil)) (da_cons (de_tup (da_cons de_str da_nil)) (da_cons (de_tup (da_cons de_str da_nil)) da_nil))))) (de_f h_law_take rg (by omega) (by rfl) tk (da_cons (de_var 0) (da_cons de_int da_nil)) rfl (al_cons (al_cons al_nil))) (fun _ _ => rfl)))
 (dss_one (ds_ret (de_f h_law_any_term rg (by omega) (by rfl) tk (da_cons (de_var 0) (da_cons (de_lst (da_cons (de_var 1) (da_cons (de_var 1) (da_cons (de_tup (da_cons de_str da_nil)) (da_cons (de_tup (da_cons de_str da_nil)) (da_cons (de_tup (da_cons de_str da_nil)) da_nil)))))) (da_cons (de_ix (de_lst (da_cons de_int (da_cons de_int (da_cons de_int (da_cons de_int da_nil))))) (de_f h_law_take rg (by omega) (by rfl) tk (da_cons (de_var 0) (da_cons de_int da_nil)) rfl (al_cons (al_cons al_nil))) (fun _ _ => rfl)) da_nil))) rfl (al_cons (al_cons (al_cons al_nil))))))))
/-! ### _law_leaves -/
abbrev s_law_leaves : Stmt := topS 53
abbrev N_law_leaves : List Str := ["kind"]
theorem S_law_leaves : FnScope N_law_leaves ["kind"] (defScope s_law_leaves) := ⟨rfl, rfl, rfl, by decide +kernel, rfl, by decide +kernel, by decide +kernel⟩
noncomputable def b_law_leaves : En → Sto → RS :=
 (sSeq (sIf (mB (m2 oEq (mVar 0) (mC (.int 0))))
  (sRet (mLst (aCons (mTup (aCons (mC (.str "word")) aNil)) (aCons (mTup (aCons (mC (.str "ties")) aNil)) aNil))))
  sNil)
 (sRet (mLst (aCons (mTup (aCons (mC (.str "own")) aNil)) (aCons (mTup (aCons (mC (.str "ties")) aNil)) (aCons (mTup (aCons (mC (.str "sum")) aNil)) (aCons (mTup (aCons (mC (.str "least")) aNil)) (aCons (mTup (aCons (mC (.str "most")) aNil)) (aCons (mTup (aCons (mC (.str "many")) aNil)) aNil)))))))))
noncomputable def f_law_leaves : List D → Sto → R D := mDef 1 b_law_leaves
theorem ok_law_leaves (T : Txt K w mg) (Tf : TopFn K mg "_law_leaves" s_law_leaves ["kind"])  : DefOk P w K mg base "_law_leaves" 1 1 f_law_leaves := by
  have S := S_law_leaves
  refine def_ok (N := N_law_leaves) Tf S rfl (body := b_law_leaves) fun f cdv A outer s H E rg tk hp => ?_
  exact (dss_cons (ds_if (dt_cmp ((od_eq rg.r.units)) (de_var 0) de_int (nomark _))
  (dss_one (ds_ret (de_lst (da_cons (de_tup (da_cons de_str da_nil)) (da_cons (de_tup (da_cons de_str da_nil)) da_nil)))))
  dss_nil)
 (dss_one (ds_ret (de_lst (da_cons (de_tup (da_cons de_str da_nil)) (da_cons (de_tup (da_cons de_str da_nil)) (da_cons (de_tup (da_cons de_str da_nil)) (da_cons (de_tup (da_cons de_str da_nil)) (da_cons (de_tup (da_cons de_str da_nil)) (da_cons (de_tup (da_cons de_str da_nil)) da_nil))))))))))
/-! ### _law_mixed -/
abbrev s_law_mixed : Stmt := topS 55
abbrev N_law_mixed : List Str := ["pool", "row", "left", "turn"]
theorem S_law_mixed : FnScope N_law_mixed ["pool", "row"] (defScope s_law_mixed) := ⟨rfl, rfl, rfl, by decide +kernel, rfl, by decide +kernel, by decide +kernel⟩
noncomputable abbrev E1_law_mixed : En → Sto → R D :=
 (mMeth fPop (mVar 2) (aCons (mCall f_law_take (aCons (mVar 0) (aCons (mFn bLen (aCons (mVar 2) aNil)) aNil))) aNil))
noncomputable def b_law_mixed : En → Sto → RS :=
 (sSeq (sAsg (mFn bList (aCons (mVar 1) aNil)) (gN 2))
 (sRet (mFn bTuple (aCons (mLc (iRng1 (aCons (mFn bLen (aCons (mVar 2) aNil)) aNil)) (gN 3) mYes E1_law_mixed [3]) aNil))))
noncomputable def f_law_mixed : List D → Sto → R D := mDef 4 b_law_mixed
theorem ok_law_mixed (T : Txt K w mg) (Tf : TopFn K mg "_law_mixed" s_law_mixed ["pool", "row"]) (h_law_take : DefOk P w K mg base "_law_take" 2 1 f_law_take) : DefOk P w K mg base "_law_mixed" 2 2 f_law_mixed := by
  have S := S_law_mixed
  refine def_ok (N := N_law_mixed) Tf S rfl (body := b_law_mixed) fun f cdv A outer s H E rg tk hp => ?_
  exact (dss_cons (ds_set (i := 2) S.nd rfl (by first | exact Or.inl rfl | exact Or.inr rfl) (de_callTy cd_list (by rfl) T.b_list (by decide +kernel) (da_cons (de_var 1) da_nil)))
 (dss_one (ds_ret (de_callTy cd_tuple (by rfl) T.b_tuple (by decide +kernel) (da_cons (de_lc rfl S.nd (di_rng1 (by rfl) T.b_range (da_cons (de_callB cd_len (by rfl) T.b_len (by decide +kernel) (da_cons (de_var 2) da_nil)) da_nil)) (blkOk_by (by kernel_rfl)) (own := [("turn", 3)]) (ts := [3]) (by decide) (fun _ _ _ _ _ => (dg_name (i := 3) S.nd rfl (by first | exact Or.inl rfl | exact Or.inr rfl))) (fun _ _ _ _ _ => dts_nil) (fun _ _ _ _ _ => (de_pop (de_var 2) (da_cons (de_f h_law_take rg (by omega) (by rfl) takes0 (da_cons (de_var 0) (da_cons (de_callB cd_len (by rfl) T.b_len (by decide +kernel) (da_cons (de_var 2) da_nil)) da_nil)) rfl (al_cons (al_cons al_nil))) da_nil)))) da_nil)))))
noncomputable def fs_LS_law_any_first_law_any_next : Defs := [("_law_any_first", f_law_any_first), ("_law_any_next", f_law_any_next)]
/-! ### law -/
abbrev s_law : Stmt := topS 57
abbrev N_law : List Str := ["script", "k", "pool", "turn", "kind", "term", "due", "held", "told", "worth", "heap", "place", "one"]
theorem S_law : FnScope N_law ["script"] (defScope s_law) := ⟨rfl, rfl, rfl, by decide +kernel, rfl, by decide +kernel, by decide +kernel⟩
noncomputable abbrev E1_law : En → Sto → R D :=
 (mCall f_law_any_worth (aCons (mVar 2) aNil))
noncomputable abbrev E2_law : En → Sto → R D :=
 (mFn bRepr (aCons (mVar 12) aNil))
noncomputable abbrev L1_law : En → Sto → RS :=
 (sSeq (sAsg (mCall f_law_take (aCons (mVar 2) (aCons (mC (.int 2)) aNil))) (gN 4))
 (sSeq (sAsg (mCallE fs_LS_law_any_first_law_any_next (m2 oIx (mLst (aCons (mC (.nam "_law_any_first")) (aCons (mC (.nam "_law_any_next")) aNil))) (mVar 4)) (aCons (mVar 2) aNil)) (gN 5))
 (sSeq (sIf (mB (m2 oEq (mCall f_law_take (aCons (mVar 2) (aCons (mC (.int 3)) aNil))) (mC (.int 0))))
  (sAsg (mCall (f_law_sized 45) (aCons (mVar 2) (aCons (mCall f_law_leaves (aCons (mVar 4) aNil)) (aCons (m2 oAdd (mC (.int 39)) (mCall f_law_take (aCons (mVar 2) (aCons (mC (.int 2)) aNil)))) aNil)))) (gN 5))
  sNil)
 (sSeq (sPar 9 10 (aCons (mCall f_law_any_worth (aCons (mVar 2) aNil)) (aCons (mLc (iRng1 (aCons (mCall f_law_take (aCons (mVar 2) (aCons (mC (.int 12)) aNil))) aNil)) (gN 11) mYes E1_law [11]) aNil)))
 (sSeq (sAsg (mFn bRepr (aCons (mCall (f_law_value 45) (aCons (mVar 5) (aCons (mVar 9) (aCons (mVar 10) aNil)))) aNil)) (gN 6))
 (sSeq (sAsg (mFn bRepr (aCons (mTup (aCons (mVar 5) (aCons (mVar 9) (aCons (mVar 10) aNil)))) aNil)) (gN 7))
 (sSeq (sAsg (mLst (aCons (mCall f_comes_to (aCons (mVar 5) (aCons (mVar 9) (aCons (mFn bTuple (aCons (mVar 10) aNil)) aNil)))) (aCons (mCall f_comes_to (aCons (mVar 5) (aCons (mVar 9) (aCons (mCall f_law_mixed (aCons (mVar 2) (aCons (mVar 10) aNil))) aNil)))) aNil))) (gN 8))
 (sSeq (sIf (tmOr (mB (m2 oNe (mLc (iVal (mVar 8)) (gN 12) mYes E2_law [12]) (mLst (aCons (mVar 6) (aCons (mVar 6) aNil))))) (mB (m2 oNe (mFn bRepr (aCons (mTup (aCons (mVar 5) (aCons (mVar 9) (aCons (mVar 10) aNil)))) aNil)) (mVar 7))))
  (sRet (mC (.bl false)))
  sNil)
 (sIf (tmAnd (mB (m2 oEq (mVar 4) (mC (.int 0)))) (mB (m2 oNe (mFn bRepr (aCons (mCall f_comes_to (aCons (mVar 5) (aCons (mVar 9) (aCons (m2 oMul (mTup (aCons (mC (.int 0)) aNil)) (mFn bLen (aCons (mVar 10) aNil))) aNil)))) aNil)) (mVar 6))))
  (sRet (mC (.bl false)))
  sNil)))))))))
noncomputable abbrev L2_law : En → Sto → RS :=
 (sSeq (sAsg (mCall f_law_pool (aCons (mVar 0) (aCons (mVar 1) aNil))) (gN 2))
 (sSeq (sFor (iRng1 (aCons (mC (.int 6)) aNil)) (gN 3)
  L1_law)
 (sIf (tmNot (mB (mCall f_law_ops_right (aCons (mVar 2) aNil))))
  (sRet (mC (.bl false)))
  sNil)))
noncomputable def b_law : En → Sto → RS :=
 (sSeq (sFor (iRng1 (aCons (mFn bMax2 (aCons (mC (.int 1)) (aCons (mFn bMin2 (aCons (mC (.int 10)) (aCons (mFn bLen (aCons (mVar 0) aNil)) aNil))) aNil))) aNil)) (gN 1)
  L2_law)
 (sRet (m2 oEq (mC (.int 997)) (mC (.int 997)))))
noncomputable def f_law : List D → Sto → R D := mDef 13 b_law
theorem okF_law {f : Addr} {fd : FuncData} (T : Txt K w mg) (Tf : Fun K "law" "law" s_law f fd) (h_law_pool : DefOk P w K mg base "_law_pool" 2 1 f_law_pool) (h_law_take : DefOk P w K mg base "_law_take" 2 1 f_law_take) (h_law_any_first : DefOk P w K mg base "_law_any_first" 1 48 f_law_any_first) (h_law_any_next : DefOk P w K mg base "_law_any_next" 1 48 f_law_any_next) (h_law_sized : DefOk P w K mg base "_law_sized" 3 46 (f_law_sized 45)) (h_law_leaves : DefOk P w K mg base "_law_leaves" 1 1 f_law_leaves) (h_law_any_worth : DefOk P w K mg base "_law_any_worth" 1 2 f_law_any_worth) (h_law_value : DefOk P w K mg base "_law_value" 3 46 (f_law_value 45)) (h_comes_to : DefOk P w K mg base "comes_to" 3 52 f_comes_to) (h_law_mixed : DefOk P w K mg base "_law_mixed" 2 2 f_law_mixed) (h_law_ops_right : DefOk P w K mg base "_law_ops_right" 1 3 f_law_ops_right) (hc_LS_law_any_first_law_any_next : CalsOk P w K mg base 48 1 fs_LS_law_any_first_law_any_next) : FnG P w K mg base 53 f fd ["script"] (spD K 1 f_law) := by
  have S := S_law
  refine fn_d (N := N_law) (body := b_law) Tf S rfl fun cdv A outer s H E rg tk hp => ?_
  exact (dss_cons (ds_for (vs := [1]) hp rfl (di_rng1 (by rfl) T.b_range (da_cons (de_callB (cd_max2 rfl) (by rfl) T.b_max (by decide +kernel) (da_cons de_int (da_cons (de_callB (cd_min2 rfl) (by rfl) T.b_min (by decide +kernel) (da_cons de_int (da_cons (de_callB cd_len (by rfl) T.b_len (by decide +kernel) (da_cons (de_var 0) da_nil)) da_nil))) da_nil))) da_nil)) (dg_name (i := 1) S.nd rfl (by first | exact Or.inl rfl | exact Or.inr rfl))
  (dss_cons (ds_set (i := 2) S.nd rfl (by first | exact Or.inl rfl | exact Or.inr rfl) (de_f h_law_pool rg (by omega) (by rfl) tk (da_cons (de_var 0) (da_cons (de_var 1) da_nil)) rfl (al_cons (al_cons al_nil))))
 (dss_cons (ds_for (vs := [3]) hp rfl (di_rng1 (by rfl) T.b_range (da_cons de_int da_nil)) (dg_name (i := 3) S.nd rfl (by first | exact Or.inl rfl | exact Or.inr rfl))
  (dss_cons (ds_set (i := 4) S.nd rfl (by first | exact Or.inl rfl | exact Or.inr rfl) (de_f h_law_take rg (by omega) (by rfl) tk (da_cons (de_var 2) (da_cons de_int da_nil)) rfl (al_cons (al_cons al_nil))))
 (dss_cons (ds_set (i := 5) S.nd rfl (by first | exact Or.inl rfl | exact Or.inr rfl) (de_fE hc_LS_law_any_first_law_any_next (de_ix (de_lst (da_cons (de_globN (by rfl) T.t__law_any_first) (da_cons (de_globN (by rfl) T.t__law_any_next) da_nil))) (de_var 4) (fun _ _ => rfl)) rg (by omega) tk (da_cons (de_var 2) da_nil) (al_cons al_nil)))
 (dss_cons (ds_if (dt_cmp ((od_eq rg.r.units)) (de_f h_law_take rg (by omega) (by rfl) tk (da_cons (de_var 2) (da_cons de_int da_nil)) rfl (al_cons (al_cons al_nil))) de_int (nomark _))
  (dss_one (ds_set (i := 5) S.nd rfl (by first | exact Or.inl rfl | exact Or.inr rfl) (de_f h_law_sized rg (by omega) (by rfl) tk (da_cons (de_var 2) (da_cons (de_f h_law_leaves rg (by omega) (by rfl) tk (da_cons (de_var 4) da_nil) rfl (al_cons al_nil)) (da_cons (de_bin od_add de_int (de_f h_law_take rg (by omega) (by rfl) tk (da_cons (de_var 2) (da_cons de_int da_nil)) rfl (al_cons (al_cons al_nil)))) da_nil))) rfl (al_cons (al_cons (al_cons al_nil))))))
  dss_nil)
 (dss_cons (ds_par (i := 9) (j := 10) rfl S.nd rfl rfl (by decide) rfl rfl (da_cons (de_f h_law_any_worth rg (by omega) (by rfl) tk (da_cons (de_var 2) da_nil) rfl (al_cons al_nil)) (da_cons (de_lc rfl S.nd (di_rng1 (by rfl) T.b_range (da_cons (de_f h_law_take rg (by omega) (by rfl) tk (da_cons (de_var 2) (da_cons de_int da_nil)) rfl (al_cons (al_cons al_nil))) da_nil)) (blkOk_by (by kernel_rfl)) (own := [("place", 11)]) (ts := [11]) (by decide) (fun _ _ _ _ _ => (dg_name (i := 11) S.nd rfl (by first | exact Or.inl rfl | exact Or.inr rfl))) (fun _ _ _ _ _ => dts_nil) (fun _ _ _ _ _ => (de_f h_law_any_worth rg (by omega) (by rfl) takes0 (da_cons (de_var 2) da_nil) rfl (al_cons al_nil)))) da_nil)) (by rfl))
 (dss_cons (ds_set (i := 6) S.nd rfl (by first | exact Or.inl rfl | exact Or.inr rfl) (de_callB (cd_repr rg.g rg.u66) (by rfl) T.b_repr (by decide +kernel) (da_cons (de_f h_law_value rg (by omega) (by rfl) tk (da_cons (de_var 5) (da_cons (de_var 9) (da_cons (de_var 10) da_nil))) rfl (al_cons (al_cons (al_cons al_nil)))) da_nil)))
 (dss_cons (ds_set (i := 7) S.nd rfl (by first | exact Or.inl rfl | exact Or.inr rfl) (de_callB (cd_repr rg.g rg.u66) (by rfl) T.b_repr (by decide +kernel) (da_cons (de_tup (da_cons (de_var 5) (da_cons (de_var 9) (da_cons (de_var 10) da_nil)))) da_nil)))
 (dss_cons (ds_set (i := 8) S.nd rfl (by first | exact Or.inl rfl | exact Or.inr rfl) (de_lst (da_cons (de_f h_comes_to rg (by omega) (by rfl) tk (da_cons (de_var 5) (da_cons (de_var 9) (da_cons (de_callTy cd_tuple (by rfl) T.b_tuple (by decide +kernel) (da_cons (de_var 10) da_nil)) da_nil))) rfl (al_cons (al_cons (al_cons al_nil)))) (da_cons (de_f h_comes_to rg (by omega) (by rfl) tk (da_cons (de_var 5) (da_cons (de_var 9) (da_cons (de_f h_law_mixed rg (by omega) (by rfl) tk (da_cons (de_var 2) (da_cons (de_var 10) da_nil)) rfl (al_cons (al_cons al_nil))) da_nil))) rfl (al_cons (al_cons (al_cons al_nil)))) da_nil))))
 (dss_cons (ds_if (dt_w (dw_or (dt_cmp ((od_ne rg.r.units)) (de_lc rfl S.nd (di_val (de_var 8)) (blkOk_by (by kernel_rfl)) (own := [("one", 12)]) (ts := [12]) (by decide) (fun _ _ _ _ _ => (dg_name (i := 12) S.nd rfl (by first | exact Or.inl rfl | exact Or.inr rfl))) (fun _ _ _ _ _ => dts_nil) (fun _ _ _ _ _ => (de_callB (cd_repr rg.g rg.u66) (by rfl) T.b_repr (by decide +kernel) (da_cons (de_var 12) da_nil)))) (de_lst (da_cons (de_var 6) (da_cons (de_var 6) da_nil))) (nomark _)) (dw_or1 (dt_cmp ((od_ne rg.r.units)) (de_callB (cd_repr rg.g rg.u66) (by rfl) T.b_repr (by decide +kernel) (da_cons (de_tup (da_cons (de_var 5) (da_cons (de_var 9) (da_cons (de_var 10) da_nil)))) da_nil)) (de_var 7) (nomark _)))))
  (dss_one (ds_ret de_bl))
  dss_nil)
 (dss_one (ds_if (dt_w (dw_and (dt_cmp ((od_eq rg.r.units)) (de_var 4) de_int (nomark _)) (dw_and1 (dt_cmp ((od_ne rg.r.units)) (de_callB (cd_repr rg.g rg.u66) (by rfl) T.b_repr (by decide +kernel) (da_cons (de_f h_comes_to rg (by omega) (by rfl) tk (da_cons (de_var 5) (da_cons (de_var 9) (da_cons (de_bin od_mul (de_tup (da_cons de_int da_nil)) (de_callB cd_len (by rfl) T.b_len (by decide +kernel) (da_cons (de_var 10) da_nil))) da_nil))) rfl (al_cons (al_cons (al_cons al_nil)))) da_nil)) (de_var 6) (nomark _)))))
  (dss_one (ds_ret de_bl))
  dss_nil)))))))))))
 (dss_one (ds_if (dt_not (dt_val (de_f h_law_ops_right rg (by omega) (by rfl) tk (da_cons (de_var 2) da_nil) rfl (al_cons al_nil))))
  (dss_one (ds_ret de_bl))
  dss_nil)))))
 (dss_one (ds_ret (de_cmp ((od_eq rg.r.units)) (de_globI (by rfl) T.c_WORTHS) de_int (nomark _)))))
theorem all_ok {f : Addr} {fd : FuncData} (T : Txt K w mg) (T_law_pool : TopFn K mg "_law_pool" s_law_pool ["cells", "k"]) (T_law_take : TopFn K mg "_law_take" s_law_take ["pool", "many"]) (T_plus : TopFn K mg "plus" s_plus ["one", "two"]) (T_minus : TopFn K mg "minus" s_minus ["one", "two"]) (T_times : TopFn K mg "times" s_times ["one", "two"]) (T_over : TopFn K mg "over" s_over ["one", "two"]) (T_rest : TopFn K mg "rest" s_rest ["one", "two"]) (T_less : TopFn K mg "less" s_less ["one", "two"]) (T_same : TopFn K mg "same" s_same ["one", "two"]) (T_low : TopFn K mg "low" s_low ["one", "two"]) (T_high : TopFn K mg "high" s_high ["one", "two"]) (T_law_any_worth : TopFn K mg "_law_any_worth" s_law_any_worth ["pool"]) (T_law_made : TopFn K mg "_law_made" s_law_made ["op", "one", "other"]) (T_law_ops_right : TopFn K mg "_law_ops_right" s_law_ops_right ["pool"]) (T_law_sized : TopFn K mg "_law_sized" s_law_sized ["pool", "leaves", "many"]) (T_law_value : TopFn K mg "_law_value" s_law_value ["term", "worth", "heap"]) (T_is_below : TopFn K mg "is_below" s_is_below ["thing", "top"]) (T_is_worth : TopFn K mg "is_worth" s_is_worth ["thing"]) (T_count_terms : TopFn K mg "count_terms" s_count_terms ["thing", "bare", "pair", "deep"]) (T_are_terms : TopFn K mg "are_terms" s_are_terms ["things", "bare", "pair"]) (T_are_firsts : TopFn K mg "are_firsts" s_are_firsts ["things"]) (T_is_first : TopFn K mg "is_first" s_is_first ["thing"]) (T_are_nexts : TopFn K mg "are_nexts" s_are_nexts ["things"]) (T_is_next : TopFn K mg "is_next" s_is_next ["thing"]) (T_need_term : TopFn K mg "need_term" s_need_term ["term"]) (T_own_worth : TopFn K mg "own_worth" s_own_worth ["worth", "heap"]) (T_heap_ties : TopFn K mg "heap_ties" s_heap_ties ["worth", "heap"]) (T_heap_sum : TopFn K mg "heap_sum" s_heap_sum ["worth", "heap"]) (T_heap_least : TopFn K mg "heap_least" s_heap_least ["worth", "heap"]) (T_heap_most : TopFn K mg "heap_most" s_heap_most ["worth", "heap"]) (T_worth_of : TopFn K mg "worth_of" s_worth_of ["term", "worth", "heap"]) (T_is_row : TopFn K mg "is_row" s_is_row ["thing", "least", "most"]) (T_comes_to : TopFn K mg "comes_to" s_comes_to ["term", "worth", "heap"]) (T_law_any_term : TopFn K mg "_law_any_term" s_law_any_term ["pool", "leaves", "deep"]) (T_law_any_first : TopFn K mg "_law_any_first" s_law_any_first ["pool"]) (T_law_any_next : TopFn K mg "_law_any_next" s_law_any_next ["pool"]) (T_law_leaves : TopFn K mg "_law_leaves" s_law_leaves ["kind"]) (T_law_mixed : TopFn K mg "_law_mixed" s_law_mixed ["pool", "row"]) (F : Fun K "law" "law" s_law f fd) : FnG P w K mg base 53 f fd ["script"] (spD K 1 f_law) := by
  have h_law_pool := ok_law_pool (P := P) (w := w) (base := base) T T_law_pool 
  have h_law_take := ok_law_take (P := P) (w := w) (base := base) T T_law_take 
  have h_plus := ok_plus (P := P) (w := w) (base := base) T T_plus 
  have h_minus := ok_minus (P := P) (w := w) (base := base) T T_minus 
  have h_times := ok_times (P := P) (w := w) (base := base) T T_times 
  have h_over := ok_over (P := P) (w := w) (base := base) T T_over 
  have h_rest := ok_rest (P := P) (w := w) (base := base) T T_rest 
  have h_less := ok_less (P := P) (w := w) (base := base) T T_less 
  have h_same := ok_same (P := P) (w := w) (base := base) T T_same 
  have h_low := ok_low (P := P) (w := w) (base := base) T T_low 
  have h_high := ok_high (P := P) (w := w) (base := base) T T_high 
  have h_law_any_worth := ok_law_any_worth (P := P) (w := w) (base := base) T T_law_any_worth h_law_take
  have h_law_made := ok_law_made (P := P) (w := w) (base := base) T T_law_made 
  have hc_OPS : CalsOk P w K mg base 1 2 fs_OPS := (cals_cons (CalOk.of h_plus (by omega) T.t_plus) (cals_cons (CalOk.of h_minus (by omega) T.t_minus) (cals_cons (CalOk.of h_times (by omega) T.t_times) (cals_cons (CalOk.of h_over (by omega) T.t_over) (cals_cons (CalOk.of h_rest (by omega) T.t_rest) (cals_cons (CalOk.of h_less (by omega) T.t_less) (cals_cons (CalOk.of h_same (by omega) T.t_same) (cals_cons (CalOk.of h_low (by omega) T.t_low) (cals_cons (CalOk.of h_high (by omega) T.t_high) cals_nil)))))))))
  have h_law_ops_right := ok_law_ops_right (P := P) (w := w) (base := base) T T_law_ops_right h_law_any_worth h_plus h_minus h_times h_over h_rest h_less h_same h_low h_high h_law_made hc_OPS
  have h_law_sized := (ok_law_sized (P := P) (w := w) (base := base) T T_law_sized h_law_take) 45
  have h_law_value := (ok_law_value (P := P) (w := w) (base := base) T T_law_value h_law_made) 45
  have h_is_below := ok_is_below (P := P) (w := w) (base := base) T T_is_below 
  have h_is_worth := ok_is_worth (P := P) (w := w) (base := base) T T_is_worth h_is_below
  have h_count_terms := (ok_count_terms (P := P) (w := w) (base := base) T T_count_terms h_is_worth) 45
  have h_are_terms := ok_are_terms (P := P) (w := w) (base := base) T T_are_terms h_count_terms h_is_worth
  have h_are_firsts := ok_are_firsts (P := P) (w := w) (base := base) T T_are_firsts h_are_terms
  have h_is_first := ok_is_first (P := P) (w := w) (base := base) T T_is_first h_are_firsts
  have h_are_nexts := ok_are_nexts (P := P) (w := w) (base := base) T T_are_nexts h_are_terms
  have h_is_next := ok_is_next (P := P) (w := w) (base := base) T T_is_next h_are_nexts
  have h_need_term := ok_need_term (P := P) (w := w) (base := base) T T_need_term h_is_first h_is_next
  have h_own_worth := ok_own_worth (P := P) (w := w) (base := base) T T_own_worth 
  have h_heap_ties := ok_heap_ties (P := P) (w := w) (base := base) T T_heap_ties 
  have h_heap_sum := ok_heap_sum (P := P) (w := w) (base := base) T T_heap_sum 
  have h_heap_least := ok_heap_least (P := P) (w := w) (base := base) T T_heap_least 
  have h_heap_most := ok_heap_most (P := P) (w := w) (base := base) T T_heap_most 
  have hc_BARE : CalsOk P w K mg base 1 2 fs_BARE := (cals_cons (CalOk.of h_own_worth (by omega) T.t_own_worth) (cals_cons (CalOk.of h_heap_ties (by omega) T.t_heap_ties) (cals_cons (CalOk.of h_heap_sum (by omega) T.t_heap_sum) (cals_cons (CalOk.of h_heap_least (by omega) T.t_heap_least) (cals_cons (CalOk.of h_heap_most (by omega) T.t_heap_most) cals_nil)))))
  have h_worth_of := (ok_worth_of (P := P) (w := w) (base := base) T T_worth_of h_own_worth h_heap_ties h_heap_sum h_heap_least h_heap_most h_plus h_minus h_times h_over h_rest h_less h_same h_low h_high hc_BARE hc_OPS) 45
  have h_is_row := ok_is_row (P := P) (w := w) (base := base) T T_is_row 
  have h_comes_to := ok_comes_to (P := P) (w := w) (base := base) T T_comes_to h_need_term h_is_worth h_is_row h_worth_of
  have h_law_any_term := (ok_law_any_term (P := P) (w := w) (base := base) T T_law_any_term h_law_take h_law_any_worth) 45
  have h_law_any_first := ok_law_any_first (P := P) (w := w) (base := base) T T_law_any_first h_law_any_term h_law_take
  have h_law_any_next := ok_law_any_next (P := P) (w := w) (base := base) T T_law_any_next h_law_take h_law_any_term
  have h_law_leaves := ok_law_leaves (P := P) (w := w) (base := base) T T_law_leaves 
  have h_law_mixed := ok_law_mixed (P := P) (w := w) (base := base) T T_law_mixed h_law_take
  have hc_LS_law_any_first_law_any_next : CalsOk P w K mg base 48 1 fs_LS_law_any_first_law_any_next := (cals_cons (CalOk.of h_law_any_first (by omega) T.t__law_any_first) (cals_cons (CalOk.of h_law_any_next (by omega) T.t__law_any_next) cals_nil))
  exact okF_law T F h_law_pool h_law_take h_law_any_first h_law_any_next h_law_sized h_law_leaves h_law_any_worth h_law_value h_comes_to h_law_mixed h_law_ops_right hc_LS_law_any_first_law_any_next
end
end Pr

set_option Elab.async false
set_option linter.all false
set_option maxRecDepth 10000
namespace Pr
open PySem PySem.Spec PyProof.Rows L2 DL
/-! ### pools of draws -/
theorem pool_spec (ns : List Int) (c k : Nat) (st : Sto) (hc : rdL st c = some (ns.map D.int)) :
    ∃ a b : Int, f_law_pool [.ref c, .int k] st = .ok (.ref st.length) (st ++ [.lst [.int a, .int b, .int 0]]) := by
  have hz : (3 : Nat) ≤ sizeLine := by decide
  by_cases hk : (k : Int) < ns.length
  · have hk' : k < ns.length := by exact_mod_cast hk
    have e : L2.atI (ns.map D.int) (k : Int) = some (.int ns[k]) := atI_at (by rw [List.getElem?_map, List.getElem?_eq_getElem hk']; rfl)
    by_cases hg : (1000000000000000000 : Int) ≤ (if ns[k] < 0 then -ns[k] else ns[k])
    · exact ⟨_, _, by simp [f_law_pool, b_law_pool, mDef, sRet, sRetN, sSeq, sNil, sIf, sAsg, sExpr, sPar, sAug, sNo, mAnd, mOr, mNot, mIf, m2, m1, mChain, mFn, mCall, mMeth, aCons, aNil, mVar, mC, mB, tmAnd, tmOr, tmNot, mTup, mLst, mSl, pNone, pSome, R.bind, R.toS, RS.seq, noEx, gN, gSet, DL.gTup, gsCons, gsNil, bType, kindD, bLen, bAbs, bInt, bMax2, bMin2, bTuple, bList, itemsD, oAdd, oSub, oMul, oDiv, oMod, oPow, oNeg, oLt, oLe, oGt, oGe, oLtT, oIs, oIsNot, DL.isNon, oIx, mEmp, oAddI, sAsg2, oMulI, mChain3, hc, hk, hk', e, hg, Small, hz]; exact ⟨rfl, rfl⟩⟩
    · exact ⟨_, _, by simp [f_law_pool, b_law_pool, mDef, sRet, sRetN, sSeq, sNil, sIf, sAsg, sExpr, sPar, sAug, sNo, mAnd, mOr, mNot, mIf, m2, m1, mChain, mFn, mCall, mMeth, aCons, aNil, mVar, mC, mB, tmAnd, tmOr, tmNot, mTup, mLst, mSl, pNone, pSome, R.bind, R.toS, RS.seq, noEx, gN, gSet, DL.gTup, gsCons, gsNil, bType, kindD, bLen, bAbs, bInt, bMax2, bMin2, bTuple, bList, itemsD, oAdd, oSub, oMul, oDiv, oMod, oPow, oNeg, oLt, oLe, oGt, oGe, oLtT, oIs, oIsNot, DL.isNon, oIx, mEmp, oAddI, sAsg2, oMulI, mChain3, hc, hk, hk', e, hg, Small, hz]; exact ⟨rfl, rfl⟩⟩
  · have hk' : ¬ k < ns.length := by exact_mod_cast hk
    exact ⟨_, _, by simp [f_law_pool, b_law_pool, mDef, sRet, sRetN, sSeq, sNil, sIf, sAsg, sExpr, sPar, sAug, sNo, mAnd, mOr, mNot, mIf, m2, m1, mChain, mFn, mCall, mMeth, aCons, aNil, mVar, mC, mB, tmAnd, tmOr, tmNot, mTup, mLst, mSl, pNone, pSome, R.bind, R.toS, RS.seq, noEx, gN, gSet, DL.gTup, gsCons, gsNil, bType, kindD, bLen, bAbs, bInt, bMax2, bMin2, bTuple, bList, itemsD, oAdd, oSub, oMul, oDiv, oMod, oPow, oNeg, oLt, oLe, oGt, oGe, oLtT, oIs, oIsNot, DL.isNon, oIx, mEmp, oAddI, sAsg2, oMulI, mChain3, hc, hk, hk', Small, hz]; exact ⟨rfl, rfl⟩⟩
theorem take_spec (r : Nat) (m : Int) (st : Sto) (h : IsPool st r) (h0 : 0 < m) (h1 : m < 1073741824) : ∃ v st', f_law_take [.ref r, .int m] st = .ok (.int v) st' ∧ 0 ≤ v ∧ v < m ∧ Ev r st st' := by
  obtain ⟨a, b, c, e⟩ := h
  have hr : r < st.length := (List.getElem?_eq_some_iff.mp e).1
  have e1 : rdL st r = some [.int a, .int b, .int c] := by simp [rdL, e]
  have e2 : rdW st r = some [.int a, .int b, .int c] := by simp [rdW, e]
  have ev : ∀ a b c : Int, Ev r st (st.set r (.lst [.int a, .int b, .int c])) := fun a b c => ⟨by simp, fun i hi hn => List.getElem?_set_ne (Ne.symm hn), a, b, c, List.getElem?_set_self hr⟩
  by_cases hp : 0 < a
  · refine ⟨a % m, _, by simp [f_law_take, b_law_take, mDef, sRet, sRetN, sSeq, sNil, sIf, sAsg, sExpr, sPar, sAug, sNo, mAnd, mOr, mNot, mIf, m2, m1, mChain, mFn, mCall, mMeth, aCons, aNil, mVar, mC, mB, tmAnd, tmOr, tmNot, mTup, mLst, mSl, pNone, pSome, R.bind, R.toS, RS.seq, noEx, gN, gSet, DL.gTup, gsCons, gsNil, bType, kindD, bLen, bAbs, bInt, bMax2, bMin2, bTuple, bList, itemsD, oAdd, oSub, oMul, oDiv, oMod, oPow, oNeg, oLt, oLe, oGt, oGe, oLtT, oIs, oIsNot, DL.isNon, oIx, mEmp, oAddI, sAsg2, oMulI, mChain3, e1, e2, hp, h0, h1]; rfl, Int.emod_nonneg _ (by omega), Int.emod_lt_of_pos _ h0, ev _ _ _⟩
  · have g1 : ∀ x y z : Int, rdL (st.set r (.lst [.int x, .int y, .int z])) r = some [.int x, .int y, .int z] := fun x y z => by simp [rdL, hr]
    have g2 : ∀ x y z : Int, rdW (st.set r (.lst [.int x, .int y, .int z])) r = some [.int x, .int y, .int z] := fun x y z => by simp [rdW, hr]
    have s1 : ∀ x : Int, Small (x % 2305843009213693951) := fun x => by
      have := Int.emod_nonneg x (b := 2305843009213693951) (by decide)
      have := Int.emod_lt_of_pos x (b := 2305843009213693951) (by decide)
      unfold Small; omega
    have s2 : Small 1000003 := by decide
    have s3 : Small 8191 := by decide
    refine ⟨_ % m, _, by simp [f_law_take, b_law_take, mDef, sRet, sRetN, sSeq, sNil, sIf, sAsg, sExpr, sPar, sAug, sNo, mAnd, mOr, mNot, mIf, m2, m1, mChain, mFn, mCall, mMeth, aCons, aNil, mVar, mC, mB, tmAnd, tmOr, tmNot, mTup, mLst, mSl, pNone, pSome, R.bind, R.toS, RS.seq, noEx, gN, gSet, DL.gTup, gsCons, gsNil, bType, kindD, bLen, bAbs, bInt, bMax2, bMin2, bTuple, bList, itemsD, oAdd, oSub, oMul, oDiv, oMod, oPow, oNeg, oLt, oLe, oGt, oGe, oLtT, oIs, oIsNot, DL.isNon, oIx, mEmp, oAddI, sAsg2, oMulI, mChain3, e1, e2, hp, h0, g1, g2, s1, s2, s3]; exact ⟨rfl, rfl⟩, Int.emod_nonneg _ (by omega), Int.emod_lt_of_pos _ h0, ev _ _ _⟩
theorem take_of {r : Nat} {m : Int} {st : Sto} (h : IsPool st r) (h0 : 0 < m) (h1 : m < 1073741824) : ∃ v st', f_law_take [.ref r, .int m] st = .ok (.int v) st' ∧ 0 ≤ v ∧ v < m ∧ Ev r st st' := take_spec r m st h h0 h1
end Pr
set_option Elab.async false
set_option linter.all false
set_option maxRecDepth 10000
namespace DL
open PySem PySem.Spec PyProof.Rows L2
theorem sFor_tup {m : En → Sto → R D} {g : GT} {mb : En → Sto → RS} {env env' : En} {st st1 st' : Sto} {xs : List D} (e : m env st = .ok (.tup xs) st1) (h : loopS xs none g mb xs env st1 = .nx env' st') : sFor (DL.iVal m) g mb env st = .nx env' st' := by
  simp only [sFor, DL.iVal, e, R.bind, R.toS]
  exact h
theorem sFor_lst {m : En → Sto → R D} {g : GT} {mb : En → Sto → RS} {env env' : En} {st st1 st' : Sto} {xs : List D} {r : Nat} (e : m env st = .ok (.ref r) st1) (er : rdL st1 r = some xs) (h : loopS xs (some r) g mb xs env st1 = .nx env' st') : sFor (DL.iVal m) g mb env st = .nx env' st' := by
  simp only [sFor, DL.iVal, e, er, R.bind, R.toS]
  exact h
theorem oNe_int (a b : Int) (st : Sto) : oNe (.int a) (.int b) st = .ok (.bl (!decide (a = b))) st := by
  have r4 : ∀ n : Int, toP st (.int n) = some (.int n) := fun n => rfl
  have r5 : PyData.eqv (.int a) (.int b) = decide (a = b) := by simp only [PyData.eqv]; rw [Bool.eq_iff_iff]; simp
  have r6 : ∀ n : Int, SeqAt.shaped (.int n) = true := fun n => by simp [SeqAt.shaped, PyData.canLay0, PyData.depth]
  simp [oNe, r4, r5, r6]
theorem cutD_from {xs : List D} {k : Nat} : cutD xs (some (k : Int)) none = xs.drop k := by
  unfold cutD
  rw [HT.sIx_nat, HT.sIx_none]
  by_cases h : k ≤ xs.length
  · rw [Nat.min_eq_left h, List.take_of_length_le (by simp)]
  · rw [List.drop_eq_nil_of_le (by omega), List.drop_eq_nil_of_le (by omega), List.take_nil]
theorem cutD_to {xs : List D} {k : Nat} : cutD xs none (some (k : Int)) = xs.take k := by
  unfold cutD
  rw [HT.sIx_nat, HT.sIx_none, List.drop_zero, Nat.sub_zero]
  by_cases h : k ≤ xs.length
  · rw [Nat.min_eq_left h]
  · rw [List.take_of_length_le (by omega), List.take_of_length_le (by omega)]
theorem oSl1 (xs : List D) (st : Sto) : oSl (.tup xs) (some 1) none st = .ok (.tup (xs.drop 1)) st := by
  show R.ok (D.tup (cutD xs (some ((1 : Nat) : Int)) none)) st = _
  rw [cutD_from]
/-! ### terms -/
inductive Te where
  | num (n : Nat) | bare (w : Str) | many (k : Nat) | op (o : Str) (a b : Te) | ite (c a b : Te)
namespace Te
def d : Te → D
  | num n => .int n
  | bare w => .tup [.str w]
  | many k => .tup [.str "many", .int k]
  | op o a b => .tup [.str o, a.d, b.d]
  | ite c a b => .tup [.str "if", c.d, a.d, b.d]
def size : Te → Nat
  | num _ | bare _ | many _ => 1
  | op _ a b => 1 + a.size + b.size
  | ite c a b => 1 + c.size + a.size + b.size
def deep : Te → Nat
  | num _ | bare _ | many _ => 0
  | op _ a b => 1 + max a.deep b.deep
  | ite c a b => 1 + max c.deep (max a.deep b.deep)
def comp : Te → Bool
  | op _ _ _ | ite _ _ _ => true
  | _ => false
def opsN : List Str := ["plus", "minus", "times", "over", "rest", "less", "same", "low", "high"]
def Ok (bs : List Str) (m : Bool) : Te → Prop
  | num n => n < 997
  | bare w => w ∈ bs
  | many k => m = true ∧ k < 997
  | op o a b => o ∈ opsN ∧ a.Ok bs m ∧ b.Ok bs m
  | ite c a b => c.Ok bs m ∧ a.Ok bs m ∧ b.Ok bs m
theorem size_pos : ∀ t : Te, 1 ≤ t.size
  | num _ | bare _ | many _ => Nat.le_refl _
  | op _ a b => by simp only [size]; omega
  | ite c a b => by simp only [size]; omega
theorem size_leaf : ∀ {t : Te}, t.comp = false → t.size = 1
  | num _, _ | bare _, _ | many _, _ => rfl
end Te
abbrev bareD (bs : List Str) : D := .tup (bs.map D.str)
abbrev prD (m : Bool) : D := .tup (if m then [.str "many"] else [])
theorem toP_str (st : Sto) (x : Str) : toP st (.str x) = some (.str x) := rfl
theorem pds_strs (rd : Nat → Option PyData) : ∀ bs : List Str, pds rd (bs.map D.str) = some (bs.map PyData.str)
  | [] => rfl
  | b :: r => by simp [pds, pd, pds_strs rd r]
theorem lay_strs : ∀ {bs : List Str}, (∀ b ∈ bs, PyData.strOk b = true) → PyData.canLayAll0 (bs.map PyData.str) = true
  | [], _ => rfl
  | b :: r, h => by simp [PyData.canLayAll0, PyData.canLay0, h b List.mem_cons_self, lay_strs fun x hx => h x (List.mem_cons_of_mem _ hx)]
theorem any_strs (w : Str) (bs : List Str) : ((bs.map PyData.str).any fun z => PyData.eqv z (.str w)) = decide (w ∈ bs) := by
  induction bs with
  | nil => rfl
  | cons b r ih =>
    rw [List.map_cons, List.any_cons, ih]
    by_cases e : w = b
    · subst e; simp [PyData.eqv]
    · have : ¬ b = w := fun q => e q.symm
      simp [PyData.eqv, e, this]
theorem oNotIn_str {w : Str} {bs : List Str} (h : ∀ b ∈ bs, PyData.strOk b = true) (hw : PyData.strOk w = true) (st : Sto) : oNotIn (.str w) (.tup (bs.map D.str)) st = .ok (.bl (!decide (w ∈ bs))) st := by
  have e1 : toP st (.tup (bs.map D.str)) = some (.tuple (bs.map PyData.str)) := by show (pds _ _).map _ = _; rw [pds_strs]; rfl
  have e2 : SeqAt.shaped (.str w) = true := by simp [SeqAt.shaped, PyData.canLay0, PyData.depth, hw]
  unfold oNotIn
  simp only [oNotIn, toP_str, e1, e2, lay_strs h, and_self, if_true, any_strs]
theorem oIn_str {w : Str} {bs : List Str} (h : ∀ b ∈ bs, PyData.strOk b = true) (hw : PyData.strOk w = true) (st : Sto) : oIn (.str w) (.tup (bs.map D.str)) st = .ok (.bl (decide (w ∈ bs))) st := by
  have e1 : toP st (.tup (bs.map D.str)) = some (.tuple (bs.map PyData.str)) := by show (pds _ _).map _ = _; rw [pds_strs]; rfl
  have e2 : SeqAt.shaped (.str w) = true := by simp [SeqAt.shaped, PyData.canLay0, PyData.depth, hw]
  simp only [oIn, toP_str, e1, e2, lay_strs h, and_self, if_true, any_strs]
theorem oNe_strs {a b : Str} (ha : PyData.strOk a = true) (hb : PyData.strOk b = true) (st : Sto) : oNe (.str a) (.str b) st = .ok (.bl (!decide (a = b))) st := by
  have e2 : ∀ {w : Str}, PyData.strOk w = true → SeqAt.shaped (.str w) = true := fun hw => by simp [SeqAt.shaped, PyData.canLay0, PyData.depth, hw]
  have e3 : PyData.eqv (.str a) (.str b) = decide (a = b) := by by_cases q : a = b <;> simp [PyData.eqv, q]
  simp only [oNe, toP_str, e2 ha, e2 hb, and_self, if_true, e3]
end DL
namespace Pr
open PySem PySem.Spec PyProof.Rows L2 DL
noncomputable def cBody (rec : List D → Sto → R D) : En → Sto → RS :=
  (sIf (mB (m2 oIs (mFn bType (aCons (mVar 6) aNil)) (mC (.ty "tuple"))))
  (sSeq (sAsg (mFn bLen (aCons (mVar 6) aNil)) (gN 7))
 (sIf (mB (m2 oEq (mVar 7) (mC (.int 1))))
  (sIf (mB (m2 oNotIn (m2 oIx (mVar 6) (mC (.int 0))) (mVar 1)))
  (sRet (mC (.int 41)))
  sNil)
  (sIf (mB (m2 oGt (mVar 7) (mC (.int 2))))
  (sAug 4 (m2 oSub (mCall rec (aCons (mVar 6) (aCons (mVar 1) (aCons (mVar 2) (aCons (m2 oSub (mVar 3) (mC (.int 1))) aNil))))) (mC (.int 1))) oAddI)
  (sIf (tmOr (mB (m2 oEq (mVar 7) (mC (.int 0)))) (tmOr (mB (m2 oNotIn (m2 oIx (mVar 6) (mC (.int 0))) (mVar 2))) (tmNot (mB (mCall f_is_worth (aCons (m2 oIx (mVar 6) (mC (.int 1))) aNil))))))
  (sRet (mC (.int 41)))
  sNil))))
  (sIf (tmOr (mB (m2 oIsNot (mFn bType (aCons (mVar 6) aNil)) (mC (.ty "int")))) (tmNot (mB (mChain oLe oLtT (mC (.int 0)) (mVar 6) (mC (.int 997))))))
  (sRet (mC (.int 41)))
  sNil))
theorem is_worth_ok {n : Nat} (h : n < 997) (st : Sto) : f_is_worth [.int n] st = .ok (.bl true) st := by
  have h' : (n : Int) < 997 := by omega
  simp [f_is_worth, b_is_worth, f_is_below, b_is_below, mDef, sRet, sRetN, sSeq, sNil, sIf, sAsg, sExpr, sPar, sAug, sNo, mAnd, mOr, mNot, mIf, m2, m1, mChain, mFn, mCall, mMeth, aCons, aNil, mVar, mC, mB, tmAnd, tmOr, tmNot, mTup, mLst, mSl, pNone, pSome, R.bind, R.toS, RS.seq, noEx, gN, gSet, DL.gTup, gsCons, gsNil, bType, kindD, bLen, bAbs, bInt, bMax2, bMin2, bTuple, bList, itemsD, oAdd, oSub, oMul, oDiv, oMod, oPow, oNeg, oLt, oLe, oGt, oGe, oLtT, oIs, oIsNot, DL.isNon, oIx, mEmp, oAddI, sAsg2, oMulI, mChain3, h, h']
section
variable {bs : List Str} {m : Bool} (hbs : ∀ b ∈ bs, PyData.strOk b = true)
include hbs
theorem part_step {rec : List D → Sto → R D} {p : Te} (hp : p.Ok bs m) {th hd : D} {k many : Int} {q6 q7 : Option D} {st : Sto} (hr : p.comp = true → rec [p.d, bareD bs, prD m, .int (k - 1)] st = .ok (.int p.size) st) :
    ∃ q7', cBody rec [some th, some (bareD bs), some (prD m), some (.int k), some (.int many), some hd, some p.d, q7] st = .nx [some th, some (bareD bs), some (prD m), some (.int k), some (.int (many + (p.size - 1 : Nat))), some hd, some p.d, q7'] st := by
  cases p with
  | num n =>
    have h' : n < 997 := hp
    have h2 : (n : Int) < 997 := by omega
    exact ⟨q7, by simp [cBody, mDef, sRet, sRetN, sSeq, sNil, sIf, sAsg, sExpr, sPar, sAug, sNo, mAnd, mOr, mNot, mIf, m2, m1, mChain, mFn, mCall, mMeth, aCons, aNil, mVar, mC, mB, tmAnd, tmOr, tmNot, mTup, mLst, mSl, pNone, pSome, R.bind, R.toS, RS.seq, noEx, gN, gSet, DL.gTup, gsCons, gsNil, bType, kindD, bLen, bAbs, bInt, bMax2, bMin2, bTuple, bList, itemsD, oAdd, oSub, oMul, oDiv, oMod, oPow, oNeg, oLt, oLe, oGt, oGe, oLtT, oIs, oIsNot, DL.isNon, oIx, mEmp, oAddI, sAsg2, oMulI, mChain3, Te.d, Te.size, h2]⟩
  | bare w =>
    have hw : w ∈ bs := hp
    have := oNotIn_str hbs (hbs w hw) st
    simp only [hw, decide_true, Bool.not_true] at this
    exact ⟨some (.int 1), by simp [cBody, mDef, sRet, sRetN, sSeq, sNil, sIf, sAsg, sExpr, sPar, sAug, sNo, mAnd, mOr, mNot, mIf, m2, m1, mChain, mFn, mCall, mMeth, aCons, aNil, mVar, mC, mB, tmAnd, tmOr, tmNot, mTup, mLst, mSl, pNone, pSome, R.bind, R.toS, RS.seq, noEx, gN, gSet, DL.gTup, gsCons, gsNil, bType, kindD, bLen, bAbs, bInt, bMax2, bMin2, bTuple, bList, itemsD, oAdd, oSub, oMul, oDiv, oMod, oPow, oNeg, oLt, oLe, oGt, oGe, oLtT, oIs, oIsNot, DL.isNon, oIx, mEmp, oAddI, sAsg2, oMulI, mChain3, Te.d, Te.size, this]⟩
  | many n =>
    obtain ⟨rfl, hn⟩ : m = true ∧ n < 997 := hp
    have := oNotIn_str (bs := ["many"]) (w := "many") (by decide +kernel) (by decide +kernel) st
    simp at this
    exact ⟨some (.int 2), by simp [cBody, mDef, sRet, sRetN, sSeq, sNil, sIf, sAsg, sExpr, sPar, sAug, sNo, mAnd, mOr, mNot, mIf, m2, m1, mChain, mFn, mCall, mMeth, aCons, aNil, mVar, mC, mB, tmAnd, tmOr, tmNot, mTup, mLst, mSl, pNone, pSome, R.bind, R.toS, RS.seq, noEx, gN, gSet, DL.gTup, gsCons, gsNil, bType, kindD, bLen, bAbs, bInt, bMax2, bMin2, bTuple, bList, itemsD, oAdd, oSub, oMul, oDiv, oMod, oPow, oNeg, oLt, oLe, oGt, oGe, oLtT, oIs, oIsNot, DL.isNon, oIx, mEmp, oAddI, sAsg2, oMulI, mChain3, Te.d, Te.size, this, is_worth_ok hn, show prD true = .tup [.str "many"] from rfl]⟩
  | op o a b =>
    have := hr rfl
    have e : many + ((Te.op o a b).size - 1 : Nat) = many + (((Te.op o a b).size : Int) - 1) := by have := (Te.op o a b).size_pos; omega
    rw [e]
    generalize (Te.op o a b).size = z at this ⊢
    simp only [Te.d] at this ⊢
    exact ⟨some (.int 3), by simp [cBody, mDef, sRet, sRetN, sSeq, sNil, sIf, sAsg, sExpr, sPar, sAug, sNo, mAnd, mOr, mNot, mIf, m2, m1, mChain, mFn, mCall, mMeth, aCons, aNil, mVar, mC, mB, tmAnd, tmOr, tmNot, mTup, mLst, mSl, pNone, pSome, R.bind, R.toS, RS.seq, noEx, gN, gSet, DL.gTup, gsCons, gsNil, bType, kindD, bLen, bAbs, bInt, bMax2, bMin2, bTuple, bList, itemsD, oAdd, oSub, oMul, oDiv, oMod, oPow, oNeg, oLt, oLe, oGt, oGe, oLtT, oIs, oIsNot, DL.isNon, oIx, mEmp, oAddI, sAsg2, oMulI, mChain3, sAug, this]⟩
  | ite c a b =>
    have := hr rfl
    have e : many + ((Te.ite c a b).size - 1 : Nat) = many + (((Te.ite c a b).size : Int) - 1) := by have := (Te.ite c a b).size_pos; omega
    rw [e]
    generalize (Te.ite c a b).size = z at this ⊢
    simp only [Te.d] at this ⊢
    exact ⟨some (.int 4), by simp [cBody, mDef, sRet, sRetN, sSeq, sNil, sIf, sAsg, sExpr, sPar, sAug, sNo, mAnd, mOr, mNot, mIf, m2, m1, mChain, mFn, mCall, mMeth, aCons, aNil, mVar, mC, mB, tmAnd, tmOr, tmNot, mTup, mLst, mSl, pNone, pSome, R.bind, R.toS, RS.seq, noEx, gN, gSet, DL.gTup, gsCons, gsNil, bType, kindD, bLen, bAbs, bInt, bMax2, bMin2, bTuple, bList, itemsD, oAdd, oSub, oMul, oDiv, oMod, oPow, oNeg, oLt, oLe, oGt, oGe, oLtT, oIs, oIsNot, DL.isNon, oIx, mEmp, oAddI, sAsg2, oMulI, mChain3, sAug, this]⟩
theorem count_ok : ∀ (t : Te), t.comp = true → t.Ok bs m → ∀ (n k : Nat) (st : Sto), t.deep ≤ n → t.deep ≤ k → f_count_terms n [t.d, bareD bs, prD m, .int k] st = .ok (.int t.size) st
  | .num _, h, _, _, _, _, _, _ => by cases h
  | .bare _, h, _, _, _, _, _, _ => by cases h
  | .many _, h, _, _, _, _, _, _ => by cases h
  | .op o a b, _, ho, n, k, st, hn, hk => by
    obtain ⟨ho, ha, hb⟩ := ho
    simp only [Te.deep] at hn hk
    obtain ⟨n, rfl⟩ : ∃ j, n = j + 1 := ⟨n - 1, by omega⟩
    have ek : ((k : Int) - 1) = ((k - 1 : Nat) : Int) := by omega
    have ra : a.comp = true → f_count_terms n [a.d, bareD bs, prD m, .int ((k : Int) - 1)] st = .ok (.int a.size) st := fun c => by rw [ek]; exact count_ok a c ha n (k - 1) st (by omega) (by omega)
    have rb : b.comp = true → f_count_terms n [b.d, bareD bs, prD m, .int ((k : Int) - 1)] st = .ok (.int b.size) st := fun c => by rw [ek]; exact count_ok b c hb n (k - 1) st (by omega) (by omega)
    obtain ⟨q7, s1⟩ := part_step hbs ha (th := .tup [.str o, a.d, b.d]) (hd := .str o) (k := k) (many := 3) (q6 := none) (q7 := none) ra
    obtain ⟨q8, s2⟩ := part_step hbs hb (th := .tup [.str o, a.d, b.d]) (hd := .str o) (k := k) (many := 3 + (a.size - 1 : Nat)) (q6 := none) (q7 := q7) rb
    have e3 : (3 + ((a.size - 1 : Nat) : Int) + ((b.size - 1 : Nat) : Int)) = ((1 + a.size + b.size : Nat) : Int) := by have := a.size_pos; have := b.size_pos; omega
    rw [e3] at s2
    have k0 : ¬ k = 0 := by omega
    have ht : oNotInT d_TABS (.str o) (.nam "OPS") st = .ok (.bl false) st := by
      simp only [Te.opsN, List.mem_cons, List.not_mem_nil, or_false] at ho
      rcases ho with rfl | rfl | rfl | rfl | rfl | rfl | rfl | rfl | rfl <;> rfl
    have lo : sFor (DL.iVal (mSl (mVar 0) (pSome (mC (.int 1))) pNone)) (gN 6) (cBody (f_count_terms n)) [some (.tup [.str o, a.d, b.d]), some (bareD bs), some (prD m), some (.int k), some (.int 3), some (.str o), none, none] st
        = .nx [some (.tup [.str o, a.d, b.d]), some (bareD bs), some (prD m), some (.int k), some (.int (1 + a.size + b.size : Nat)), some (.str o), some b.d, q8] st := by
      refine sFor_tup (xs := [a.d, b.d]) (st1 := st) (by simp [mDef, sRet, sRetN, sSeq, sNil, sIf, sAsg, sExpr, sPar, sAug, sNo, mAnd, mOr, mNot, mIf, m2, m1, mChain, mFn, mCall, mMeth, aCons, aNil, mVar, mC, mB, tmAnd, tmOr, tmNot, mTup, mLst, mSl, pNone, pSome, R.bind, R.toS, RS.seq, noEx, gN, gSet, DL.gTup, gsCons, gsNil, bType, kindD, bLen, bAbs, bInt, bMax2, bMin2, bTuple, bList, itemsD, oAdd, oSub, oMul, oDiv, oMod, oPow, oNeg, oLt, oLe, oGt, oGe, oLtT, oIs, oIsNot, DL.isNon, oIx, mEmp, oAddI, sAsg2, oMulI, mChain3, oSl1]) ?_
      simp [loopS, gOk, gN, s1, s2]
    show mDef 8 (b_count_terms (f_count_terms n)) _ st = _
    have b0 : b_count_terms (f_count_terms n) = (sSeq (sAsg (mFn bLen (aCons (mVar 0) aNil)) (gN 4))
 (sSeq (sAsg (m2 oIx (mVar 0) (mC (.int 0))) (gN 5))
 (sSeq (sIf (tmOr (mB (m2 oEq (mVar 3) (mC (.int 0)))) (tmAnd (mB (m2 oEq (mVar 4) (mC (.int 3)))) (tmOr (mB (m2 oIsNot (mFn bType (aCons (mVar 5) aNil)) (mC (.ty "str")))) (mB (m2 (oNotInT d_TABS) (mVar 5) (mC (.nam "OPS")))))))
  (sRet (mC (.int 41)))
  sNil)
 (sSeq (sIf (tmAnd (mB (m2 oGt (mVar 4) (mC (.int 3)))) (tmOr (mB (m2 oGt (mVar 4) (mC (.int 4)))) (mB (m2 oNe (mVar 5) (mC (.str "if"))))))
  (sRet (mC (.int 41)))
  sNil)
 (sSeq (sFor (DL.iVal (mSl (mVar 0) (pSome (mC (.int 1))) pNone)) (gN 6) (cBody (f_count_terms n)))
 (sRet (mVar 4))))))) := rfl
    rw [b0]
    simp only [Te.d, Te.size]
    simp [mDef, sRet, sRetN, sSeq, sNil, sIf, sAsg, sExpr, sPar, sAug, sNo, mAnd, mOr, mNot, mIf, m2, m1, mChain, mFn, mCall, mMeth, aCons, aNil, mVar, mC, mB, tmAnd, tmOr, tmNot, mTup, mLst, mSl, pNone, pSome, R.bind, R.toS, RS.seq, noEx, gN, gSet, DL.gTup, gsCons, gsNil, bType, kindD, bLen, bAbs, bInt, bMax2, bMin2, bTuple, bList, itemsD, oAdd, oSub, oMul, oDiv, oMod, oPow, oNeg, oLt, oLe, oGt, oGe, oLtT, oIs, oIsNot, DL.isNon, oIx, mEmp, oAddI, sAsg2, oMulI, mChain3, k0, ht, lo]
  | .ite c a b, _, ho, n, k, st, hn, hk => by
    obtain ⟨hc, ha, hb⟩ := ho
    simp only [Te.deep] at hn hk
    obtain ⟨n, rfl⟩ : ∃ j, n = j + 1 := ⟨n - 1, by omega⟩
    have ek : ((k : Int) - 1) = ((k - 1 : Nat) : Int) := by omega
    have rc : c.comp = true → f_count_terms n [c.d, bareD bs, prD m, .int ((k : Int) - 1)] st = .ok (.int c.size) st := fun q => by rw [ek]; exact count_ok c q hc n (k - 1) st (by omega) (by omega)
    have ra : a.comp = true → f_count_terms n [a.d, bareD bs, prD m, .int ((k : Int) - 1)] st = .ok (.int a.size) st := fun q => by rw [ek]; exact count_ok a q ha n (k - 1) st (by omega) (by omega)
    have rb : b.comp = true → f_count_terms n [b.d, bareD bs, prD m, .int ((k : Int) - 1)] st = .ok (.int b.size) st := fun q => by rw [ek]; exact count_ok b q hb n (k - 1) st (by omega) (by omega)
    obtain ⟨q6, s0⟩ := part_step hbs hc (th := .tup [.str "if", c.d, a.d, b.d]) (hd := .str "if") (k := k) (many := 4) (q6 := none) (q7 := none) rc
    obtain ⟨q7, s1⟩ := part_step hbs ha (th := .tup [.str "if", c.d, a.d, b.d]) (hd := .str "if") (k := k) (many := 4 + (c.size - 1 : Nat)) (q6 := none) (q7 := q6) ra
    obtain ⟨q8, s2⟩ := part_step hbs hb (th := .tup [.str "if", c.d, a.d, b.d]) (hd := .str "if") (k := k) (many := 4 + (c.size - 1 : Nat) + (a.size - 1 : Nat)) (q6 := none) (q7 := q7) rb
    have e3 : (4 + ((c.size - 1 : Nat) : Int) + ((a.size - 1 : Nat) : Int) + ((b.size - 1 : Nat) : Int)) = ((1 + c.size + a.size + b.size : Nat) : Int) := by have := a.size_pos; have := b.size_pos; have := c.size_pos; omega
    rw [e3] at s2
    have k0 : ¬ k = 0 := by omega
    have hi : oNe (.str "if") (.str "if") st = .ok (.bl false) st := by rw [oNe_strs (by decide +kernel) (by decide +kernel)]; simp
    have lo : sFor (DL.iVal (mSl (mVar 0) (pSome (mC (.int 1))) pNone)) (gN 6) (cBody (f_count_terms n)) [some (.tup [.str "if", c.d, a.d, b.d]), some (bareD bs), some (prD m), some (.int k), some (.int 4), some (.str "if"), none, none] st
        = .nx [some (.tup [.str "if", c.d, a.d, b.d]), some (bareD bs), some (prD m), some (.int k), some (.int (1 + c.size + a.size + b.size : Nat)), some (.str "if"), some b.d, q8] st := by
      refine sFor_tup (xs := [c.d, a.d, b.d]) (st1 := st) (by simp [mDef, sRet, sRetN, sSeq, sNil, sIf, sAsg, sExpr, sPar, sAug, sNo, mAnd, mOr, mNot, mIf, m2, m1, mChain, mFn, mCall, mMeth, aCons, aNil, mVar, mC, mB, tmAnd, tmOr, tmNot, mTup, mLst, mSl, pNone, pSome, R.bind, R.toS, RS.seq, noEx, gN, gSet, DL.gTup, gsCons, gsNil, bType, kindD, bLen, bAbs, bInt, bMax2, bMin2, bTuple, bList, itemsD, oAdd, oSub, oMul, oDiv, oMod, oPow, oNeg, oLt, oLe, oGt, oGe, oLtT, oIs, oIsNot, DL.isNon, oIx, mEmp, oAddI, sAsg2, oMulI, mChain3, oSl1]) ?_
      simp [loopS, gOk, gN, s0, s1, s2]
    show mDef 8 (b_count_terms (f_count_terms n)) _ st = _
    have b0 : b_count_terms (f_count_terms n) = (sSeq (sAsg (mFn bLen (aCons (mVar 0) aNil)) (gN 4))
 (sSeq (sAsg (m2 oIx (mVar 0) (mC (.int 0))) (gN 5))
 (sSeq (sIf (tmOr (mB (m2 oEq (mVar 3) (mC (.int 0)))) (tmAnd (mB (m2 oEq (mVar 4) (mC (.int 3)))) (tmOr (mB (m2 oIsNot (mFn bType (aCons (mVar 5) aNil)) (mC (.ty "str")))) (mB (m2 (oNotInT d_TABS) (mVar 5) (mC (.nam "OPS")))))))
  (sRet (mC (.int 41)))
  sNil)
 (sSeq (sIf (tmAnd (mB (m2 oGt (mVar 4) (mC (.int 3)))) (tmOr (mB (m2 oGt (mVar 4) (mC (.int 4)))) (mB (m2 oNe (mVar 5) (mC (.str "if"))))))
  (sRet (mC (.int 41)))
  sNil)
 (sSeq (sFor (DL.iVal (mSl (mVar 0) (pSome (mC (.int 1))) pNone)) (gN 6) (cBody (f_count_terms n)))
 (sRet (mVar 4))))))) := rfl
    rw [b0]
    simp only [Te.d, Te.size]
    simp [mDef, sRet, sRetN, sSeq, sNil, sIf, sAsg, sExpr, sPar, sAug, sNo, mAnd, mOr, mNot, mIf, m2, m1, mChain, mFn, mCall, mMeth, aCons, aNil, mVar, mC, mB, tmAnd, tmOr, tmNot, mTup, mLst, mSl, pNone, pSome, R.bind, R.toS, RS.seq, noEx, gN, gSet, DL.gTup, gsCons, gsNil, bType, kindD, bLen, bAbs, bInt, bMax2, bMin2, bTuple, bList, itemsD, oAdd, oSub, oMul, oDiv, oMod, oPow, oNeg, oLt, oLe, oGt, oGe, oLtT, oIs, oIsNot, DL.isNon, oIx, mEmp, oAddI, sAsg2, oMulI, mChain3, k0, hi, lo]
end
end Pr
set_option Elab.async false
set_option linter.all false
set_option maxRecDepth 10000
namespace DL
open PySem PySem.Spec PyProof.Rows L2
namespace Te
def looks : Te → Bool
  | num _ => false
  | bare w => decide (w ∈ (["sum", "least", "most", "many"] : List Str))
  | many _ => true
  | op _ a b => a.looks || b.looks
  | ite c a b => c.looks || a.looks || b.looks
def ofD : D → Te
  | .int i => num i.toNat
  | .tup [.str w] => bare w
  | .tup [.str _, .int k] => many k.toNat
  | .tup [.str o, a, b] => op o (ofD a) (ofD b)
  | .tup [.str _, c, a, b] => ite (ofD c) (ofD a) (ofD b)
  | _ => num 0
theorem ofD_d : ∀ t : Te, ofD t.d = t
  | num n => by simp [ofD, d]
  | bare w => by simp [ofD, d]
  | many k => by simp [ofD, d]
  | op o a b => by simp [ofD, d, ofD_d a, ofD_d b]
  | ite c a b => by simp [ofD, d, ofD_d a, ofD_d b, ofD_d c]
end Te
theorem sFor_eq {m : En → Sto → R D} {g : GT} {mb : En → Sto → RS} {env : En} {st st1 : Sto} {xs : List D} (e : m env st = .ok (.tup xs) st1) : sFor (DL.iVal m) g mb env st = loopS xs none g mb xs env st1 := by
  simp only [sFor, DL.iVal, e, R.bind, R.toS]
theorem oNe_nil {ds : List D} {st : Sto} {a b : Nat} (h : ∀ d ∈ ds, isLeaf d = true) (ha : rdL st a = some ds) (hb : rdL st b = some []) : oNe (.ref a) (.ref b) st = .ok (.bl (!ds.isEmpty)) st := by
  obtain ⟨p, a1, a2, a3, a4, a5⟩ := toP_ref h
  obtain ⟨q, b1, b2, b3, b4, _⟩ := toP_ref (ds := []) (by simp)
  have eq := b4 rfl
  subst eq
  cases ds with
  | nil =>
    have := a4 rfl
    subst this
    simp [oNe, a1 _ _ ha, b1 _ _ hb, b2, PyData.eqv, PyData.eqvAll]
  | cons d0 r0 =>
    obtain ⟨x, r, rfl⟩ := List.exists_cons_of_ne_nil (a5 (by simp))
    simp [oNe, a1 _ _ ha, b1 _ _ hb, a2, b2, PyData.eqv, PyData.eqvAll]
def heapW : List Str := ["sum", "least", "most", "many"]
end DL
namespace Pr
open PySem PySem.Spec PyProof.Rows L2 DL
theorem heap_ok : ∀ b ∈ heapW, PyData.strOk b = true := by decide +kernel
theorem ops_ok : ∀ b ∈ ("if" :: Te.opsN : List Str), PyData.strOk b = true := by decide +kernel
theorem ops_no : ∀ b ∈ ("if" :: Te.opsN : List Str), b ∉ heapW := by decide +kernel
/-! ### the program's looks -/
end Pr
set_option Elab.async false
set_option linter.all false
set_option maxRecDepth 10000
namespace DL
open PySem PySem.Spec PyProof.Rows L2
/-- terms as are handed in: not too deep, not too great -/
structure Te.Good (bs : List Str) (m : Bool) (t : Te) : Prop where
  ok : t.Ok bs m
  deep : t.deep ≤ 5
  size : t.size ≤ 40
end DL
namespace Pr
open PySem PySem.Spec PyProof.Rows L2 DL
section
variable {bs : List Str} {m : Bool} (hbs : ∀ b ∈ bs, PyData.strOk b = true)
include hbs
theorem are_step {t : Te} (h : t.Good bs m) {th : D} {q4 : Option D} {st : Sto} :
    ∃ q', L1_are_terms [some th, some (bareD bs), some (prD m), some t.d, q4] st = .nx [some th, some (bareD bs), some (prD m), some t.d, q'] st := by
  cases t with
  | num n =>
    have h' : n < 997 := h.ok
    have h2 : (n : Int) < 997 := by omega
    exact ⟨q4, by simp [L1_are_terms, mDef, sRet, sRetN, sSeq, sNil, sIf, sAsg, sExpr, sPar, sAug, sNo, mAnd, mOr, mNot, mIf, m2, m1, mChain, mFn, mCall, mMeth, aCons, aNil, mVar, mC, mB, tmAnd, tmOr, tmNot, mTup, mLst, mSl, pNone, pSome, R.bind, R.toS, RS.seq, noEx, gN, gSet, DL.gTup, gsCons, gsNil, bType, kindD, bLen, bAbs, bInt, bMax2, bMin2, bTuple, bList, itemsD, oAdd, oSub, oMul, oDiv, oMod, oPow, oNeg, oLt, oLe, oGt, oGe, oLtT, oIs, oIsNot, DL.isNon, oIx, mEmp, oAddI, sAsg2, oMulI, mChain3, Te.d, h2]⟩
  | bare w =>
    have hw : w ∈ bs := h.ok
    have := oNotIn_str hbs (hbs w hw) st
    simp only [hw, decide_true, Bool.not_true] at this
    exact ⟨some (.int 1), by simp [L1_are_terms, mDef, sRet, sRetN, sSeq, sNil, sIf, sAsg, sExpr, sPar, sAug, sNo, mAnd, mOr, mNot, mIf, m2, m1, mChain, mFn, mCall, mMeth, aCons, aNil, mVar, mC, mB, tmAnd, tmOr, tmNot, mTup, mLst, mSl, pNone, pSome, R.bind, R.toS, RS.seq, noEx, gN, gSet, DL.gTup, gsCons, gsNil, bType, kindD, bLen, bAbs, bInt, bMax2, bMin2, bTuple, bList, itemsD, oAdd, oSub, oMul, oDiv, oMod, oPow, oNeg, oLt, oLe, oGt, oGe, oLtT, oIs, oIsNot, DL.isNon, oIx, mEmp, oAddI, sAsg2, oMulI, mChain3, Te.d, this]⟩
  | many n =>
    obtain ⟨rfl, hn⟩ : m = true ∧ n < 997 := h.ok
    have := oNotIn_str (bs := ["many"]) (w := "many") (by decide +kernel) (by decide +kernel) st
    simp at this
    exact ⟨some (.int 2), by simp [L1_are_terms, mDef, sRet, sRetN, sSeq, sNil, sIf, sAsg, sExpr, sPar, sAug, sNo, mAnd, mOr, mNot, mIf, m2, m1, mChain, mFn, mCall, mMeth, aCons, aNil, mVar, mC, mB, tmAnd, tmOr, tmNot, mTup, mLst, mSl, pNone, pSome, R.bind, R.toS, RS.seq, noEx, gN, gSet, DL.gTup, gsCons, gsNil, bType, kindD, bLen, bAbs, bInt, bMax2, bMin2, bTuple, bList, itemsD, oAdd, oSub, oMul, oDiv, oMod, oPow, oNeg, oLt, oLe, oGt, oGe, oLtT, oIs, oIsNot, DL.isNon, oIx, mEmp, oAddI, sAsg2, oMulI, mChain3, Te.d, this, is_worth_ok hn, show prD true = .tup [.str "many"] from rfl]⟩
  | op o a b =>
    have e := count_ok hbs (.op o a b) rfl h.ok 45 5 st (by have := h.deep; omega) h.deep
    have sz := h.size
    generalize (Te.op o a b).size = z at e sz
    have s2 : ¬ (40 : Int) < z := by omega
    have s3 : ¬ 40 < z := by omega
    simp only [Te.d] at e ⊢
    exact ⟨some (.int 3), by simp at e; simp [L1_are_terms, mDef, sRet, sRetN, sSeq, sNil, sIf, sAsg, sExpr, sPar, sAug, sNo, mAnd, mOr, mNot, mIf, m2, m1, mChain, mFn, mCall, mMeth, aCons, aNil, mVar, mC, mB, tmAnd, tmOr, tmNot, mTup, mLst, mSl, pNone, pSome, R.bind, R.toS, RS.seq, noEx, gN, gSet, DL.gTup, gsCons, gsNil, bType, kindD, bLen, bAbs, bInt, bMax2, bMin2, bTuple, bList, itemsD, oAdd, oSub, oMul, oDiv, oMod, oPow, oNeg, oLt, oLe, oGt, oGe, oLtT, oIs, oIsNot, DL.isNon, oIx, mEmp, oAddI, sAsg2, oMulI, mChain3, e, s2, s3]⟩
  | ite c a b =>
    have e := count_ok hbs (.ite c a b) rfl h.ok 45 5 st (by have := h.deep; omega) h.deep
    have sz := h.size
    generalize (Te.ite c a b).size = z at e sz
    have s2 : ¬ (40 : Int) < z := by omega
    have s3 : ¬ 40 < z := by omega
    simp only [Te.d] at e ⊢
    exact ⟨some (.int 4), by simp at e; simp [L1_are_terms, mDef, sRet, sRetN, sSeq, sNil, sIf, sAsg, sExpr, sPar, sAug, sNo, mAnd, mOr, mNot, mIf, m2, m1, mChain, mFn, mCall, mMeth, aCons, aNil, mVar, mC, mB, tmAnd, tmOr, tmNot, mTup, mLst, mSl, pNone, pSome, R.bind, R.toS, RS.seq, noEx, gN, gSet, DL.gTup, gsCons, gsNil, bType, kindD, bLen, bAbs, bInt, bMax2, bMin2, bTuple, bList, itemsD, oAdd, oSub, oMul, oDiv, oMod, oPow, oNeg, oLt, oLe, oGt, oGe, oLtT, oIs, oIsNot, DL.isNon, oIx, mEmp, oAddI, sAsg2, oMulI, mChain3, e, s2, s3]⟩
theorem are_skip {ts : List Te} (h : ∀ t ∈ ts, t.Good bs m) {th : D} {ds : List D} {tail : List D} {st : Sto} : ∀ (q3 q4 : Option D), ∃ q3' q4', loopS ds none (gN 3) L1_are_terms (ts.map Te.d ++ tail) [some th, some (bareD bs), some (prD m), q3, q4] st = loopS ds none (gN 3) L1_are_terms tail [some th, some (bareD bs), some (prD m), q3', q4'] st := by
  induction ts with
  | nil => exact fun q3 q4 => ⟨q3, q4, rfl⟩
  | cons t r ih =>
    intro q3 q4
    obtain ⟨q', e⟩ := are_step hbs (h t List.mem_cons_self) (th := th) (q4 := q4) (st := st)
    obtain ⟨a, b, e2⟩ := ih (fun x hx => h x (List.mem_cons_of_mem _ hx)) (some t.d) q'
    refine ⟨a, b, ?_⟩
    rw [← e2, List.map_cons, List.cons_append]
    conv => lhs; unfold loopS
    simp only [gOk, if_true, gN, List.set_cons_succ, List.set_cons_zero, List.length_cons, List.length_nil, Nat.reduceAdd, Nat.reduceLT, e]
theorem are_ok {ts : List Te} (h : ∀ t ∈ ts, t.Good bs m) (st : Sto) : f_are_terms [.tup (ts.map Te.d), bareD bs, prD m] st = .ok (.bl true) st := by
  obtain ⟨a, b, e⟩ := are_skip hbs h (th := .tup (ts.map Te.d)) (ds := ts.map Te.d) (tail := []) (st := st) none none
  rw [List.append_nil] at e
  have e0 := sFor_eq (m := mVar 0) (g := gN 3) (mb := L1_are_terms) (env := [some (.tup (ts.map Te.d)), some (bareD bs), some (prD m), none, none]) (st := st) (st1 := st) (xs := ts.map Te.d) (by simp [mDef, sRet, sRetN, sSeq, sNil, sIf, sAsg, sExpr, sPar, sAug, sNo, mAnd, mOr, mNot, mIf, m2, m1, mChain, mFn, mCall, mMeth, aCons, aNil, mVar, mC, mB, tmAnd, tmOr, tmNot, mTup, mLst, mSl, pNone, pSome, R.bind, R.toS, RS.seq, noEx, gN, gSet, DL.gTup, gsCons, gsNil, bType, kindD, bLen, bAbs, bInt, bMax2, bMin2, bTuple, bList, itemsD, oAdd, oSub, oMul, oDiv, oMod, oPow, oNeg, oLt, oLe, oGt, oGe, oLtT, oIs, oIsNot, DL.isNon, oIx, mEmp, oAddI, sAsg2, oMulI, mChain3])
  have e1 : loopS (ts.map Te.d) none (gN 3) L1_are_terms [] [some (.tup (ts.map Te.d)), some (bareD bs), some (prD m), a, b] st = .nx [some (.tup (ts.map Te.d)), some (bareD bs), some (prD m), a, b] st := by simp [loopS, gOk]
  rw [e, e1] at e0
  simp only [f_are_terms, b_are_terms, mDef, sSeq, List.map_cons, List.map_nil, List.length_cons, List.length_nil, List.replicate, List.cons_append, List.nil_append, Nat.reduceSub, Nat.reduceAdd, e0, RS.seq, sRet, mC, R.toS]
theorem are_no {ts : List Te} (h : ∀ t ∈ ts, t.Good bs m) {x : D} {rest : List D} {st : Sto} (hx : ∀ (th : D) (q4 : Option D), L1_are_terms [some th, some (bareD bs), some (prD m), some x, q4] st = .rt (.bl false) st) : f_are_terms [.tup (ts.map Te.d ++ x :: rest), bareD bs, prD m] st = .ok (.bl false) st := by
  obtain ⟨a, b, e⟩ := are_skip hbs h (th := .tup (ts.map Te.d ++ x :: rest)) (ds := ts.map Te.d ++ x :: rest) (tail := x :: rest) (st := st) none none
  have e0 := sFor_eq (m := mVar 0) (g := gN 3) (mb := L1_are_terms) (env := [some (.tup (ts.map Te.d ++ x :: rest)), some (bareD bs), some (prD m), none, none]) (st := st) (st1 := st) (xs := ts.map Te.d ++ x :: rest) (by simp [mDef, sRet, sRetN, sSeq, sNil, sIf, sAsg, sExpr, sPar, sAug, sNo, mAnd, mOr, mNot, mIf, m2, m1, mChain, mFn, mCall, mMeth, aCons, aNil, mVar, mC, mB, tmAnd, tmOr, tmNot, mTup, mLst, mSl, pNone, pSome, R.bind, R.toS, RS.seq, noEx, gN, gSet, DL.gTup, gsCons, gsNil, bType, kindD, bLen, bAbs, bInt, bMax2, bMin2, bTuple, bList, itemsD, oAdd, oSub, oMul, oDiv, oMod, oPow, oNeg, oLt, oLe, oGt, oGe, oLtT, oIs, oIsNot, DL.isNon, oIx, mEmp, oAddI, sAsg2, oMulI, mChain3])
  rw [e] at e0
  conv at e0 => rhs; unfold loopS
  simp only [gOk, if_true, ite_true, gN, List.set_cons_succ, List.set_cons_zero, List.length_cons, List.length_nil, Nat.reduceAdd, Nat.reduceLT, hx] at e0
  simp only [f_are_terms, b_are_terms, mDef, sSeq, List.map_cons, List.map_nil, List.length_cons, List.length_nil, List.replicate, List.cons_append, List.nil_append, Nat.reduceSub, Nat.reduceAdd, e0, RS.seq]
end
abbrev BF : List Str := ["word", "ties"]
abbrev BN : List Str := ["own", "ties", "least", "most", "sum"]
theorem bf_ok : ∀ b ∈ BF, PyData.strOk b = true := by decide +kernel
theorem bn_ok : ∀ b ∈ BN, PyData.strOk b = true := by decide +kernel
theorem firsts_ok {ts : List Te} (h : ∀ t ∈ ts, t.Good BF false) (st : Sto) : f_are_firsts [.tup (ts.map Te.d)] st = .ok (.bl true) st := by
  have e := are_ok bf_ok h st
  have e : f_are_terms [.tup _, d_BARE_OF_FIRST, d_PAIR_OF_FIRST] st = _ := e
  simp [f_are_firsts, b_are_firsts, mDef, sRet, sRetN, sSeq, sNil, sIf, sAsg, sExpr, sPar, sAug, sNo, mAnd, mOr, mNot, mIf, m2, m1, mChain, mFn, mCall, mMeth, aCons, aNil, mVar, mC, mB, tmAnd, tmOr, tmNot, mTup, mLst, mSl, pNone, pSome, R.bind, R.toS, RS.seq, noEx, gN, gSet, DL.gTup, gsCons, gsNil, bType, kindD, bLen, bAbs, bInt, bMax2, bMin2, bTuple, bList, itemsD, oAdd, oSub, oMul, oDiv, oMod, oPow, oNeg, oLt, oLe, oGt, oGe, oLtT, oIs, oIsNot, DL.isNon, oIx, mEmp, oAddI, sAsg2, oMulI, mChain3, e]
theorem nexts_ok {ts : List Te} (h : ∀ t ∈ ts, t.Good BN true) (st : Sto) : f_are_nexts [.tup (ts.map Te.d)] st = .ok (.bl true) st := by
  have e := are_ok bn_ok h st
  have e : f_are_terms [.tup _, d_BARE_OF_NEXT, d_PAIR_OF_NEXT] st = _ := e
  simp [f_are_nexts, b_are_nexts, mDef, sRet, sRetN, sSeq, sNil, sIf, sAsg, sExpr, sPar, sAug, sNo, mAnd, mOr, mNot, mIf, m2, m1, mChain, mFn, mCall, mMeth, aCons, aNil, mVar, mC, mB, tmAnd, tmOr, tmNot, mTup, mLst, mSl, pNone, pSome, R.bind, R.toS, RS.seq, noEx, gN, gSet, DL.gTup, gsCons, gsNil, bType, kindD, bLen, bAbs, bInt, bMax2, bMin2, bTuple, bList, itemsD, oAdd, oSub, oMul, oDiv, oMod, oPow, oNeg, oLt, oLe, oGt, oGe, oLtT, oIs, oIsNot, DL.isNon, oIx, mEmp, oAddI, sAsg2, oMulI, mChain3, e]
theorem firsts_no {x : D} {st : Sto} (hx : ∀ (th : D) (q4 : Option D), L1_are_terms [some th, some (bareD BF), some (prD false), some x, q4] st = .rt (.bl false) st) : f_are_firsts [.tup [x]] st = .ok (.bl false) st := by
  have e := are_no bf_ok (ts := []) (by simp) (rest := []) hx
  have e : f_are_terms [.tup [x], d_BARE_OF_FIRST, d_PAIR_OF_FIRST] st = _ := e
  simp [f_are_firsts, b_are_firsts, mDef, sRet, sRetN, sSeq, sNil, sIf, sAsg, sExpr, sPar, sAug, sNo, mAnd, mOr, mNot, mIf, m2, m1, mChain, mFn, mCall, mMeth, aCons, aNil, mVar, mC, mB, tmAnd, tmOr, tmNot, mTup, mLst, mSl, pNone, pSome, R.bind, R.toS, RS.seq, noEx, gN, gSet, DL.gTup, gsCons, gsNil, bType, kindD, bLen, bAbs, bInt, bMax2, bMin2, bTuple, bList, itemsD, oAdd, oSub, oMul, oDiv, oMod, oPow, oNeg, oLt, oLe, oGt, oGe, oLtT, oIs, oIsNot, DL.isNon, oIx, mEmp, oAddI, sAsg2, oMulI, mChain3, e]
theorem nexts_no {ts : List Te} (h : ∀ t ∈ ts, t.Good BN true) {x : D} {rest : List D} {st : Sto} (hx : ∀ (th : D) (q4 : Option D), L1_are_terms [some th, some (bareD BN), some (prD true), some x, q4] st = .rt (.bl false) st) : f_are_nexts [.tup (ts.map Te.d ++ x :: rest)] st = .ok (.bl false) st := by
  have e := are_no bn_ok h (rest := rest) hx
  have e : f_are_terms [.tup _, d_BARE_OF_NEXT, d_PAIR_OF_NEXT] st = _ := e
  simp [f_are_nexts, b_are_nexts, mDef, sRet, sRetN, sSeq, sNil, sIf, sAsg, sExpr, sPar, sAug, sNo, mAnd, mOr, mNot, mIf, m2, m1, mChain, mFn, mCall, mMeth, aCons, aNil, mVar, mC, mB, tmAnd, tmOr, tmNot, mTup, mLst, mSl, pNone, pSome, R.bind, R.toS, RS.seq, noEx, gN, gSet, DL.gTup, gsCons, gsNil, bType, kindD, bLen, bAbs, bInt, bMax2, bMin2, bTuple, bList, itemsD, oAdd, oSub, oMul, oDiv, oMod, oPow, oNeg, oLt, oLe, oGt, oGe, oLtT, oIs, oIsNot, DL.isNon, oIx, mEmp, oAddI, sAsg2, oMulI, mChain3, e]
/-! ### what is no term -/
section
variable {b p : D} {st : Sto} {th : D} {q4 : Option D}
theorem bad_non : L1_are_terms [some th, some b, some p, some .non, q4] st = .rt (.bl false) st := by simp [L1_are_terms, mDef, sRet, sRetN, sSeq, sNil, sIf, sAsg, sExpr, sPar, sAug, sNo, mAnd, mOr, mNot, mIf, m2, m1, mChain, mFn, mCall, mMeth, aCons, aNil, mVar, mC, mB, tmAnd, tmOr, tmNot, mTup, mLst, mSl, pNone, pSome, R.bind, R.toS, RS.seq, noEx, gN, gSet, DL.gTup, gsCons, gsNil, bType, kindD, bLen, bAbs, bInt, bMax2, bMin2, bTuple, bList, itemsD, oAdd, oSub, oMul, oDiv, oMod, oPow, oNeg, oLt, oLe, oGt, oGe, oLtT, oIs, oIsNot, DL.isNon, oIx, mEmp, oAddI, sAsg2, oMulI, mChain3]
theorem bad_str {x : Str} : L1_are_terms [some th, some b, some p, some (.str x), q4] st = .rt (.bl false) st := by simp [L1_are_terms, mDef, sRet, sRetN, sSeq, sNil, sIf, sAsg, sExpr, sPar, sAug, sNo, mAnd, mOr, mNot, mIf, m2, m1, mChain, mFn, mCall, mMeth, aCons, aNil, mVar, mC, mB, tmAnd, tmOr, tmNot, mTup, mLst, mSl, pNone, pSome, R.bind, R.toS, RS.seq, noEx, gN, gSet, DL.gTup, gsCons, gsNil, bType, kindD, bLen, bAbs, bInt, bMax2, bMin2, bTuple, bList, itemsD, oAdd, oSub, oMul, oDiv, oMod, oPow, oNeg, oLt, oLe, oGt, oGe, oLtT, oIs, oIsNot, DL.isNon, oIx, mEmp, oAddI, sAsg2, oMulI, mChain3]
theorem bad_997 : L1_are_terms [some th, some b, some p, some (.int 997), q4] st = .rt (.bl false) st := by simp [L1_are_terms, mDef, sRet, sRetN, sSeq, sNil, sIf, sAsg, sExpr, sPar, sAug, sNo, mAnd, mOr, mNot, mIf, m2, m1, mChain, mFn, mCall, mMeth, aCons, aNil, mVar, mC, mB, tmAnd, tmOr, tmNot, mTup, mLst, mSl, pNone, pSome, R.bind, R.toS, RS.seq, noEx, gN, gSet, DL.gTup, gsCons, gsNil, bType, kindD, bLen, bAbs, bInt, bMax2, bMin2, bTuple, bList, itemsD, oAdd, oSub, oMul, oDiv, oMod, oPow, oNeg, oLt, oLe, oGt, oGe, oLtT, oIs, oIsNot, DL.isNon, oIx, mEmp, oAddI, sAsg2, oMulI, mChain3]
theorem bad_bare {bs : List Str} (hbs : ∀ b ∈ bs, PyData.strOk b = true) {w : Str} (hw : PyData.strOk w = true) (h : w ∉ bs) : L1_are_terms [some th, some (bareD bs), some p, some (.tup [.str w]), q4] st = .rt (.bl false) st := by
  have := oNotIn_str hbs hw st
  simp only [h, decide_false, Bool.not_false] at this
  simp [L1_are_terms, mDef, sRet, sRetN, sSeq, sNil, sIf, sAsg, sExpr, sPar, sAug, sNo, mAnd, mOr, mNot, mIf, m2, m1, mChain, mFn, mCall, mMeth, aCons, aNil, mVar, mC, mB, tmAnd, tmOr, tmNot, mTup, mLst, mSl, pNone, pSome, R.bind, R.toS, RS.seq, noEx, gN, gSet, DL.gTup, gsCons, gsNil, bType, kindD, bLen, bAbs, bInt, bMax2, bMin2, bTuple, bList, itemsD, oAdd, oSub, oMul, oDiv, oMod, oPow, oNeg, oLt, oLe, oGt, oGe, oLtT, oIs, oIsNot, DL.isNon, oIx, mEmp, oAddI, sAsg2, oMulI, mChain3, this]
theorem bad_pair {m : Bool} {x y : D} (h : oNotIn x (prD m) st = .ok (.bl true) st) : L1_are_terms [some th, some b, some (prD m), some (.tup [x, y]), q4] st = .rt (.bl false) st := by
  simp [L1_are_terms, mDef, sRet, sRetN, sSeq, sNil, sIf, sAsg, sExpr, sPar, sAug, sNo, mAnd, mOr, mNot, mIf, m2, m1, mChain, mFn, mCall, mMeth, aCons, aNil, mVar, mC, mB, tmAnd, tmOr, tmNot, mTup, mLst, mSl, pNone, pSome, R.bind, R.toS, RS.seq, noEx, gN, gSet, DL.gTup, gsCons, gsNil, bType, kindD, bLen, bAbs, bInt, bMax2, bMin2, bTuple, bList, itemsD, oAdd, oSub, oMul, oDiv, oMod, oPow, oNeg, oLt, oLe, oGt, oGe, oLtT, oIs, oIsNot, DL.isNon, oIx, mEmp, oAddI, sAsg2, oMulI, mChain3, h]
theorem bad_head {bs : List Str} {m : Bool} {r : Nat} {x y : D} (h : ∃ xs, rdL st r = some xs) : L1_are_terms [some th, some (bareD bs), some (prD m), some (.tup [.ref r, x, y]), q4] st = .rt (.bl false) st := by
  obtain ⟨xs, h⟩ := h
  have e : f_count_terms 45 [.tup [.ref r, x, y], bareD bs, prD m, .int 5] st = .ok (.int 41) st := by
    show mDef 8 (b_count_terms (f_count_terms 44)) _ st = _
    simp [b_count_terms, mDef, sRet, sRetN, sSeq, sNil, sIf, sAsg, sExpr, sPar, sAug, sNo, mAnd, mOr, mNot, mIf, m2, m1, mChain, mFn, mCall, mMeth, aCons, aNil, mVar, mC, mB, tmAnd, tmOr, tmNot, mTup, mLst, mSl, pNone, pSome, R.bind, R.toS, RS.seq, noEx, gN, gSet, DL.gTup, gsCons, gsNil, bType, kindD, bLen, bAbs, bInt, bMax2, bMin2, bTuple, bList, itemsD, oAdd, oSub, oMul, oDiv, oMod, oPow, oNeg, oLt, oLe, oGt, oGe, oLtT, oIs, oIsNot, DL.isNon, oIx, mEmp, oAddI, sAsg2, oMulI, mChain3, h]
  simp [L1_are_terms, mDef, sRet, sRetN, sSeq, sNil, sIf, sAsg, sExpr, sPar, sAug, sNo, mAnd, mOr, mNot, mIf, m2, m1, mChain, mFn, mCall, mMeth, aCons, aNil, mVar, mC, mB, tmAnd, tmOr, tmNot, mTup, mLst, mSl, pNone, pSome, R.bind, R.toS, RS.seq, noEx, gN, gSet, DL.gTup, gsCons, gsNil, bType, kindD, bLen, bAbs, bInt, bMax2, bMin2, bTuple, bList, itemsD, oAdd, oSub, oMul, oDiv, oMod, oPow, oNeg, oLt, oLe, oGt, oGe, oLtT, oIs, oIsNot, DL.isNon, oIx, mEmp, oAddI, sAsg2, oMulI, mChain3, e]
end
end Pr
set_option Elab.async false
set_option linter.all false
set_option maxRecDepth 10000
namespace DL
open PySem PySem.Spec PyProof.Rows L2
/-! ### texts of terms and plans -/
def lb : Nat → Nat
  | 0 => 27
  | k + 1 => 4 * (lb k + 2) + 3
theorem lb_mono : ∀ {a b : Nat}, a ≤ b → lb a ≤ lb b := by
  have st : ∀ k, lb k ≤ lb (k + 1) := fun k => by show lb k ≤ 4 * (lb k + 2) + 3; omega
  intro a b h
  induction h with
  | refl => exact Nat.le_refl _
  | step _ ih => exact Nat.le_trans ih (st _)
theorem lb_ge (k : Nat) : 27 ≤ lb k := lb_mono (Nat.zero_le k)
theorem shw_word {w : Str} (h : w ∈ (["word", "ties", "own", "least", "most", "sum", "many", "if", "plus", "minus", "times", "over", "rest", "less", "same", "low", "high"] : List Str)) : Shw (.str w) 10 0 := by
  have all : ∀ w ∈ (["word", "ties", "own", "least", "most", "sum", "many", "if", "plus", "minus", "times", "over", "rest", "less", "same", "low", "high"] : List Str), (PyData.str w).canLay0 = true ∧ (PyData.str w).showable = true ∧ (PyData.str w).shown.length ≤ 10 ∧ PyData.strOk (PyData.str w).shown = true := by decide +kernel
  obtain ⟨a, b, c, d⟩ := all w h
  exact ⟨.str w, fun _ => rfl, a, Nat.le_refl _, b, c, d⟩
theorem shw_te {bs : List Str} {m : Bool} (hb : ∀ b ∈ bs, b ∈ (["word", "ties", "own", "least", "most", "sum", "many", "if", "plus", "minus", "times", "over", "rest", "less", "same", "low", "high"] : List Str)) : ∀ t : Te, t.Ok bs m → Shw t.d (lb t.deep) (1 + t.deep)
  | .num n, h => (shw_int (i := (n : Int)) (by omega) (by have : n < 997 := h; omega)).mono (by show 3 ≤ 27; omega) (by omega)
  | .bare w, h => by
    have := shw_row (ds := [.str w]) (B := 10) (n := 0) (k := 1) (by intro d hd; rw [List.mem_singleton.mp hd]; exact shw_word (hb w h)) (by simp)
    exact this.mono (by show _ ≤ 27; omega) (by omega)
  | .many n, h => by
    have h1 : n < 997 := h.2
    have := shw_row (ds := [.str "many", .int (n : Int)]) (B := 10) (n := 0) (k := 2) (by
      intro d hd
      rcases List.mem_cons.mp hd with rfl | hd
      · exact shw_word (by decide +kernel)
      · rw [List.mem_singleton.mp hd]
        exact (shw_int (by omega) (by omega)).mono (by omega) (Nat.le_refl _)) (by simp)
    exact this.mono (by show _ ≤ 27; omega) (by omega)
  | .op o a b, h => by
    obtain ⟨ho, ha, hb'⟩ := h
    have sa := shw_te hb a ha
    have sb := shw_te hb b hb'
    have so : Shw (.str o) 10 0 := shw_word (by
      simp only [Te.opsN, List.mem_cons, List.not_mem_nil, or_false] at ho
      rcases ho with rfl | rfl | rfl | rfl | rfl | rfl | rfl | rfl | rfl <;> decide +kernel)
    have la := lb_mono (Nat.le_max_left a.deep b.deep)
    have lbb := lb_mono (Nat.le_max_right a.deep b.deep)
    have l0 := lb_ge (max a.deep b.deep)
    have := shw_row (ds := [.str o, a.d, b.d]) (B := lb (max a.deep b.deep)) (n := 1 + max a.deep b.deep) (k := 4) (by
      intro d hd
      rcases List.mem_cons.mp hd with rfl | hd
      · exact so.mono (by omega) (by omega)
      · rcases List.mem_cons.mp hd with rfl | hd
        · exact sa.mono la (by omega)
        · rw [List.mem_singleton.mp hd]
          exact sb.mono lbb (by omega)) (by simp)
    have e : lb (Te.op o a b).deep = 4 * (lb (max a.deep b.deep) + 2) + 3 := by
      show lb (1 + max a.deep b.deep) = _
      rw [Nat.add_comm]; rfl
    rw [e]
    exact this.mono (Nat.le_refl _) (by simp only [Te.deep]; omega)
  | .ite c a b, h => by
    obtain ⟨hc, ha, hb'⟩ := h
    have sc := shw_te hb c hc
    have sa := shw_te hb a ha
    have sb := shw_te hb b hb'
    have so : Shw (.str "if") 10 0 := shw_word (by decide +kernel)
    have lc := lb_mono (Nat.le_max_left c.deep (max a.deep b.deep))
    have la := lb_mono (Nat.le_trans (Nat.le_max_left a.deep b.deep) (Nat.le_max_right c.deep (max a.deep b.deep)))
    have lbb := lb_mono (Nat.le_trans (Nat.le_max_right a.deep b.deep) (Nat.le_max_right c.deep (max a.deep b.deep)))
    have l0 := lb_ge (max c.deep (max a.deep b.deep))
    have := shw_row (ds := [.str "if", c.d, a.d, b.d]) (B := lb (max c.deep (max a.deep b.deep))) (n := 1 + max c.deep (max a.deep b.deep)) (k := 4) (by
      intro d hd
      rcases List.mem_cons.mp hd with rfl | hd
      · exact so.mono (by omega) (by omega)
      · rcases List.mem_cons.mp hd with rfl | hd
        · exact sc.mono lc (by omega)
        · rcases List.mem_cons.mp hd with rfl | hd
          · exact sa.mono la (by omega)
          · rw [List.mem_singleton.mp hd]
            exact sb.mono lbb (by omega)) (by simp)
    have e : lb (Te.ite c a b).deep = 4 * (lb (max c.deep (max a.deep b.deep)) + 2) + 3 := by
      show lb (1 + max c.deep (max a.deep b.deep)) = _
      rw [Nat.add_comm]; rfl
    rw [e]
    exact this.mono (Nat.le_refl _) (by simp only [Te.deep]; omega)
theorem shw_good {bs : List Str} {m : Bool} (hb : ∀ b ∈ bs, b ∈ (["word", "ties", "own", "least", "most", "sum", "many", "if", "plus", "minus", "times", "over", "rest", "less", "same", "low", "high"] : List Str)) {t : Te} (h : t.Good bs m) : Shw t.d 32000 6 :=
  (shw_te hb t h.ok).mono (Nat.le_trans (lb_mono h.deep) (by decide)) (by have := h.deep; omega)
end DL
set_option Elab.async false
set_option linter.all false
set_option maxRecDepth 10000
namespace DL
open PySem PySem.Spec PyProof.Rows L2
theorem Ev.lst {r : Nat} {st st' : Sto} {xs : List D} (h : Ev r st st') : Ev r st (st' ++ [.lst xs]) := h.trans (Ev.gr h.pool (List.prefix_append _ _))
theorem ev_new {r : Nat} {st st' : Sto} {xs : List D} (hp : IsPool st r) (h : Ev r (st ++ [.lst xs]) st') : rdL st' st.length = some xs := h.rdL (rdL_new _ _) (by have := hp.lt; omega)
theorem oEq_strT {a b : Str} (ha : PyData.strOk a = true) (hb : PyData.strOk b = true) (st : Sto) : oEq (.tup [.str a]) (.tup [.str b]) st = .ok (.bl (decide (a = b))) st := by
  have r4 : ∀ n : Str, toP st (.tup [.str n]) = some (.tuple [.str n]) := fun n => rfl
  have r5 : PyData.eqv (.tuple [.str a]) (.tuple [.str b]) = decide (a = b) := by
    by_cases q : a = b <;> simp [PyData.eqv, PyData.eqvAll, q]
  have r6 : ∀ {w : Str}, PyData.strOk w = true → SeqAt.shaped (.tuple [.str w]) = true := fun h => by
    simp [SeqAt.shaped, PyData.canLay0, PyData.canLayAll0, PyData.depth, PyData.depthAll, h]
  simp [oEq, r4, r5, r6 ha, r6 hb]
def sz : Nat → Nat
  | 0 => 1
  | k + 1 => 1 + 3 * sz k
theorem sz_pos (k : Nat) : 1 ≤ sz k := by cases k <;> simp only [sz] <;> omega
theorem sz_mono : ∀ {a b : Nat}, a ≤ b → sz a ≤ sz b := by
  intro a b h
  induction h with
  | refl => exact Nat.le_refl _
  | step _ ih => exact Nat.le_trans ih (by simp only [sz]; omega)
abbrev leafD (w : Str) : D := .tup [.str w]
end DL
namespace Pr
open PySem PySem.Spec PyProof.Rows L2 DL
theorem any_worth_ok {r : Nat} {st : Sto} (h : IsPool st r) : ∃ (n : Nat) (st' : Sto), n < 997 ∧ f_law_any_worth [.ref r] st = .ok (.int n) st' ∧ Ev r st st' := by
  obtain ⟨v1, st1, e1, a1, b1, g1⟩ := take_of (m := 4) h (by omega) (by omega)
  obtain ⟨v2, st2, e2, a2, b2, g2⟩ := take_of (m := 12) g1.pool (by omega) (by omega)
  obtain ⟨v3, st3, e3, a3, b3, g3⟩ := take_of (m := 997) g2.pool (by omega) (by omega)
  have p3 : IsPool (st3 ++ [.lst [.int v1, .int v2, .int v3, .int 996, .int 0]]) r := (Ev.gr g3.pool (List.prefix_append _ _)).pool
  obtain ⟨v4, st4, e4, a4, b4, g4⟩ := take_of (m := 5) p3 (by omega) (by omega)
  have hz : (5 : Nat) ≤ sizeLine := by decide
  have r4 := ev_new g3.pool g4
  have key : ∀ v : Int, 0 ≤ v → v < 997 → L2.atI [D.int v1, .int v2, .int v3, .int 996, .int 0] v4 = some (.int v) → ∃ (n : Nat) (st' : Sto), n < 997 ∧ f_law_any_worth [.ref r] st = .ok (.int n) st' ∧ Ev r st st' := by
    intro v h0 h1 ea
    refine ⟨v.toNat, st4, by omega, ?_, ((g1.trans g2).trans g3).lst.trans g4⟩
    rw [Int.toNat_of_nonneg h0]
    simp [f_law_any_worth, b_law_any_worth, mDef, sRet, sRetN, sSeq, sNil, sIf, sAsg, sExpr, sPar, sAug, sNo, mAnd, mOr, mNot, mIf, m2, m1, mChain, mFn, mCall, mMeth, aCons, aNil, mVar, mC, mB, tmAnd, tmOr, tmNot, mTup, mLst, mSl, pNone, pSome, R.bind, R.toS, RS.seq, noEx, gN, gSet, DL.gTup, gsCons, gsNil, bType, kindD, bLen, bAbs, bInt, bMax2, bMin2, bTuple, bList, itemsD, oAdd, oSub, oMul, oDiv, oMod, oPow, oNeg, oLt, oLe, oGt, oGe, oLtT, oIs, oIsNot, DL.isNon, oIx, mEmp, oAddI, sAsg2, oMulI, mChain3, e1, e2, e3, hz, e4, r4, ea]
  obtain ⟨k, rfl⟩ : ∃ k : Nat, v4 = k := ⟨v4.toNat, by omega⟩
  have hk : k = 0 ∨ k = 1 ∨ k = 2 ∨ k = 3 ∨ k = 4 := by omega
  rcases hk with rfl | rfl | rfl | rfl | rfl
  · exact key v1 a1 (by omega) (atI_at rfl)
  · exact key v2 a2 (by omega) (atI_at rfl)
  · exact key v3 a3 (by omega) (atI_at rfl)
  · exact key 996 (by omega) (by omega) (atI_at rfl)
  · exact key 0 (by omega) (by omega) (atI_at rfl)
theorem any_term_ok {r q : Nat} (hne : q ≠ r) {bs : List Str} {m : Bool} (hbs : ∀ b ∈ bs, PyData.strOk b = true) (hmb : ("many" : Str) ∉ bs) {ws : List Str} (hw : ∀ w ∈ ws, w ∈ bs ∨ w = "many" ∧ m = true) (hl : ws ≠ []) (hl2 : ws.length ≤ 10) :
    ∀ (n : Nat) (k : Int) (st : Sto), IsPool st r → rdL st q = some (ws.map leafD) → k.toNat + 1 ≤ n →
      ∃ (t : Te) (st' : Sto), f_law_any_term n [.ref r, .ref q, .int k] st = .ok t.d st' ∧ Ev r st st' ∧ t.Ok bs m ∧ t.deep ≤ k.toNat ∧ t.size ≤ sz k.toNat := by
  intro n
  induction n with
  | zero => intro k st _ _ h; omega
  | succ n ih =>
    intro k st hp hq hn
    obtain ⟨way, st1, e1, a1, b1, g1⟩ := take_of (m := 8) hp (by omega) (by omega)
    have leaf : ∃ (t : Te) (st' : Sto), Ev r st st' ∧ t.Ok bs m ∧ t.deep = 0 ∧ t.size = 1 ∧ ((k < 1 ∨ way < 2) → f_law_any_term (n + 1) [.ref r, .ref q, .int k] st = .ok t.d st') := by
      obtain ⟨v2, st2, e2, a2, b2, g2⟩ := take_of (m := 4) g1.pool (by omega) (by omega)
      by_cases z : v2 = 0
      · subst z
        obtain ⟨w, st3, hw3, e3, g3⟩ := any_worth_ok g2.pool
        refine ⟨.num w, st3, (g1.trans g2).trans g3, hw3, rfl, rfl, fun hc => ?_⟩
        show mDef 8 (b_law_any_term (f_law_any_term n)) _ st = _
        by_cases c : k < 1
        · simp [b_law_any_term, mDef, sRet, sRetN, sSeq, sNil, sIf, sAsg, sExpr, sPar, sAug, sNo, mAnd, mOr, mNot, mIf, m2, m1, mChain, mFn, mCall, mMeth, aCons, aNil, mVar, mC, mB, tmAnd, tmOr, tmNot, mTup, mLst, mSl, pNone, pSome, R.bind, R.toS, RS.seq, noEx, gN, gSet, DL.gTup, gsCons, gsNil, bType, kindD, bLen, bAbs, bInt, bMax2, bMin2, bTuple, bList, itemsD, oAdd, oSub, oMul, oDiv, oMod, oPow, oNeg, oLt, oLe, oGt, oGe, oLtT, oIs, oIsNot, DL.isNon, oIx, mEmp, oAddI, sAsg2, oMulI, mChain3, e1, c, e2, e3, Te.d]
        · have c2 : way < 2 := by omega
          simp [b_law_any_term, mDef, sRet, sRetN, sSeq, sNil, sIf, sAsg, sExpr, sPar, sAug, sNo, mAnd, mOr, mNot, mIf, m2, m1, mChain, mFn, mCall, mMeth, aCons, aNil, mVar, mC, mB, tmAnd, tmOr, tmNot, mTup, mLst, mSl, pNone, pSome, R.bind, R.toS, RS.seq, noEx, gN, gSet, DL.gTup, gsCons, gsNil, bType, kindD, bLen, bAbs, bInt, bMax2, bMin2, bTuple, bList, itemsD, oAdd, oSub, oMul, oDiv, oMod, oPow, oNeg, oLt, oLe, oGt, oGe, oLtT, oIs, oIsNot, DL.isNon, oIx, mEmp, oAddI, sAsg2, oMulI, mChain3, e1, c, c2, e2, e3, Te.d]
      · have q2 := (g1.trans g2).rdL hq hne
        have hlen : 0 < ws.length := List.length_pos_iff.mpr hl
        obtain ⟨v3, st3, e3, a3, b3, g3⟩ := take_of (m := ((ws.length : Nat) : Int)) g2.pool (by omega) (by omega)
        obtain ⟨j, rfl⟩ : ∃ j : Nat, v3 = j := ⟨v3.toNat, by omega⟩
        have hj : j < ws.length := by omega
        have q3 := g3.rdL q2 hne
        have ea : L2.atI (ws.map leafD) (j : Int) = some (leafD ws[j]) := atI_at (by simp [hj])
        rcases hw ws[j] (List.getElem_mem hj) with hb | ⟨hm, hm2⟩
        · have ne : ¬ ws[j] = "many" := fun e => hmb (e ▸ hb)
          have eq := oEq_strT (hbs _ hb) (b := "many") (by decide +kernel) st3
          simp only [ne, decide_false] at eq
          refine ⟨.bare ws[j], st3, (g1.trans g2).trans g3, hb, rfl, rfl, fun hc => ?_⟩
          show mDef 8 (b_law_any_term (f_law_any_term n)) _ st = _
          generalize ws[j] = w at ea eq
          have z1 : (1 : Nat) ≤ sizeLine := by decide
          by_cases c : k < 1
          · simp [b_law_any_term, mDef, sRet, sRetN, sSeq, sNil, sIf, sAsg, sExpr, sPar, sAug, sNo, mAnd, mOr, mNot, mIf, m2, m1, mChain, mFn, mCall, mMeth, aCons, aNil, mVar, mC, mB, tmAnd, tmOr, tmNot, mTup, mLst, mSl, pNone, pSome, R.bind, R.toS, RS.seq, noEx, gN, gSet, DL.gTup, gsCons, gsNil, bType, kindD, bLen, bAbs, bInt, bMax2, bMin2, bTuple, bList, itemsD, oAdd, oSub, oMul, oDiv, oMod, oPow, oNeg, oLt, oLe, oGt, oGe, oLtT, oIs, oIsNot, DL.isNon, oIx, mEmp, oAddI, sAsg2, oMulI, mChain3, e1, c, e2, z, q2, e3, q3, ea, leafD, z1, eq, Te.d]
          · have c2 : way < 2 := by omega
            simp [b_law_any_term, mDef, sRet, sRetN, sSeq, sNil, sIf, sAsg, sExpr, sPar, sAug, sNo, mAnd, mOr, mNot, mIf, m2, m1, mChain, mFn, mCall, mMeth, aCons, aNil, mVar, mC, mB, tmAnd, tmOr, tmNot, mTup, mLst, mSl, pNone, pSome, R.bind, R.toS, RS.seq, noEx, gN, gSet, DL.gTup, gsCons, gsNil, bType, kindD, bLen, bAbs, bInt, bMax2, bMin2, bTuple, bList, itemsD, oAdd, oSub, oMul, oDiv, oMod, oPow, oNeg, oLt, oLe, oGt, oGe, oLtT, oIs, oIsNot, DL.isNon, oIx, mEmp, oAddI, sAsg2, oMulI, mChain3, e1, c, c2, e2, z, q2, e3, q3, ea, leafD, z1, eq, Te.d]
        · obtain ⟨v4, st4, e4, a4, b4, g4⟩ := take_of (m := 4) g3.pool (by omega) (by omega)
          obtain ⟨j4, rfl⟩ : ∃ j : Nat, v4 = j := ⟨v4.toNat, by omega⟩
          have eq := oEq_strT (a := "many") (b := "many") (by decide +kernel) (by decide +kernel) st3
          simp only [decide_true] at eq
          rw [hm] at ea
          refine ⟨.many j4, st4, ((g1.trans g2).trans g3).trans g4, ⟨hm2, by omega⟩, rfl, rfl, fun hc => ?_⟩
          show mDef 8 (b_law_any_term (f_law_any_term n)) _ st = _
          have z1 : (1 : Nat) ≤ sizeLine := by decide
          have z2 : (2 : Nat) ≤ sizeLine := by decide
          by_cases c : k < 1
          · simp [b_law_any_term, mDef, sRet, sRetN, sSeq, sNil, sIf, sAsg, sExpr, sPar, sAug, sNo, mAnd, mOr, mNot, mIf, m2, m1, mChain, mFn, mCall, mMeth, aCons, aNil, mVar, mC, mB, tmAnd, tmOr, tmNot, mTup, mLst, mSl, pNone, pSome, R.bind, R.toS, RS.seq, noEx, gN, gSet, DL.gTup, gsCons, gsNil, bType, kindD, bLen, bAbs, bInt, bMax2, bMin2, bTuple, bList, itemsD, oAdd, oSub, oMul, oDiv, oMod, oPow, oNeg, oLt, oLe, oGt, oGe, oLtT, oIs, oIsNot, DL.isNon, oIx, mEmp, oAddI, sAsg2, oMulI, mChain3, e1, c, e2, z, q2, e3, q3, ea, leafD, z1, z2, eq, e4, Te.d]
          · have c2 : way < 2 := by omega
            simp [b_law_any_term, mDef, sRet, sRetN, sSeq, sNil, sIf, sAsg, sExpr, sPar, sAug, sNo, mAnd, mOr, mNot, mIf, m2, m1, mChain, mFn, mCall, mMeth, aCons, aNil, mVar, mC, mB, tmAnd, tmOr, tmNot, mTup, mLst, mSl, pNone, pSome, R.bind, R.toS, RS.seq, noEx, gN, gSet, DL.gTup, gsCons, gsNil, bType, kindD, bLen, bAbs, bInt, bMax2, bMin2, bTuple, bList, itemsD, oAdd, oSub, oMul, oDiv, oMod, oPow, oNeg, oLt, oLe, oGt, oGe, oLtT, oIs, oIsNot, DL.isNon, oIx, mEmp, oAddI, sAsg2, oMulI, mChain3, e1, c, c2, e2, z, q2, e3, q3, ea, leafD, z1, z2, eq, e4, Te.d]
    by_cases hc : k < 1 ∨ way < 2
    · obtain ⟨t, st', g, ho, hd, hs, e⟩ := leaf
      exact ⟨t, st', e hc, g, ho, by omega, by have := sz_pos k.toNat; omega⟩
    · have c1 : ¬ k < 1 := fun h => hc (.inl h)
      have c2 : ¬ way < 2 := fun h => hc (.inr h)
      obtain ⟨k0, hk0⟩ : ∃ k0 : Nat, k = ((k0 + 1 : Nat) : Int) := ⟨k.toNat - 1, by omega⟩
      subst hk0
      have ek : (((k0 + 1 : Nat) : Int) - 1) = (k0 : Int) := by omega
      rw [Int.toNat_natCast] at hn
      obtain ⟨a, st2, ea, ga, oa, da, sa⟩ := ih (k0 : Int) st1 g1.pool (g1.rdL hq hne) (by rw [Int.toNat_natCast]; omega)
      obtain ⟨b, st3, eb, gb, ob, db, sb⟩ := ih (k0 : Int) st2 ga.pool ((g1.trans ga).rdL hq hne) (by rw [Int.toNat_natCast]; omega)
      rw [Int.toNat_natCast] at da sa db sb
      rw [Int.toNat_natCast]
      have gab := (g1.trans ga).trans gb
      by_cases w7 : way = 7
      · subst w7
        obtain ⟨c, st4, ec, gc, oc, dc, sc⟩ := ih (((k0 + 1 : Nat) : Int) - 2) st3 gb.pool (gab.rdL hq hne) (by omega)
        have dc' : c.deep ≤ k0 := by omega
        have sc' : c.size ≤ sz k0 := Nat.le_trans sc (sz_mono (by omega))
        refine ⟨.ite c a b, st4, ?_, gab.trans gc, ⟨oc, oa, ob⟩, by simp only [Te.deep]; omega, by simp only [Te.size, sz]; omega⟩
        show mDef 8 (b_law_any_term (f_law_any_term n)) _ st = _
        have z4 : (4 : Nat) ≤ sizeLine := by decide
        have c1' : ¬ ((k0 : Int) + 1 < 1) := by omega
        have ek' : ((k0 : Int) + 1 - 1) = (k0 : Int) := by omega
        have ec' : f_law_any_term n [.ref r, .ref q, .int ((k0 : Int) + 1 - 2)] st3 = .ok c.d st4 := by rw [← ec]; rfl
        simp [b_law_any_term, mDef, sRet, sRetN, sSeq, sNil, sIf, sAsg, sExpr, sPar, sAug, sNo, mAnd, mOr, mNot, mIf, m2, m1, mChain, mFn, mCall, mMeth, aCons, aNil, mVar, mC, mB, tmAnd, tmOr, tmNot, mTup, mLst, mSl, pNone, pSome, R.bind, R.toS, RS.seq, noEx, gN, gSet, DL.gTup, gsCons, gsNil, bType, kindD, bLen, bAbs, bInt, bMax2, bMin2, bTuple, bList, itemsD, oAdd, oSub, oMul, oDiv, oMod, oPow, oNeg, oLt, oLe, oGt, oGe, oLtT, oIs, oIsNot, DL.isNon, oIx, mEmp, oAddI, sAsg2, oMulI, mChain3, e1, c1', ek', ea, eb, ec', z4, Te.d]
      · have p3 : IsPool (st3 ++ [.lst [.str "plus", .str "minus", .str "times", .str "over", .str "rest", .str "less", .str "same", .str "low", .str "high", .str "plus", .str "low"]]) r := (Ev.gr gb.pool (List.prefix_append _ _)).pool
        obtain ⟨v4, st4, e4, a4, b4, g4⟩ := take_of (m := 11) p3 (by omega) (by omega)
        have r4 := ev_new gb.pool g4
        obtain ⟨j, rfl⟩ : ∃ j : Nat, v4 = j := ⟨v4.toNat, by omega⟩
        obtain ⟨o, ho, eo⟩ : ∃ o ∈ Te.opsN, L2.atI [D.str "plus", .str "minus", .str "times", .str "over", .str "rest", .str "less", .str "same", .str "low", .str "high", .str "plus", .str "low"] (j : Int) = some (.str o) := by
          have hj : j = 0 ∨ j = 1 ∨ j = 2 ∨ j = 3 ∨ j = 4 ∨ j = 5 ∨ j = 6 ∨ j = 7 ∨ j = 8 ∨ j = 9 ∨ j = 10 := by omega
          rcases hj with rfl | rfl | rfl | rfl | rfl | rfl | rfl | rfl | rfl | rfl | rfl <;> exact ⟨_, by decide +kernel, atI_at rfl⟩
        refine ⟨.op o a b, st4, ?_, gab.lst.trans g4, ⟨ho, oa, ob⟩, by simp only [Te.deep]; omega, by simp only [Te.size, sz]; omega⟩
        show mDef 8 (b_law_any_term (f_law_any_term n)) _ st = _
        have z11 : (11 : Nat) ≤ sizeLine := by decide
        have z3 : (3 : Nat) ≤ sizeLine := by decide
        have c1' : ¬ ((k0 : Int) + 1 < 1) := by omega
        have ek' : ((k0 : Int) + 1 - 1) = (k0 : Int) := by omega
        simp [b_law_any_term, mDef, sRet, sRetN, sSeq, sNil, sIf, sAsg, sExpr, sPar, sAug, sNo, mAnd, mOr, mNot, mIf, m2, m1, mChain, mFn, mCall, mMeth, aCons, aNil, mVar, mC, mB, tmAnd, tmOr, tmNot, mTup, mLst, mSl, pNone, pSome, R.bind, R.toS, RS.seq, noEx, gN, gSet, DL.gTup, gsCons, gsNil, bType, kindD, bLen, bAbs, bInt, bMax2, bMin2, bTuple, bList, itemsD, oAdd, oSub, oMul, oDiv, oMod, oPow, oNeg, oLt, oLe, oGt, oGe, oLtT, oIs, oIsNot, DL.isNon, oIx, mEmp, oAddI, sAsg2, oMulI, mChain3, e1, c1', c2, ek', ea, eb, w7, z11, z3, e4, r4, eo, Te.d]
end Pr
set_option Elab.async false
set_option linter.all false
set_option maxRecDepth 10000
namespace DL
open PySem PySem.Spec PyProof.Rows L2
theorem pick_all {β : Type} {f : β → D} {G : β → Prop} : ∀ {ys : List D}, (∀ y ∈ ys, ∃ t, y = f t ∧ G t) → ∃ ts : List β, ys = ts.map f ∧ ∀ t ∈ ts, G t
  | [], _ => ⟨[], rfl, fun t h => by cases h⟩
  | y :: r, h => by
    obtain ⟨t, e, g⟩ := h y List.mem_cons_self
    obtain ⟨ts, e2, g2⟩ := pick_all (f := f) (G := G) (ys := r) fun x hx => h x (List.mem_cons_of_mem _ hx)
    refine ⟨t :: ts, by rw [List.map_cons, ← e, ← e2], fun x hx => ?_⟩
    rcases List.mem_cons.mp hx with rfl | hx
    · exact g
    · exact g2 x hx
end DL
namespace Pr
open PySem PySem.Spec PyProof.Rows L2 DL
theorem any_first_ok {r : Nat} {st : Sto} (h : IsPool st r) : ∃ (t : Te) (st' : Sto), f_law_any_first [.ref r] st = .ok t.d st' ∧ Ev r st st' ∧ t.Good BF false := by
  have hr := h.lt
  have g1 : Ev r st (st ++ [.lst [leafD "word", leafD "word", leafD "ties"]]) := Ev.gr h (List.prefix_append _ _)
  have g2 := g1.lst (xs := [.int 0, .int 1, .int 2])
  obtain ⟨v, st3, e3, a3, b3, g3⟩ := take_of (m := 3) g2.pool (by omega) (by omega)
  have r3 := ev_new g1.pool g3
  have q3 : rdL st3 st.length = some (([("word" : Str), "word", "ties"] : List Str).map leafD) := g3.rdL (rdL_gr (List.prefix_append _ _) (rdL_new _ _)) (by omega)
  obtain ⟨j, rfl⟩ : ∃ j : Nat, v = j := ⟨v.toNat, by omega⟩
  obtain ⟨k, hk, ek⟩ : ∃ k : Nat, k ≤ 2 ∧ L2.atI [D.int 0, .int 1, .int 2] (j : Int) = some (.int (k : Int)) := by
    have hj : j = 0 ∨ j = 1 ∨ j = 2 := by omega
    rcases hj with rfl | rfl | rfl
    · exact ⟨0, by omega, atI_at rfl⟩
    · exact ⟨1, by omega, atI_at rfl⟩
    · exact ⟨2, by omega, atI_at rfl⟩
  obtain ⟨t, st4, e4, g4, ot, dt, stz⟩ := any_term_ok (r := r) (q := st.length) (by omega) bf_ok (m := false) (by decide +kernel) (ws := ["word", "word", "ties"]) (by decide +kernel) (by simp) (by simp) 45 (k : Int) st3 g3.pool q3 (by rw [Int.toNat_natCast]; omega)
  rw [Int.toNat_natCast] at dt stz
  refine ⟨t, st4, ?_, (g2.trans g3).trans g4, ⟨ot, by omega, Nat.le_trans (Nat.le_trans stz (sz_mono hk)) (by decide)⟩⟩
  have z3 : (3 : Nat) ≤ sizeLine := by decide
  have z1 : (1 : Nat) ≤ sizeLine := by decide
  have e3' : f_law_take [.ref r, .int 3] (st ++ [.lst [.tup [.str "word"], .tup [.str "word"], .tup [.str "ties"]], .lst [.int 0, .int 1, .int 2]]) = .ok (.int (j : Int)) st3 := by rw [← e3, List.append_assoc]; rfl
  have r3' : rdL st3 (st.length + 1) = some [.int 0, .int 1, .int 2] := by rw [← r3]; simp
  simp [f_law_any_first, b_law_any_first, mDef, sRet, sRetN, sSeq, sNil, sIf, sAsg, sExpr, sPar, sAug, sNo, mAnd, mOr, mNot, mIf, m2, m1, mChain, mFn, mCall, mMeth, aCons, aNil, mVar, mC, mB, tmAnd, tmOr, tmNot, mTup, mLst, mSl, pNone, pSome, R.bind, R.toS, RS.seq, noEx, gN, gSet, DL.gTup, gsCons, gsNil, bType, kindD, bLen, bAbs, bInt, bMax2, bMin2, bTuple, bList, itemsD, oAdd, oSub, oMul, oDiv, oMod, oPow, oNeg, oLt, oLe, oGt, oGe, oLtT, oIs, oIsNot, DL.isNon, oIx, mEmp, oAddI, sAsg2, oMulI, mChain3, z1, z3, e3', r3', ek, e4]
theorem any_next_ok {r : Nat} {st : Sto} (h : IsPool st r) : ∃ (t : Te) (st' : Sto), f_law_any_next [.ref r] st = .ok t.d st' ∧ Ev r st st' ∧ t.Good BN true := by
  obtain ⟨v0, st0, e0, a0, b0, g0⟩ := take_of (m := 3) h (by omega) (by omega)
  have hr := g0.pool.lt
  have z1 : (1 : Nat) ≤ sizeLine := by decide
  have z3 : (3 : Nat) ≤ sizeLine := by decide
  have z4 : (4 : Nat) ≤ sizeLine := by decide
  have z5 : (5 : Nat) ≤ sizeLine := by decide
  by_cases z : v0 = 0
  · subst z
    have g1 : Ev r st0 (st0 ++ [.lst [leafD "own", leafD "own", leafD "ties"]]) := Ev.gr g0.pool (List.prefix_append _ _)
    have q3 : rdL (st0 ++ [.lst [leafD "own", leafD "own", leafD "ties"]]) st0.length = some (([("own" : Str), "own", "ties"] : List Str).map leafD) := rdL_new _ _
    obtain ⟨t, st4, e4, g4, ot, dt, stz⟩ := any_term_ok (r := r) (q := st0.length) (by omega) bn_ok (m := true) (by decide +kernel) (ws := ["own", "own", "ties"]) (by decide +kernel) (by simp) (by simp) 45 2 _ g1.pool q3 (by decide)
    refine ⟨t, st4, ?_, (g0.trans g1).trans g4, ⟨ot, Nat.le_trans dt (by decide), Nat.le_trans stz (by decide)⟩⟩
    simp [leafD] at e4
    simp [f_law_any_next, b_law_any_next, mDef, sRet, sRetN, sSeq, sNil, sIf, sAsg, sExpr, sPar, sAug, sNo, mAnd, mOr, mNot, mIf, m2, m1, mChain, mFn, mCall, mMeth, aCons, aNil, mVar, mC, mB, tmAnd, tmOr, tmNot, mTup, mLst, mSl, pNone, pSome, R.bind, R.toS, RS.seq, noEx, gN, gSet, DL.gTup, gsCons, gsNil, bType, kindD, bLen, bAbs, bInt, bMax2, bMin2, bTuple, bList, itemsD, oAdd, oSub, oMul, oDiv, oMod, oPow, oNeg, oLt, oLe, oGt, oGe, oLtT, oIs, oIsNot, DL.isNon, oIx, mEmp, oAddI, sAsg2, oMulI, mChain3, e0, z1, z3, e4]
  · have g1 : Ev r st0 (st0 ++ [.lst [leafD "sum", leafD "least", leafD "most", leafD "many"]]) := Ev.gr g0.pool (List.prefix_append _ _)
    obtain ⟨v1, st1, e1, a1, b1, g2⟩ := take_of (m := 4) g1.pool (by omega) (by omega)
    have r1 := ev_new g0.pool g2
    obtain ⟨j, rfl⟩ : ∃ j : Nat, v1 = j := ⟨v1.toNat, by omega⟩
    obtain ⟨hw, hhw, ej⟩ : ∃ hw : Str, (hw ∈ BN ∨ hw = "many" ∧ true = true) ∧ L2.atI [leafD "sum", leafD "least", leafD "most", leafD "many"] (j : Int) = some (leafD hw) := by
      have hj : j = 0 ∨ j = 1 ∨ j = 2 ∨ j = 3 := by omega
      rcases hj with rfl | rfl | rfl | rfl
      · exact ⟨"sum", .inl (by decide +kernel), atI_at rfl⟩
      · exact ⟨"least", .inl (by decide +kernel), atI_at rfl⟩
      · exact ⟨"most", .inl (by decide +kernel), atI_at rfl⟩
      · exact ⟨"many", .inr ⟨rfl, rfl⟩, atI_at rfl⟩
    have g12 := (g0.trans g1).trans g2
    have hr1 := g2.pool.lt
    have g3 : Ev r st1 (st1 ++ [.lst [leafD hw, leafD hw, leafD "own", leafD "sum", leafD "ties"]]) := Ev.gr g2.pool (List.prefix_append _ _)
    have g4 := g3.lst (xs := [.int 0, .int 1, .int 2, .int 3])
    obtain ⟨v3, st3, e3, a3, b3, g5⟩ := take_of (m := 4) g4.pool (by omega) (by omega)
    have r3 := ev_new g3.pool g5
    have q3 : rdL st3 st1.length = some (([hw, hw, "own", "sum", "ties"] : List Str).map leafD) := g5.rdL (rdL_gr (List.prefix_append _ _) (rdL_new _ _)) (by omega)
    obtain ⟨j3, rfl⟩ : ∃ j : Nat, v3 = j := ⟨v3.toNat, by omega⟩
    obtain ⟨k, hk, ek⟩ : ∃ k : Nat, k ≤ 3 ∧ L2.atI [D.int 0, .int 1, .int 2, .int 3] (j3 : Int) = some (.int (k : Int)) := by
      have hj : j3 = 0 ∨ j3 = 1 ∨ j3 = 2 ∨ j3 = 3 := by omega
      rcases hj with rfl | rfl | rfl | rfl
      · exact ⟨0, by omega, atI_at rfl⟩
      · exact ⟨1, by omega, atI_at rfl⟩
      · exact ⟨2, by omega, atI_at rfl⟩
      · exact ⟨3, by omega, atI_at rfl⟩
    obtain ⟨t, st4, e4, g6, ot, dt, stz⟩ := any_term_ok (r := r) (q := st1.length) (by omega) bn_ok (m := true) (by decide +kernel) (ws := [hw, hw, "own", "sum", "ties"]) (by
      intro w hw'
      simp only [List.mem_cons, List.not_mem_nil, or_false] at hw'
      rcases hw' with rfl | rfl | rfl | rfl | rfl
      · exact hhw
      · exact hhw
      · exact .inl (by decide +kernel)
      · exact .inl (by decide +kernel)
      · exact .inl (by decide +kernel)) (by simp) (by simp) 45 (k : Int) st3 g5.pool q3 (by rw [Int.toNat_natCast]; omega)
    rw [Int.toNat_natCast] at dt stz
    refine ⟨t, st4, ?_, ((g12.trans g4).trans g5).trans g6, ⟨ot, by omega, Nat.le_trans (Nat.le_trans stz (sz_mono hk)) (by decide)⟩⟩
    have e3' : f_law_take [.ref r, .int 4] (st1 ++ [.lst [.tup [.str hw], .tup [.str hw], .tup [.str "own"], .tup [.str "sum"], .tup [.str "ties"]], .lst [.int 0, .int 1, .int 2, .int 3]]) = .ok (.int (j3 : Int)) st3 := by rw [← e3, List.append_assoc]; rfl
    have r3' : rdL st3 (st1.length + 1) = some [.int 0, .int 1, .int 2, .int 3] := by rw [← r3]; simp
    simp only [leafD] at e1 r1 ej
    simp [f_law_any_next, b_law_any_next, mDef, sRet, sRetN, sSeq, sNil, sIf, sAsg, sExpr, sPar, sAug, sNo, mAnd, mOr, mNot, mIf, m2, m1, mChain, mFn, mCall, mMeth, aCons, aNil, mVar, mC, mB, tmAnd, tmOr, tmNot, mTup, mLst, mSl, pNone, pSome, R.bind, R.toS, RS.seq, noEx, gN, gSet, DL.gTup, gsCons, gsNil, bType, kindD, bLen, bAbs, bInt, bMax2, bMin2, bTuple, bList, itemsD, oAdd, oSub, oMul, oDiv, oMod, oPow, oNeg, oLt, oLe, oGt, oGe, oLtT, oIs, oIsNot, DL.isNon, oIx, mEmp, oAddI, sAsg2, oMulI, mChain3, e0, z, z1, z4, z5, e1, r1, ej, e3', r3', ek, e4]
end Pr
set_option Elab.async false
set_option linter.all false
set_option maxRecDepth 10000
namespace DL
open PySem PySem.Spec PyProof.Rows L2
/-! ### what terms come to -/
def opV (o : Str) (a b : Int) : Int :=
  if o = "plus" then (a + b) % 997
  else if o = "minus" then (a - b) % 997
  else if o = "times" then a * b % 997
  else if o = "over" then (if b = 0 then 0 else a / b)
  else if o = "rest" then (if b = 0 then 0 else a % b)
  else if o = "less" then (if a < b then 1 else 0)
  else if o = "same" then (if a = b then 1 else 0)
  else if o = "low" then (if a < b then a else b)
  else (if a < b then b else a)
def leafV (u : Str) (w : Int) (h : List Int) : Int :=
  if u = "word" ∨ u = "own" then w
  else if u = "ties" then h.length
  else if u = "sum" then h.sum % 997
  else if u = "least" then (minI h).getD 0
  else (maxI h).getD 0
namespace Te
def ev (w : Int) (h : List Int) : Te → Int
  | num n => n
  | bare u => leafV u w h
  | many k => (h.count (k : Int) : Nat)
  | op o a b => opV o (a.ev w h) (b.ev w h)
  | ite c a b => if c.ev w h = 0 then b.ev w h else a.ev w h
end Te
def Wo (a : Int) : Prop := 0 ≤ a ∧ a < 997
theorem opV_ok {o : Str} {a b : Int} (ha : Wo a) (hb : Wo b) : Wo (opV o a b) := by
  unfold Wo at *
  unfold opV
  repeat' split
  all_goals first
    | omega
    | (refine ⟨Int.emod_nonneg _ (by omega), Int.emod_lt_of_pos _ (by omega)⟩)
    | (refine ⟨Int.ediv_nonneg ha.1 hb.1, Int.lt_of_le_of_lt (Int.ediv_le_self _ ha.1) ha.2⟩)
    | (refine ⟨Int.emod_nonneg _ (by assumption), Int.lt_of_lt_of_le (Int.emod_lt_of_pos _ (by omega)) (by omega)⟩)
theorem opV_plus (a b : Int) : opV "plus" a b = (a + b) % 997 := by
  unfold opV
  rw [if_pos rfl]
theorem opV_minus (a b : Int) : opV "minus" a b = (a - b) % 997 := by
  unfold opV
  rw [if_neg (by decide +kernel), if_pos rfl]
theorem opV_times (a b : Int) : opV "times" a b = a * b % 997 := by
  unfold opV
  rw [if_neg (by decide +kernel), if_neg (by decide +kernel), if_pos rfl]
theorem opV_over (a b : Int) : opV "over" a b = (if b = 0 then 0 else a / b) := by
  unfold opV
  rw [if_neg (by decide +kernel), if_neg (by decide +kernel), if_neg (by decide +kernel), if_pos rfl]
theorem opV_rest (a b : Int) : opV "rest" a b = (if b = 0 then 0 else a % b) := by
  unfold opV
  rw [if_neg (by decide +kernel), if_neg (by decide +kernel), if_neg (by decide +kernel), if_neg (by decide +kernel), if_pos rfl]
theorem opV_less (a b : Int) : opV "less" a b = (if a < b then 1 else 0) := by
  unfold opV
  rw [if_neg (by decide +kernel), if_neg (by decide +kernel), if_neg (by decide +kernel), if_neg (by decide +kernel), if_neg (by decide +kernel), if_pos rfl]
theorem opV_same (a b : Int) : opV "same" a b = (if a = b then 1 else 0) := by
  unfold opV
  rw [if_neg (by decide +kernel), if_neg (by decide +kernel), if_neg (by decide +kernel), if_neg (by decide +kernel), if_neg (by decide +kernel), if_neg (by decide +kernel), if_pos rfl]
theorem opV_low (a b : Int) : opV "low" a b = (if a < b then a else b) := by
  unfold opV
  rw [if_neg (by decide +kernel), if_neg (by decide +kernel), if_neg (by decide +kernel), if_neg (by decide +kernel), if_neg (by decide +kernel), if_neg (by decide +kernel), if_neg (by decide +kernel), if_pos rfl]
theorem opV_high (a b : Int) : opV "high" a b = (if a < b then b else a) := by
  unfold opV
  rw [if_neg (by decide +kernel), if_neg (by decide +kernel), if_neg (by decide +kernel), if_neg (by decide +kernel), if_neg (by decide +kernel), if_neg (by decide +kernel), if_neg (by decide +kernel), if_neg (by decide +kernel)]
end DL
namespace Pr
open PySem PySem.Spec PyProof.Rows L2 DL
theorem ops_call {o : Str} (ho : o ∈ Te.opsN) : oIxT d_TABS (.nam "OPS") (.str o) = (fun st => .ok (.nam o) st) ∧ ∃ g, defAt fs_OPS o = some g ∧ ∀ (a b : Int) (st : Sto), Wo a → Wo b → g [.int a, .int b] st = .ok (.int (opV o a b)) st := by
  simp only [Te.opsN, List.mem_cons, List.not_mem_nil, or_false] at ho
  rcases ho with rfl | rfl | rfl | rfl | rfl | rfl | rfl | rfl | rfl
  · exact ⟨rfl, f_plus, rfl, fun a b st ha hb => by simp [f_plus, b_plus, mDef, sRet, sRetN, sSeq, sNil, sIf, sAsg, sExpr, sPar, sAug, sNo, mAnd, mOr, mNot, mIf, m2, m1, mChain, mFn, mCall, mMeth, aCons, aNil, mVar, mC, mB, tmAnd, tmOr, tmNot, mTup, mLst, mSl, pNone, pSome, R.bind, R.toS, RS.seq, noEx, gN, gSet, DL.gTup, gsCons, gsNil, bType, kindD, bLen, bAbs, bInt, bMax2, bMin2, bTuple, bList, itemsD, oAdd, oSub, oMul, oDiv, oMod, oPow, oNeg, oLt, oLe, oGt, oGe, oLtT, oIs, oIsNot, DL.isNon, oIx, mEmp, oAddI, sAsg2, oMulI, mChain3, opV_plus]⟩
  · exact ⟨rfl, f_minus, rfl, fun a b st ha hb => by simp [f_minus, b_minus, mDef, sRet, sRetN, sSeq, sNil, sIf, sAsg, sExpr, sPar, sAug, sNo, mAnd, mOr, mNot, mIf, m2, m1, mChain, mFn, mCall, mMeth, aCons, aNil, mVar, mC, mB, tmAnd, tmOr, tmNot, mTup, mLst, mSl, pNone, pSome, R.bind, R.toS, RS.seq, noEx, gN, gSet, DL.gTup, gsCons, gsNil, bType, kindD, bLen, bAbs, bInt, bMax2, bMin2, bTuple, bList, itemsD, oAdd, oSub, oMul, oDiv, oMod, oPow, oNeg, oLt, oLe, oGt, oGe, oLtT, oIs, oIsNot, DL.isNon, oIx, mEmp, oAddI, sAsg2, oMulI, mChain3, opV_minus]⟩
  · exact ⟨rfl, f_times, rfl, fun a b st ha hb => by
      have : Small a := by unfold Wo at ha; unfold Small; omega
      simp [f_times, b_times, mDef, sRet, sRetN, sSeq, sNil, sIf, sAsg, sExpr, sPar, sAug, sNo, mAnd, mOr, mNot, mIf, m2, m1, mChain, mFn, mCall, mMeth, aCons, aNil, mVar, mC, mB, tmAnd, tmOr, tmNot, mTup, mLst, mSl, pNone, pSome, R.bind, R.toS, RS.seq, noEx, gN, gSet, DL.gTup, gsCons, gsNil, bType, kindD, bLen, bAbs, bInt, bMax2, bMin2, bTuple, bList, itemsD, oAdd, oSub, oMul, oDiv, oMod, oPow, oNeg, oLt, oLe, oGt, oGe, oLtT, oIs, oIsNot, DL.isNon, oIx, mEmp, oAddI, sAsg2, oMulI, mChain3, opV_times, this]⟩
  · exact ⟨rfl, f_over, rfl, fun a b st ha hb => by
      unfold Wo at hb
      by_cases z : b = 0
      · simp [f_over, b_over, mDef, sRet, sRetN, sSeq, sNil, sIf, sAsg, sExpr, sPar, sAug, sNo, mAnd, mOr, mNot, mIf, m2, m1, mChain, mFn, mCall, mMeth, aCons, aNil, mVar, mC, mB, tmAnd, tmOr, tmNot, mTup, mLst, mSl, pNone, pSome, R.bind, R.toS, RS.seq, noEx, gN, gSet, DL.gTup, gsCons, gsNil, bType, kindD, bLen, bAbs, bInt, bMax2, bMin2, bTuple, bList, itemsD, oAdd, oSub, oMul, oDiv, oMod, oPow, oNeg, oLt, oLe, oGt, oGe, oLtT, oIs, oIsNot, DL.isNon, oIx, mEmp, oAddI, sAsg2, oMulI, mChain3, opV_over, z]
      · have h1 : 0 < b := by omega
        have h2 : b < 1073741824 := by omega
        simp [f_over, b_over, mDef, sRet, sRetN, sSeq, sNil, sIf, sAsg, sExpr, sPar, sAug, sNo, mAnd, mOr, mNot, mIf, m2, m1, mChain, mFn, mCall, mMeth, aCons, aNil, mVar, mC, mB, tmAnd, tmOr, tmNot, mTup, mLst, mSl, pNone, pSome, R.bind, R.toS, RS.seq, noEx, gN, gSet, DL.gTup, gsCons, gsNil, bType, kindD, bLen, bAbs, bInt, bMax2, bMin2, bTuple, bList, itemsD, oAdd, oSub, oMul, oDiv, oMod, oPow, oNeg, oLt, oLe, oGt, oGe, oLtT, oIs, oIsNot, DL.isNon, oIx, mEmp, oAddI, sAsg2, oMulI, mChain3, opV_over, z, h1, h2]⟩
  · exact ⟨rfl, f_rest, rfl, fun a b st ha hb => by
      unfold Wo at hb
      by_cases z : b = 0
      · simp [f_rest, b_rest, mDef, sRet, sRetN, sSeq, sNil, sIf, sAsg, sExpr, sPar, sAug, sNo, mAnd, mOr, mNot, mIf, m2, m1, mChain, mFn, mCall, mMeth, aCons, aNil, mVar, mC, mB, tmAnd, tmOr, tmNot, mTup, mLst, mSl, pNone, pSome, R.bind, R.toS, RS.seq, noEx, gN, gSet, DL.gTup, gsCons, gsNil, bType, kindD, bLen, bAbs, bInt, bMax2, bMin2, bTuple, bList, itemsD, oAdd, oSub, oMul, oDiv, oMod, oPow, oNeg, oLt, oLe, oGt, oGe, oLtT, oIs, oIsNot, DL.isNon, oIx, mEmp, oAddI, sAsg2, oMulI, mChain3, opV_rest, z]
      · have h1 : 0 < b := by omega
        simp [f_rest, b_rest, mDef, sRet, sRetN, sSeq, sNil, sIf, sAsg, sExpr, sPar, sAug, sNo, mAnd, mOr, mNot, mIf, m2, m1, mChain, mFn, mCall, mMeth, aCons, aNil, mVar, mC, mB, tmAnd, tmOr, tmNot, mTup, mLst, mSl, pNone, pSome, R.bind, R.toS, RS.seq, noEx, gN, gSet, DL.gTup, gsCons, gsNil, bType, kindD, bLen, bAbs, bInt, bMax2, bMin2, bTuple, bList, itemsD, oAdd, oSub, oMul, oDiv, oMod, oPow, oNeg, oLt, oLe, oGt, oGe, oLtT, oIs, oIsNot, DL.isNon, oIx, mEmp, oAddI, sAsg2, oMulI, mChain3, opV_rest, z, h1]⟩
  · exact ⟨rfl, f_less, rfl, fun a b st ha hb => by by_cases z : a < b <;> simp [f_less, b_less, mDef, sRet, sRetN, sSeq, sNil, sIf, sAsg, sExpr, sPar, sAug, sNo, mAnd, mOr, mNot, mIf, m2, m1, mChain, mFn, mCall, mMeth, aCons, aNil, mVar, mC, mB, tmAnd, tmOr, tmNot, mTup, mLst, mSl, pNone, pSome, R.bind, R.toS, RS.seq, noEx, gN, gSet, DL.gTup, gsCons, gsNil, bType, kindD, bLen, bAbs, bInt, bMax2, bMin2, bTuple, bList, itemsD, oAdd, oSub, oMul, oDiv, oMod, oPow, oNeg, oLt, oLe, oGt, oGe, oLtT, oIs, oIsNot, DL.isNon, oIx, mEmp, oAddI, sAsg2, oMulI, mChain3, opV_less, z]⟩
  · exact ⟨rfl, f_same, rfl, fun a b st ha hb => by by_cases z : a = b <;> simp [f_same, b_same, mDef, sRet, sRetN, sSeq, sNil, sIf, sAsg, sExpr, sPar, sAug, sNo, mAnd, mOr, mNot, mIf, m2, m1, mChain, mFn, mCall, mMeth, aCons, aNil, mVar, mC, mB, tmAnd, tmOr, tmNot, mTup, mLst, mSl, pNone, pSome, R.bind, R.toS, RS.seq, noEx, gN, gSet, DL.gTup, gsCons, gsNil, bType, kindD, bLen, bAbs, bInt, bMax2, bMin2, bTuple, bList, itemsD, oAdd, oSub, oMul, oDiv, oMod, oPow, oNeg, oLt, oLe, oGt, oGe, oLtT, oIs, oIsNot, DL.isNon, oIx, mEmp, oAddI, sAsg2, oMulI, mChain3, opV_same, z]⟩
  · exact ⟨rfl, f_low, rfl, fun a b st ha hb => by by_cases z : a < b <;> simp [f_low, b_low, mDef, sRet, sRetN, sSeq, sNil, sIf, sAsg, sExpr, sPar, sAug, sNo, mAnd, mOr, mNot, mIf, m2, m1, mChain, mFn, mCall, mMeth, aCons, aNil, mVar, mC, mB, tmAnd, tmOr, tmNot, mTup, mLst, mSl, pNone, pSome, R.bind, R.toS, RS.seq, noEx, gN, gSet, DL.gTup, gsCons, gsNil, bType, kindD, bLen, bAbs, bInt, bMax2, bMin2, bTuple, bList, itemsD, oAdd, oSub, oMul, oDiv, oMod, oPow, oNeg, oLt, oLe, oGt, oGe, oLtT, oIs, oIsNot, DL.isNon, oIx, mEmp, oAddI, sAsg2, oMulI, mChain3, opV_low, z]⟩
  · exact ⟨rfl, f_high, rfl, fun a b st ha hb => by by_cases z : a < b <;> simp [f_high, b_high, mDef, sRet, sRetN, sSeq, sNil, sIf, sAsg, sExpr, sPar, sAug, sNo, mAnd, mOr, mNot, mIf, m2, m1, mChain, mFn, mCall, mMeth, aCons, aNil, mVar, mC, mB, tmAnd, tmOr, tmNot, mTup, mLst, mSl, pNone, pSome, R.bind, R.toS, RS.seq, noEx, gN, gSet, DL.gTup, gsCons, gsNil, bType, kindD, bLen, bAbs, bInt, bMax2, bMin2, bTuple, bList, itemsD, oAdd, oSub, oMul, oDiv, oMod, oPow, oNeg, oLt, oLe, oGt, oGe, oLtT, oIs, oIsNot, DL.isNon, oIx, mEmp, oAddI, sAsg2, oMulI, mChain3, opV_high, z]⟩
end Pr
set_option Elab.async false
set_option linter.all false
set_option maxRecDepth 10000
namespace DL
open PySem PySem.Spec PyProof.Rows L2
abbrev BareN : List Str := ["word", "own", "ties", "sum", "least", "most"]
theorem leafV_word (w : Int) (h : List Int) : leafV "word" w h = w := by unfold leafV; rw [if_pos (Or.inl rfl)]
theorem leafV_own (w : Int) (h : List Int) : leafV "own" w h = w := by unfold leafV; rw [if_pos (Or.inr rfl)]
theorem leafV_ties (w : Int) (h : List Int) : leafV "ties" w h = h.length := by
  unfold leafV; rw [if_neg (by decide +kernel), if_pos rfl]
theorem leafV_sum (w : Int) (h : List Int) : leafV "sum" w h = h.sum % 997 := by
  unfold leafV; rw [if_neg (by decide +kernel), if_neg (by decide +kernel), if_pos rfl]
theorem leafV_least (w : Int) (h : List Int) : leafV "least" w h = (minI h).getD 0 := by
  unfold leafV; rw [if_neg (by decide +kernel), if_neg (by decide +kernel), if_neg (by decide +kernel), if_pos rfl]
theorem leafV_most (w : Int) (h : List Int) : leafV "most" w h = (maxI h).getD 0 := by
  unfold leafV; rw [if_neg (by decide +kernel), if_neg (by decide +kernel), if_neg (by decide +kernel), if_neg (by decide +kernel)]
theorem leafV_ok {u : Str} {w : Int} {h : List Int} (hu : u ∈ BareN) (hw : Wo w) (hh : ∀ x ∈ h, Wo x) (hl : h.length ≤ 11) : Wo (leafV u w h) := by
  simp only [BareN, List.mem_cons, List.not_mem_nil, or_false] at hu
  rcases hu with rfl | rfl | rfl | rfl | rfl | rfl
  · rw [leafV_word]; exact hw
  · rw [leafV_own]; exact hw
  · rw [leafV_ties]; unfold Wo; omega
  · rw [leafV_sum]; exact ⟨Int.emod_nonneg _ (by omega), Int.emod_lt_of_pos _ (by omega)⟩
  · rw [leafV_least]
    cases q : minI h with
    | none => exact ⟨by decide, by decide⟩
    | some m => exact hh m (minI_spec q).1
  · rw [leafV_most]
    cases q : maxI h with
    | none => exact ⟨by decide, by decide⟩
    | some m => exact hh m (maxI_spec q).1
theorem Te.ev_ok {bs : List Str} {m : Bool} (hb : ∀ b ∈ bs, b ∈ BareN) {w : Int} {h : List Int} (hw : Wo w) (hh : ∀ x ∈ h, Wo x) (hl : h.length ≤ 11) : ∀ t : Te, t.Ok bs m → Wo (t.ev w h)
  | .num n, ho => by
    have : n < 997 := ho
    show Wo (n : Int)
    unfold Wo; omega
  | .bare u, ho => leafV_ok (hb u ho) hw hh hl
  | .many k, ho => by
    show Wo ((h.count (k : Int) : Nat) : Int)
    have : h.count (k : Int) ≤ h.length := List.count_le_length
    unfold Wo; omega
  | .op o a b, ho => opV_ok (ev_ok hb hw hh hl a ho.2.1) (ev_ok hb hw hh hl b ho.2.2)
  | .ite c a b, ho => by
    show Wo (if c.ev w h = 0 then b.ev w h else a.ev w h)
    split
    · exact ev_ok hb hw hh hl b ho.2.2
    · exact ev_ok hb hw hh hl a ho.2.1
end DL
namespace Pr
open PySem PySem.Spec PyProof.Rows L2 DL
theorem bare_call {u : Str} (hu : u ∈ BareN) : ∃ nm g, oIxT d_TABS (.nam "BARE") (.str u) = (fun st => .ok (.nam nm) st) ∧ defAt fs_BARE nm = some g ∧ ∀ (w : Int) (h : List Int) (st : Sto), g [.int w, .tup (h.map D.int)] st = .ok (.int (leafV u w h)) st := by
  simp only [BareN, List.mem_cons, List.not_mem_nil, or_false] at hu
  rcases hu with rfl | rfl | rfl | rfl | rfl | rfl
  · exact ⟨_, f_own_worth, rfl, rfl, fun w h st => by simp [f_own_worth, b_own_worth, mDef, sRet, sRetN, sSeq, sNil, sIf, sAsg, sExpr, sPar, sAug, sNo, mAnd, mOr, mNot, mIf, m2, m1, mChain, mFn, mCall, mMeth, aCons, aNil, mVar, mC, mB, tmAnd, tmOr, tmNot, mTup, mLst, mSl, pNone, pSome, R.bind, R.toS, RS.seq, noEx, gN, gSet, DL.gTup, gsCons, gsNil, bType, kindD, bLen, bAbs, bInt, bMax2, bMin2, bTuple, bList, itemsD, oAdd, oSub, oMul, oDiv, oMod, oPow, oNeg, oLt, oLe, oGt, oGe, oLtT, oIs, oIsNot, DL.isNon, oIx, mEmp, oAddI, sAsg2, oMulI, mChain3, leafV_word]⟩
  · exact ⟨_, f_own_worth, rfl, rfl, fun w h st => by simp [f_own_worth, b_own_worth, mDef, sRet, sRetN, sSeq, sNil, sIf, sAsg, sExpr, sPar, sAug, sNo, mAnd, mOr, mNot, mIf, m2, m1, mChain, mFn, mCall, mMeth, aCons, aNil, mVar, mC, mB, tmAnd, tmOr, tmNot, mTup, mLst, mSl, pNone, pSome, R.bind, R.toS, RS.seq, noEx, gN, gSet, DL.gTup, gsCons, gsNil, bType, kindD, bLen, bAbs, bInt, bMax2, bMin2, bTuple, bList, itemsD, oAdd, oSub, oMul, oDiv, oMod, oPow, oNeg, oLt, oLe, oGt, oGe, oLtT, oIs, oIsNot, DL.isNon, oIx, mEmp, oAddI, sAsg2, oMulI, mChain3, leafV_own]⟩
  · exact ⟨_, f_heap_ties, rfl, rfl, fun w h st => by simp [f_heap_ties, b_heap_ties, mDef, sRet, sRetN, sSeq, sNil, sIf, sAsg, sExpr, sPar, sAug, sNo, mAnd, mOr, mNot, mIf, m2, m1, mChain, mFn, mCall, mMeth, aCons, aNil, mVar, mC, mB, tmAnd, tmOr, tmNot, mTup, mLst, mSl, pNone, pSome, R.bind, R.toS, RS.seq, noEx, gN, gSet, DL.gTup, gsCons, gsNil, bType, kindD, bLen, bAbs, bInt, bMax2, bMin2, bTuple, bList, itemsD, oAdd, oSub, oMul, oDiv, oMod, oPow, oNeg, oLt, oLe, oGt, oGe, oLtT, oIs, oIsNot, DL.isNon, oIx, mEmp, oAddI, sAsg2, oMulI, mChain3, leafV_ties]⟩
  · exact ⟨_, f_heap_sum, rfl, rfl, fun w h st => by simp [f_heap_sum, b_heap_sum, mDef, sRet, sRetN, sSeq, sNil, sIf, sAsg, sExpr, sPar, sAug, sNo, mAnd, mOr, mNot, mIf, m2, m1, mChain, mFn, mCall, mMeth, aCons, aNil, mVar, mC, mB, tmAnd, tmOr, tmNot, mTup, mLst, mSl, pNone, pSome, R.bind, R.toS, RS.seq, noEx, gN, gSet, DL.gTup, gsCons, gsNil, bType, kindD, bLen, bAbs, bInt, bMax2, bMin2, bTuple, bList, itemsD, oAdd, oSub, oMul, oDiv, oMod, oPow, oNeg, oLt, oLe, oGt, oGe, oLtT, oIs, oIsNot, DL.isNon, oIx, mEmp, oAddI, sAsg2, oMulI, mChain3, leafV_sum, bSumA, intsAt]⟩
  · exact ⟨_, f_heap_least, rfl, rfl, fun w h st => by
      cases h with
      | nil => simp [f_heap_least, b_heap_least, mDef, sRet, sRetN, sSeq, sNil, sIf, sAsg, sExpr, sPar, sAug, sNo, mAnd, mOr, mNot, mIf, m2, m1, mChain, mFn, mCall, mMeth, aCons, aNil, mVar, mC, mB, tmAnd, tmOr, tmNot, mTup, mLst, mSl, pNone, pSome, R.bind, R.toS, RS.seq, noEx, gN, gSet, DL.gTup, gsCons, gsNil, bType, kindD, bLen, bAbs, bInt, bMax2, bMin2, bTuple, bList, itemsD, oAdd, oSub, oMul, oDiv, oMod, oPow, oNeg, oLt, oLe, oGt, oGe, oLtT, oIs, oIsNot, DL.isNon, oIx, mEmp, oAddI, sAsg2, oMulI, mChain3, leafV_least, minI]
      | cons x r =>
        have e : intsOf (D.int x :: r.map D.int) = some (x :: r) := intsOf_ints (x :: r)
        simp [f_heap_least, b_heap_least, mDef, sRet, sRetN, sSeq, sNil, sIf, sAsg, sExpr, sPar, sAug, sNo, mAnd, mOr, mNot, mIf, m2, m1, mChain, mFn, mCall, mMeth, aCons, aNil, mVar, mC, mB, tmAnd, tmOr, tmNot, mTup, mLst, mSl, pNone, pSome, R.bind, R.toS, RS.seq, noEx, gN, gSet, DL.gTup, gsCons, gsNil, bType, kindD, bLen, bAbs, bInt, bMax2, bMin2, bTuple, bList, itemsD, oAdd, oSub, oMul, oDiv, oMod, oPow, oNeg, oLt, oLe, oGt, oGe, oLtT, oIs, oIsNot, DL.isNon, oIx, mEmp, oAddI, sAsg2, oMulI, mChain3, leafV_least, bMinA, intsAt, e, minI]⟩
  · exact ⟨_, f_heap_most, rfl, rfl, fun w h st => by
      cases h with
      | nil => simp [f_heap_most, b_heap_most, mDef, sRet, sRetN, sSeq, sNil, sIf, sAsg, sExpr, sPar, sAug, sNo, mAnd, mOr, mNot, mIf, m2, m1, mChain, mFn, mCall, mMeth, aCons, aNil, mVar, mC, mB, tmAnd, tmOr, tmNot, mTup, mLst, mSl, pNone, pSome, R.bind, R.toS, RS.seq, noEx, gN, gSet, DL.gTup, gsCons, gsNil, bType, kindD, bLen, bAbs, bInt, bMax2, bMin2, bTuple, bList, itemsD, oAdd, oSub, oMul, oDiv, oMod, oPow, oNeg, oLt, oLe, oGt, oGe, oLtT, oIs, oIsNot, DL.isNon, oIx, mEmp, oAddI, sAsg2, oMulI, mChain3, leafV_most, maxI]
      | cons x r =>
        have e : intsOf (D.int x :: r.map D.int) = some (x :: r) := intsOf_ints (x :: r)
        simp [f_heap_most, b_heap_most, mDef, sRet, sRetN, sSeq, sNil, sIf, sAsg, sExpr, sPar, sAug, sNo, mAnd, mOr, mNot, mIf, m2, m1, mChain, mFn, mCall, mMeth, aCons, aNil, mVar, mC, mB, tmAnd, tmOr, tmNot, mTup, mLst, mSl, pNone, pSome, R.bind, R.toS, RS.seq, noEx, gN, gSet, DL.gTup, gsCons, gsNil, bType, kindD, bLen, bAbs, bInt, bMax2, bMin2, bTuple, bList, itemsD, oAdd, oSub, oMul, oDiv, oMod, oPow, oNeg, oLt, oLe, oGt, oGe, oLtT, oIs, oIsNot, DL.isNon, oIx, mEmp, oAddI, sAsg2, oMulI, mChain3, leafV_most, bMaxA, intsAt, e, maxI]⟩
theorem worth_ok {bs : List Str} {m : Bool} (hb : ∀ b ∈ bs, b ∈ BareN) {w : Int} {h : List Int} (hw : Wo w) (hh : ∀ x ∈ h, Wo x) (hl : h.length ≤ 11) :
    ∀ (t : Te), t.Ok bs m → ∀ (n : Nat) (st : Sto), t.deep + 1 ≤ n → f_worth_of n [t.d, .int w, .tup (h.map D.int)] st = .ok (.int (t.ev w h)) st
  | .num k, ho, n, st, hn => by
    obtain ⟨n, rfl⟩ : ∃ j, n = j + 1 := ⟨n - 1, by omega⟩
    show mDef 7 (b_worth_of (f_worth_of n)) _ st = _
    simp [b_worth_of, mDef, sRet, sRetN, sSeq, sNil, sIf, sAsg, sExpr, sPar, sAug, sNo, mAnd, mOr, mNot, mIf, m2, m1, mChain, mFn, mCall, mMeth, aCons, aNil, mVar, mC, mB, tmAnd, tmOr, tmNot, mTup, mLst, mSl, pNone, pSome, R.bind, R.toS, RS.seq, noEx, gN, gSet, DL.gTup, gsCons, gsNil, bType, kindD, bLen, bAbs, bInt, bMax2, bMin2, bTuple, bList, itemsD, oAdd, oSub, oMul, oDiv, oMod, oPow, oNeg, oLt, oLe, oGt, oGe, oLtT, oIs, oIsNot, DL.isNon, oIx, mEmp, oAddI, sAsg2, oMulI, mChain3, Te.d, Te.ev]
  | .bare u, ho, n, st, hn => by
    obtain ⟨n, rfl⟩ : ∃ j, n = j + 1 := ⟨n - 1, by omega⟩
    show mDef 7 (b_worth_of (f_worth_of n)) _ st = _
    obtain ⟨nm, g, e1, e2, e3⟩ := bare_call (hb u ho)
    have e4 := e3 w h st
    simp [b_worth_of, mDef, sRet, sRetN, sSeq, sNil, sIf, sAsg, sExpr, sPar, sAug, sNo, mAnd, mOr, mNot, mIf, m2, m1, mChain, mFn, mCall, mMeth, aCons, aNil, mVar, mC, mB, tmAnd, tmOr, tmNot, mTup, mLst, mSl, pNone, pSome, R.bind, R.toS, RS.seq, noEx, gN, gSet, DL.gTup, gsCons, gsNil, bType, kindD, bLen, bAbs, bInt, bMax2, bMin2, bTuple, bList, itemsD, oAdd, oSub, oMul, oDiv, oMod, oPow, oNeg, oLt, oLe, oGt, oGe, oLtT, oIs, oIsNot, DL.isNon, oIx, mEmp, oAddI, sAsg2, oMulI, mChain3, Te.d, Te.ev, e1, mCallL, e2, e4]
  | .many k, ho, n, st, hn => by
    obtain ⟨n, rfl⟩ : ∃ j, n = j + 1 := ⟨n - 1, by omega⟩
    show mDef 7 (b_worth_of (f_worth_of n)) _ st = _
    simp [b_worth_of, mDef, sRet, sRetN, sSeq, sNil, sIf, sAsg, sExpr, sPar, sAug, sNo, mAnd, mOr, mNot, mIf, m2, m1, mChain, mFn, mCall, mMeth, aCons, aNil, mVar, mC, mB, tmAnd, tmOr, tmNot, mTup, mLst, mSl, pNone, pSome, R.bind, R.toS, RS.seq, noEx, gN, gSet, DL.gTup, gsCons, gsNil, bType, kindD, bLen, bAbs, bInt, bMax2, bMin2, bTuple, bList, itemsD, oAdd, oSub, oMul, oDiv, oMod, oPow, oNeg, oLt, oLe, oGt, oGe, oLtT, oIs, oIsNot, DL.isNon, oIx, mEmp, oAddI, sAsg2, oMulI, mChain3, Te.d, Te.ev, mMethT, fCountT]
  | .op o a b, ho, n, st, hn => by
    obtain ⟨n, rfl⟩ : ∃ j, n = j + 1 := ⟨n - 1, by omega⟩
    obtain ⟨ho, ha, hb'⟩ := ho
    simp only [Te.deep] at hn
    have ea := worth_ok hb hw hh hl a ha n st (by omega)
    have eb := worth_ok hb hw hh hl b hb' n st (by omega)
    obtain ⟨e1, g, e2, e3⟩ := ops_call ho
    have e4 := e3 _ _ st (Te.ev_ok hb hw hh hl a ha) (Te.ev_ok hb hw hh hl b hb')
    show mDef 7 (b_worth_of (f_worth_of n)) _ st = _
    simp [b_worth_of, mDef, sRet, sRetN, sSeq, sNil, sIf, sAsg, sExpr, sPar, sAug, sNo, mAnd, mOr, mNot, mIf, m2, m1, mChain, mFn, mCall, mMeth, aCons, aNil, mVar, mC, mB, tmAnd, tmOr, tmNot, mTup, mLst, mSl, pNone, pSome, R.bind, R.toS, RS.seq, noEx, gN, gSet, DL.gTup, gsCons, gsNil, bType, kindD, bLen, bAbs, bInt, bMax2, bMin2, bTuple, bList, itemsD, oAdd, oSub, oMul, oDiv, oMod, oPow, oNeg, oLt, oLe, oGt, oGe, oLtT, oIs, oIsNot, DL.isNon, oIx, mEmp, oAddI, sAsg2, oMulI, mChain3, Te.d, Te.ev, e1, mCallL, e2, e4, ea, eb]
  | .ite c a b, ho, n, st, hn => by
    obtain ⟨n, rfl⟩ : ∃ j, n = j + 1 := ⟨n - 1, by omega⟩
    obtain ⟨hc, ha, hb'⟩ := ho
    simp only [Te.deep] at hn
    have ec := worth_ok hb hw hh hl c hc n st (by omega)
    have ea := worth_ok hb hw hh hl a ha n st (by omega)
    have eb := worth_ok hb hw hh hl b hb' n st (by omega)
    have i3 : L2.atI [D.str "if", c.d, a.d, b.d] 3 = some b.d := L2.atI_nat (j := 3) rfl
    show mDef 7 (b_worth_of (f_worth_of n)) _ st = _
    by_cases z : c.ev w h = 0
    · simp [b_worth_of, mDef, sRet, sRetN, sSeq, sNil, sIf, sAsg, sExpr, sPar, sAug, sNo, mAnd, mOr, mNot, mIf, m2, m1, mChain, mFn, mCall, mMeth, aCons, aNil, mVar, mC, mB, tmAnd, tmOr, tmNot, mTup, mLst, mSl, pNone, pSome, R.bind, R.toS, RS.seq, noEx, gN, gSet, DL.gTup, gsCons, gsNil, bType, kindD, bLen, bAbs, bInt, bMax2, bMin2, bTuple, bList, itemsD, oAdd, oSub, oMul, oDiv, oMod, oPow, oNeg, oLt, oLe, oGt, oGe, oLtT, oIs, oIsNot, DL.isNon, oIx, mEmp, oAddI, sAsg2, oMulI, mChain3, Te.d, Te.ev, ec, ea, eb, z, i3]
    · simp [b_worth_of, mDef, sRet, sRetN, sSeq, sNil, sIf, sAsg, sExpr, sPar, sAug, sNo, mAnd, mOr, mNot, mIf, m2, m1, mChain, mFn, mCall, mMeth, aCons, aNil, mVar, mC, mB, tmAnd, tmOr, tmNot, mTup, mLst, mSl, pNone, pSome, R.bind, R.toS, RS.seq, noEx, gN, gSet, DL.gTup, gsCons, gsNil, bType, kindD, bLen, bAbs, bInt, bMax2, bMin2, bTuple, bList, itemsD, oAdd, oSub, oMul, oDiv, oMod, oPow, oNeg, oLt, oLe, oGt, oGe, oLtT, oIs, oIsNot, DL.isNon, oIx, mEmp, oAddI, sAsg2, oMulI, mChain3, Te.d, Te.ev, ec, ea, eb, z, i3]
/-! ### comes_to -/
theorem is_worth_int {x : Int} (h : Wo x) (st : Sto) : f_is_worth [.int x] st = .ok (.bl true) st := by
  have h1 := h.1
  have h2 := h.2
  simp [f_is_worth, b_is_worth, f_is_below, b_is_below, mDef, sRet, sRetN, sSeq, sNil, sIf, sAsg, sExpr, sPar, sAug, sNo, mAnd, mOr, mNot, mIf, m2, m1, mChain, mFn, mCall, mMeth, aCons, aNil, mVar, mC, mB, tmAnd, tmOr, tmNot, mTup, mLst, mSl, pNone, pSome, R.bind, R.toS, RS.seq, noEx, gN, gSet, DL.gTup, gsCons, gsNil, bType, kindD, bLen, bAbs, bInt, bMax2, bMin2, bTuple, bList, itemsD, oAdd, oSub, oMul, oDiv, oMod, oPow, oNeg, oLt, oLe, oGt, oGe, oLtT, oIs, oIsNot, DL.isNon, oIx, mEmp, oAddI, sAsg2, oMulI, mChain3, h1, h2]
theorem part_any {n : Nat} {bs : List Str} (hbs : ∀ b ∈ bs, PyData.strOk b = true) {p : Te} (hp : p.Ok BN true) {th hd : D} {k many : Int} {q6 q7 : Option D} {st : Sto} (hr : p.comp = true → ∃ c : Int, f_count_terms n [p.d, bareD bs, prD false, .int (k - 1)] st = .ok (.int c) st) :
    (∃ q7' many', cBody (f_count_terms n) [some th, some (bareD bs), some (prD false), some (.int k), some (.int many), some hd, some p.d, q7] st = .nx [some th, some (bareD bs), some (prD false), some (.int k), some (.int many'), some hd, some p.d, q7'] st)
    ∨ cBody (f_count_terms n) [some th, some (bareD bs), some (prD false), some (.int k), some (.int many), some hd, some p.d, q7] st = .rt (.int 41) st := by
  cases p with
  | num n =>
    have h' : n < 997 := hp
    have h2 : (n : Int) < 997 := by omega
    exact .inl ⟨q7, many, by simp [cBody, mDef, sRet, sRetN, sSeq, sNil, sIf, sAsg, sExpr, sPar, sAug, sNo, mAnd, mOr, mNot, mIf, m2, m1, mChain, mFn, mCall, mMeth, aCons, aNil, mVar, mC, mB, tmAnd, tmOr, tmNot, mTup, mLst, mSl, pNone, pSome, R.bind, R.toS, RS.seq, noEx, gN, gSet, DL.gTup, gsCons, gsNil, bType, kindD, bLen, bAbs, bInt, bMax2, bMin2, bTuple, bList, itemsD, oAdd, oSub, oMul, oDiv, oMod, oPow, oNeg, oLt, oLe, oGt, oGe, oLtT, oIs, oIsNot, DL.isNon, oIx, mEmp, oAddI, sAsg2, oMulI, mChain3, Te.d, h2]⟩
  | bare w =>
    have hw : w ∈ BN := hp
    have := oNotIn_str hbs (bn_ok w hw) st
    by_cases z : w ∈ bs
    · simp only [z, decide_true, Bool.not_true] at this
      exact .inl ⟨some (.int 1), many, by simp [cBody, mDef, sRet, sRetN, sSeq, sNil, sIf, sAsg, sExpr, sPar, sAug, sNo, mAnd, mOr, mNot, mIf, m2, m1, mChain, mFn, mCall, mMeth, aCons, aNil, mVar, mC, mB, tmAnd, tmOr, tmNot, mTup, mLst, mSl, pNone, pSome, R.bind, R.toS, RS.seq, noEx, gN, gSet, DL.gTup, gsCons, gsNil, bType, kindD, bLen, bAbs, bInt, bMax2, bMin2, bTuple, bList, itemsD, oAdd, oSub, oMul, oDiv, oMod, oPow, oNeg, oLt, oLe, oGt, oGe, oLtT, oIs, oIsNot, DL.isNon, oIx, mEmp, oAddI, sAsg2, oMulI, mChain3, Te.d, this]⟩
    · simp only [z, decide_false, Bool.not_false] at this
      exact .inr (by simp [cBody, mDef, sRet, sRetN, sSeq, sNil, sIf, sAsg, sExpr, sPar, sAug, sNo, mAnd, mOr, mNot, mIf, m2, m1, mChain, mFn, mCall, mMeth, aCons, aNil, mVar, mC, mB, tmAnd, tmOr, tmNot, mTup, mLst, mSl, pNone, pSome, R.bind, R.toS, RS.seq, noEx, gN, gSet, DL.gTup, gsCons, gsNil, bType, kindD, bLen, bAbs, bInt, bMax2, bMin2, bTuple, bList, itemsD, oAdd, oSub, oMul, oDiv, oMod, oPow, oNeg, oLt, oLe, oGt, oGe, oLtT, oIs, oIsNot, DL.isNon, oIx, mEmp, oAddI, sAsg2, oMulI, mChain3, Te.d, this])
  | many j =>
    have := oNotIn_str (bs := []) (w := "many") (by decide +kernel) (by decide +kernel) st
    simp at this
    exact .inr (by simp [cBody, mDef, sRet, sRetN, sSeq, sNil, sIf, sAsg, sExpr, sPar, sAug, sNo, mAnd, mOr, mNot, mIf, m2, m1, mChain, mFn, mCall, mMeth, aCons, aNil, mVar, mC, mB, tmAnd, tmOr, tmNot, mTup, mLst, mSl, pNone, pSome, R.bind, R.toS, RS.seq, noEx, gN, gSet, DL.gTup, gsCons, gsNil, bType, kindD, bLen, bAbs, bInt, bMax2, bMin2, bTuple, bList, itemsD, oAdd, oSub, oMul, oDiv, oMod, oPow, oNeg, oLt, oLe, oGt, oGe, oLtT, oIs, oIsNot, DL.isNon, oIx, mEmp, oAddI, sAsg2, oMulI, mChain3, Te.d, this, show prD false = .tup [] from rfl])
  | op o a b =>
    obtain ⟨c, hc⟩ := hr rfl
    simp only [Te.d] at hc ⊢
    exact .inl ⟨some (.int 3), many + (c - 1), by simp [cBody, mDef, sRet, sRetN, sSeq, sNil, sIf, sAsg, sExpr, sPar, sAug, sNo, mAnd, mOr, mNot, mIf, m2, m1, mChain, mFn, mCall, mMeth, aCons, aNil, mVar, mC, mB, tmAnd, tmOr, tmNot, mTup, mLst, mSl, pNone, pSome, R.bind, R.toS, RS.seq, noEx, gN, gSet, DL.gTup, gsCons, gsNil, bType, kindD, bLen, bAbs, bInt, bMax2, bMin2, bTuple, bList, itemsD, oAdd, oSub, oMul, oDiv, oMod, oPow, oNeg, oLt, oLe, oGt, oGe, oLtT, oIs, oIsNot, DL.isNon, oIx, mEmp, oAddI, sAsg2, oMulI, mChain3, sAug, hc]⟩
  | ite c a b =>
    obtain ⟨x, hc⟩ := hr rfl
    simp only [Te.d] at hc ⊢
    exact .inl ⟨some (.int 4), many + (x - 1), by simp [cBody, mDef, sRet, sRetN, sSeq, sNil, sIf, sAsg, sExpr, sPar, sAug, sNo, mAnd, mOr, mNot, mIf, m2, m1, mChain, mFn, mCall, mMeth, aCons, aNil, mVar, mC, mB, tmAnd, tmOr, tmNot, mTup, mLst, mSl, pNone, pSome, R.bind, R.toS, RS.seq, noEx, gN, gSet, DL.gTup, gsCons, gsNil, bType, kindD, bLen, bAbs, bInt, bMax2, bMin2, bTuple, bList, itemsD, oAdd, oSub, oMul, oDiv, oMod, oPow, oNeg, oLt, oLe, oGt, oGe, oLtT, oIs, oIsNot, DL.isNon, oIx, mEmp, oAddI, sAsg2, oMulI, mChain3, sAug, hc]⟩
theorem parts_any {n : Nat} {bs : List Str} (hbs : ∀ b ∈ bs, PyData.strOk b = true) {th hd : D} {k : Int} {st : Sto} {ds : List D} : ∀ (ps : List Te), (∀ p ∈ ps, p.Ok BN true ∧ (p.comp = true → ∃ c : Int, f_count_terms n [p.d, bareD bs, prD false, .int (k - 1)] st = .ok (.int c) st)) → ∀ (many : Int) (q6 q7 : Option D),
    (∃ many' q6' q7', loopS ds none (gN 6) (cBody (f_count_terms n)) (ps.map Te.d) [some th, some (bareD bs), some (prD false), some (.int k), some (.int many), some hd, q6, q7] st = .nx [some th, some (bareD bs), some (prD false), some (.int k), some (.int many'), some hd, q6', q7'] st)
    ∨ loopS ds none (gN 6) (cBody (f_count_terms n)) (ps.map Te.d) [some th, some (bareD bs), some (prD false), some (.int k), some (.int many), some hd, q6, q7] st = .rt (.int 41) st
  | [], _, many, q6, q7 => .inl ⟨many, q6, q7, by simp [loopS, gOk]⟩
  | p :: r, h, many, q6, q7 => by
    rcases part_any hbs (h p List.mem_cons_self).1 (th := th) (hd := hd) (k := k) (many := many) (q6 := q6) (q7 := q7) (st := st) (h p List.mem_cons_self).2 with ⟨q7', many', e⟩ | e
    · rcases parts_any (th := th) (hd := hd) (ds := ds) hbs r (fun x hx => h x (List.mem_cons_of_mem _ hx)) many' (some p.d) q7' with ⟨mz, a, b, e2⟩ | e2
      · exact .inl ⟨mz, a, b, by
          rw [List.map_cons]
          conv => lhs; unfold loopS
          simp only [gOk, if_true, gN, List.set_cons_succ, List.set_cons_zero, List.length_cons, List.length_nil, Nat.reduceAdd, Nat.reduceLT, e, e2]⟩
      · exact .inr (by
          rw [List.map_cons]
          conv => lhs; unfold loopS
          simp only [gOk, if_true, gN, List.set_cons_succ, List.set_cons_zero, List.length_cons, List.length_nil, Nat.reduceAdd, Nat.reduceLT, e, e2])
    · exact .inr (by
        rw [List.map_cons]
        conv => lhs; unfold loopS
        simp only [gOk, if_true, gN, List.set_cons_succ, List.set_cons_zero, List.length_cons, List.length_nil, Nat.reduceAdd, Nat.reduceLT, e])
theorem count_body (n : Nat) : b_count_terms (f_count_terms n) = (sSeq (sAsg (mFn bLen (aCons (mVar 0) aNil)) (gN 4))
 (sSeq (sAsg (m2 oIx (mVar 0) (mC (.int 0))) (gN 5))
 (sSeq (sIf (tmOr (mB (m2 oEq (mVar 3) (mC (.int 0)))) (tmAnd (mB (m2 oEq (mVar 4) (mC (.int 3)))) (tmOr (mB (m2 oIsNot (mFn bType (aCons (mVar 5) aNil)) (mC (.ty "str")))) (mB (m2 (oNotInT d_TABS) (mVar 5) (mC (.nam "OPS")))))))
  (sRet (mC (.int 41)))
  sNil)
 (sSeq (sIf (tmAnd (mB (m2 oGt (mVar 4) (mC (.int 3)))) (tmOr (mB (m2 oGt (mVar 4) (mC (.int 4)))) (mB (m2 oNe (mVar 5) (mC (.str "if"))))))
  (sRet (mC (.int 41)))
  sNil)
 (sSeq (sFor (DL.iVal (mSl (mVar 0) (pSome (mC (.int 1))) pNone)) (gN 6) (cBody (f_count_terms n)))
 (sRet (mVar 4))))))) := rfl
theorem count_any {bs : List Str} (hbs : ∀ b ∈ bs, PyData.strOk b = true) : ∀ (t : Te), t.comp = true → t.Ok BN true → ∀ (n : Nat) (k : Int) (st : Sto), t.deep ≤ n → ∃ c : Int, f_count_terms n [t.d, bareD bs, prD false, .int k] st = .ok (.int c) st
  | .num _, h, _, _, _, _, _ => by cases h
  | .bare _, h, _, _, _, _, _ => by cases h
  | .many _, h, _, _, _, _, _ => by cases h
  | .op o a b, _, ho, n, k, st, hn => by
    obtain ⟨ho, ha, hb⟩ := ho
    simp only [Te.deep] at hn
    obtain ⟨n, rfl⟩ : ∃ j, n = j + 1 := ⟨n - 1, by omega⟩
    have ht : oNotInT d_TABS (.str o) (.nam "OPS") st = .ok (.bl false) st := by
      simp only [Te.opsN, List.mem_cons, List.not_mem_nil, or_false] at ho
      rcases ho with rfl | rfl | rfl | rfl | rfl | rfl | rfl | rfl | rfl <;> rfl
    show ∃ c : Int, mDef 8 (b_count_terms (f_count_terms n)) _ st = _
    rw [count_body]
    by_cases k0 : k = 0
    · subst k0
      exact ⟨41, by simp [mDef, sRet, sRetN, sSeq, sNil, sIf, sAsg, sExpr, sPar, sAug, sNo, mAnd, mOr, mNot, mIf, m2, m1, mChain, mFn, mCall, mMeth, aCons, aNil, mVar, mC, mB, tmAnd, tmOr, tmNot, mTup, mLst, mSl, pNone, pSome, R.bind, R.toS, RS.seq, noEx, gN, gSet, DL.gTup, gsCons, gsNil, bType, kindD, bLen, bAbs, bInt, bMax2, bMin2, bTuple, bList, itemsD, oAdd, oSub, oMul, oDiv, oMod, oPow, oNeg, oLt, oLe, oGt, oGe, oLtT, oIs, oIsNot, DL.isNon, oIx, mEmp, oAddI, sAsg2, oMulI, mChain3, Te.d]⟩
    · have ps := parts_any (n := n) hbs (th := .tup [.str o, a.d, b.d]) (hd := .str o) (k := k) (st := st) (ds := [a.d, b.d]) [a, b] (fun p hp => by
        rcases List.mem_cons.mp hp with rfl | hp
        · exact ⟨ha, fun c => count_any hbs p c ha n _ st (by omega)⟩
        · rcases List.mem_cons.mp hp with rfl | hp
          · exact ⟨hb, fun c => count_any hbs p c hb n _ st (by omega)⟩
          · cases hp) 3 none none
      have lo := sFor_eq (m := mSl (mVar 0) (pSome (mC (.int 1))) pNone) (g := gN 6) (mb := cBody (f_count_terms n)) (env := [some (.tup [.str o, a.d, b.d]), some (bareD bs), some (prD false), some (.int k), some (.int 3), some (.str o), none, none]) (st := st) (st1 := st) (xs := [a.d, b.d]) (by simp [mDef, sRet, sRetN, sSeq, sNil, sIf, sAsg, sExpr, sPar, sAug, sNo, mAnd, mOr, mNot, mIf, m2, m1, mChain, mFn, mCall, mMeth, aCons, aNil, mVar, mC, mB, tmAnd, tmOr, tmNot, mTup, mLst, mSl, pNone, pSome, R.bind, R.toS, RS.seq, noEx, gN, gSet, DL.gTup, gsCons, gsNil, bType, kindD, bLen, bAbs, bInt, bMax2, bMin2, bTuple, bList, itemsD, oAdd, oSub, oMul, oDiv, oMod, oPow, oNeg, oLt, oLe, oGt, oGe, oLtT, oIs, oIsNot, DL.isNon, oIx, mEmp, oAddI, sAsg2, oMulI, mChain3, oSl1])
      simp only [List.map_cons, List.map_nil] at ps
      rcases ps with ⟨mz, x, y, e⟩ | e
      · rw [e] at lo
        exact ⟨mz, by simp only [Te.d]; simp [mDef, sRet, sRetN, sSeq, sNil, sIf, sAsg, sExpr, sPar, sAug, sNo, mAnd, mOr, mNot, mIf, m2, m1, mChain, mFn, mCall, mMeth, aCons, aNil, mVar, mC, mB, tmAnd, tmOr, tmNot, mTup, mLst, mSl, pNone, pSome, R.bind, R.toS, RS.seq, noEx, gN, gSet, DL.gTup, gsCons, gsNil, bType, kindD, bLen, bAbs, bInt, bMax2, bMin2, bTuple, bList, itemsD, oAdd, oSub, oMul, oDiv, oMod, oPow, oNeg, oLt, oLe, oGt, oGe, oLtT, oIs, oIsNot, DL.isNon, oIx, mEmp, oAddI, sAsg2, oMulI, mChain3, k0, ht, lo]⟩
      · rw [e] at lo
        exact ⟨41, by simp only [Te.d]; simp [mDef, sRet, sRetN, sSeq, sNil, sIf, sAsg, sExpr, sPar, sAug, sNo, mAnd, mOr, mNot, mIf, m2, m1, mChain, mFn, mCall, mMeth, aCons, aNil, mVar, mC, mB, tmAnd, tmOr, tmNot, mTup, mLst, mSl, pNone, pSome, R.bind, R.toS, RS.seq, noEx, gN, gSet, DL.gTup, gsCons, gsNil, bType, kindD, bLen, bAbs, bInt, bMax2, bMin2, bTuple, bList, itemsD, oAdd, oSub, oMul, oDiv, oMod, oPow, oNeg, oLt, oLe, oGt, oGe, oLtT, oIs, oIsNot, DL.isNon, oIx, mEmp, oAddI, sAsg2, oMulI, mChain3, k0, ht, lo]⟩
  | .ite c a b, _, ho, n, k, st, hn => by
    obtain ⟨hc, ha, hb⟩ := ho
    simp only [Te.deep] at hn
    obtain ⟨n, rfl⟩ : ∃ j, n = j + 1 := ⟨n - 1, by omega⟩
    have hi : oNe (.str "if") (.str "if") st = .ok (.bl false) st := by rw [oNe_strs (by decide +kernel) (by decide +kernel)]; simp
    show ∃ c : Int, mDef 8 (b_count_terms (f_count_terms n)) _ st = _
    rw [count_body]
    by_cases k0 : k = 0
    · subst k0
      exact ⟨41, by simp [mDef, sRet, sRetN, sSeq, sNil, sIf, sAsg, sExpr, sPar, sAug, sNo, mAnd, mOr, mNot, mIf, m2, m1, mChain, mFn, mCall, mMeth, aCons, aNil, mVar, mC, mB, tmAnd, tmOr, tmNot, mTup, mLst, mSl, pNone, pSome, R.bind, R.toS, RS.seq, noEx, gN, gSet, DL.gTup, gsCons, gsNil, bType, kindD, bLen, bAbs, bInt, bMax2, bMin2, bTuple, bList, itemsD, oAdd, oSub, oMul, oDiv, oMod, oPow, oNeg, oLt, oLe, oGt, oGe, oLtT, oIs, oIsNot, DL.isNon, oIx, mEmp, oAddI, sAsg2, oMulI, mChain3, Te.d]⟩
    · have ps := parts_any (n := n) hbs (th := .tup [.str "if", c.d, a.d, b.d]) (hd := .str "if") (k := k) (st := st) (ds := [c.d, a.d, b.d]) [c, a, b] (fun p hp => by
        rcases List.mem_cons.mp hp with rfl | hp
        · exact ⟨hc, fun q => count_any hbs p q hc n _ st (by omega)⟩
        · rcases List.mem_cons.mp hp with rfl | hp
          · exact ⟨ha, fun q => count_any hbs p q ha n _ st (by omega)⟩
          · rcases List.mem_cons.mp hp with rfl | hp
            · exact ⟨hb, fun q => count_any hbs p q hb n _ st (by omega)⟩
            · cases hp) 4 none none
      have lo := sFor_eq (m := mSl (mVar 0) (pSome (mC (.int 1))) pNone) (g := gN 6) (mb := cBody (f_count_terms n)) (env := [some (.tup [.str "if", c.d, a.d, b.d]), some (bareD bs), some (prD false), some (.int k), some (.int 4), some (.str "if"), none, none]) (st := st) (st1 := st) (xs := [c.d, a.d, b.d]) (by simp [mDef, sRet, sRetN, sSeq, sNil, sIf, sAsg, sExpr, sPar, sAug, sNo, mAnd, mOr, mNot, mIf, m2, m1, mChain, mFn, mCall, mMeth, aCons, aNil, mVar, mC, mB, tmAnd, tmOr, tmNot, mTup, mLst, mSl, pNone, pSome, R.bind, R.toS, RS.seq, noEx, gN, gSet, DL.gTup, gsCons, gsNil, bType, kindD, bLen, bAbs, bInt, bMax2, bMin2, bTuple, bList, itemsD, oAdd, oSub, oMul, oDiv, oMod, oPow, oNeg, oLt, oLe, oGt, oGe, oLtT, oIs, oIsNot, DL.isNon, oIx, mEmp, oAddI, sAsg2, oMulI, mChain3, oSl1])
      simp only [List.map_cons, List.map_nil] at ps
      rcases ps with ⟨mz, x, y, e⟩ | e
      · rw [e] at lo
        exact ⟨mz, by simp only [Te.d]; simp [mDef, sRet, sRetN, sSeq, sNil, sIf, sAsg, sExpr, sPar, sAug, sNo, mAnd, mOr, mNot, mIf, m2, m1, mChain, mFn, mCall, mMeth, aCons, aNil, mVar, mC, mB, tmAnd, tmOr, tmNot, mTup, mLst, mSl, pNone, pSome, R.bind, R.toS, RS.seq, noEx, gN, gSet, DL.gTup, gsCons, gsNil, bType, kindD, bLen, bAbs, bInt, bMax2, bMin2, bTuple, bList, itemsD, oAdd, oSub, oMul, oDiv, oMod, oPow, oNeg, oLt, oLe, oGt, oGe, oLtT, oIs, oIsNot, DL.isNon, oIx, mEmp, oAddI, sAsg2, oMulI, mChain3, k0, hi, lo]⟩
      · rw [e] at lo
        exact ⟨41, by simp only [Te.d]; simp [mDef, sRet, sRetN, sSeq, sNil, sIf, sAsg, sExpr, sPar, sAug, sNo, mAnd, mOr, mNot, mIf, m2, m1, mChain, mFn, mCall, mMeth, aCons, aNil, mVar, mC, mB, tmAnd, tmOr, tmNot, mTup, mLst, mSl, pNone, pSome, R.bind, R.toS, RS.seq, noEx, gN, gSet, DL.gTup, gsCons, gsNil, bType, kindD, bLen, bAbs, bInt, bMax2, bMin2, bTuple, bList, itemsD, oAdd, oSub, oMul, oDiv, oMod, oPow, oNeg, oLt, oLe, oGt, oGe, oLtT, oIs, oIsNot, DL.isNon, oIx, mEmp, oAddI, sAsg2, oMulI, mChain3, k0, hi, lo]⟩
theorem first_some {t : Te} (h : t.Good BN true) (st : Sto) : ∃ b, f_is_first [t.d] st = .ok (.bl b) st := by
  have hz : (1 : Nat) ≤ sizeLine := by decide
  have key : ∃ b, f_are_terms [.tup [t.d], bareD BF, prD false] st = .ok (.bl b) st := by
    have body : ∀ q4 : Option D, (∃ q', L1_are_terms [some (.tup [t.d]), some (bareD BF), some (prD false), some t.d, q4] st = .nx [some (.tup [t.d]), some (bareD BF), some (prD false), some t.d, q'] st) ∨ L1_are_terms [some (.tup [t.d]), some (bareD BF), some (prD false), some t.d, q4] st = .rt (.bl false) st := by
      intro q4
      cases t with
      | num n =>
        have h' : n < 997 := h.ok
        have h2 : (n : Int) < 997 := by omega
        exact .inl ⟨q4, by simp [L1_are_terms, mDef, sRet, sRetN, sSeq, sNil, sIf, sAsg, sExpr, sPar, sAug, sNo, mAnd, mOr, mNot, mIf, m2, m1, mChain, mFn, mCall, mMeth, aCons, aNil, mVar, mC, mB, tmAnd, tmOr, tmNot, mTup, mLst, mSl, pNone, pSome, R.bind, R.toS, RS.seq, noEx, gN, gSet, DL.gTup, gsCons, gsNil, bType, kindD, bLen, bAbs, bInt, bMax2, bMin2, bTuple, bList, itemsD, oAdd, oSub, oMul, oDiv, oMod, oPow, oNeg, oLt, oLe, oGt, oGe, oLtT, oIs, oIsNot, DL.isNon, oIx, mEmp, oAddI, sAsg2, oMulI, mChain3, Te.d, h2]⟩
      | bare w =>
        have hw : w ∈ BN := h.ok
        have := oNotIn_str bf_ok (bn_ok w hw) st
        by_cases z : w ∈ BF
        · simp only [z, decide_true, Bool.not_true] at this
          exact .inl ⟨some (.int 1), by simp [L1_are_terms, mDef, sRet, sRetN, sSeq, sNil, sIf, sAsg, sExpr, sPar, sAug, sNo, mAnd, mOr, mNot, mIf, m2, m1, mChain, mFn, mCall, mMeth, aCons, aNil, mVar, mC, mB, tmAnd, tmOr, tmNot, mTup, mLst, mSl, pNone, pSome, R.bind, R.toS, RS.seq, noEx, gN, gSet, DL.gTup, gsCons, gsNil, bType, kindD, bLen, bAbs, bInt, bMax2, bMin2, bTuple, bList, itemsD, oAdd, oSub, oMul, oDiv, oMod, oPow, oNeg, oLt, oLe, oGt, oGe, oLtT, oIs, oIsNot, DL.isNon, oIx, mEmp, oAddI, sAsg2, oMulI, mChain3, Te.d, this]⟩
        · simp only [z, decide_false, Bool.not_false] at this
          exact .inr (by simp [L1_are_terms, mDef, sRet, sRetN, sSeq, sNil, sIf, sAsg, sExpr, sPar, sAug, sNo, mAnd, mOr, mNot, mIf, m2, m1, mChain, mFn, mCall, mMeth, aCons, aNil, mVar, mC, mB, tmAnd, tmOr, tmNot, mTup, mLst, mSl, pNone, pSome, R.bind, R.toS, RS.seq, noEx, gN, gSet, DL.gTup, gsCons, gsNil, bType, kindD, bLen, bAbs, bInt, bMax2, bMin2, bTuple, bList, itemsD, oAdd, oSub, oMul, oDiv, oMod, oPow, oNeg, oLt, oLe, oGt, oGe, oLtT, oIs, oIsNot, DL.isNon, oIx, mEmp, oAddI, sAsg2, oMulI, mChain3, Te.d, this])
      | many n =>
        have := oNotIn_str (bs := []) (w := "many") (by decide +kernel) (by decide +kernel) st
        simp at this
        exact .inr (by simp [L1_are_terms, mDef, sRet, sRetN, sSeq, sNil, sIf, sAsg, sExpr, sPar, sAug, sNo, mAnd, mOr, mNot, mIf, m2, m1, mChain, mFn, mCall, mMeth, aCons, aNil, mVar, mC, mB, tmAnd, tmOr, tmNot, mTup, mLst, mSl, pNone, pSome, R.bind, R.toS, RS.seq, noEx, gN, gSet, DL.gTup, gsCons, gsNil, bType, kindD, bLen, bAbs, bInt, bMax2, bMin2, bTuple, bList, itemsD, oAdd, oSub, oMul, oDiv, oMod, oPow, oNeg, oLt, oLe, oGt, oGe, oLtT, oIs, oIsNot, DL.isNon, oIx, mEmp, oAddI, sAsg2, oMulI, mChain3, Te.d, this, show prD false = .tup [] from rfl])
      | op o a b =>
        obtain ⟨c, e⟩ := count_any bf_ok (.op o a b) rfl h.ok 45 5 st (by have := h.deep; omega)
        simp only [Te.d] at e ⊢
        by_cases s2 : (40 : Int) < c
        · exact .inr (by simp [L1_are_terms, mDef, sRet, sRetN, sSeq, sNil, sIf, sAsg, sExpr, sPar, sAug, sNo, mAnd, mOr, mNot, mIf, m2, m1, mChain, mFn, mCall, mMeth, aCons, aNil, mVar, mC, mB, tmAnd, tmOr, tmNot, mTup, mLst, mSl, pNone, pSome, R.bind, R.toS, RS.seq, noEx, gN, gSet, DL.gTup, gsCons, gsNil, bType, kindD, bLen, bAbs, bInt, bMax2, bMin2, bTuple, bList, itemsD, oAdd, oSub, oMul, oDiv, oMod, oPow, oNeg, oLt, oLe, oGt, oGe, oLtT, oIs, oIsNot, DL.isNon, oIx, mEmp, oAddI, sAsg2, oMulI, mChain3, e, s2])
        · exact .inl ⟨some (.int 3), by simp [L1_are_terms, mDef, sRet, sRetN, sSeq, sNil, sIf, sAsg, sExpr, sPar, sAug, sNo, mAnd, mOr, mNot, mIf, m2, m1, mChain, mFn, mCall, mMeth, aCons, aNil, mVar, mC, mB, tmAnd, tmOr, tmNot, mTup, mLst, mSl, pNone, pSome, R.bind, R.toS, RS.seq, noEx, gN, gSet, DL.gTup, gsCons, gsNil, bType, kindD, bLen, bAbs, bInt, bMax2, bMin2, bTuple, bList, itemsD, oAdd, oSub, oMul, oDiv, oMod, oPow, oNeg, oLt, oLe, oGt, oGe, oLtT, oIs, oIsNot, DL.isNon, oIx, mEmp, oAddI, sAsg2, oMulI, mChain3, e, s2]⟩
      | ite c a b =>
        obtain ⟨c', e⟩ := count_any bf_ok (.ite c a b) rfl h.ok 45 5 st (by have := h.deep; omega)
        simp only [Te.d] at e ⊢
        by_cases s2 : (40 : Int) < c'
        · exact .inr (by simp [L1_are_terms, mDef, sRet, sRetN, sSeq, sNil, sIf, sAsg, sExpr, sPar, sAug, sNo, mAnd, mOr, mNot, mIf, m2, m1, mChain, mFn, mCall, mMeth, aCons, aNil, mVar, mC, mB, tmAnd, tmOr, tmNot, mTup, mLst, mSl, pNone, pSome, R.bind, R.toS, RS.seq, noEx, gN, gSet, DL.gTup, gsCons, gsNil, bType, kindD, bLen, bAbs, bInt, bMax2, bMin2, bTuple, bList, itemsD, oAdd, oSub, oMul, oDiv, oMod, oPow, oNeg, oLt, oLe, oGt, oGe, oLtT, oIs, oIsNot, DL.isNon, oIx, mEmp, oAddI, sAsg2, oMulI, mChain3, e, s2])
        · exact .inl ⟨some (.int 4), by simp [L1_are_terms, mDef, sRet, sRetN, sSeq, sNil, sIf, sAsg, sExpr, sPar, sAug, sNo, mAnd, mOr, mNot, mIf, m2, m1, mChain, mFn, mCall, mMeth, aCons, aNil, mVar, mC, mB, tmAnd, tmOr, tmNot, mTup, mLst, mSl, pNone, pSome, R.bind, R.toS, RS.seq, noEx, gN, gSet, DL.gTup, gsCons, gsNil, bType, kindD, bLen, bAbs, bInt, bMax2, bMin2, bTuple, bList, itemsD, oAdd, oSub, oMul, oDiv, oMod, oPow, oNeg, oLt, oLe, oGt, oGe, oLtT, oIs, oIsNot, DL.isNon, oIx, mEmp, oAddI, sAsg2, oMulI, mChain3, e, s2]⟩
    have e0 := sFor_eq (m := mVar 0) (g := gN 3) (mb := L1_are_terms) (env := [some (.tup [t.d]), some (bareD BF), some (prD false), none, none]) (st := st) (st1 := st) (xs := [t.d]) (by simp [mDef, sRet, sRetN, sSeq, sNil, sIf, sAsg, sExpr, sPar, sAug, sNo, mAnd, mOr, mNot, mIf, m2, m1, mChain, mFn, mCall, mMeth, aCons, aNil, mVar, mC, mB, tmAnd, tmOr, tmNot, mTup, mLst, mSl, pNone, pSome, R.bind, R.toS, RS.seq, noEx, gN, gSet, DL.gTup, gsCons, gsNil, bType, kindD, bLen, bAbs, bInt, bMax2, bMin2, bTuple, bList, itemsD, oAdd, oSub, oMul, oDiv, oMod, oPow, oNeg, oLt, oLe, oGt, oGe, oLtT, oIs, oIsNot, DL.isNon, oIx, mEmp, oAddI, sAsg2, oMulI, mChain3])
    rcases body none with ⟨q', e⟩ | e
    · have e1 : loopS [t.d] none (gN 3) L1_are_terms [t.d] [some (.tup [t.d]), some (bareD BF), some (prD false), none, none] st = .nx [some (.tup [t.d]), some (bareD BF), some (prD false), some t.d, q'] st := by
        simp [loopS, gOk, gN, e]
      rw [e1] at e0
      exact ⟨true, by simp only [f_are_terms, b_are_terms, mDef, sSeq, List.map_cons, List.map_nil, List.length_cons, List.length_nil, List.replicate, List.cons_append, List.nil_append, Nat.reduceSub, Nat.reduceAdd, e0, RS.seq, sRet, mC, R.toS]⟩
    · have e1 : loopS [t.d] none (gN 3) L1_are_terms [t.d] [some (.tup [t.d]), some (bareD BF), some (prD false), none, none] st = .rt (.bl false) st := by
        simp [loopS, gOk, gN, e]
      rw [e1] at e0
      exact ⟨false, by simp only [f_are_terms, b_are_terms, mDef, sSeq, List.map_cons, List.map_nil, List.length_cons, List.length_nil, List.replicate, List.cons_append, List.nil_append, Nat.reduceSub, Nat.reduceAdd, e0, RS.seq, sRet, mC, R.toS]⟩
  obtain ⟨b, key⟩ := key
  have key : f_are_terms [.tup [t.d], d_BARE_OF_FIRST, d_PAIR_OF_FIRST] st = _ := key
  exact ⟨b, by simp [f_is_first, b_is_first, f_are_firsts, b_are_firsts, mDef, sRet, sRetN, sSeq, sNil, sIf, sAsg, sExpr, sPar, sAug, sNo, mAnd, mOr, mNot, mIf, m2, m1, mChain, mFn, mCall, mMeth, aCons, aNil, mVar, mC, mB, tmAnd, tmOr, tmNot, mTup, mLst, mSl, pNone, pSome, R.bind, R.toS, RS.seq, noEx, gN, gSet, DL.gTup, gsCons, gsNil, bType, kindD, bLen, bAbs, bInt, bMax2, bMin2, bTuple, bList, itemsD, oAdd, oSub, oMul, oDiv, oMod, oPow, oNeg, oLt, oLe, oGt, oGe, oLtT, oIs, oIsNot, DL.isNon, oIx, mEmp, oAddI, sAsg2, oMulI, mChain3, key, hz]⟩
theorem is_first_ok {t : Te} (h : t.Good BF false) (st : Sto) : f_is_first [t.d] st = .ok (.bl true) st := by
  have hz : (1 : Nat) ≤ sizeLine := by decide
  have e := firsts_ok (ts := [t]) (fun x hx => by rcases List.mem_singleton.mp hx with rfl; exact h) st
  simp only [List.map_cons, List.map_nil] at e
  simp [f_is_first, b_is_first, mDef, sRet, sRetN, sSeq, sNil, sIf, sAsg, sExpr, sPar, sAug, sNo, mAnd, mOr, mNot, mIf, m2, m1, mChain, mFn, mCall, mMeth, aCons, aNil, mVar, mC, mB, tmAnd, tmOr, tmNot, mTup, mLst, mSl, pNone, pSome, R.bind, R.toS, RS.seq, noEx, gN, gSet, DL.gTup, gsCons, gsNil, bType, kindD, bLen, bAbs, bInt, bMax2, bMin2, bTuple, bList, itemsD, oAdd, oSub, oMul, oDiv, oMod, oPow, oNeg, oLt, oLe, oGt, oGe, oLtT, oIs, oIsNot, DL.isNon, oIx, mEmp, oAddI, sAsg2, oMulI, mChain3, e, hz]
theorem is_next_ok {t : Te} (h : t.Good BN true) (st : Sto) : f_is_next [t.d] st = .ok (.bl true) st := by
  have hz : (1 : Nat) ≤ sizeLine := by decide
  have e := nexts_ok (ts := [t]) (fun x hx => by rcases List.mem_singleton.mp hx with rfl; exact h) st
  simp only [List.map_cons, List.map_nil] at e
  simp [f_is_next, b_is_next, mDef, sRet, sRetN, sSeq, sNil, sIf, sAsg, sExpr, sPar, sAug, sNo, mAnd, mOr, mNot, mIf, m2, m1, mChain, mFn, mCall, mMeth, aCons, aNil, mVar, mC, mB, tmAnd, tmOr, tmNot, mTup, mLst, mSl, pNone, pSome, R.bind, R.toS, RS.seq, noEx, gN, gSet, DL.gTup, gsCons, gsNil, bType, kindD, bLen, bAbs, bInt, bMax2, bMin2, bTuple, bList, itemsD, oAdd, oSub, oMul, oDiv, oMod, oPow, oNeg, oLt, oLe, oGt, oGe, oLtT, oIs, oIsNot, DL.isNon, oIx, mEmp, oAddI, sAsg2, oMulI, mChain3, e, hz]
/-- a term: of a first or of a next -/
def Term (t : Te) : Prop := t.Good BF false ∨ t.Good BN true
theorem need_term_ok {t : Te} (h : Term t) (st : Sto) : f_need_term [t.d] st = .ok .non st := by
  rcases h with h | h
  · simp [f_need_term, b_need_term, mDef, sRet, sRetN, sSeq, sNil, sIf, sAsg, sExpr, sPar, sAug, sNo, mAnd, mOr, mNot, mIf, m2, m1, mChain, mFn, mCall, mMeth, aCons, aNil, mVar, mC, mB, tmAnd, tmOr, tmNot, mTup, mLst, mSl, pNone, pSome, R.bind, R.toS, RS.seq, noEx, gN, gSet, DL.gTup, gsCons, gsNil, bType, kindD, bLen, bAbs, bInt, bMax2, bMin2, bTuple, bList, itemsD, oAdd, oSub, oMul, oDiv, oMod, oPow, oNeg, oLt, oLe, oGt, oGe, oLtT, oIs, oIsNot, DL.isNon, oIx, mEmp, oAddI, sAsg2, oMulI, mChain3, is_first_ok h]
  · obtain ⟨b, e⟩ := first_some h st
    cases b <;> simp [f_need_term, b_need_term, mDef, sRet, sRetN, sSeq, sNil, sIf, sAsg, sExpr, sPar, sAug, sNo, mAnd, mOr, mNot, mIf, m2, m1, mChain, mFn, mCall, mMeth, aCons, aNil, mVar, mC, mB, tmAnd, tmOr, tmNot, mTup, mLst, mSl, pNone, pSome, R.bind, R.toS, RS.seq, noEx, gN, gSet, DL.gTup, gsCons, gsNil, bType, kindD, bLen, bAbs, bInt, bMax2, bMin2, bTuple, bList, itemsD, oAdd, oSub, oMul, oDiv, oMod, oPow, oNeg, oLt, oLe, oGt, oGe, oLtT, oIs, oIsNot, DL.isNon, oIx, mEmp, oAddI, sAsg2, oMulI, mChain3, e, is_next_ok h]
theorem bf_bare : ∀ b ∈ BF, b ∈ BareN := by decide +kernel
theorem bn_bare : ∀ b ∈ BN, b ∈ BareN := by decide +kernel
theorem Term.ev_ok {t : Te} (ht : Term t) {w : Int} {h : List Int} (hw : Wo w) (hh : ∀ x ∈ h, Wo x) (hl : h.length ≤ 11) : Wo (t.ev w h) := by
  rcases ht with ht | ht
  · exact Te.ev_ok bf_bare hw hh hl t ht.ok
  · exact Te.ev_ok bn_bare hw hh hl t ht.ok
theorem comes_ok {t : Te} (ht : Term t) {w : Int} {h : List Int} (hw : Wo w) (hh : ∀ x ∈ h, Wo x) (hl : h.length ≤ 11) (st : Sto) : ∃ st', f_comes_to [t.d, .int w, .tup (h.map D.int)] st = .ok (.int (t.ev w h)) st' ∧ Gr st st' := by
  have e1 := need_term_ok ht st
  have e2 := is_worth_int hw st
  have e3 : f_is_row [.tup (h.map D.int), .int 0, .int 11] st = .ok (.bl true) st := by
    have : (h.length : Int) ≤ 11 := by omega
    simp [f_is_row, b_is_row, mDef, sRet, sRetN, sSeq, sNil, sIf, sAsg, sExpr, sPar, sAug, sNo, mAnd, mOr, mNot, mIf, m2, m1, mChain, mFn, mCall, mMeth, aCons, aNil, mVar, mC, mB, tmAnd, tmOr, tmNot, mTup, mLst, mSl, pNone, pSome, R.bind, R.toS, RS.seq, noEx, gN, gSet, DL.gTup, gsCons, gsNil, bType, kindD, bLen, bAbs, bInt, bMax2, bMin2, bTuple, bList, itemsD, oAdd, oSub, oMul, oDiv, oMod, oPow, oNeg, oLt, oLe, oGt, oGe, oLtT, oIs, oIsNot, DL.isNon, oIx, mEmp, oAddI, sAsg2, oMulI, mChain3, this]
  have hz : (1000 : Nat) < sizeLine := by decide
  obtain ⟨st1, e4, e5, g⟩ := all_true (mi := DL.iVal (mVar 2)) (g := gN 3) (me := E1_comes_to) (vs := [3]) (env := [some t.d, some (.int w), some (.tup (h.map D.int)), none]) (st := st) (st1 := st) (ds := h.map D.int) (gd := none) (by simp [DL.iVal, mDef, sRet, sRetN, sSeq, sNil, sIf, sAsg, sExpr, sPar, sAug, sNo, mAnd, mOr, mNot, mIf, m2, m1, mChain, mFn, mCall, mMeth, aCons, aNil, mVar, mC, mB, tmAnd, tmOr, tmNot, mTup, mLst, mSl, pNone, pSome, R.bind, R.toS, RS.seq, noEx, gN, gSet, DL.gTup, gsCons, gsNil, bType, kindD, bLen, bAbs, bInt, bMax2, bMin2, bTuple, bList, itemsD, oAdd, oSub, oMul, oDiv, oMod, oPow, oNeg, oLt, oLe, oGt, oGe, oLtT, oIs, oIsNot, DL.isNon, oIx, mEmp, oAddI, sAsg2, oMulI, mChain3]) trivial (by rw [List.length_map]; omega) (by
    intro d hd st' g'
    obtain ⟨x, hx, rfl⟩ := List.mem_map.mp hd
    refine ⟨[some t.d, some (.int w), some (.tup (h.map D.int)), some (.int x)], rfl, st', ?_, List.prefix_refl _⟩
    have := is_worth_int (hh x hx) st'
    simp [E1_comes_to, mDef, sRet, sRetN, sSeq, sNil, sIf, sAsg, sExpr, sPar, sAug, sNo, mAnd, mOr, mNot, mIf, m2, m1, mChain, mFn, mCall, mMeth, aCons, aNil, mVar, mC, mB, tmAnd, tmOr, tmNot, mTup, mLst, mSl, pNone, pSome, R.bind, R.toS, RS.seq, noEx, gN, gSet, DL.gTup, gsCons, gsNil, bType, kindD, bLen, bAbs, bInt, bMax2, bMin2, bTuple, bList, itemsD, oAdd, oSub, oMul, oDiv, oMod, oPow, oNeg, oLt, oLe, oGt, oGe, oLtT, oIs, oIsNot, DL.isNon, oIx, mEmp, oAddI, sAsg2, oMulI, mChain3, this])
  have e6 : f_worth_of 45 [t.d, .int w, .tup (h.map D.int)] st1 = .ok (.int (t.ev w h)) st1 := by
    rcases ht with ht | ht
    · exact worth_ok bf_bare hw hh hl t ht.ok 45 st1 (by have := ht.deep; omega)
    · exact worth_ok bn_bare hw hh hl t ht.ok 45 st1 (by have := ht.deep; omega)
  refine ⟨st1, ?_, g⟩
  simp only [E1_comes_to] at e4
  simp [f_comes_to, b_comes_to, mDef, sRet, sRetN, sSeq, sNil, sIf, sAsg, sExpr, sPar, sAug, sNo, mAnd, mOr, mNot, mIf, m2, m1, mChain, mFn, mCall, mMeth, aCons, aNil, mVar, mC, mB, tmAnd, tmOr, tmNot, mTup, mLst, mSl, pNone, pSome, R.bind, R.toS, RS.seq, noEx, gN, gSet, DL.gTup, gsCons, gsNil, bType, kindD, bLen, bAbs, bInt, bMax2, bMin2, bTuple, bList, itemsD, oAdd, oSub, oMul, oDiv, oMod, oPow, oNeg, oLt, oLe, oGt, oGe, oLtT, oIs, oIsNot, DL.isNon, oIx, mEmp, oAddI, sAsg2, oMulI, mChain3, e1, e2, e3, e4, e5, e6]
end Pr
set_option Elab.async false
set_option linter.all false
set_option maxRecDepth 10000
namespace DL
open PySem PySem.Spec PyProof.Rows L2
theorem wo_shw {x : Int} (h : Wo x) : Shw (.int x) 3 0 := shw_int h.1 (by have := h.2; omega)
theorem repr3 {a b c : Int} (ha : Wo a) (hb : Wo b) (hc : Wo c) : ∃ x, PyData.strOk x = true ∧ ∀ st r, rdL st r = some [.int a, .int b, .int c] → bRepr [.ref r] st = .ok (.str x) st := by
  refine repr_lstS (B := 3) (n := 0) (fun d hd => ?_) (by simp) (by omega)
  simp only [List.mem_cons, List.not_mem_nil, or_false] at hd
  rcases hd with rfl | rfl | rfl
  · exact wo_shw ha
  · exact wo_shw hb
  · exact wo_shw hc
theorem repr1 {a : Int} (ha : Wo a) : ∃ x, PyData.strOk x = true ∧ ∀ st, bRepr [.int a] st = .ok (.str x) st := by
  have h : ∀ k : _root_.Fin 997, PyData.strOk (toString ((k : Nat) : Int) : String) = true := by decide +kernel
  refine ⟨((toString a : String) : Str), ?_, fun st => ?_⟩
  · obtain ⟨k, rfl⟩ : ∃ k : Nat, a = k := ⟨a.toNat, by have := ha.1; omega⟩
    have : k < 997 := by have := ha.2; omega
    exact h ⟨k, this⟩
  · have : a.natAbs.log2 < 1920 := by
      have h1 : a.natAbs < 1024 := by have := ha.1; have := ha.2; omega
      have h2 : a.natAbs.log2 < 10 := by
        by_cases z : a.natAbs = 0
        · rw [z]; decide
        · exact (Nat.log2_lt z).mpr (by omega)
      omega
    simp [bRepr, this]
theorem minI_cat {h : List Int} (hn : h ≠ []) (hh : ∀ x ∈ h, Wo x) : minI (h ++ [996]) = minI h := by
  obtain ⟨x, r, rfl⟩ := List.exists_cons_of_ne_nil hn
  have : List.foldl min x r ≤ 996 := by
    have h1 := (foldl_min_spec r x).2.1
    have := (hh x List.mem_cons_self).2
    omega
  simp only [List.cons_append, minI, List.foldl_append, List.foldl_cons, List.foldl_nil, Option.some.injEq]
  omega
theorem maxI_cat {h : List Int} (hh : ∀ x ∈ h, Wo x) : maxI (h ++ [0]) = some ((maxI h).getD 0) := by
  cases h with
  | nil => rfl
  | cons x r =>
    have : 0 ≤ List.foldl max x r := by
      have h1 := (foldl_max_spec r x).2.1
      have := (hh x List.mem_cons_self).1
      omega
    simp only [List.cons_append, maxI, List.foldl_append, List.foldl_cons, List.foldl_nil, Option.some.injEq, Option.getD_some]
    omega
theorem oNe_tnil (h : List Int) (st : Sto) : oNe (.tup (h.map D.int)) (.tup []) st = .ok (.bl (!h.isEmpty)) st := by
  have r5 : toP st (.tup (h.map .int)) = some (.tuple (h.map .int)) := by simp [toP, pd, pds_ints]
  have r4 : toP st (.tup []) = some (.tuple []) := rfl
  have r6 : ∀ h : List Int, SeqAt.shaped (.tuple (h.map .int)) = true := fun h => by
    have dp : ∀ ys : List Int, PyData.depthAll (ys.map .int) = 0 := fun ys => by
      induction ys with
      | nil => rfl
      | cons y r ih => simp [PyData.depthAll, PyData.depth, ih]
    simp [SeqAt.shaped, PyData.canLay0, PyData.depth, lay_ints, dp]
  have r7 : SeqAt.shaped (.tuple []) = true := r6 []
  cases h with
  | nil => simp [oNe, r4, r7, PyData.eqv, PyData.eqvAll]
  | cons x r =>
    have := r6 (x :: r)
    simp only [List.map_cons] at this r5
    simp [oNe, r4, r5, r7, this, PyData.eqv, PyData.eqvAll]
end DL
namespace Pr
open PySem PySem.Spec PyProof.Rows L2 DL
theorem bare_term {u : Str} (h : u ∈ BF ∨ u ∈ BN) : Term (.bare u) := by
  rcases h with h | h
  · exact .inl ⟨h, by simp [Te.deep], by simp [Te.size]⟩
  · exact .inr ⟨h, by simp [Te.deep], by simp [Te.size]⟩
section
variable {w : Int} {h : List Int} (hw : Wo w) (hh : ∀ x ∈ h, Wo x) (hl : h.length ≤ 11)
include hw hh hl

theorem comes_rn {t : Te} (ht : Term t) (st : Sto) : Rn (f_comes_to [t.d, .int w, .tup (h.map D.int)] st) (fun d s => d = .int (t.ev w h) ∧ Gr st s) E0 := by
  obtain ⟨s, e, g⟩ := comes_ok ht hw hh hl st
  exact Rn.eq e ⟨rfl, g⟩

theorem leaf_rn {u : Str} (hu : u ∈ BF ∨ u ∈ BN) {v : Int} (e : leafV u w h = v) (st : Sto) : Rn (f_comes_to [.tup [.str u], .int w, .tup (h.map D.int)] st) (fun d s => d = .int v ∧ Gr st s) E0 := by
  subst e
  exact comes_rn hw hh hl (bare_term hu) st
theorem many_rn {k : Int} (hk : Wo k) (st : Sto) : Rn (f_comes_to [.tup [.str "many", .int k], .int w, .tup (h.map D.int)] st) (fun d s => d = .int (h.count k : Nat) ∧ Gr st s) E0 := by
  have e0 : k = ((k.toNat : Nat) : Int) := by have := hk.1; omega
  have := comes_rn (t := .many k.toNat) hw hh hl (.inr ⟨⟨rfl, by have := hk.2; have := hk.1; omega⟩, by simp [Te.deep], by simp [Te.size]⟩) st
  simp only [Te.d, Te.ev, ← e0] at this
  exact this
end
end Pr
set_option Elab.async false
set_option linter.all false
set_option maxRecDepth 10000
namespace DL
open PySem PySem.Spec PyProof.Rows L2
/-- without looking the heap is not met, but how great it is -/
theorem Te.ev_heap {bs : List Str} {m : Bool} (hb : ∀ b ∈ bs, b ∈ BareN) {w : Int} {h h' : List Int} (hl : h.length = h'.length) : ∀ t : Te, t.Ok bs m → t.looks = false → t.ev w h = t.ev w h'
  | .num n, _, _ => rfl
  | .bare u, ho, hk => by
    have hk : u ∉ (["sum", "least", "most", "many"] : List Str) := by simpa [Te.looks] using hk
    have hu := hb u ho
    show leafV u w h = leafV u w h'
    simp only [BareN, List.mem_cons, List.not_mem_nil, or_false] at hu
    rcases hu with rfl | rfl | rfl | rfl | rfl | rfl
    · rw [leafV_word, leafV_word]
    · rw [leafV_own, leafV_own]
    · rw [leafV_ties, leafV_ties, hl]
    · exact (hk (by decide +kernel)).elim
    · exact (hk (by decide +kernel)).elim
    · exact (hk (by decide +kernel)).elim
  | .many k, _, hk => by cases hk
  | .op o a b, ho, hk => by
    simp only [Te.looks, Bool.or_eq_false_iff] at hk
    show opV o (a.ev w h) (b.ev w h) = opV o (a.ev w h') (b.ev w h')
    rw [ev_heap hb hl a ho.2.1 hk.1, ev_heap hb hl b ho.2.2 hk.2]
  | .ite c a b, ho, hk => by
    simp only [Te.looks, Bool.or_eq_false_iff] at hk
    show (if c.ev w h = 0 then b.ev w h else a.ev w h) = (if c.ev w h' = 0 then b.ev w h' else a.ev w h')
    rw [ev_heap hb hl a ho.2.1 hk.1.2, ev_heap hb hl b ho.2.2 hk.2, ev_heap hb hl c ho.1 hk.1.1]
end DL
namespace Pr
open PySem PySem.Spec PyProof.Rows L2 DL
/-- a term with few terms in it, of a kind -/
structure Few (bs : List Str) (m : Bool) (t : Te) : Prop where
  ok : t.Ok bs m
  deep : t.deep ≤ 2
  size : t.size ≤ 13
def Kind (bs : List Str) (m : Bool) : Prop := (bs = BF ∧ m = false) ∨ (bs = BN ∧ m = true)
section
variable {bs : List Str} {m : Bool} (K : Kind bs m)
include K
theorem Kind.bare : ∀ b ∈ bs, b ∈ BareN := by
  rcases K with ⟨rfl, rfl⟩ | ⟨rfl, rfl⟩
  · exact bf_bare
  · exact bn_bare
theorem Kind.term {t : Te} (h : t.Ok bs m) (h1 : t.deep ≤ 5) (h2 : t.size ≤ 40) : Term t := by
  rcases K with ⟨rfl, rfl⟩ | ⟨rfl, rfl⟩
  · exact .inl ⟨h, h1, h2⟩
  · exact .inr ⟨h, h1, h2⟩
theorem Kind.few {t : Te} (h : Few bs m t) : Term t := K.term h.ok (by have := h.deep; omega) (by have := h.size; omega)
end
def OPL : List Str := ["high", "less", "low", "minus", "over", "plus", "rest", "same", "times"]
theorem sorted_ops {s : Sto} {Q : D → Sto → Prop} {E : Ex → Sto → Prop} : Rn (bSortedN d_TABS ["high", "less", "low", "minus", "over", "plus", "rest", "same", "times"] [.nam "OPS"] s) Q E ↔ New s (OPL.map D.str) Q := by
  have e : bSortedN d_TABS ["high", "less", "low", "minus", "over", "plus", "rest", "same", "times"] [.nam "OPS"] s = .ok (.ref s.length) (s ++ [.lst (OPL.map D.str)]) := by
    have c : sortedS ["high", "less", "low", "minus", "over", "plus", "rest", "same", "times"] = true ∧ (["plus", "minus", "times", "over", "rest", "less", "same", "low", "high"] : List Str).Perm ["high", "less", "low", "minus", "over", "plus", "rest", "same", "times"] ∧ (["plus", "minus", "times", "over", "rest", "less", "same", "low", "high"] : List Str).Nodup ∧ 9 < 64 := ⟨by decide +kernel, by decide +kernel, by decide +kernel, by decide⟩
    obtain ⟨qs, t, m, l⟩ : ∃ qs, tabOf d_TABS "OPS" = some qs ∧ qs.map (·.1) = (["plus", "minus", "times", "over", "rest", "less", "same", "low", "high"] : List Str) ∧ qs.length = 9 := ⟨_, rfl, rfl, rfl⟩
    simp only [bSortedN, t, m, l]
    exact if_pos c
  rw [e]
  exact Iff.rfl
theorem opl_ops : ∀ o ∈ OPL, o ∈ Te.opsN := by decide +kernel
theorem bl_not (b : Bool) : (!b) = true ↔ b = false := by cases b <;> decide
end Pr
set_option Elab.async false
set_option linter.all false
set_option maxRecDepth 10000
namespace DL
open PySem PySem.Spec PyProof.Rows L2
section
variable {st : Sto} {Q : D → Sto → Prop} {E : Ex → Sto → Prop}
theorem p_in2 {w a b : Str} (hw : PyData.strOk w = true) (ha : PyData.strOk a = true) (hb : PyData.strOk b = true) : Rn (oIn (.str w) (.tup [.str a, .str b]) st) Q E ↔ Q (.bl (decide (w ∈ [a, b]))) st := by
  have e := oIn_str (w := w) (bs := [a, b]) (fun x hx => (List.mem_cons.mp hx).elim (fun e => e ▸ ha) fun h => (List.mem_singleton.mp h) ▸ hb) hw st
  have e2 : D.tup [.str a, .str b] = .tup ([a, b].map D.str) := rfl
  rw [e2, e]
  exact Iff.rfl
theorem oEq_strs {a b : Str} (ha : PyData.strOk a = true) (hb : PyData.strOk b = true) (st : Sto) : oEq (.str a) (.str b) st = .ok (.bl (decide (a = b))) st := by
  have e2 : ∀ {w : Str}, PyData.strOk w = true → SeqAt.shaped (.str w) = true := fun hw => by simp [SeqAt.shaped, PyData.canLay0, PyData.depth, hw]
  have e3 : PyData.eqv (.str a) (.str b) = decide (a = b) := by by_cases q : a = b <;> simp [PyData.eqv, q]
  simp only [oEq, toP_str, e2 ha, e2 hb, and_self, if_true, e3]
theorem p_eqS {a b : Str} (ha : PyData.strOk a = true) (hb : PyData.strOk b = true) : Rn (oEq (.str a) (.str b) st) Q E ↔ Q (.bl (decide (a = b))) st := by rw [oEq_strs ha hb]; exact Iff.rfl
theorem p_or {i j : Int} : Rn (oOr (.int i) (.int j) st) Q E ↔ Q (.int (Builtin.bitOr i j)) st := Iff.rfl
theorem rn_dispIx {kms : List (Str × (En → Option Int))} {i : Nat} {env : En} {ns : List (Str × Int)} {k : Str} {n : Int} (h1 : DL.numsOf kms env = some ns) (h2 : env[i]? = some (some (.str k))) (h3 : lastN ns k = some n) : Rn (mDispIx kms i env st) Q E ↔ Q (.int n) st := by
  unfold mDispIx
  rw [h1, h2]
  simp only [h3]
  exact Iff.rfl
end
theorem sok_over : PyData.strOk "over" = true := by decide +kernel
theorem sok_rest : PyData.strOk "rest" = true := by decide +kernel
theorem sok_less : PyData.strOk "less" = true := by decide +kernel
theorem sok_same : PyData.strOk "same" = true := by decide +kernel
theorem sok_low : PyData.strOk "low" = true := by decide +kernel
theorem sok_high : PyData.strOk "high" = true := by decide +kernel
theorem opsN_ok : ∀ o ∈ Te.opsN, PyData.strOk o = true := by decide +kernel
theorem last3 {x y z : Int} : lastN [("plus", x), ("minus", y), ("times", z)] "plus" = some x ∧ lastN [("plus", x), ("minus", y), ("times", z)] "minus" = some y ∧ lastN [("plus", x), ("minus", y), ("times", z)] "times" = some z := by
  have h1 : ¬ ("plus" : Str) = "minus" := by decide +kernel
  have h2 : ¬ ("plus" : Str) = "times" := by decide +kernel
  have h3 : ¬ ("minus" : Str) = "plus" := by decide +kernel
  have h4 : ¬ ("minus" : Str) = "times" := by decide +kernel
  refine ⟨?_, ?_, ?_⟩
  · simp only [lastN, if_neg h1, if_neg h2, if_true]; rfl
  · simp only [lastN, if_neg h3, if_neg h4, if_true]; rfl
  · simp only [lastN, if_true]; rfl
end DL
namespace Pr
open PySem PySem.Spec PyProof.Rows L2 DL
theorem law_made_ok {o : Str} (ho : o ∈ Te.opsN) {a b : Int} (ha : Wo a) (hb : Wo b) (st : Sto) : Rn (f_law_made [.str o, .int a, .int b] st) (fun d s => d = .int (opV o a b) ∧ s = st) E0 := by
  have hs := opsN_ok o ho
  have ha0 := ha.1; have ha1 := ha.2; have hb0 := hb.1; have hb1 := hb.2
  unfold f_law_made b_law_made
  simp only [rn_ok, rn_bind, rn_noEx, rn_and, rn_or, rn_not, rn_chain, rn_mB, rn_tand, rn_tor, rn_tnot, rn_if, rn_tup, rn_lst, rn_call, rn_fn, rn_m2, rn_m1, rn_cons, rn_nil, rn_c, rn_v0, rn_vs, rn_yes, rn_pNone, rn_pSome, rn_sl, rn_def, rn_meth, rn_methT, rn_callE, p_instI, rs_seq, rs_nil, rs_break, rs_retN, rs_ret, rs_expr, rs_if, rs_asg, rs_asg2, rs_par, pg_gN, pg_cons, pg_nil, pg_tup, pg_seqT, rs_for, rn_iVal, itm_t, rn_rng1, rn_rng2, rn_enum, br_t, br_f, p_add, p_addI, p_sub, p_mul, p_mulI, p_div, p_mod, p_neg, p_lt, p_ltT, p_le, p_gt, p_ge, p_eq, p_ne, p_addT, p_lenT, p_tupT, p_listT, p_max2, p_min2, p_abs, p_int, p_intB, p_is, p_isnot, p_isN, p_isnotN, p_slT, p_sumT, List.map_cons, List.map_nil, List.length_cons, List.length_nil, List.length_map, Nat.reduceAdd, Nat.reduceSub, Nat.zero_add, List.replicate_succ, List.replicate_zero, List.cons_append, List.nil_append, List.set_cons_zero, List.set_cons_succ, D.int.injEq, D.bl.injEq, D.tup.injEq, D.ref.injEq, D.str.injEq, exists_eq_left', exists_eq_left, List.cons.injEq, and_true, true_and, Option.some.injEq, sz_le, Nat.reduceLeDiff, wipeE, reduceCtorEq, false_and, and_false, exists_false, or_false, false_or, exists_const, decide_true, decide_false, Bool.not_true, Bool.not_false, Bool.false_eq_true, gOk, Int.reduceLT, Int.reduceLE, Int.reduceEq, Int.reduceGT, Int.reduceGE, Int.reduceAdd, Int.reduceSub, Int.reduceMul, if_true, if_false, and_self, p_in2 hs sok_over sok_rest, p_in2 hs sok_less sok_same, p_in2 hs sok_low sok_high, p_eqS hs sok_over, p_eqS hs sok_less, p_eqS hs sok_low]
  refine Br.dec (fun h1 => ?_) fun h1 => ?_
  · simp only [List.mem_cons, List.not_mem_nil, or_false] at h1
    refine Br.dec (fun h2 => ?_) fun h2 => ?_
    · subst h2
      rcases h1 with rfl | rfl
      · rw [opV_over]; simp
      · rw [opV_rest]; simp
    · refine Br.dec (fun _ => ?_) fun h3 => absurd (by simpa using h1) h3
      refine Br.dec (fun h3 => ?_) fun h3 => ?_
      · subst h3
        refine ⟨⟨by omega, by omega⟩, ?_⟩
        rw [opV_over, if_neg h2]
        first | done | exact ⟨rfl, rfl⟩ | rfl
      · have h4 := h1.resolve_left h3
        subst h4
        refine ⟨by omega, ?_⟩
        rw [opV_rest, if_neg h2]
        first | done | exact ⟨rfl, rfl⟩ | rfl
  · refine Br.dec (fun h2 => absurd h2 h1) fun _ => ?_
    refine Br.dec (fun h2 => ?_) fun h2 => ?_
    · simp only [List.mem_cons, List.not_mem_nil, or_false] at h2
      refine Br.dec (fun h3 => ?_) fun h3 => ?_
      · subst h3
        rw [opV_less]
        simp only [decide_eq_true_eq]
        first | done | exact ⟨rfl, rfl⟩ | rfl
      · have h4 := h2.resolve_left h3
        subst h4
        rw [opV_same]
        simp only [decide_eq_true_eq]
        first | done | exact ⟨rfl, rfl⟩ | rfl
    · refine Br.dec (fun h3 => ?_) fun h3 => ?_
      · simp only [List.mem_cons, List.not_mem_nil, or_false] at h3
        refine Br.dec (fun h4 => ?_) fun h4 => ?_
        · subst h4
          rw [opV_low]
          split <;> omega
        · have h5 := h3.resolve_left h4
          subst h5
          rw [opV_high]
          split <;> omega
      · have e1 : DL.numsOf [(("plus" : Str), (n2 (· + ·) (nVar 1) (nVar 2))), (("minus" : Str), (n2 (· - ·) (nVar 1) (nVar 2))), (("times" : Str), (nMul (nVar 1) (nVar 2)))] [some (.str o), some (.int a), some (.int b)] = some [(("plus" : Str), a + b), (("minus" : Str), a - b), (("times" : Str), a * b)] := by
          have hsm : Small a ∨ Small b := Or.inl (by unfold Small; omega)
          simp [DL.numsOf, n2, nMul, nVar, hsm]
        have ho2 : o = "plus" ∨ o = "minus" ∨ o = "times" := by
          simp only [Te.opsN, List.mem_cons, List.not_mem_nil, or_false, not_or] at ho h1 h2 h3
          rcases ho with h | h | h | h | h | h | h | h | h
          · exact .inl h
          · exact .inr (.inl h)
          · exact .inr (.inr h)
          · exact absurd h h1.1
          · exact absurd h h1.2
          · exact absurd h h2.1
          · exact absurd h h2.2
          · exact absurd h h3.1
          · exact absurd h h3.2
        obtain ⟨l1, l2, l3⟩ := last3 (x := a + b) (y := a - b) (z := a * b)
        rcases ho2 with rfl | rfl | rfl
        · refine (rn_dispIx (i := 0) e1 rfl l1).mpr ?_
          simp only [opV_plus, p_mod]
          first | done | exact ⟨by omega, trivial, trivial⟩ | exact ⟨by omega, rfl, rfl⟩ | exact ⟨by omega, rfl⟩
        · refine (rn_dispIx (i := 0) e1 rfl l2).mpr ?_
          simp only [opV_minus, p_mod]
          first | done | exact ⟨by omega, trivial, trivial⟩ | exact ⟨by omega, rfl, rfl⟩ | exact ⟨by omega, rfl⟩
        · refine (rn_dispIx (i := 0) e1 rfl l3).mpr ?_
          simp only [opV_times, p_mod]
          first | done | exact ⟨by omega, trivial, trivial⟩ | exact ⟨by omega, rfl, rfl⟩ | exact ⟨by omega, rfl⟩
end Pr
set_option Elab.async false
set_option linter.all false
set_option maxRecDepth 10000
namespace DL
open PySem PySem.Spec PyProof.Rows L2
section
variable {st : Sto} {Q : D → Sto → Prop} {E : Ex → Sto → Prop}
theorem p_instT {xs : List D} : Rn (bIsInst [.tup xs, .ty "int"] st) Q E ↔ Q (.bl false) st := Iff.rfl
theorem p_eqNil {a b : Nat} {xs : List Int} (ha : rdL st a = some (xs.map D.int)) (hb : rdL st b = some []) : Rn (oEq (.ref a) (.ref b) st) Q E ↔ Q (.bl (decide (xs = []))) st := by
  by_cases h : xs = []
  · subst h
    rw [oEq_nils ha hb]
    exact Iff.rfl
  · rw [oEq_nil leaf_ints (by simpa using h) ha hb, decide_eq_false h]
    exact Iff.rfl
theorem p_count {r : Nat} {ns : List Int} {k : Int} (h : rdL st r = some (ns.map D.int)) : Rn (fCount (.ref r) [.int k] st) Q E ↔ Q (.int (ns.count k : Nat)) st := by
  unfold fCount
  simp only [h, Option.bind_some, intsOf_ints]
  exact Iff.rfl
end
theorem sok_word : PyData.strOk "word" = true := by decide +kernel
theorem sok_own : PyData.strOk "own" = true := by decide +kernel
theorem sok_ties : PyData.strOk "ties" = true := by decide +kernel
theorem sok_sum : PyData.strOk "sum" = true := by decide +kernel
theorem sok_least : PyData.strOk "least" = true := by decide +kernel
theorem sok_most : PyData.strOk "most" = true := by decide +kernel
theorem sok_many : PyData.strOk "many" = true := by decide +kernel
theorem sok_if : PyData.strOk "if" = true := by decide +kernel
theorem bareN_ok : ∀ b ∈ BareN, PyData.strOk b = true := by decide +kernel
def inL (o : Str) : Bool := decide (o ∈ (["word", "own"] : List Str)) || decide (o = "ties") || decide (o = "sum") || decide (o ∈ (["least", "most"] : List Str))
theorem ops_out : ∀ o ∈ Te.opsN, inL o = false ∧ decide (o = "many") = false ∧ decide (o = "if") = false := by decide +kernel
theorem many_out : inL "many" = false ∧ decide (("many" : Str) = "many") = true := by decide +kernel
theorem if_out : inL "if" = false ∧ decide (("if" : Str) = "many") = false ∧ decide (("if" : Str) = "if") = true := by decide +kernel
theorem inL_f {o : Str} (h : inL o = false) : decide (o ∈ (["word", "own"] : List Str)) = false ∧ decide (o = "ties") = false ∧ decide (o = "sum") = false ∧ decide (o ∈ (["least", "most"] : List Str)) = false := by
  unfold inL at h
  simp only [Bool.or_eq_false_iff] at h
  exact ⟨h.1.1.1, h.1.1.2, h.1.2, h.2⟩
end DL
namespace Pr
open PySem PySem.Spec PyProof.Rows L2 DL
theorem law_value_ok {bs : List Str} {m : Bool} (hb : ∀ b ∈ bs, b ∈ BareN) {w : Int} {h : List Int} (hw : Wo w) (hh : ∀ x ∈ h, Wo x) (hl : h.length ≤ 11) :
    ∀ (t : Te), t.Ok bs m → ∀ (n q : Nat) (st : Sto), rdL st q = some (h.map D.int) → t.deep + 1 ≤ n → Rn (f_law_value n [t.d, .int w, .ref q] st) (fun d s => d = .int (t.ev w h) ∧ Gr st s) E0
  | t, ho, 0, q, st, hq, hn => by omega
  | .num k, ho, n + 1, q, st, hq, hn => by
    unfold f_law_value b_law_value
    simp only [rn_ok, rn_bind, rn_noEx, rn_and, rn_or, rn_not, rn_chain, rn_mB, rn_tand, rn_tor, rn_tnot, rn_if, rn_tup, rn_lst, rn_call, rn_fn, rn_m2, rn_m1, rn_cons, rn_nil, rn_c, rn_v0, rn_vs, rn_yes, rn_pNone, rn_pSome, rn_sl, rn_def, rn_meth, rn_methT, rn_callE, p_instI, rs_seq, rs_nil, rs_break, rs_retN, rs_ret, rs_expr, rs_if, rs_asg, rs_asg2, rs_par, pg_gN, pg_cons, pg_nil, pg_tup, pg_seqT, rs_for, rn_iVal, itm_t, rn_rng1, rn_rng2, rn_enum, br_t, br_f, p_add, p_addI, p_sub, p_mul, p_mulI, p_div, p_mod, p_neg, p_lt, p_ltT, p_le, p_gt, p_ge, p_eq, p_ne, p_addT, p_lenT, p_tupT, p_listT, p_max2, p_min2, p_abs, p_int, p_intB, p_is, p_isnot, p_isN, p_isnotN, p_slT, p_sumT, List.map_cons, List.map_nil, List.length_cons, List.length_nil, List.length_map, Nat.reduceAdd, Nat.reduceSub, Nat.zero_add, List.replicate_succ, List.replicate_zero, List.cons_append, List.nil_append, List.set_cons_zero, List.set_cons_succ, D.int.injEq, D.bl.injEq, D.tup.injEq, D.ref.injEq, D.str.injEq, exists_eq_left', exists_eq_left, List.cons.injEq, and_true, true_and, Option.some.injEq, sz_le, Nat.reduceLeDiff, wipeE, reduceCtorEq, false_and, and_false, exists_false, or_false, false_or, exists_const, decide_true, decide_false, Bool.not_true, Bool.not_false, Bool.false_eq_true, gOk, Int.reduceLT, Int.reduceLE, Int.reduceEq, Int.reduceGT, Int.reduceGE, Int.reduceAdd, Int.reduceSub, Int.reduceMul, if_true, if_false, and_self, Te.d, p_instI]
    exact ⟨rfl, List.prefix_refl _⟩
  | .bare u, ho, n + 1, q, st, hq, hn => by
    have hu := hb u ho
    have hs := bareN_ok u hu
    have i0 : L2.atI [D.str u] 0 = some (.str u) := rfl
    unfold f_law_value b_law_value
    simp only [rn_ok, rn_bind, rn_noEx, rn_and, rn_or, rn_not, rn_chain, rn_mB, rn_tand, rn_tor, rn_tnot, rn_if, rn_tup, rn_lst, rn_call, rn_fn, rn_m2, rn_m1, rn_cons, rn_nil, rn_c, rn_v0, rn_vs, rn_yes, rn_pNone, rn_pSome, rn_sl, rn_def, rn_meth, rn_methT, rn_callE, p_instI, rs_seq, rs_nil, rs_break, rs_retN, rs_ret, rs_expr, rs_if, rs_asg, rs_asg2, rs_par, pg_gN, pg_cons, pg_nil, pg_tup, pg_seqT, rs_for, rn_iVal, itm_t, rn_rng1, rn_rng2, rn_enum, br_t, br_f, p_add, p_addI, p_sub, p_mul, p_mulI, p_div, p_mod, p_neg, p_lt, p_ltT, p_le, p_gt, p_ge, p_eq, p_ne, p_addT, p_lenT, p_tupT, p_listT, p_max2, p_min2, p_abs, p_int, p_intB, p_is, p_isnot, p_isN, p_isnotN, p_slT, p_sumT, List.map_cons, List.map_nil, List.length_cons, List.length_nil, List.length_map, Nat.reduceAdd, Nat.reduceSub, Nat.zero_add, List.replicate_succ, List.replicate_zero, List.cons_append, List.nil_append, List.set_cons_zero, List.set_cons_succ, D.int.injEq, D.bl.injEq, D.tup.injEq, D.ref.injEq, D.str.injEq, exists_eq_left', exists_eq_left, List.cons.injEq, and_true, true_and, Option.some.injEq, sz_le, Nat.reduceLeDiff, wipeE, reduceCtorEq, false_and, and_false, exists_false, or_false, false_or, exists_const, decide_true, decide_false, Bool.not_true, Bool.not_false, Bool.false_eq_true, gOk, Int.reduceLT, Int.reduceLE, Int.reduceEq, Int.reduceGT, Int.reduceGE, Int.reduceAdd, Int.reduceSub, Int.reduceMul, if_true, if_false, and_self, Te.d, p_instT, p_ixT i0, p_in2 hs sok_word sok_own, p_eqS hs sok_ties, p_eqS hs sok_sum, p_in2 hs sok_least sok_most, Te.ev]
    refine Br.dec (fun h1 => ?_) fun h1 => ?_
    · simp only [List.mem_cons, List.not_mem_nil, or_false] at h1
      refine ⟨?_, List.prefix_refl _⟩
      rcases h1 with rfl | rfl
      · rw [leafV_word]
      · rw [leafV_own]
    · refine Br.dec (fun h2 => ?_) fun h2 => ?_
      · subst h2
        simp only [p_len hq, leafV_ties, List.length_map]
        first | exact ⟨rfl, List.prefix_refl _⟩ | exact ⟨trivial, List.prefix_refl _⟩ | exact List.prefix_refl _
      · refine Br.dec (fun h3 => ?_) fun h3 => ?_
        · subst h3
          simp only [p_sum hq, p_mod, leafV_sum]
          first | exact ⟨by omega, rfl, List.prefix_refl _⟩ | exact ⟨by omega, trivial, List.prefix_refl _⟩
        · have hu2 : u = "least" ∨ u = "most" := by
            simp only [BareN, List.mem_cons, List.not_mem_nil, or_false, not_or] at hu h1
            rcases hu with e | e | e | e | e | e
            · exact absurd e h1.1
            · exact absurd e h1.2
            · exact absurd e h2
            · exact absurd e h3
            · exact .inl e
            · exact .inr e
          refine Br.dec (fun _ => ?_) fun h4 => absurd (by simpa using hu2) h4
          refine New.of fun r s1 g1 _ _ _ l1 => ?_
          simp only [p_eqNil (rdL_gr g1 hq) l1]
          refine ⟨_, rfl, Br.dec (fun he => ?_) fun he => ?_⟩
          · refine ⟨?_, g1⟩
            rcases hu2 with rfl | rfl
            · rw [leafV_least, he]; rfl
            · rw [leafV_most, he]; rfl
          · obtain ⟨x, t, e⟩ := List.exists_cons_of_ne_nil he
            rw [p_eqS hs sok_least]
            refine ⟨_, rfl, Br.dec (fun h5 => ?_) fun h5 => ?_⟩
            · subst h5
              have em : minI h = some ((minI h).getD 0) := by rw [e]; rfl
              rw [p_min (rdL_gr g1 hq) em, leafV_least]
              exact ⟨rfl, g1⟩
            · have h6 := hu2.resolve_left h5
              subst h6
              have em : maxI h = some ((maxI h).getD 0) := by rw [e]; rfl
              rw [p_max (rdL_gr g1 hq) em, leafV_most]
              exact ⟨rfl, g1⟩
  | .many k, ho, n + 1, q, st, hq, hn => by
    obtain ⟨a1, a2⟩ := many_out
    obtain ⟨b1, b2, b3, b4⟩ := inL_f a1
    have i0 : L2.atI [D.str "many", .int (k : Nat)] 0 = some (.str "many") := rfl
    have i1 : L2.atI [D.str "many", .int (k : Nat)] 1 = some (.int (k : Nat)) := rfl
    unfold f_law_value b_law_value
    simp only [rn_ok, rn_bind, rn_noEx, rn_and, rn_or, rn_not, rn_chain, rn_mB, rn_tand, rn_tor, rn_tnot, rn_if, rn_tup, rn_lst, rn_call, rn_fn, rn_m2, rn_m1, rn_cons, rn_nil, rn_c, rn_v0, rn_vs, rn_yes, rn_pNone, rn_pSome, rn_sl, rn_def, rn_meth, rn_methT, rn_callE, p_instI, rs_seq, rs_nil, rs_break, rs_retN, rs_ret, rs_expr, rs_if, rs_asg, rs_asg2, rs_par, pg_gN, pg_cons, pg_nil, pg_tup, pg_seqT, rs_for, rn_iVal, itm_t, rn_rng1, rn_rng2, rn_enum, br_t, br_f, p_add, p_addI, p_sub, p_mul, p_mulI, p_div, p_mod, p_neg, p_lt, p_ltT, p_le, p_gt, p_ge, p_eq, p_ne, p_addT, p_lenT, p_tupT, p_listT, p_max2, p_min2, p_abs, p_int, p_intB, p_is, p_isnot, p_isN, p_isnotN, p_slT, p_sumT, List.map_cons, List.map_nil, List.length_cons, List.length_nil, List.length_map, Nat.reduceAdd, Nat.reduceSub, Nat.zero_add, List.replicate_succ, List.replicate_zero, List.cons_append, List.nil_append, List.set_cons_zero, List.set_cons_succ, D.int.injEq, D.bl.injEq, D.tup.injEq, D.ref.injEq, D.str.injEq, exists_eq_left', exists_eq_left, List.cons.injEq, and_true, true_and, Option.some.injEq, sz_le, Nat.reduceLeDiff, wipeE, reduceCtorEq, false_and, and_false, exists_false, or_false, false_or, exists_const, decide_true, decide_false, Bool.not_true, Bool.not_false, Bool.false_eq_true, gOk, Int.reduceLT, Int.reduceLE, Int.reduceEq, Int.reduceGT, Int.reduceGE, Int.reduceAdd, Int.reduceSub, Int.reduceMul, if_true, if_false, and_self, Te.d, p_instT, p_ixT i0, p_ixT i1, p_in2 sok_many sok_word sok_own, p_eqS sok_many sok_ties, p_eqS sok_many sok_sum, p_in2 sok_many sok_least sok_most, p_eqS sok_many sok_many, b1, b2, b3, b4, br_f, br_t, a2]
    exact ⟨q, _, rfl, hq, by rw [p_count hq]; exact ⟨rfl, List.prefix_refl _⟩⟩
  | .op o a b, ho, n + 1, q, st, hq, hn => by
    obtain ⟨a1, a2, a3⟩ := ops_out o ho.1
    obtain ⟨b1, b2, b3, b4⟩ := inL_f a1
    have hs := opsN_ok o ho.1
    have hd : max a.deep b.deep + 1 ≤ n := by have e : (Te.op o a b).deep = 1 + max a.deep b.deep := rfl; omega
    have i0 : L2.atI [D.str o, a.d, b.d] 0 = some (.str o) := rfl
    have i1 : L2.atI [D.str o, a.d, b.d] 1 = some a.d := rfl
    have i2 : L2.atI [D.str o, a.d, b.d] 2 = some b.d := rfl
    unfold f_law_value b_law_value
    simp only [rn_ok, rn_bind, rn_noEx, rn_and, rn_or, rn_not, rn_chain, rn_mB, rn_tand, rn_tor, rn_tnot, rn_if, rn_tup, rn_lst, rn_call, rn_fn, rn_m2, rn_m1, rn_cons, rn_nil, rn_c, rn_v0, rn_vs, rn_yes, rn_pNone, rn_pSome, rn_sl, rn_def, rn_meth, rn_methT, rn_callE, p_instI, rs_seq, rs_nil, rs_break, rs_retN, rs_ret, rs_expr, rs_if, rs_asg, rs_asg2, rs_par, pg_gN, pg_cons, pg_nil, pg_tup, pg_seqT, rs_for, rn_iVal, itm_t, rn_rng1, rn_rng2, rn_enum, br_t, br_f, p_add, p_addI, p_sub, p_mul, p_mulI, p_div, p_mod, p_neg, p_lt, p_ltT, p_le, p_gt, p_ge, p_eq, p_ne, p_addT, p_lenT, p_tupT, p_listT, p_max2, p_min2, p_abs, p_int, p_intB, p_is, p_isnot, p_isN, p_isnotN, p_slT, p_sumT, List.map_cons, List.map_nil, List.length_cons, List.length_nil, List.length_map, Nat.reduceAdd, Nat.reduceSub, Nat.zero_add, List.replicate_succ, List.replicate_zero, List.cons_append, List.nil_append, List.set_cons_zero, List.set_cons_succ, D.int.injEq, D.bl.injEq, D.tup.injEq, D.ref.injEq, D.str.injEq, exists_eq_left', exists_eq_left, List.cons.injEq, and_true, true_and, Option.some.injEq, sz_le, Nat.reduceLeDiff, wipeE, reduceCtorEq, false_and, and_false, exists_false, or_false, false_or, exists_const, decide_true, decide_false, Bool.not_true, Bool.not_false, Bool.false_eq_true, gOk, Int.reduceLT, Int.reduceLE, Int.reduceEq, Int.reduceGT, Int.reduceGE, Int.reduceAdd, Int.reduceSub, Int.reduceMul, if_true, if_false, and_self, Te.d, p_instT, p_ixT i0, p_ixT i1, p_ixT i2, p_in2 hs sok_word sok_own, p_eqS hs sok_ties, p_eqS hs sok_sum, p_in2 hs sok_least sok_most, p_eqS hs sok_many, p_eqS hs sok_if, b1, b2, b3, b4, br_f, br_t, a2, a3]
    refine Rn.of (law_value_ok hb hw hh hl a ho.2.1 n q st hq (by omega)) ?_
    rintro _ s1 ⟨rfl, g1⟩
    refine Rn.of (law_value_ok hb hw hh hl b ho.2.2 n q s1 (rdL_gr g1 hq) (by omega)) ?_
    rintro _ s2 ⟨rfl, g2⟩
    refine ⟨_, _, ⟨rfl, rfl⟩, ?_⟩
    refine Rn.of (law_made_ok ho.1 (Te.ev_ok hb hw hh hl a ho.2.1) (Te.ev_ok hb hw hh hl b ho.2.2) s2) ?_
    rintro _ s3 ⟨rfl, rfl⟩
    exact ⟨rfl, g1.trans g2⟩
  | .ite c a b, ho, n + 1, q, st, hq, hn => by
    obtain ⟨a1, a2, a3⟩ := if_out
    obtain ⟨b1, b2, b3, b4⟩ := inL_f a1
    have hd : max c.deep (max a.deep b.deep) + 1 ≤ n := by have e : (Te.ite c a b).deep = 1 + max c.deep (max a.deep b.deep) := rfl; omega
    have i0 : L2.atI [D.str "if", c.d, a.d, b.d] 0 = some (.str "if") := rfl
    have i1 : L2.atI [D.str "if", c.d, a.d, b.d] 1 = some c.d := rfl
    have i2 : L2.atI [D.str "if", c.d, a.d, b.d] 2 = some a.d := rfl
    have i3 : L2.atI [D.str "if", c.d, a.d, b.d] (2 + 1) = some b.d := rfl
    unfold f_law_value b_law_value
    simp only [rn_ok, rn_bind, rn_noEx, rn_and, rn_or, rn_not, rn_chain, rn_mB, rn_tand, rn_tor, rn_tnot, rn_if, rn_tup, rn_lst, rn_call, rn_fn, rn_m2, rn_m1, rn_cons, rn_nil, rn_c, rn_v0, rn_vs, rn_yes, rn_pNone, rn_pSome, rn_sl, rn_def, rn_meth, rn_methT, rn_callE, p_instI, rs_seq, rs_nil, rs_break, rs_retN, rs_ret, rs_expr, rs_if, rs_asg, rs_asg2, rs_par, pg_gN, pg_cons, pg_nil, pg_tup, pg_seqT, rs_for, rn_iVal, itm_t, rn_rng1, rn_rng2, rn_enum, br_t, br_f, p_add, p_addI, p_sub, p_mul, p_mulI, p_div, p_mod, p_neg, p_lt, p_ltT, p_le, p_gt, p_ge, p_eq, p_ne, p_addT, p_lenT, p_tupT, p_listT, p_max2, p_min2, p_abs, p_int, p_intB, p_is, p_isnot, p_isN, p_isnotN, p_slT, p_sumT, List.map_cons, List.map_nil, List.length_cons, List.length_nil, List.length_map, Nat.reduceAdd, Nat.reduceSub, Nat.zero_add, List.replicate_succ, List.replicate_zero, List.cons_append, List.nil_append, List.set_cons_zero, List.set_cons_succ, D.int.injEq, D.bl.injEq, D.tup.injEq, D.ref.injEq, D.str.injEq, exists_eq_left', exists_eq_left, List.cons.injEq, and_true, true_and, Option.some.injEq, sz_le, Nat.reduceLeDiff, wipeE, reduceCtorEq, false_and, and_false, exists_false, or_false, false_or, exists_const, decide_true, decide_false, Bool.not_true, Bool.not_false, Bool.false_eq_true, gOk, Int.reduceLT, Int.reduceLE, Int.reduceEq, Int.reduceGT, Int.reduceGE, Int.reduceAdd, Int.reduceSub, Int.reduceMul, if_true, if_false, and_self, Te.d, p_instT, p_ixT i0, p_ixT i1, p_in2 sok_if sok_word sok_own, p_eqS sok_if sok_ties, p_eqS sok_if sok_sum, p_in2 sok_if sok_least sok_most, p_eqS sok_if sok_many, p_eqS sok_if sok_if, b1, b2, b3, b4, br_f, br_t, a2, a3]
    refine Rn.of (law_value_ok hb hw hh hl c ho.1 n q st hq (by omega)) ?_
    rintro _ s1 ⟨rfl, g1⟩
    simp only [rn_ok, rn_bind, rn_noEx, rn_and, rn_or, rn_not, rn_chain, rn_mB, rn_tand, rn_tor, rn_tnot, rn_if, rn_tup, rn_lst, rn_call, rn_fn, rn_m2, rn_m1, rn_cons, rn_nil, rn_c, rn_v0, rn_vs, rn_yes, rn_pNone, rn_pSome, rn_sl, rn_def, rn_meth, rn_methT, rn_callE, p_instI, rs_seq, rs_nil, rs_break, rs_retN, rs_ret, rs_expr, rs_if, rs_asg, rs_asg2, rs_par, pg_gN, pg_cons, pg_nil, pg_tup, pg_seqT, rs_for, rn_iVal, itm_t, rn_rng1, rn_rng2, rn_enum, br_t, br_f, p_add, p_addI, p_sub, p_mul, p_mulI, p_div, p_mod, p_neg, p_lt, p_ltT, p_le, p_gt, p_ge, p_eq, p_ne, p_addT, p_lenT, p_tupT, p_listT, p_max2, p_min2, p_abs, p_int, p_intB, p_is, p_isnot, p_isN, p_isnotN, p_slT, p_sumT, List.map_cons, List.map_nil, List.length_cons, List.length_nil, List.length_map, Nat.reduceAdd, Nat.reduceSub, Nat.zero_add, List.replicate_succ, List.replicate_zero, List.cons_append, List.nil_append, List.set_cons_zero, List.set_cons_succ, D.int.injEq, D.bl.injEq, D.tup.injEq, D.ref.injEq, D.str.injEq, exists_eq_left', exists_eq_left, List.cons.injEq, and_true, true_and, Option.some.injEq, sz_le, Nat.reduceLeDiff, wipeE, reduceCtorEq, false_and, and_false, exists_false, or_false, false_or, exists_const, decide_true, decide_false, Bool.not_true, Bool.not_false, Bool.false_eq_true, gOk, Int.reduceLT, Int.reduceLE, Int.reduceEq, Int.reduceGT, Int.reduceGE, Int.reduceAdd, Int.reduceSub, Int.reduceMul, if_true, if_false, and_self]
    by_cases hc : c.ev w h = 0
    · rw [decide_eq_true hc]
      simp only [if_true]
      rw [p_ixT i3]
      refine Rn.of (law_value_ok hb hw hh hl b ho.2.2 n q s1 (rdL_gr g1 hq) (by omega)) ?_
      rintro _ s2 ⟨rfl, g2⟩
      refine ⟨?_, g1.trans g2⟩
      show _ = D.int (if c.ev w h = 0 then b.ev w h else a.ev w h)
      rw [if_pos hc]
    · rw [decide_eq_false hc]
      have i2' : L2.atI [D.str "if", c.d, a.d, b.d] (2 + 0) = some a.d := rfl
      simp only [Bool.false_eq_true, if_false]
      rw [p_ixT i2']
      refine Rn.of (law_value_ok hb hw hh hl a ho.2.1 n q s1 (rdL_gr g1 hq) (by omega)) ?_
      rintro _ s2 ⟨rfl, g2⟩
      refine ⟨?_, g1.trans g2⟩
      show _ = D.int (if c.ev w h = 0 then b.ev w h else a.ev w h)
      rw [if_neg hc]
end Pr
set_option Elab.async false
set_option linter.all false
set_option maxRecDepth 10000
namespace DL
open PySem PySem.Spec PyProof.Rows L2
/-! ### a heap's order is nothing -/
theorem minI_perm {h h' : List Int} (p : h.Perm h') : minI h = minI h' := by
  cases e : minI h with
  | none =>
    cases h with
    | nil =>
      have := p.nil_eq
      subst this
      rfl
    | cons x r => cases e
  | some m =>
    cases e' : minI h' with
    | none =>
      cases h' with
      | nil =>
        have := p.eq_nil
        subst this
        cases e
      | cons x r => cases e'
    | some m' =>
      obtain ⟨a1, a2⟩ := minI_spec e
      obtain ⟨b1, b2⟩ := minI_spec e'
      have c1 := a2 m' (p.mem_iff.mpr b1)
      have c2 := b2 m (p.mem_iff.mp a1)
      congr 1
      omega
theorem maxI_perm {h h' : List Int} (p : h.Perm h') : maxI h = maxI h' := by
  cases e : maxI h with
  | none =>
    cases h with
    | nil =>
      have := p.nil_eq
      subst this
      rfl
    | cons x r => cases e
  | some m =>
    cases e' : maxI h' with
    | none =>
      cases h' with
      | nil =>
        have := p.eq_nil
        subst this
        cases e
      | cons x r => cases e'
    | some m' =>
      obtain ⟨a1, a2⟩ := maxI_spec e
      obtain ⟨b1, b2⟩ := maxI_spec e'
      have c1 := a2 m' (p.mem_iff.mpr b1)
      have c2 := b2 m (p.mem_iff.mp a1)
      congr 1
      omega
theorem sumI_perm {h h' : List Int} (p : h.Perm h') : h.sum = h'.sum := by
  induction p with
  | nil => rfl
  | cons x _ ih => simp [ih]
  | swap x y l => simp; omega
  | trans _ _ a b => exact a.trans b
theorem leafV_perm {u : Str} {w : Int} {h h' : List Int} (p : h.Perm h') : leafV u w h = leafV u w h' := by
  unfold leafV
  rw [p.length_eq, sumI_perm p, minI_perm p, maxI_perm p]
theorem Te.ev_perm {w : Int} {h h' : List Int} (p : h.Perm h') : ∀ t : Te, t.ev w h = t.ev w h'
  | .num n => rfl
  | .bare u => leafV_perm p
  | .many k => by
    show ((h.count (k : Int) : Nat) : Int) = _
    rw [p.count_eq]
    rfl
  | .op o a b => by
    show opV o (a.ev w h) (b.ev w h) = opV o (a.ev w h') (b.ev w h')
    rw [ev_perm p a, ev_perm p b]
  | .ite c a b => by
    show (if c.ev w h = 0 then b.ev w h else a.ev w h) = (if c.ev w h' = 0 then b.ev w h' else a.ev w h')
    rw [ev_perm p a, ev_perm p b, ev_perm p c]
theorem erase_map {β γ : Type} (f : β → γ) : ∀ (xs : List β) (k : Nat), (xs.map f).eraseIdx k = (xs.eraseIdx k).map f
  | [], k => rfl
  | x :: r, 0 => rfl
  | x :: r, k + 1 => by
    show f x :: (r.map f).eraseIdx k = f x :: (r.eraseIdx k).map f
    rw [erase_map f r k]
theorem erase_perm {β : Type} : ∀ {xs : List β} {k : Nat} (h : k < xs.length), (xs[k] :: xs.eraseIdx k).Perm xs
  | x :: r, 0, _ => List.Perm.refl _
  | x :: r, k + 1, h => by
    have hk : k < r.length := by simpa using h
    have ih := erase_perm (xs := r) (k := k) hk
    show (r[k] :: x :: r.eraseIdx k).Perm (x :: r)
    exact (List.Perm.swap x r[k] _).trans (List.Perm.cons x ih)
/-- xs.pop(k) -/
theorem p_pop {r : Nat} {xs : List D} {k : Nat} {d : D} {st : Sto} {Q : D → Sto → Prop} {E : Ex → Sto → Prop} (h : rdW st r = some xs) (hk : xs[k]? = some d) (hs : k < 1000000) : Rn (fPop (.ref r) [.int (k : Nat)] st) Q E ↔ Put st r (xs.eraseIdx k) (Q d) := by
  have hl : k < xs.length := (List.getElem?_eq_some_iff.mp hk).1
  unfold fPop
  have e : seqIndex? (k : Int) xs.length = some k := by
    simp [seqIndex?]
    try omega
  simp only [h, e, hk]
  rw [if_pos ⟨by omega, by omega⟩]
  exact Iff.rfl
end DL
namespace Pr
open PySem PySem.Spec PyProof.Rows L2 DL
theorem take_rn {r : Nat} {m : Int} {st : Sto} (h : IsPool st r) (h0 : 0 < m) (h1 : m < 1073741824) : Rn (f_law_take [.ref r, .int m] st) (fun d s => ∃ v : Nat, d = .int v ∧ (v : Int) < m ∧ Ev r st s) E0 := by
  obtain ⟨v, s, e, a, b, g⟩ := take_of h h0 h1
  exact Rn.eq e ⟨v.toNat, by rw [Int.toNat_of_nonneg a], by omega, g⟩
theorem pop_step {r a q : Nat} {i : Nat} {zs : List Int} {st : Sto} (hp : IsPool st r) (hr : r < a) (ha : rdW st a = some (zs.map D.int)) (hz : zs ≠ []) (hl : zs.length ≤ 11) :
    Rn (E1_law_mixed [some (.ref r), some (.ref q), some (.ref a), some (.int i)] st) (fun y s => ∃ (v : Nat) (hv : v < zs.length), y = .int zs[v] ∧ rdW s a = some ((zs.eraseIdx v).map D.int) ∧ Fr [r, a] st s ∧ IsPool s r) E0 := by
  have hlp : 0 < zs.length := List.length_pos_iff.mpr hz
  simp only [rn_ok, rn_bind, rn_noEx, rn_and, rn_or, rn_not, rn_chain, rn_mB, rn_tand, rn_tor, rn_tnot, rn_if, rn_tup, rn_lst, rn_call, rn_fn, rn_m2, rn_m1, rn_cons, rn_nil, rn_c, rn_v0, rn_vs, rn_yes, rn_pNone, rn_pSome, rn_sl, rn_def, rn_meth, rn_methT, rn_callE, p_instI, rs_seq, rs_nil, rs_break, rs_retN, rs_ret, rs_expr, rs_if, rs_asg, rs_asg2, rs_par, pg_gN, pg_cons, pg_nil, pg_tup, pg_seqT, rs_for, rn_iVal, itm_t, rn_rng1, rn_rng2, rn_enum, br_t, br_f, p_add, p_addI, p_sub, p_mul, p_mulI, p_div, p_mod, p_neg, p_lt, p_ltT, p_le, p_gt, p_ge, p_eq, p_ne, p_addT, p_lenT, p_tupT, p_listT, p_max2, p_min2, p_abs, p_int, p_intB, p_is, p_isnot, p_isN, p_isnotN, p_slT, p_sumT, List.map_cons, List.map_nil, List.length_cons, List.length_nil, List.length_map, Nat.reduceAdd, Nat.reduceSub, Nat.zero_add, List.replicate_succ, List.replicate_zero, List.cons_append, List.nil_append, List.set_cons_zero, List.set_cons_succ, D.int.injEq, D.bl.injEq, D.tup.injEq, D.ref.injEq, D.str.injEq, exists_eq_left', exists_eq_left, List.cons.injEq, and_true, true_and, Option.some.injEq, sz_le, Nat.reduceLeDiff, wipeE, reduceCtorEq, false_and, and_false, exists_false, or_false, false_or, exists_const, decide_true, decide_false, Bool.not_true, Bool.not_false, Bool.false_eq_true, gOk, Int.reduceLT, Int.reduceLE, Int.reduceEq, Int.reduceGT, Int.reduceGE, Int.reduceAdd, Int.reduceSub, Int.reduceMul, if_true, if_false, and_self]
  refine ⟨a, _, rfl, rdL_W ha, ?_⟩
  simp only [p_len (rdL_W ha), List.length_map]
  refine Rn.of (take_rn (m := (zs.length : Nat)) hp (by omega) (by omega)) ?_
  rintro _ s1 ⟨v, rfl, hv, g1⟩
  have hv' : v < zs.length := by omega
  have h1 := g1.rdW ha (by omega)
  rw [p_pop h1 (by rw [List.getElem?_map, List.getElem?_eq_getElem hv']; rfl) (by omega)]
  refine Put.of h1 fun s2 f2 _ w2 _ => ⟨v, hv', rfl, ?_, ?_, ?_⟩
  · rw [w2, erase_map]
  · exact (g1.fr.mono (by simp)).trans (f2.mono (by simp))
  · exact f2.pool g1.pool (by simp; omega)
theorem law_mixed_ok {r q : Nat} {h : List Int} {st : Sto} (hp : IsPool st r) (hq : rdL st q = some (h.map D.int)) (hl : h.length ≤ 11) : Rn (f_law_mixed [.ref r, .ref q] st) (fun d s => (∃ h', d = .tup (h'.map D.int) ∧ h.Perm h') ∧ Ev r st s) E0 := by
  unfold f_law_mixed b_law_mixed
  simp only [rn_ok, rn_bind, rn_noEx, rn_and, rn_or, rn_not, rn_chain, rn_mB, rn_tand, rn_tor, rn_tnot, rn_if, rn_tup, rn_lst, rn_call, rn_fn, rn_m2, rn_m1, rn_cons, rn_nil, rn_c, rn_v0, rn_vs, rn_yes, rn_pNone, rn_pSome, rn_sl, rn_def, rn_meth, rn_methT, rn_callE, p_instI, rs_seq, rs_nil, rs_break, rs_retN, rs_ret, rs_expr, rs_if, rs_asg, rs_asg2, rs_par, pg_gN, pg_cons, pg_nil, pg_tup, pg_seqT, rs_for, rn_iVal, itm_t, rn_rng1, rn_rng2, rn_enum, br_t, br_f, p_add, p_addI, p_sub, p_mul, p_mulI, p_div, p_mod, p_neg, p_lt, p_ltT, p_le, p_gt, p_ge, p_eq, p_ne, p_addT, p_lenT, p_tupT, p_listT, p_max2, p_min2, p_abs, p_int, p_intB, p_is, p_isnot, p_isN, p_isnotN, p_slT, p_sumT, List.map_cons, List.map_nil, List.length_cons, List.length_nil, List.length_map, Nat.reduceAdd, Nat.reduceSub, Nat.zero_add, List.replicate_succ, List.replicate_zero, List.cons_append, List.nil_append, List.set_cons_zero, List.set_cons_succ, D.int.injEq, D.bl.injEq, D.tup.injEq, D.ref.injEq, D.str.injEq, exists_eq_left', exists_eq_left, List.cons.injEq, and_true, true_and, Option.some.injEq, sz_le, Nat.reduceLeDiff, wipeE, reduceCtorEq, false_and, and_false, exists_false, or_false, false_or, exists_const, decide_true, decide_false, Bool.not_true, Bool.not_false, Bool.false_eq_true, gOk, Int.reduceLT, Int.reduceLE, Int.reduceEq, Int.reduceGT, Int.reduceGE, Int.reduceAdd, Int.reduceSub, Int.reduceMul, if_true, if_false, and_self, p_list hq]
  refine New.of fun a s1 g1 ha hal wa la => ?_
  have hr := hp.lt
  have hs1 := g1.len
  refine Rn.of (r := mLc _ _ _ _ _ _ _) (Q := fun d s => ∃ (b : Nat) (ys : List Int), d = .ref b ∧ rdL s b = some (ys.map D.int) ∧ h.Perm ys ∧ Ev r st s) ?_ ?_
  · unfold mLc
    rw [rn_bind, rn_rng1]
    simp only [rn_ok, rn_bind, rn_noEx, rn_and, rn_or, rn_not, rn_chain, rn_mB, rn_tand, rn_tor, rn_tnot, rn_if, rn_tup, rn_lst, rn_call, rn_fn, rn_m2, rn_m1, rn_cons, rn_nil, rn_c, rn_v0, rn_vs, rn_yes, rn_pNone, rn_pSome, rn_sl, rn_def, rn_meth, rn_methT, rn_callE, p_instI, rs_seq, rs_nil, rs_break, rs_retN, rs_ret, rs_expr, rs_if, rs_asg, rs_asg2, rs_par, pg_gN, pg_cons, pg_nil, pg_tup, pg_seqT, rs_for, rn_iVal, itm_t, rn_rng1, rn_rng2, rn_enum, br_t, br_f, p_add, p_addI, p_sub, p_mul, p_mulI, p_div, p_mod, p_neg, p_lt, p_ltT, p_le, p_gt, p_ge, p_eq, p_ne, p_addT, p_lenT, p_tupT, p_listT, p_max2, p_min2, p_abs, p_int, p_intB, p_is, p_isnot, p_isN, p_isnotN, p_slT, p_sumT, List.map_cons, List.map_nil, List.length_cons, List.length_nil, List.length_map, Nat.reduceAdd, Nat.reduceSub, Nat.zero_add, List.replicate_succ, List.replicate_zero, List.cons_append, List.nil_append, List.set_cons_zero, List.set_cons_succ, D.int.injEq, D.bl.injEq, D.tup.injEq, D.ref.injEq, D.str.injEq, exists_eq_left', exists_eq_left, List.cons.injEq, and_true, true_and, Option.some.injEq, sz_le, Nat.reduceLeDiff, wipeE, reduceCtorEq, false_and, and_false, exists_false, or_false, false_or, exists_const, decide_true, decide_false, Bool.not_true, Bool.not_false, Bool.false_eq_true, gOk, Int.reduceLT, Int.reduceLE, Int.reduceEq, Int.reduceGT, Int.reduceGE, Int.reduceAdd, Int.reduceSub, Int.reduceMul, if_true, if_false, and_self, p_len la, List.length_map]
    refine ⟨mid_nat (by omega), ?_⟩
    rw [Int.toNat_natCast]
    have main := loopC_ok (ds := rngD 0 h.length) (gd := none) (g := gN 3) (mt := mYes) (me := E1_law_mixed) (env0 := [some (.ref r), some (.ref q), some (.ref a), none]) (r0 := s1.length) (st := s1 ++ [.lst []])
      (fun i acc s => rdW s s1.length = some acc ∧ acc.length = i ∧ (∃ ys zs : List Int, acc = ys.map D.int ∧ rdW s a = some (zs.map D.int) ∧ h.Perm (ys ++ zs) ∧ ys.length = i) ∧ Ev r st s)
      ⟨rdW_new _ _, rfl, ⟨[], h, rfl, rdW_gr (List.prefix_append _ _) wa, List.Perm.refl _, rfl⟩, Ev.gr hp (g1.trans (List.prefix_append _ _))⟩ (fun i acc s h => ⟨h.1, by omega⟩) (by rw [rngD_len]; exact sz_lt (by omega)) (fun _ _ _ _ _ => trivial) (by
        rintro i acc s hi ⟨h1, h2, ⟨ys, zs, h3, h4, h5, h6⟩, h7⟩
        rw [rngD_len] at hi
        have hlen := h5.length_eq
        rw [List.length_append] at hlen
        have hz : zs ≠ [] := fun e => by rw [e] at hlen; simp at hlen; omega
        rw [rngD_get (by rw [rngD_len]; exact hi)]
        obtain ⟨y, s3, e3, v, hv, rfl, w3, f3, p3⟩ := (pop_step (q := q) (i := i) h7.pool (by omega) h4 hz (by omega)).ex
        have hsl := h7.len
        have h1' := f3.rdW h1 (by simp; omega)
        refine ⟨_, s, rfl, .inr ⟨s, _, s3, rfl, e3, h1', ?_⟩⟩
        refine Put.of (Q := fun s' => rdW s' s1.length = some (acc ++ [D.int zs[v]]) ∧ (acc ++ [D.int zs[v]]).length = i + 1 ∧ (∃ ys' zs' : List Int, acc ++ [D.int zs[v]] = ys'.map D.int ∧ rdW s' a = some (zs'.map D.int) ∧ h.Perm (ys' ++ zs') ∧ ys'.length = i + 1) ∧ Ev r st s') h1' fun s4 f4 _ w4 _ => ?_
        refine ⟨w4, by simp [h2], ⟨ys ++ [zs[v]], zs.eraseIdx v, by simp [h3], f4.rdW w3 (by simp; omega), ?_, by simp [h6]⟩, ?_⟩
        · rw [List.append_assoc]
          refine h5.trans (List.Perm.append_left _ ?_)
          exact (erase_perm hv).symm
        · have l3 := f3.len
          have l4 := f4.len
          refine ⟨by omega, fun j hj hn => ?_, f4.pool p3 (by simp; omega)⟩
          rw [f4.same j (by omega) (by simp; omega), f3.same j (by omega) (by simp; omega)]
          exact h7.same j hj hn)
    obtain ⟨acc, s', e, h1, h2, ⟨ys, zs, h3, h4, h5, h6⟩, h7⟩ := main
    rw [rngD_len] at h2 h6
    have hlen := h5.length_eq
    rw [List.length_append] at hlen
    have hz : zs = [] := List.eq_nil_of_length_eq_zero (by omega)
    subst hz
    rw [List.append_nil] at h5
    exact Rn.eq e ⟨_, ys, rfl, by rw [rdL_W h1, h3], h5, h7⟩
  · rintro _ s ⟨b, ys, rfl, lb, pm, ev⟩
    simp only [rn_ok, rn_bind, rn_noEx, rn_and, rn_or, rn_not, rn_chain, rn_mB, rn_tand, rn_tor, rn_tnot, rn_if, rn_tup, rn_lst, rn_call, rn_fn, rn_m2, rn_m1, rn_cons, rn_nil, rn_c, rn_v0, rn_vs, rn_yes, rn_pNone, rn_pSome, rn_sl, rn_def, rn_meth, rn_methT, rn_callE, p_instI, rs_seq, rs_nil, rs_break, rs_retN, rs_ret, rs_expr, rs_if, rs_asg, rs_asg2, rs_par, pg_gN, pg_cons, pg_nil, pg_tup, pg_seqT, rs_for, rn_iVal, itm_t, rn_rng1, rn_rng2, rn_enum, br_t, br_f, p_add, p_addI, p_sub, p_mul, p_mulI, p_div, p_mod, p_neg, p_lt, p_ltT, p_le, p_gt, p_ge, p_eq, p_ne, p_addT, p_lenT, p_tupT, p_listT, p_max2, p_min2, p_abs, p_int, p_intB, p_is, p_isnot, p_isN, p_isnotN, p_slT, p_sumT, List.map_cons, List.map_nil, List.length_cons, List.length_nil, List.length_map, Nat.reduceAdd, Nat.reduceSub, Nat.zero_add, List.replicate_succ, List.replicate_zero, List.cons_append, List.nil_append, List.set_cons_zero, List.set_cons_succ, D.int.injEq, D.bl.injEq, D.tup.injEq, D.ref.injEq, D.str.injEq, exists_eq_left', exists_eq_left, List.cons.injEq, and_true, true_and, Option.some.injEq, sz_le, Nat.reduceLeDiff, wipeE, reduceCtorEq, false_and, and_false, exists_false, or_false, false_or, exists_const, decide_true, decide_false, Bool.not_true, Bool.not_false, Bool.false_eq_true, gOk, Int.reduceLT, Int.reduceLE, Int.reduceEq, Int.reduceGT, Int.reduceGE, Int.reduceAdd, Int.reduceSub, Int.reduceMul, if_true, if_false, and_self, p_tuple lb]
    exact ⟨⟨ys, rfl, pm⟩, ev⟩
end Pr
set_option Elab.async false
set_option linter.all false
set_option maxRecDepth 10000
namespace Pr
open PySem PySem.Spec PyProof.Rows L2 DL
section
variable {r q : Nat} {bs : List Str} {m : Bool} {ws : List Str}
/-- a term of so many, at most so deep -/
def Szd (r q : Nat) (bs : List Str) (m : Bool) (ws : List Str) (n k dd : Nat) : Prop := ∀ st, IsPool st r → rdL st q = some (ws.map leafD) → Rn (f_law_sized n [.ref r, .ref q, .int (k : Nat)] st) (fun d s => (∃ t : Te, d = t.d ∧ t.Ok bs m ∧ t.deep ≤ dd ∧ t.size = k) ∧ Ev r st s) E0
theorem szd_leaf (hne : q ≠ r) (hbs : ∀ b ∈ bs, PyData.strOk b = true) (hmb : ("many" : Str) ∉ bs) (hw : ∀ w ∈ ws, w ∈ bs ∨ w = "many" ∧ m = true) (hl : ws ≠ []) (hl2 : ws.length ≤ 10) (n : Nat) : Szd r q bs m ws (n + 1) 1 0 := by
  intro st hp hq
  have hl0 : 0 < ws.length := List.length_pos_iff.mpr hl
  unfold f_law_sized b_law_sized
  simp only [rn_ok, rn_bind, rn_noEx, rn_and, rn_or, rn_not, rn_chain, rn_mB, rn_tand, rn_tor, rn_tnot, rn_if, rn_tup, rn_lst, rn_call, rn_fn, rn_m2, rn_m1, rn_cons, rn_nil, rn_c, rn_v0, rn_vs, rn_yes, rn_pNone, rn_pSome, rn_sl, rn_def, rn_meth, rn_methT, rn_callE, p_instI, rs_seq, rs_nil, rs_break, rs_retN, rs_ret, rs_expr, rs_if, rs_asg, rs_asg2, rs_par, pg_gN, pg_cons, pg_nil, pg_tup, pg_seqT, rs_for, rn_iVal, itm_t, rn_rng1, rn_rng2, rn_enum, br_t, br_f, p_add, p_addI, p_sub, p_mul, p_mulI, p_div, p_mod, p_neg, p_lt, p_ltT, p_le, p_gt, p_ge, p_eq, p_ne, p_addT, p_lenT, p_tupT, p_listT, p_max2, p_min2, p_abs, p_int, p_intB, p_is, p_isnot, p_isN, p_isnotN, p_slT, p_sumT, List.map_cons, List.map_nil, List.length_cons, List.length_nil, List.length_map, Nat.reduceAdd, Nat.reduceSub, Nat.zero_add, List.replicate_succ, List.replicate_zero, List.cons_append, List.nil_append, List.set_cons_zero, List.set_cons_succ, D.int.injEq, D.bl.injEq, D.tup.injEq, D.ref.injEq, D.str.injEq, exists_eq_left', exists_eq_left, List.cons.injEq, and_true, true_and, Option.some.injEq, sz_le, Nat.reduceLeDiff, wipeE, reduceCtorEq, false_and, and_false, exists_false, or_false, false_or, exists_const, decide_true, decide_false, Bool.not_true, Bool.not_false, Bool.false_eq_true, gOk, Int.reduceLT, Int.reduceLE, Int.reduceEq, Int.reduceGT, Int.reduceGE, Int.reduceAdd, Int.reduceSub, Int.reduceMul, if_true, if_false, and_self]
  refine Br.dec (fun _ => ?_) fun h => absurd (by omega) h
  simp only [p_len hq, List.length_map]
  refine Rn.of (take_rn (m := (ws.length : Nat)) hp (by omega) (by omega)) ?_
  rintro _ s1 ⟨v, rfl, hv, g1⟩
  have hv' : v < ws.length := by omega
  have ix : L2.atI (ws.map leafD) (v : Int) = some (leafD ws[v]) := atI_at (by rw [List.getElem?_map, List.getElem?_eq_getElem hv']; rfl)
  have hm := hw _ (List.getElem_mem hv')
  have hs : PyData.strOk ws[v] = true := by
    rcases hm with h | h
    · exact hbs _ h
    · rw [h.1]; exact sok_many
  simp only [p_ix (g1.rdL hq hne) ix, leafD]
  generalize ws[v] = u at *
  rw [oEq_strT hs sok_many]
  simp only [rn_ok, rn_bind, rn_noEx, rn_and, rn_or, rn_not, rn_chain, rn_mB, rn_tand, rn_tor, rn_tnot, rn_if, rn_tup, rn_lst, rn_call, rn_fn, rn_m2, rn_m1, rn_cons, rn_nil, rn_c, rn_v0, rn_vs, rn_yes, rn_pNone, rn_pSome, rn_sl, rn_def, rn_meth, rn_methT, rn_callE, p_instI, rs_seq, rs_nil, rs_break, rs_retN, rs_ret, rs_expr, rs_if, rs_asg, rs_asg2, rs_par, pg_gN, pg_cons, pg_nil, pg_tup, pg_seqT, rs_for, rn_iVal, itm_t, rn_rng1, rn_rng2, rn_enum, br_t, br_f, p_add, p_addI, p_sub, p_mul, p_mulI, p_div, p_mod, p_neg, p_lt, p_ltT, p_le, p_gt, p_ge, p_eq, p_ne, p_addT, p_lenT, p_tupT, p_listT, p_max2, p_min2, p_abs, p_int, p_intB, p_is, p_isnot, p_isN, p_isnotN, p_slT, p_sumT, List.map_cons, List.map_nil, List.length_cons, List.length_nil, List.length_map, Nat.reduceAdd, Nat.reduceSub, Nat.zero_add, List.replicate_succ, List.replicate_zero, List.cons_append, List.nil_append, List.set_cons_zero, List.set_cons_succ, D.int.injEq, D.bl.injEq, D.tup.injEq, D.ref.injEq, D.str.injEq, exists_eq_left', exists_eq_left, List.cons.injEq, and_true, true_and, Option.some.injEq, sz_le, Nat.reduceLeDiff, wipeE, reduceCtorEq, false_and, and_false, exists_false, or_false, false_or, exists_const, decide_true, decide_false, Bool.not_true, Bool.not_false, Bool.false_eq_true, gOk, Int.reduceLT, Int.reduceLE, Int.reduceEq, Int.reduceGT, Int.reduceGE, Int.reduceAdd, Int.reduceSub, Int.reduceMul, if_true, if_false, and_self]
  refine Br.dec (fun h => ?_) fun h => ?_
  · have h2 : m = true := by
      rcases hm with h' | h'
      · rw [h] at h'; exact absurd h' hmb
      · exact h'.2
    refine Rn.of (take_rn (m := 997) g1.pool (by omega) (by omega)) ?_
    rintro _ s2 ⟨k, rfl, hk, g2⟩
    refine ⟨⟨.many k, rfl, ⟨h2, by omega⟩, Nat.le_refl _, rfl⟩, g1.trans g2⟩
  · have h2 : u ∈ bs := by
      rcases hm with h' | h'
      · exact h'
      · exact absurd h'.1 h
    exact ⟨⟨.bare u, rfl, h2, Nat.le_refl _, rfl⟩, g1⟩
theorem szd_op (hne : q ≠ r) {n k one two d1 d2 dd : Nat} (hk : 3 ≤ k) (hk2 : k ≤ 40) (hodd : (k : Int) % 2 = 1) (hor : Builtin.bitOr (((k : Int) - 1) / 2) 1 = (one : Nat)) (h2 : one + two + 1 = k) (hd1 : d1 + 1 ≤ dd) (hd2 : d2 + 1 ≤ dd)
    (i1 : Szd r q bs m ws n one d1) (i2 : Szd r q bs m ws n two d2) : Szd r q bs m ws (n + 1) k dd := by
  intro st hp hq
  have hr := hp.lt
  unfold f_law_sized b_law_sized
  simp only [rn_ok, rn_bind, rn_noEx, rn_and, rn_or, rn_not, rn_chain, rn_mB, rn_tand, rn_tor, rn_tnot, rn_if, rn_tup, rn_lst, rn_call, rn_fn, rn_m2, rn_m1, rn_cons, rn_nil, rn_c, rn_v0, rn_vs, rn_yes, rn_pNone, rn_pSome, rn_sl, rn_def, rn_meth, rn_methT, rn_callE, p_instI, rs_seq, rs_nil, rs_break, rs_retN, rs_ret, rs_expr, rs_if, rs_asg, rs_asg2, rs_par, pg_gN, pg_cons, pg_nil, pg_tup, pg_seqT, rs_for, rn_iVal, itm_t, rn_rng1, rn_rng2, rn_enum, br_t, br_f, p_add, p_addI, p_sub, p_mul, p_mulI, p_div, p_mod, p_neg, p_lt, p_ltT, p_le, p_gt, p_ge, p_eq, p_ne, p_addT, p_lenT, p_tupT, p_listT, p_max2, p_min2, p_abs, p_int, p_intB, p_is, p_isnot, p_isN, p_isnotN, p_slT, p_sumT, List.map_cons, List.map_nil, List.length_cons, List.length_nil, List.length_map, Nat.reduceAdd, Nat.reduceSub, Nat.zero_add, List.replicate_succ, List.replicate_zero, List.cons_append, List.nil_append, List.set_cons_zero, List.set_cons_succ, D.int.injEq, D.bl.injEq, D.tup.injEq, D.ref.injEq, D.str.injEq, exists_eq_left', exists_eq_left, List.cons.injEq, and_true, true_and, Option.some.injEq, sz_le, Nat.reduceLeDiff, wipeE, reduceCtorEq, false_and, and_false, exists_false, or_false, false_or, exists_const, decide_true, decide_false, Bool.not_true, Bool.not_false, Bool.false_eq_true, gOk, Int.reduceLT, Int.reduceLE, Int.reduceEq, Int.reduceGT, Int.reduceGE, Int.reduceAdd, Int.reduceSub, Int.reduceMul, if_true, if_false, and_self]
  refine Br.dec (fun h => absurd h (by omega)) fun _ => ?_
  refine New.of fun a s1 g1 ha _ _ la => ?_
  have la : rdL s1 a = some (Te.opsN.map D.str) := la
  have E1 := Ev.gr hp g1
  refine Rn.of (take_rn (m := 9) E1.pool (by omega) (by omega)) ?_
  rintro _ s2 ⟨v, rfl, hv, g2⟩
  have hv' : v < Te.opsN.length := by show v < 9; omega
  have ix : L2.atI (Te.opsN.map D.str) (v : Int) = some (.str Te.opsN[v]) := atI_at (by rw [List.getElem?_map, List.getElem?_eq_getElem hv']; rfl)
  have ho := List.getElem_mem hv'
  generalize Te.opsN[v] = o at *
  have E2 := E1.trans g2
  simp only [p_ix (g2.rdL la (by omega)) ix, p_mod, rn_ok, rn_bind, rn_noEx, rn_and, rn_or, rn_not, rn_chain, rn_mB, rn_tand, rn_tor, rn_tnot, rn_if, rn_tup, rn_lst, rn_call, rn_fn, rn_m2, rn_m1, rn_cons, rn_nil, rn_c, rn_v0, rn_vs, rn_yes, rn_pNone, rn_pSome, rn_sl, rn_def, rn_meth, rn_methT, rn_callE, p_instI, rs_seq, rs_nil, rs_break, rs_retN, rs_ret, rs_expr, rs_if, rs_asg, rs_asg2, rs_par, pg_gN, pg_cons, pg_nil, pg_tup, pg_seqT, rs_for, rn_iVal, itm_t, rn_rng1, rn_rng2, rn_enum, br_t, br_f, p_add, p_addI, p_sub, p_mul, p_mulI, p_div, p_mod, p_neg, p_lt, p_ltT, p_le, p_gt, p_ge, p_eq, p_ne, p_addT, p_lenT, p_tupT, p_listT, p_max2, p_min2, p_abs, p_int, p_intB, p_is, p_isnot, p_isN, p_isnotN, p_slT, p_sumT, List.map_cons, List.map_nil, List.length_cons, List.length_nil, List.length_map, Nat.reduceAdd, Nat.reduceSub, Nat.zero_add, List.replicate_succ, List.replicate_zero, List.cons_append, List.nil_append, List.set_cons_zero, List.set_cons_succ, D.int.injEq, D.bl.injEq, D.tup.injEq, D.ref.injEq, D.str.injEq, exists_eq_left', exists_eq_left, List.cons.injEq, and_true, true_and, Option.some.injEq, sz_le, Nat.reduceLeDiff, wipeE, reduceCtorEq, false_and, and_false, exists_false, or_false, false_or, exists_const, decide_true, decide_false, Bool.not_true, Bool.not_false, Bool.false_eq_true, gOk, Int.reduceLT, Int.reduceLE, Int.reduceEq, Int.reduceGT, Int.reduceGE, Int.reduceAdd, Int.reduceSub, Int.reduceMul, if_true, if_false, and_self]
  refine Br.dec (fun _ => ?_) fun h => absurd hodd h
  rw [p_or, hor]
  refine Rn.of (i1 s2 E2.pool (E2.rdL hq hne)) ?_
  rintro _ s3 ⟨⟨t1, rfl, o1, e1, z1⟩, g3⟩
  have E3 := E2.trans g3
  have ek : (k : Int) - 1 - (one : Nat) = (two : Nat) := by omega
  rw [p_sub, ek]
  refine Rn.of (i2 s3 E3.pool (E3.rdL hq hne)) ?_
  rintro _ s4 ⟨⟨t2, rfl, o2, e2, z2⟩, g4⟩
  refine ⟨⟨.op o t1 t2, rfl, ⟨ho, o1, o2⟩, ?_, ?_⟩, E3.trans g4⟩
  · show 1 + max t1.deep t2.deep ≤ dd
    omega
  · show 1 + t1.size + t2.size = k
    omega
theorem szd_if (hne : q ≠ r) {n d1 : Nat} (i1 : Szd r q bs m ws n 13 d1) : Szd r q bs m ws (n + 1) 40 (d1 + 1) := by
  intro st hp hq
  have hr := hp.lt
  unfold f_law_sized b_law_sized
  simp only [rn_ok, rn_bind, rn_noEx, rn_and, rn_or, rn_not, rn_chain, rn_mB, rn_tand, rn_tor, rn_tnot, rn_if, rn_tup, rn_lst, rn_call, rn_fn, rn_m2, rn_m1, rn_cons, rn_nil, rn_c, rn_v0, rn_vs, rn_yes, rn_pNone, rn_pSome, rn_sl, rn_def, rn_meth, rn_methT, rn_callE, p_instI, rs_seq, rs_nil, rs_break, rs_retN, rs_ret, rs_expr, rs_if, rs_asg, rs_asg2, rs_par, pg_gN, pg_cons, pg_nil, pg_tup, pg_seqT, rs_for, rn_iVal, itm_t, rn_rng1, rn_rng2, rn_enum, br_t, br_f, p_add, p_addI, p_sub, p_mul, p_mulI, p_div, p_mod, p_neg, p_lt, p_ltT, p_le, p_gt, p_ge, p_eq, p_ne, p_addT, p_lenT, p_tupT, p_listT, p_max2, p_min2, p_abs, p_int, p_intB, p_is, p_isnot, p_isN, p_isnotN, p_slT, p_sumT, List.map_cons, List.map_nil, List.length_cons, List.length_nil, List.length_map, Nat.reduceAdd, Nat.reduceSub, Nat.zero_add, List.replicate_succ, List.replicate_zero, List.cons_append, List.nil_append, List.set_cons_zero, List.set_cons_succ, D.int.injEq, D.bl.injEq, D.tup.injEq, D.ref.injEq, D.str.injEq, exists_eq_left', exists_eq_left, List.cons.injEq, and_true, true_and, Option.some.injEq, sz_le, Nat.reduceLeDiff, wipeE, reduceCtorEq, false_and, and_false, exists_false, or_false, false_or, exists_const, decide_true, decide_false, Bool.not_true, Bool.not_false, Bool.false_eq_true, gOk, Int.reduceLT, Int.reduceLE, Int.reduceEq, Int.reduceGT, Int.reduceGE, Int.reduceAdd, Int.reduceSub, Int.reduceMul, if_true, if_false, and_self]
  refine Br.dec (fun h => absurd h (by omega)) fun _ => ?_
  refine New.of fun a s1 g1 ha _ _ la => ?_
  have la : rdL s1 a = some (Te.opsN.map D.str) := la
  have E1 := Ev.gr hp g1
  refine Rn.of (take_rn (m := 9) E1.pool (by omega) (by omega)) ?_
  rintro _ s2 ⟨v, rfl, hv, g2⟩
  have hv' : v < Te.opsN.length := by show v < 9; omega
  have ix : L2.atI (Te.opsN.map D.str) (v : Int) = some (.str Te.opsN[v]) := atI_at (by rw [List.getElem?_map, List.getElem?_eq_getElem hv']; rfl)
  have E2 := E1.trans g2
  have hor : Builtin.bitOr (((40 : Nat) - 1 : Int) / 3) 1 = (13 : Nat) := by decide +kernel
  have ek : ((40 : Nat) : Int) - 1 - 2 * (13 : Nat) = (13 : Nat) := by omega
  simp only [p_ix (g2.rdL la (by omega)) ix, p_mod, rn_ok, rn_bind, rn_noEx, rn_and, rn_or, rn_not, rn_chain, rn_mB, rn_tand, rn_tor, rn_tnot, rn_if, rn_tup, rn_lst, rn_call, rn_fn, rn_m2, rn_m1, rn_cons, rn_nil, rn_c, rn_v0, rn_vs, rn_yes, rn_pNone, rn_pSome, rn_sl, rn_def, rn_meth, rn_methT, rn_callE, p_instI, rs_seq, rs_nil, rs_break, rs_retN, rs_ret, rs_expr, rs_if, rs_asg, rs_asg2, rs_par, pg_gN, pg_cons, pg_nil, pg_tup, pg_seqT, rs_for, rn_iVal, itm_t, rn_rng1, rn_rng2, rn_enum, br_t, br_f, p_add, p_addI, p_sub, p_mul, p_mulI, p_div, p_mod, p_neg, p_lt, p_ltT, p_le, p_gt, p_ge, p_eq, p_ne, p_addT, p_lenT, p_tupT, p_listT, p_max2, p_min2, p_abs, p_int, p_intB, p_is, p_isnot, p_isN, p_isnotN, p_slT, p_sumT, List.map_cons, List.map_nil, List.length_cons, List.length_nil, List.length_map, Nat.reduceAdd, Nat.reduceSub, Nat.zero_add, List.replicate_succ, List.replicate_zero, List.cons_append, List.nil_append, List.set_cons_zero, List.set_cons_succ, D.int.injEq, D.bl.injEq, D.tup.injEq, D.ref.injEq, D.str.injEq, exists_eq_left', exists_eq_left, List.cons.injEq, and_true, true_and, Option.some.injEq, sz_le, Nat.reduceLeDiff, wipeE, reduceCtorEq, false_and, and_false, exists_false, or_false, false_or, exists_const, decide_true, decide_false, Bool.not_true, Bool.not_false, Bool.false_eq_true, gOk, Int.reduceLT, Int.reduceLE, Int.reduceEq, Int.reduceGT, Int.reduceGE, Int.reduceAdd, Int.reduceSub, Int.reduceMul, if_true, if_false, and_self]
  refine Br.dec (fun h => absurd h (by omega)) fun _ => ?_
  rw [p_or, hor, p_mul]
  refine ⟨Or.inl (by unfold Small; omega), ?_⟩
  rw [p_sub, ek]
  refine Rn.of (i1 s2 E2.pool (E2.rdL hq hne)) ?_
  rintro _ s3 ⟨⟨t1, rfl, o1, e1, z1⟩, g3⟩
  have E3 := E2.trans g3
  refine Rn.of (i1 s3 E3.pool (E3.rdL hq hne)) ?_
  rintro _ s4 ⟨⟨t2, rfl, o2, e2, z2⟩, g4⟩
  have E4 := E3.trans g4
  refine Rn.of (i1 s4 E4.pool (E4.rdL hq hne)) ?_
  rintro _ s5 ⟨⟨t3, rfl, o3, e3, z3⟩, g5⟩
  refine ⟨⟨.ite t1 t2 t3, rfl, ⟨o1, o2, o3⟩, ?_, ?_⟩, E4.trans g5⟩
  · show 1 + max t1.deep (max t2.deep t3.deep) ≤ d1 + 1
    omega
  · show 1 + t1.size + t2.size + t3.size = 40
    omega
theorem szd_all (hne : q ≠ r) (hbs : ∀ b ∈ bs, PyData.strOk b = true) (hmb : ("many" : Str) ∉ bs) (hw : ∀ w ∈ ws, w ∈ bs ∨ w = "many" ∧ m = true) (hl : ws ≠ []) (hl2 : ws.length ≤ 10) : Szd r q bs m ws 45 39 5 ∧ Szd r q bs m ws 45 40 5 := by
  have s1 : ∀ n, Szd r q bs m ws (n + 1) 1 0 := szd_leaf hne hbs hmb hw hl hl2
  have s3 : ∀ n, Szd r q bs m ws (n + 2) 3 1 := fun n => szd_op hne (one := 1) (two := 1) (by omega) (by omega) (by omega) (by decide +kernel) rfl (by omega) (by omega) (s1 n) (s1 n)
  have s5 : ∀ n, Szd r q bs m ws (n + 3) 5 2 := fun n => szd_op hne (one := 3) (two := 1) (by omega) (by omega) (by omega) (by decide +kernel) rfl (by omega) (by omega) (s3 n) (s1 (n + 1))
  have s7 : ∀ n, Szd r q bs m ws (n + 3) 7 2 := fun n => szd_op hne (one := 3) (two := 3) (by omega) (by omega) (by omega) (by decide +kernel) rfl (by omega) (by omega) (s3 n) (s3 n)
  have s9 : ∀ n, Szd r q bs m ws (n + 4) 9 3 := fun n => szd_op hne (one := 5) (two := 3) (by omega) (by omega) (by omega) (by decide +kernel) rfl (by omega) (by omega) (s5 n) (s3 (n + 1))
  have s13 : ∀ n, Szd r q bs m ws (n + 4) 13 3 := fun n => szd_op hne (one := 7) (two := 5) (by omega) (by omega) (by omega) (by decide +kernel) rfl (by omega) (by omega) (s7 n) (s5 n)
  have s19 : ∀ n, Szd r q bs m ws (n + 5) 19 4 := fun n => szd_op hne (one := 9) (two := 9) (by omega) (by omega) (by omega) (by decide +kernel) rfl (by omega) (by omega) (s9 n) (s9 n)
  refine ⟨szd_op hne (one := 19) (two := 19) (by omega) (by omega) (by omega) (by decide +kernel) rfl (by omega) (by omega) (s19 39) (s19 39), ?_⟩
  have := szd_if hne (s13 40)
  intro st hp hq
  refine Rn.of (this st hp hq) ?_
  rintro d s ⟨⟨t, a, b, c, e⟩, g⟩
  exact ⟨⟨t, a, b, by omega, e⟩, g⟩
end
end Pr
set_option Elab.async false
set_option linter.all false
set_option maxRecDepth 10000
namespace DL
open PySem PySem.Spec PyProof.Rows L2
theorem pdok_tup {ps : List PyData} {B n : Nat} (a : ∀ p ∈ ps, PdOk p B n) : PdOk (.tuple ps) (ps.length * (B + 2) + 3) (n + 1) := by
  have e : ps.map id = ps := List.map_id ps
  have a1 : PyData.canLayAll0 ps = true := by rw [← e]; exact lay_map fun d hd => (a d hd).lay
  have a2 : PyData.depthAll ps ≤ n := by rw [← e]; exact depth_map fun d hd => (a d hd).depth
  have a3 : PyData.showableAll ps = true := by rw [← e]; exact showable_map fun d hd => (a d hd).showable
  have es : PyData.shownAll ps = ps.map fun x => x.shown := by
    have := shown_map (g := id) (xs := ps)
    rw [e] at this
    exact this
  have a4 : ∀ t ∈ PyData.shownAll ps, t.length ≤ B := by
    rw [es]; intro t ht; obtain ⟨d, hd, rfl⟩ := List.mem_map.mp ht; exact (a d hd).len
  have a5 : ∀ t ∈ PyData.shownAll ps, PyData.strOk t = true := by
    rw [es]; intro t ht; obtain ⟨d, hd, rfl⟩ := List.mem_map.mp ht; exact (a d hd).ok
  have a6 : (PyData.shownAll ps).length = ps.length := by rw [es]; simp
  have e3 : (PyData.tuple ps).shown = PySem.tupleText (PyData.shownAll ps) := by rw [PyData.shown]
  have l1 := tupleText_le a4
  rw [a6] at l1
  exact ⟨by simp only [PyData.canLay0, a1], by simp only [PyData.depth]; omega, by rw [PyData.showable]; exact a3, by rw [e3]; exact l1, by rw [e3]; exact strOk_tupleText a5⟩
theorem PdOk.mono {p : PyData} {B n B' n' : Nat} (a : PdOk p B n) (hB : B ≤ B') (hn : n ≤ n') : PdOk p B' n' := ⟨a.lay, Nat.le_trans a.depth hn, a.showable, Nat.le_trans a.len hB, a.ok⟩
/-- the text of a term, a worth and a heap that is a list -/
theorem repr_mix {d : D} (hd : Shw d 32000 6) {w : Int} {h : List Int} (hw : Wo w) (hh : ∀ x ∈ h, Wo x) (hl : h.length ≤ 11) : ∃ x, PyData.strOk x = true ∧ ∀ (st : Sto) (q : Nat), rdL st q = some (h.map D.int) → bRepr [.tup [d, .int w, .ref q]] st = .ok (.str x) st := by
  obtain ⟨p1, e1, a1⟩ := hd
  obtain ⟨p2, e2, a2⟩ := wo_shw hw
  have e2' : some (PyData.int w) = some p2 := e2 fun _ => none
  cases e2'
  obtain ⟨ps, e3, _, a3⟩ := shw_tupP (ds := h.map D.int) (B := 3) (n := 0) (fun d hd => by obtain ⟨x, hx, rfl⟩ := List.mem_map.mp hd; exact wo_shw (hh x hx))
  have a := pdok_tup (ps := [p1, .int w, .list ps]) (B := 32000) (n := 6) (by
    intro p hp
    simp only [List.mem_cons, List.not_mem_nil, or_false] at hp
    rcases hp with rfl | rfl | rfl
    · exact a1
    · exact a2.mono (by omega) (by omega)
    · exact a3.mono (by rw [List.length_map]; omega) (by omega))
  have hz : (10000000 : Nat) ≤ sizeLine := by decide
  have sh : SeqAt.shaped (.tuple [p1, .int w, .list ps]) = true := by
    unfold SeqAt.shaped
    rw [Bool.and_eq_true, decide_eq_true_iff]
    exact ⟨a.lay, by have := a.depth; omega⟩
  have s2 : (PyData.tuple [p1, .int w, .list ps]).shown.length ≤ sizeLine := by have := a.len; simp at this; omega
  refine ⟨(PyData.tuple [p1, .int w, .list ps]).shown, a.ok, fun st q hq => ?_⟩
  have ex : toP st (.tup [d, .int w, .ref q]) = some (.tuple [p1, .int w, .list ps]) := by simp [toP, pd, pds, rdP, hq, e1, e2, e3]
  simp only [bRepr, ex, sh, a.showable, s2, and_self, if_true]
theorem Te.blind : ∀ t : Te, t.Ok ["word", "ties"] false → t.looks = false
  | .num _, _ => rfl
  | .bare u, h => by
    have h : u ∈ (["word", "ties"] : List Str) := h
    simp only [List.mem_cons, List.not_mem_nil, or_false] at h
    rcases h with rfl | rfl
    · decide +kernel
    · decide +kernel
  | .many _, h => by cases h.1
  | .op _ a b, h => by
    show (a.looks || b.looks) = false
    rw [blind a h.2.1, blind b h.2.2]; rfl
  | .ite c a b, h => by
    show (c.looks || a.looks || b.looks) = false
    rw [blind a h.2.1, blind b h.2.2, blind c h.1]; rfl
theorem p_reprD {d : D} {x : Str} (e : ∀ st, bRepr [d] st = .ok (.str x) st) {st : Sto} {Q : D → Sto → Prop} {E : Ex → Sto → Prop} : Rn (bRepr [d] st) Q E ↔ Q (.str x) st := by
  rw [e]; exact Iff.rfl
theorem eqv_strs : ∀ ws : List Str, PyData.eqvAll (ws.map PyData.str) (ws.map PyData.str) = true
  | [] => rfl
  | w :: r => by simp [PyData.eqvAll, PyData.eqv, eqv_strs r]
theorem oNe_strL {a b : Nat} {ws : List Str} {st : Sto} (h : ∀ w ∈ ws, PyData.strOk w = true) (ha : rdL st a = some (ws.map D.str)) (hb : rdL st b = some (ws.map D.str)) : oNe (.ref a) (.ref b) st = .ok (.bl false) st := by
  have e1 : ∀ c, rdL st c = some (ws.map D.str) → toP st (.ref c) = some (.list (ws.map PyData.str)) := fun c hc => by simp [toP, pd, rdP, hc, pds_strs]
  have e2 : SeqAt.shaped (.list (ws.map PyData.str)) = true := by
    unfold SeqAt.shaped
    rw [Bool.and_eq_true, decide_eq_true_iff]
    refine ⟨by simp only [PyData.canLay0, lay_strs h], ?_⟩
    have := depth_map (g := PyData.str) (k := 0) (xs := ws) fun x _ => Nat.le_refl _
    simp only [PyData.depth]
    omega
  have e3 : PyData.eqv (.list (ws.map PyData.str)) (.list (ws.map PyData.str)) = true := by simp only [PyData.eqv, eqv_strs]
  simp only [oNe, e1 a ha, e1 b hb, e2, e3, and_self, if_true, Bool.not_true]
theorem p_neLf {a b : Nat} {ws : List Str} {st : Sto} {Q : D → Sto → Prop} {E : Ex → Sto → Prop} (h : ∀ w ∈ ws, PyData.strOk w = true) (ha : rdL st a = some (ws.map D.str)) (hb : rdL st b = some (ws.map D.str)) : Rn (oNe (.ref a) (.ref b) st) Q E ↔ Q (.bl false) st := by
  rw [oNe_strL h ha hb]; exact Iff.rfl
end DL
namespace Pr
open PySem PySem.Spec PyProof.Rows L2 DL
theorem opl_leaf : ∀ w ∈ OPL, PyData.strOk w = true := by decide +kernel
theorem worth_rn {r : Nat} {st : Sto} (h : IsPool st r) : Rn (f_law_any_worth [.ref r] st) (fun d s => ∃ v, d = .int v ∧ Wo v ∧ Ev r st s) E0 := by
  obtain ⟨n, s, hn, e, g⟩ := any_worth_ok h
  exact Rn.eq e ⟨n, rfl, ⟨by omega, by omega⟩, g⟩
theorem name_turn {o : Str} (ho : o ∈ OPL) {a b : Int} (ha : Wo a) (hb : Wo b) {r q : Nat} {q2 : Option D} {st : Sto} {N T B E} (hN : N [some (.ref r), some (.ref q), q2, some (.str o), some (.int a), some (.int b)] st) :
    Rs (L1_law_ops_right [some (.ref r), some (.ref q), q2, some (.str o), some (.int a), some (.int b)] st) N T B E := by
  have ho := opl_ops o ho
  obtain ⟨e1, g, e2, e3⟩ := ops_call ho
  obtain ⟨x, hx, ex⟩ := repr1 (opV_ok (o := o) ha hb)
  simp only [rn_ok, rn_bind, rn_noEx, rn_and, rn_or, rn_not, rn_chain, rn_mB, rn_tand, rn_tor, rn_tnot, rn_if, rn_tup, rn_lst, rn_call, rn_fn, rn_m2, rn_m1, rn_cons, rn_nil, rn_c, rn_v0, rn_vs, rn_yes, rn_pNone, rn_pSome, rn_sl, rn_def, rn_meth, rn_methT, rn_callE, p_instI, rs_seq, rs_nil, rs_break, rs_retN, rs_ret, rs_expr, rs_if, rs_asg, rs_asg2, rs_par, pg_gN, pg_cons, pg_nil, pg_tup, pg_seqT, rs_for, rn_iVal, itm_t, rn_rng1, rn_rng2, rn_enum, br_t, br_f, p_add, p_addI, p_sub, p_mul, p_mulI, p_div, p_mod, p_neg, p_lt, p_ltT, p_le, p_gt, p_ge, p_eq, p_ne, p_addT, p_lenT, p_tupT, p_listT, p_max2, p_min2, p_abs, p_int, p_intB, p_is, p_isnot, p_isN, p_isnotN, p_slT, p_sumT, List.map_cons, List.map_nil, List.length_cons, List.length_nil, List.length_map, Nat.reduceAdd, Nat.reduceSub, Nat.zero_add, List.replicate_succ, List.replicate_zero, List.cons_append, List.nil_append, List.set_cons_zero, List.set_cons_succ, D.int.injEq, D.bl.injEq, D.tup.injEq, D.ref.injEq, D.str.injEq, exists_eq_left', exists_eq_left, List.cons.injEq, and_true, true_and, Option.some.injEq, sz_le, Nat.reduceLeDiff, wipeE, reduceCtorEq, false_and, and_false, exists_false, or_false, false_or, exists_const, decide_true, decide_false, Bool.not_true, Bool.not_false, Bool.false_eq_true, gOk, Int.reduceLT, Int.reduceLE, Int.reduceEq, Int.reduceGT, Int.reduceGE, Int.reduceAdd, Int.reduceSub, Int.reduceMul, if_true, if_false, and_self, e1]
  refine ⟨o, g, rfl, e2, ?_⟩
  simp only [e3 a b st ha hb, rn_ok, rn_bind, rn_noEx, rn_and, rn_or, rn_not, rn_chain, rn_mB, rn_tand, rn_tor, rn_tnot, rn_if, rn_tup, rn_lst, rn_call, rn_fn, rn_m2, rn_m1, rn_cons, rn_nil, rn_c, rn_v0, rn_vs, rn_yes, rn_pNone, rn_pSome, rn_sl, rn_def, rn_meth, rn_methT, rn_callE, p_instI, rs_seq, rs_nil, rs_break, rs_retN, rs_ret, rs_expr, rs_if, rs_asg, rs_asg2, rs_par, pg_gN, pg_cons, pg_nil, pg_tup, pg_seqT, rs_for, rn_iVal, itm_t, rn_rng1, rn_rng2, rn_enum, br_t, br_f, p_add, p_addI, p_sub, p_mul, p_mulI, p_div, p_mod, p_neg, p_lt, p_ltT, p_le, p_gt, p_ge, p_eq, p_ne, p_addT, p_lenT, p_tupT, p_listT, p_max2, p_min2, p_abs, p_int, p_intB, p_is, p_isnot, p_isN, p_isnotN, p_slT, p_sumT, List.map_cons, List.map_nil, List.length_cons, List.length_nil, List.length_map, Nat.reduceAdd, Nat.reduceSub, Nat.zero_add, List.replicate_succ, List.replicate_zero, List.cons_append, List.nil_append, List.set_cons_zero, List.set_cons_succ, D.int.injEq, D.bl.injEq, D.tup.injEq, D.ref.injEq, D.str.injEq, exists_eq_left', exists_eq_left, List.cons.injEq, and_true, true_and, Option.some.injEq, sz_le, Nat.reduceLeDiff, wipeE, reduceCtorEq, false_and, and_false, exists_false, or_false, false_or, exists_const, decide_true, decide_false, Bool.not_true, Bool.not_false, Bool.false_eq_true, gOk, Int.reduceLT, Int.reduceLE, Int.reduceEq, Int.reduceGT, Int.reduceGE, Int.reduceAdd, Int.reduceSub, Int.reduceMul, if_true, if_false, and_self, p_reprD ex]
  refine Rn.of (law_made_ok ho ha hb st) ?_
  rintro _ s ⟨rfl, rfl⟩
  simp only [p_reprD ex, p_neS hx, rn_ok, rn_bind, rn_noEx, rn_and, rn_or, rn_not, rn_chain, rn_mB, rn_tand, rn_tor, rn_tnot, rn_if, rn_tup, rn_lst, rn_call, rn_fn, rn_m2, rn_m1, rn_cons, rn_nil, rn_c, rn_v0, rn_vs, rn_yes, rn_pNone, rn_pSome, rn_sl, rn_def, rn_meth, rn_methT, rn_callE, p_instI, rs_seq, rs_nil, rs_break, rs_retN, rs_ret, rs_expr, rs_if, rs_asg, rs_asg2, rs_par, pg_gN, pg_cons, pg_nil, pg_tup, pg_seqT, rs_for, rn_iVal, itm_t, rn_rng1, rn_rng2, rn_enum, br_t, br_f, p_add, p_addI, p_sub, p_mul, p_mulI, p_div, p_mod, p_neg, p_lt, p_ltT, p_le, p_gt, p_ge, p_eq, p_ne, p_addT, p_lenT, p_tupT, p_listT, p_max2, p_min2, p_abs, p_int, p_intB, p_is, p_isnot, p_isN, p_isnotN, p_slT, p_sumT, List.map_cons, List.map_nil, List.length_cons, List.length_nil, List.length_map, Nat.reduceAdd, Nat.reduceSub, Nat.zero_add, List.replicate_succ, List.replicate_zero, List.cons_append, List.nil_append, List.set_cons_zero, List.set_cons_succ, D.int.injEq, D.bl.injEq, D.tup.injEq, D.ref.injEq, D.str.injEq, exists_eq_left', exists_eq_left, List.cons.injEq, and_true, true_and, Option.some.injEq, sz_le, Nat.reduceLeDiff, wipeE, reduceCtorEq, false_and, and_false, exists_false, or_false, false_or, exists_const, decide_true, decide_false, Bool.not_true, Bool.not_false, Bool.false_eq_true, gOk, Int.reduceLT, Int.reduceLE, Int.reduceEq, Int.reduceGT, Int.reduceGE, Int.reduceAdd, Int.reduceSub, Int.reduceMul, if_true, if_false, and_self, br_f]
  exact hN
theorem ops_right_ok {r : Nat} {st : Sto} (hp : IsPool st r) : Rn (f_law_ops_right [.ref r] st) (fun d s => d = .bl true ∧ Ev r st s) E0 := by
  have hr := hp.lt
  unfold f_law_ops_right b_law_ops_right
  simp only [rn_ok, rn_bind, rn_noEx, rn_and, rn_or, rn_not, rn_chain, rn_mB, rn_tand, rn_tor, rn_tnot, rn_if, rn_tup, rn_lst, rn_call, rn_fn, rn_m2, rn_m1, rn_cons, rn_nil, rn_c, rn_v0, rn_vs, rn_yes, rn_pNone, rn_pSome, rn_sl, rn_def, rn_meth, rn_methT, rn_callE, p_instI, rs_seq, rs_nil, rs_break, rs_retN, rs_ret, rs_expr, rs_if, rs_asg, rs_asg2, rs_par, pg_gN, pg_cons, pg_nil, pg_tup, pg_seqT, rs_for, rn_iVal, itm_t, rn_rng1, rn_rng2, rn_enum, br_t, br_f, p_add, p_addI, p_sub, p_mul, p_mulI, p_div, p_mod, p_neg, p_lt, p_ltT, p_le, p_gt, p_ge, p_eq, p_ne, p_addT, p_lenT, p_tupT, p_listT, p_max2, p_min2, p_abs, p_int, p_intB, p_is, p_isnot, p_isN, p_isnotN, p_slT, p_sumT, List.map_cons, List.map_nil, List.length_cons, List.length_nil, List.length_map, Nat.reduceAdd, Nat.reduceSub, Nat.zero_add, List.replicate_succ, List.replicate_zero, List.cons_append, List.nil_append, List.set_cons_zero, List.set_cons_succ, D.int.injEq, D.bl.injEq, D.tup.injEq, D.ref.injEq, D.str.injEq, exists_eq_left', exists_eq_left, List.cons.injEq, and_true, true_and, Option.some.injEq, sz_le, Nat.reduceLeDiff, wipeE, reduceCtorEq, false_and, and_false, exists_false, or_false, false_or, exists_const, decide_true, decide_false, Bool.not_true, Bool.not_false, Bool.false_eq_true, gOk, Int.reduceLT, Int.reduceLE, Int.reduceEq, Int.reduceGT, Int.reduceGE, Int.reduceAdd, Int.reduceSub, Int.reduceMul, if_true, if_false, and_self]
  refine New.of fun a s1 g1 ha _ _ la => ?_
  have la : rdL s1 a = some (OPL.map D.str) := la
  rw [sorted_ops]
  refine New.of fun b s2 g2 _ _ _ lb => ?_
  simp only [p_neLf opl_leaf lb (rdL_gr g2 la), rn_ok, rn_bind, rn_noEx, rn_and, rn_or, rn_not, rn_chain, rn_mB, rn_tand, rn_tor, rn_tnot, rn_if, rn_tup, rn_lst, rn_call, rn_fn, rn_m2, rn_m1, rn_cons, rn_nil, rn_c, rn_v0, rn_vs, rn_yes, rn_pNone, rn_pSome, rn_sl, rn_def, rn_meth, rn_methT, rn_callE, p_instI, rs_seq, rs_nil, rs_break, rs_retN, rs_ret, rs_expr, rs_if, rs_asg, rs_asg2, rs_par, pg_gN, pg_cons, pg_nil, pg_tup, pg_seqT, rs_for, rn_iVal, itm_t, rn_rng1, rn_rng2, rn_enum, br_t, br_f, p_add, p_addI, p_sub, p_mul, p_mulI, p_div, p_mod, p_neg, p_lt, p_ltT, p_le, p_gt, p_ge, p_eq, p_ne, p_addT, p_lenT, p_tupT, p_listT, p_max2, p_min2, p_abs, p_int, p_intB, p_is, p_isnot, p_isN, p_isnotN, p_slT, p_sumT, List.map_cons, List.map_nil, List.length_cons, List.length_nil, List.length_map, Nat.reduceAdd, Nat.reduceSub, Nat.zero_add, List.replicate_succ, List.replicate_zero, List.cons_append, List.nil_append, List.set_cons_zero, List.set_cons_succ, D.int.injEq, D.bl.injEq, D.tup.injEq, D.ref.injEq, D.str.injEq, exists_eq_left', exists_eq_left, List.cons.injEq, and_true, true_and, Option.some.injEq, sz_le, Nat.reduceLeDiff, wipeE, reduceCtorEq, false_and, and_false, exists_false, or_false, false_or, exists_const, decide_true, decide_false, Bool.not_true, Bool.not_false, Bool.false_eq_true, gOk, Int.reduceLT, Int.reduceLE, Int.reduceEq, Int.reduceGT, Int.reduceGE, Int.reduceAdd, Int.reduceSub, Int.reduceMul, if_true, if_false, and_self, br_f]
  have E2 := Ev.gr hp (g1.trans g2)
  refine ⟨by unfold Mid; omega, ?_⟩
  refine loop_wp (fun i e s => (∃ p2 p3 p4 p5, e = [some (.ref r), some (.ref a), p2, p3, p4, p5]) ∧ Ev r st s ∧ rdL s a = some (OPL.map D.str)) ⟨⟨_, _, _, _, rfl⟩, E2, rdL_gr g2 la⟩ (fun _ _ _ _ _ => trivial) ?_ ?_
  · rintro i e s hi ⟨⟨p2, p3, p4, p5, rfl⟩, E3, l3⟩
    rw [rngD_get hi]
    simp only [rn_ok, rn_bind, rn_noEx, rn_and, rn_or, rn_not, rn_chain, rn_mB, rn_tand, rn_tor, rn_tnot, rn_if, rn_tup, rn_lst, rn_call, rn_fn, rn_m2, rn_m1, rn_cons, rn_nil, rn_c, rn_v0, rn_vs, rn_yes, rn_pNone, rn_pSome, rn_sl, rn_def, rn_meth, rn_methT, rn_callE, p_instI, rs_seq, rs_nil, rs_break, rs_retN, rs_ret, rs_expr, rs_if, rs_asg, rs_asg2, rs_par, pg_gN, pg_cons, pg_nil, pg_tup, pg_seqT, rs_for, rn_iVal, itm_t, rn_rng1, rn_rng2, rn_enum, br_t, br_f, p_add, p_addI, p_sub, p_mul, p_mulI, p_div, p_mod, p_neg, p_lt, p_ltT, p_le, p_gt, p_ge, p_eq, p_ne, p_addT, p_lenT, p_tupT, p_listT, p_max2, p_min2, p_abs, p_int, p_intB, p_is, p_isnot, p_isN, p_isnotN, p_slT, p_sumT, List.map_cons, List.map_nil, List.length_cons, List.length_nil, List.length_map, Nat.reduceAdd, Nat.reduceSub, Nat.zero_add, List.replicate_succ, List.replicate_zero, List.cons_append, List.nil_append, List.set_cons_zero, List.set_cons_succ, D.int.injEq, D.bl.injEq, D.tup.injEq, D.ref.injEq, D.str.injEq, exists_eq_left', exists_eq_left, List.cons.injEq, and_true, true_and, Option.some.injEq, sz_le, Nat.reduceLeDiff, wipeE, reduceCtorEq, false_and, and_false, exists_false, or_false, false_or, exists_const, decide_true, decide_false, Bool.not_true, Bool.not_false, Bool.false_eq_true, gOk, Int.reduceLT, Int.reduceLE, Int.reduceEq, Int.reduceGT, Int.reduceGE, Int.reduceAdd, Int.reduceSub, Int.reduceMul, if_true, if_false, and_self]
    (refine Rn.of (worth_rn E3.pool) ?_; rintro _ s4 ⟨v, rfl, hv, g4⟩)
    have E4 := E3.trans g4
    (refine Rn.of (worth_rn E4.pool) ?_; rintro _ s5 ⟨u, rfl, hu, g5⟩)
    have E5 := E4.trans g5
    have l5 := g5.rdL (g4.rdL l3 (by omega)) (by omega)
    refine ⟨_, _, ⟨rfl, rfl⟩, ?_⟩
    simp only [itm_r l5]
    refine loop_wp (fun _ e s => s = s5 ∧ ∃ p2 p3, e = [some (.ref r), some (.ref a), p2, p3, some (.int v), some (.int u)]) ⟨rfl, _, _, rfl⟩ (fun i e s _ h => by obtain ⟨rfl, _⟩ := h; exact l5) ?_ ?_
    · rintro j e s hj ⟨rfl, p2, p3, rfl⟩
      have hj' : j < OPL.length := by simpa using hj
      rw [List.getElem_map]
      refine pg_gN.mpr ?_
      simp only [List.set_cons_succ, List.set_cons_zero]
      exact name_turn (List.getElem_mem hj') hv hu ⟨rfl, _, _, rfl⟩
    · rintro e s ⟨rfl, p2, p3, rfl⟩
      exact ⟨⟨_, _, _, _, rfl⟩, E5, l5⟩
  · rintro e s ⟨⟨p2, p3, p4, p5, rfl⟩, E3, l3⟩
    first | exact E3 | exact ⟨rfl, E3⟩ | exact ⟨trivial, E3⟩
end Pr
set_option Elab.async false
set_option linter.all false
set_option maxRecDepth 10000
namespace DL
open PySem PySem.Spec PyProof.Rows L2
theorem szd_few {t : Te} {bs : List Str} {m : Bool} {k : Nat} (h : t.Ok bs m) (hd : t.deep ≤ 5) (hs : t.size = k) (hk : k ≤ 40) : t.Good bs m := ⟨h, hd, by omega⟩
end DL
namespace Pr
open PySem PySem.Spec PyProof.Rows L2 DL
/-- which kind of term is drawn -/
def KindV (v : Nat) (bs : List Str) (m : Bool) : Prop := v = 0 ∧ bs = BF ∧ m = false ∨ v = 1 ∧ bs = BN ∧ m = true
theorem KindV.kind {v : Nat} {bs : List Str} {m : Bool} (h : KindV v bs m) : Kind bs m := by
  rcases h with ⟨_, a, b⟩ | ⟨_, a, b⟩
  · exact .inl ⟨a, b⟩
  · exact .inr ⟨a, b⟩
theorem KindV.term {v : Nat} {bs : List Str} {m : Bool} (h : KindV v bs m) {t : Te} (g : t.Good bs m) : Term t := h.kind.term g.ok g.deep g.size
theorem kindV (v : Nat) (h : v < 2) : ∃ bs m, KindV v bs m := by
  by_cases e : v = 0
  · exact ⟨_, _, .inl ⟨e, rfl, rfl⟩⟩
  · exact ⟨_, _, .inr ⟨by omega, rfl, rfl⟩⟩
theorem pool_rn (ns : List Int) (c k : Nat) (st : Sto) (hc : rdL st c = some (ns.map D.int)) : Rn (f_law_pool [.ref c, .int k] st) (fun d s => ∃ r, d = .ref r ∧ IsPool s r ∧ st.length ≤ r ∧ Gr st s) E0 := by
  obtain ⟨a, b, e⟩ := pool_spec ns c k st hc
  exact Rn.eq e ⟨_, rfl, ⟨a, b, 0, by simp⟩, Nat.le_refl _, List.prefix_append _ _⟩
theorem entry_rn {r v : Nat} {bs : List Str} {m : Bool} (hv : KindV v bs m) {e0 e1 e3 : Option D} {rest : List (Option D)} {st : Sto} (hp : IsPool st r) :
    Rn (mCallE fs_LS_law_any_first_law_any_next (m2 oIx (mLst (aCons (mC (.nam "_law_any_first")) (aCons (mC (.nam "_law_any_next")) aNil))) (mVar 4)) (aCons (mVar 2) aNil) (e0 :: e1 :: some (.ref r) :: e3 :: some (.int (v : Nat)) :: rest) st) (fun d s => (∃ t : Te, d = t.d ∧ t.Good bs m) ∧ Ev r st s) E0 := by
  rw [rn_callE]
  simp only [rn_ok, rn_bind, rn_noEx, rn_and, rn_or, rn_not, rn_chain, rn_mB, rn_tand, rn_tor, rn_tnot, rn_if, rn_tup, rn_lst, rn_call, rn_fn, rn_m2, rn_m1, rn_cons, rn_nil, rn_c, rn_v0, rn_vs, rn_yes, rn_pNone, rn_pSome, rn_sl, rn_def, rn_meth, rn_methT, rn_callE, p_instI, rs_seq, rs_nil, rs_break, rs_retN, rs_ret, rs_expr, rs_if, rs_asg, rs_asg2, rs_par, pg_gN, pg_cons, pg_nil, pg_tup, pg_seqT, rs_for, rn_iVal, itm_t, rn_rng1, rn_rng2, rn_enum, br_t, br_f, p_add, p_addI, p_sub, p_mul, p_mulI, p_div, p_mod, p_neg, p_lt, p_ltT, p_le, p_gt, p_ge, p_eq, p_ne, p_addT, p_lenT, p_tupT, p_listT, p_max2, p_min2, p_abs, p_int, p_intB, p_is, p_isnot, p_isN, p_isnotN, p_slT, p_sumT, List.map_cons, List.map_nil, List.length_cons, List.length_nil, List.length_map, Nat.reduceAdd, Nat.reduceSub, Nat.zero_add, List.replicate_succ, List.replicate_zero, List.cons_append, List.nil_append, List.set_cons_zero, List.set_cons_succ, D.int.injEq, D.bl.injEq, D.tup.injEq, D.ref.injEq, D.str.injEq, exists_eq_left', exists_eq_left, List.cons.injEq, and_true, true_and, Option.some.injEq, sz_le, Nat.reduceLeDiff, wipeE, reduceCtorEq, false_and, and_false, exists_false, or_false, false_or, exists_const, decide_true, decide_false, Bool.not_true, Bool.not_false, Bool.false_eq_true, gOk, Int.reduceLT, Int.reduceLE, Int.reduceEq, Int.reduceGT, Int.reduceGE, Int.reduceAdd, Int.reduceSub, Int.reduceMul, if_true, if_false, and_self]
  refine New.of fun a s1 g1 _ _ _ la => ?_
  have E1 := Ev.gr hp g1
  rcases hv with ⟨rfl, rfl, rfl⟩ | ⟨rfl, rfl, rfl⟩
  · have ix : L2.atI [D.nam "_law_any_first", .nam "_law_any_next"] ((0 : Nat) : Int) = some (.nam "_law_any_first") := rfl
    rw [p_ix la ix]
    refine ⟨_, f_law_any_first, rfl, rfl, ?_⟩
    obtain ⟨t, s, e, g, ht⟩ := any_first_ok E1.pool
    exact Rn.eq e ⟨⟨t, rfl, ht⟩, E1.trans g⟩
  · have ix : L2.atI [D.nam "_law_any_first", .nam "_law_any_next"] ((1 : Nat) : Int) = some (.nam "_law_any_next") := rfl
    rw [p_ix la ix]
    refine ⟨_, f_law_any_next, rfl, rfl, ?_⟩
    obtain ⟨t, s, e, g, ht⟩ := any_next_ok E1.pool
    exact Rn.eq e ⟨⟨t, rfl, ht⟩, E1.trans g⟩
def wsV (v : Nat) : List Str := if v = 0 then ["word", "ties"] else ["own", "ties", "sum", "least", "most", "many"]
theorem leaves_rn {v : Nat} (st : Sto) : Rn (f_law_leaves [.int (v : Nat)] st) (fun d s => (∃ q, d = .ref q ∧ st.length ≤ q ∧ rdL s q = some ((wsV v).map leafD)) ∧ Gr st s) E0 := by
  unfold f_law_leaves b_law_leaves
  simp only [rn_ok, rn_bind, rn_noEx, rn_and, rn_or, rn_not, rn_chain, rn_mB, rn_tand, rn_tor, rn_tnot, rn_if, rn_tup, rn_lst, rn_call, rn_fn, rn_m2, rn_m1, rn_cons, rn_nil, rn_c, rn_v0, rn_vs, rn_yes, rn_pNone, rn_pSome, rn_sl, rn_def, rn_meth, rn_methT, rn_callE, p_instI, rs_seq, rs_nil, rs_break, rs_retN, rs_ret, rs_expr, rs_if, rs_asg, rs_asg2, rs_par, pg_gN, pg_cons, pg_nil, pg_tup, pg_seqT, rs_for, rn_iVal, itm_t, rn_rng1, rn_rng2, rn_enum, br_t, br_f, p_add, p_addI, p_sub, p_mul, p_mulI, p_div, p_mod, p_neg, p_lt, p_ltT, p_le, p_gt, p_ge, p_eq, p_ne, p_addT, p_lenT, p_tupT, p_listT, p_max2, p_min2, p_abs, p_int, p_intB, p_is, p_isnot, p_isN, p_isnotN, p_slT, p_sumT, List.map_cons, List.map_nil, List.length_cons, List.length_nil, List.length_map, Nat.reduceAdd, Nat.reduceSub, Nat.zero_add, List.replicate_succ, List.replicate_zero, List.cons_append, List.nil_append, List.set_cons_zero, List.set_cons_succ, D.int.injEq, D.bl.injEq, D.tup.injEq, D.ref.injEq, D.str.injEq, exists_eq_left', exists_eq_left, List.cons.injEq, and_true, true_and, Option.some.injEq, sz_le, Nat.reduceLeDiff, wipeE, reduceCtorEq, false_and, and_false, exists_false, or_false, false_or, exists_const, decide_true, decide_false, Bool.not_true, Bool.not_false, Bool.false_eq_true, gOk, Int.reduceLT, Int.reduceLE, Int.reduceEq, Int.reduceGT, Int.reduceGE, Int.reduceAdd, Int.reduceSub, Int.reduceMul, if_true, if_false, and_self]
  refine Br.dec (fun h => ?_) fun h => ?_
  · refine New.of fun a s1 g1 ha _ _ la => ?_
    have hv : v = 0 := by omega
    subst hv
    exact ⟨⟨a, rfl, ha, la⟩, g1⟩
  · refine New.of fun a s1 g1 ha _ _ la => ?_
    have hv : ¬ v = 0 := by omega
    refine ⟨⟨a, rfl, ha, ?_⟩, g1⟩
    unfold wsV
    rw [if_neg hv]
    exact la
theorem sized_rn {r v : Nat} {bs : List Str} {m : Bool} (hv : KindV v bs m) {k : Nat} (hk : k = 39 ∨ k = 40) {q : Nat} (hne : q ≠ r) {st : Sto} (hp : IsPool st r) (hq : rdL st q = some ((wsV v).map leafD)) :
    Rn (f_law_sized 45 [.ref r, .ref q, .int (k : Nat)] st) (fun d s => (∃ t : Te, d = t.d ∧ t.Good bs m) ∧ Ev r st s) E0 := by
  have key : Szd r q bs m (wsV v) 45 39 5 ∧ Szd r q bs m (wsV v) 45 40 5 := by
    rcases hv with ⟨rfl, rfl, rfl⟩ | ⟨rfl, rfl, rfl⟩
    · exact szd_all hne bf_ok (by decide +kernel) (by decide +kernel) (by decide +kernel) (by decide +kernel)
    · exact szd_all hne bn_ok (by decide +kernel) (by decide +kernel) (by decide +kernel) (by decide +kernel)
  rcases hk with rfl | rfl
  · refine Rn.of (key.1 st hp hq) ?_
    rintro d s ⟨⟨t, a, b, c, e⟩, g⟩
    exact ⟨⟨t, a, szd_few b c e (by omega)⟩, g⟩
  · refine Rn.of (key.2 st hp hq) ?_
    rintro d s ⟨⟨t, a, b, c, e⟩, g⟩
    exact ⟨⟨t, a, szd_few b c e (by omega)⟩, g⟩
theorem heap_rn {r : Nat} {e0 e1 e3 e4 e5 e6 e7 e8 e9 e10 e11 e12 : Option D} {st : Sto} (hp : IsPool st r) : Rn (mLc (iRng1 (aCons (mCall f_law_take (aCons (mVar 2) (aCons (mC (.int 12)) aNil))) aNil)) (gN 11) mYes E1_law [11] [e0, e1, some (.ref r), e3, e4, e5, e6, e7, e8, e9, e10, e11, e12] st) (fun d s => (∃ (q : Nat) (h : List Int), d = .ref q ∧ rdL s q = some (h.map D.int) ∧ st.length ≤ q ∧ (∀ x ∈ h, Wo x) ∧ h.length ≤ 11) ∧ Ev r st s) E0 := by
  refine draw_rng r D.int Wo ?_
  simp only [rn_ok, rn_bind, rn_noEx, rn_and, rn_or, rn_not, rn_chain, rn_mB, rn_tand, rn_tor, rn_tnot, rn_if, rn_tup, rn_lst, rn_call, rn_fn, rn_m2, rn_m1, rn_cons, rn_nil, rn_c, rn_v0, rn_vs, rn_yes, rn_pNone, rn_pSome, rn_sl, rn_def, rn_meth, rn_methT, rn_callE, p_instI, rs_seq, rs_nil, rs_break, rs_retN, rs_ret, rs_expr, rs_if, rs_asg, rs_asg2, rs_par, pg_gN, pg_cons, pg_nil, pg_tup, pg_seqT, rs_for, rn_iVal, itm_t, rn_rng1, rn_rng2, rn_enum, br_t, br_f, p_add, p_addI, p_sub, p_mul, p_mulI, p_div, p_mod, p_neg, p_lt, p_ltT, p_le, p_gt, p_ge, p_eq, p_ne, p_addT, p_lenT, p_tupT, p_listT, p_max2, p_min2, p_abs, p_int, p_intB, p_is, p_isnot, p_isN, p_isnotN, p_slT, p_sumT, List.map_cons, List.map_nil, List.length_cons, List.length_nil, List.length_map, Nat.reduceAdd, Nat.reduceSub, Nat.zero_add, List.replicate_succ, List.replicate_zero, List.cons_append, List.nil_append, List.set_cons_zero, List.set_cons_succ, D.int.injEq, D.bl.injEq, D.tup.injEq, D.ref.injEq, D.str.injEq, exists_eq_left', exists_eq_left, List.cons.injEq, and_true, true_and, Option.some.injEq, sz_le, Nat.reduceLeDiff, wipeE, reduceCtorEq, false_and, and_false, exists_false, or_false, false_or, exists_const, decide_true, decide_false, Bool.not_true, Bool.not_false, Bool.false_eq_true, gOk, Int.reduceLT, Int.reduceLE, Int.reduceEq, Int.reduceGT, Int.reduceGE, Int.reduceAdd, Int.reduceSub, Int.reduceMul, if_true, if_false, and_self]
  (refine Rn.of (take_rn (m := 12) hp (by omega) (by omega)) ?_; rintro _ s3 ⟨v, rfl, hv, g3⟩)
  refine ⟨v, rfl, by omega, g3.pool, fun i hi s gs => ?_, fun h p s4 g4 hp4 _ _ l4 hl hh => ?_⟩
  · (refine Rn.of (worth_rn gs.pool) ?_; rintro _ s4 ⟨w, rfl, hw, g4⟩)
    exact ⟨⟨w, rfl, hw⟩, g4⟩
  · have := g3.len
    exact ⟨⟨p, h, rfl, l4, by omega, hh, by omega⟩, g3.trans g4⟩
end Pr
set_option Elab.async false
set_option linter.all false
set_option maxRecDepth 10000
namespace Pr
open PySem PySem.Spec PyProof.Rows L2 DL
/-- what stands between the turns -/
def Env3 (k r : Nat) (e : En) : Prop := ∃ p3 p4 p5 p6 p7 p8 p9 p10 p11 p12, e = [some (.ref 0), some (.int (k : Nat)), some (.ref r), p3, p4, p5, p6, p7, p8, p9, p10, p11, p12]
theorem law_turn {k r : Nat} {e : En} {st : Sto} (he : Env3 k r e) (hp : IsPool st r) {B E} :
    Rs (L1_law e st) (fun e s => Env3 k r e ∧ Ev r st s) (fun d _ => d = .bl true) B E := by
  obtain ⟨p3, p4, p5, p6, p7, p8, p9, p10, p11, p12, rfl⟩ := he
  rw [rs_seq]
  refine Rs.weak (N := fun e s => ∃ v : Nat, v < 2 ∧ e = [some (.ref 0), some (.int (k : Nat)), some (.ref r), p3, some (.int (v : Nat)), p5, p6, p7, p8, p9, p10, p11, p12] ∧ Ev r st s) (T := fun _ _ => False) ?_ ?_ (fun _ _ h => h.elim)
  · simp only [rn_ok, rn_bind, rn_noEx, rn_and, rn_or, rn_not, rn_chain, rn_mB, rn_tand, rn_tor, rn_tnot, rn_if, rn_tup, rn_lst, rn_call, rn_fn, rn_m2, rn_m1, rn_cons, rn_nil, rn_c, rn_v0, rn_vs, rn_yes, rn_pNone, rn_pSome, rn_sl, rn_def, rn_meth, rn_methT, rn_callE, p_instI, rs_seq, rs_nil, rs_break, rs_retN, rs_ret, rs_expr, rs_if, rs_asg, rs_asg2, rs_par, pg_gN, pg_cons, pg_nil, pg_tup, pg_seqT, rs_for, rn_iVal, itm_t, rn_rng1, rn_rng2, rn_enum, br_t, br_f, p_add, p_addI, p_sub, p_mul, p_mulI, p_div, p_mod, p_neg, p_lt, p_ltT, p_le, p_gt, p_ge, p_eq, p_ne, p_addT, p_lenT, p_tupT, p_listT, p_max2, p_min2, p_abs, p_int, p_intB, p_is, p_isnot, p_isN, p_isnotN, p_slT, p_sumT, List.map_cons, List.map_nil, List.length_cons, List.length_nil, List.length_map, Nat.reduceAdd, Nat.reduceSub, Nat.zero_add, List.replicate_succ, List.replicate_zero, List.cons_append, List.nil_append, List.set_cons_zero, List.set_cons_succ, D.int.injEq, D.bl.injEq, D.tup.injEq, D.ref.injEq, D.str.injEq, exists_eq_left', exists_eq_left, List.cons.injEq, and_true, true_and, Option.some.injEq, sz_le, Nat.reduceLeDiff, wipeE, reduceCtorEq, false_and, and_false, exists_false, or_false, false_or, exists_const, decide_true, decide_false, Bool.not_true, Bool.not_false, Bool.false_eq_true, gOk, Int.reduceLT, Int.reduceLE, Int.reduceEq, Int.reduceGT, Int.reduceGE, Int.reduceAdd, Int.reduceSub, Int.reduceMul, if_true, if_false, and_self]
    (refine Rn.of (take_rn (m := 2) hp (by omega) (by omega)) ?_; rintro _ s1 ⟨v, rfl, hv, g1⟩)
    exact ⟨v, by omega, rfl, g1⟩
  rintro e s1 ⟨v, hv2, rfl, E1⟩
  obtain ⟨bs, m, hv⟩ := kindV v hv2
  rw [rs_seq]
  refine Rs.weak (N := fun e s => ∃ t : Te, t.Good bs m ∧ e = [some (.ref 0), some (.int (k : Nat)), some (.ref r), p3, some (.int (v : Nat)), some t.d, p6, p7, p8, p9, p10, p11, p12] ∧ Ev r st s) (T := fun _ _ => False) ?_ ?_ (fun _ _ h => h.elim)
  · rw [rs_asg]
    refine Rn.of (entry_rn hv E1.pool) ?_
    rintro _ s2 ⟨⟨t, rfl, ht⟩, g2⟩
    exact ⟨t, ht, rfl, E1.trans g2⟩
  rintro e s2 ⟨t0, ht0, rfl, E2⟩
  rw [rs_seq]
  refine Rs.weak (N := fun e s => ∃ t : Te, t.Good bs m ∧ e = [some (.ref 0), some (.int (k : Nat)), some (.ref r), p3, some (.int (v : Nat)), some t.d, p6, p7, p8, p9, p10, p11, p12] ∧ Ev r st s) (T := fun _ _ => False) ?_ ?_ (fun _ _ h => h.elim)
  · simp only [rn_ok, rn_bind, rn_noEx, rn_and, rn_or, rn_not, rn_chain, rn_mB, rn_tand, rn_tor, rn_tnot, rn_if, rn_tup, rn_lst, rn_call, rn_fn, rn_m2, rn_m1, rn_cons, rn_nil, rn_c, rn_v0, rn_vs, rn_yes, rn_pNone, rn_pSome, rn_sl, rn_def, rn_meth, rn_methT, rn_callE, p_instI, rs_seq, rs_nil, rs_break, rs_retN, rs_ret, rs_expr, rs_if, rs_asg, rs_asg2, rs_par, pg_gN, pg_cons, pg_nil, pg_tup, pg_seqT, rs_for, rn_iVal, itm_t, rn_rng1, rn_rng2, rn_enum, br_t, br_f, p_add, p_addI, p_sub, p_mul, p_mulI, p_div, p_mod, p_neg, p_lt, p_ltT, p_le, p_gt, p_ge, p_eq, p_ne, p_addT, p_lenT, p_tupT, p_listT, p_max2, p_min2, p_abs, p_int, p_intB, p_is, p_isnot, p_isN, p_isnotN, p_slT, p_sumT, List.map_cons, List.map_nil, List.length_cons, List.length_nil, List.length_map, Nat.reduceAdd, Nat.reduceSub, Nat.zero_add, List.replicate_succ, List.replicate_zero, List.cons_append, List.nil_append, List.set_cons_zero, List.set_cons_succ, D.int.injEq, D.bl.injEq, D.tup.injEq, D.ref.injEq, D.str.injEq, exists_eq_left', exists_eq_left, List.cons.injEq, and_true, true_and, Option.some.injEq, sz_le, Nat.reduceLeDiff, wipeE, reduceCtorEq, false_and, and_false, exists_false, or_false, false_or, exists_const, decide_true, decide_false, Bool.not_true, Bool.not_false, Bool.false_eq_true, gOk, Int.reduceLT, Int.reduceLE, Int.reduceEq, Int.reduceGT, Int.reduceGE, Int.reduceAdd, Int.reduceSub, Int.reduceMul, if_true, if_false, and_self]
    (refine Rn.of (take_rn (m := 3) E2.pool (by omega) (by omega)) ?_; rintro _ s3 ⟨u, rfl, hu, g3⟩)
    have E3 := E2.trans g3
    simp only [rn_ok, rn_bind, rn_noEx, rn_and, rn_or, rn_not, rn_chain, rn_mB, rn_tand, rn_tor, rn_tnot, rn_if, rn_tup, rn_lst, rn_call, rn_fn, rn_m2, rn_m1, rn_cons, rn_nil, rn_c, rn_v0, rn_vs, rn_yes, rn_pNone, rn_pSome, rn_sl, rn_def, rn_meth, rn_methT, rn_callE, p_instI, rs_seq, rs_nil, rs_break, rs_retN, rs_ret, rs_expr, rs_if, rs_asg, rs_asg2, rs_par, pg_gN, pg_cons, pg_nil, pg_tup, pg_seqT, rs_for, rn_iVal, itm_t, rn_rng1, rn_rng2, rn_enum, br_t, br_f, p_add, p_addI, p_sub, p_mul, p_mulI, p_div, p_mod, p_neg, p_lt, p_ltT, p_le, p_gt, p_ge, p_eq, p_ne, p_addT, p_lenT, p_tupT, p_listT, p_max2, p_min2, p_abs, p_int, p_intB, p_is, p_isnot, p_isN, p_isnotN, p_slT, p_sumT, List.map_cons, List.map_nil, List.length_cons, List.length_nil, List.length_map, Nat.reduceAdd, Nat.reduceSub, Nat.zero_add, List.replicate_succ, List.replicate_zero, List.cons_append, List.nil_append, List.set_cons_zero, List.set_cons_succ, D.int.injEq, D.bl.injEq, D.tup.injEq, D.ref.injEq, D.str.injEq, exists_eq_left', exists_eq_left, List.cons.injEq, and_true, true_and, Option.some.injEq, sz_le, Nat.reduceLeDiff, wipeE, reduceCtorEq, false_and, and_false, exists_false, or_false, false_or, exists_const, decide_true, decide_false, Bool.not_true, Bool.not_false, Bool.false_eq_true, gOk, Int.reduceLT, Int.reduceLE, Int.reduceEq, Int.reduceGT, Int.reduceGE, Int.reduceAdd, Int.reduceSub, Int.reduceMul, if_true, if_false, and_self]
    refine Br.dec (fun _ => ?_) fun _ => ⟨t0, ht0, rfl, E3⟩
    refine Rn.of (leaves_rn s3) ?_
    rintro _ s4 ⟨⟨q, rfl, hq, lq⟩, g4⟩
    have E4 := E3.trans (Ev.gr E3.pool g4)
    have := E3.pool.lt
    refine Rn.of (take_rn (m := 2) E4.pool (by omega) (by omega)) ?_
    rintro _ s5 ⟨x, rfl, hx, g5⟩
    have ek : (39 : Int) + (x : Int) = ((39 + x : Nat) : Int) := by omega
    rw [p_add, ek]
    refine Rn.of (sized_rn hv (k := 39 + x) (by omega) (q := q) (by omega) g5.pool (g5.rdL lq (by omega))) ?_
    rintro _ s6 ⟨⟨t, rfl, ht⟩, g6⟩
    exact ⟨t, ht, rfl, (E4.trans g5).trans g6⟩
  rintro e s3 ⟨t, ht, rfl, E3⟩
  rw [rs_seq]
  refine Rs.weak (N := fun e s => ∃ (w : Int) (q : Nat) (h : List Int), Wo w ∧ (∀ x ∈ h, Wo x) ∧ h.length ≤ 11 ∧ rdL s q = some (h.map D.int) ∧ r < q ∧ e = [some (.ref 0), some (.int (k : Nat)), some (.ref r), p3, some (.int (v : Nat)), some t.d, p6, p7, p8, some (.int w), some (.ref q), p11, p12] ∧ Ev r st s) (T := fun _ _ => False) ?_ ?_ (fun _ _ h => h.elim)
  · simp only [rn_ok, rn_bind, rn_noEx, rn_and, rn_or, rn_not, rn_chain, rn_mB, rn_tand, rn_tor, rn_tnot, rn_if, rn_tup, rn_lst, rn_call, rn_fn, rn_m2, rn_m1, rn_cons, rn_nil, rn_c, rn_v0, rn_vs, rn_yes, rn_pNone, rn_pSome, rn_sl, rn_def, rn_meth, rn_methT, rn_callE, p_instI, rs_seq, rs_nil, rs_break, rs_retN, rs_ret, rs_expr, rs_if, rs_asg, rs_asg2, rs_par, pg_gN, pg_cons, pg_nil, pg_tup, pg_seqT, rs_for, rn_iVal, itm_t, rn_rng1, rn_rng2, rn_enum, br_t, br_f, p_add, p_addI, p_sub, p_mul, p_mulI, p_div, p_mod, p_neg, p_lt, p_ltT, p_le, p_gt, p_ge, p_eq, p_ne, p_addT, p_lenT, p_tupT, p_listT, p_max2, p_min2, p_abs, p_int, p_intB, p_is, p_isnot, p_isN, p_isnotN, p_slT, p_sumT, List.map_cons, List.map_nil, List.length_cons, List.length_nil, List.length_map, Nat.reduceAdd, Nat.reduceSub, Nat.zero_add, List.replicate_succ, List.replicate_zero, List.cons_append, List.nil_append, List.set_cons_zero, List.set_cons_succ, D.int.injEq, D.bl.injEq, D.tup.injEq, D.ref.injEq, D.str.injEq, exists_eq_left', exists_eq_left, List.cons.injEq, and_true, true_and, Option.some.injEq, sz_le, Nat.reduceLeDiff, wipeE, reduceCtorEq, false_and, and_false, exists_false, or_false, false_or, exists_const, decide_true, decide_false, Bool.not_true, Bool.not_false, Bool.false_eq_true, gOk, Int.reduceLT, Int.reduceLE, Int.reduceEq, Int.reduceGT, Int.reduceGE, Int.reduceAdd, Int.reduceSub, Int.reduceMul, if_true, if_false, and_self]
    (refine Rn.of (worth_rn E3.pool) ?_; rintro _ s4 ⟨w, rfl, hw, g4⟩)
    have E4 := E3.trans g4
    refine Rn.of (heap_rn E4.pool) ?_
    rintro _ s5 ⟨⟨q, h, rfl, lq, hq, hh, hl⟩, g5⟩
    have := E4.pool.lt
    exact ⟨_, _, ⟨rfl, rfl⟩, w, q, h, hw, hh, hl, lq, by omega, ⟨rfl, rfl⟩, E4.trans g5⟩
  rintro e s4 ⟨w, q, h, hw, hh, hl, lq, hrq, rfl, E4⟩
  have hT := hv.term ht
  have hb := hv.kind.bare
  have hev : Wo (t.ev w h) := hT.ev_ok hw hh hl
  obtain ⟨x1, hx1, ex1⟩ := repr1 hev
  have hsh : Shw t.d 32000 6 := by
    rcases hv with ⟨_, rfl, rfl⟩ | ⟨_, rfl, rfl⟩
    · exact shw_good (by decide +kernel) ht
    · exact shw_good (by decide +kernel) ht
  obtain ⟨x2, hx2, ex2⟩ := repr_mix hsh hw hh hl
  have p_mix : ∀ {s : Sto} {Q : D → Sto → Prop} {E : Ex → Sto → Prop}, rdL s q = some (h.map D.int) → (Rn (bRepr [.tup [t.d, .int w, .ref q]] s) Q E ↔ Q (.str x2) s) := fun hq => by rw [ex2 _ _ hq]; exact Iff.rfl
  simp only [rn_ok, rn_bind, rn_noEx, rn_and, rn_or, rn_not, rn_chain, rn_mB, rn_tand, rn_tor, rn_tnot, rn_if, rn_tup, rn_lst, rn_call, rn_fn, rn_m2, rn_m1, rn_cons, rn_nil, rn_c, rn_v0, rn_vs, rn_yes, rn_pNone, rn_pSome, rn_sl, rn_def, rn_meth, rn_methT, rn_callE, p_instI, rs_seq, rs_nil, rs_break, rs_retN, rs_ret, rs_expr, rs_if, rs_asg, rs_asg2, rs_par, pg_gN, pg_cons, pg_nil, pg_tup, pg_seqT, rs_for, rn_iVal, itm_t, rn_rng1, rn_rng2, rn_enum, br_t, br_f, p_add, p_addI, p_sub, p_mul, p_mulI, p_div, p_mod, p_neg, p_lt, p_ltT, p_le, p_gt, p_ge, p_eq, p_ne, p_addT, p_lenT, p_tupT, p_listT, p_max2, p_min2, p_abs, p_int, p_intB, p_is, p_isnot, p_isN, p_isnotN, p_slT, p_sumT, List.map_cons, List.map_nil, List.length_cons, List.length_nil, List.length_map, Nat.reduceAdd, Nat.reduceSub, Nat.zero_add, List.replicate_succ, List.replicate_zero, List.cons_append, List.nil_append, List.set_cons_zero, List.set_cons_succ, D.int.injEq, D.bl.injEq, D.tup.injEq, D.ref.injEq, D.str.injEq, exists_eq_left', exists_eq_left, List.cons.injEq, and_true, true_and, Option.some.injEq, sz_le, Nat.reduceLeDiff, wipeE, reduceCtorEq, false_and, and_false, exists_false, or_false, false_or, exists_const, decide_true, decide_false, Bool.not_true, Bool.not_false, Bool.false_eq_true, gOk, Int.reduceLT, Int.reduceLE, Int.reduceEq, Int.reduceGT, Int.reduceGE, Int.reduceAdd, Int.reduceSub, Int.reduceMul, if_true, if_false, and_self]
  refine Rn.of (law_value_ok hb hw hh hl t ht.ok 45 q s4 lq (by have := ht.deep; omega)) ?_
  rintro _ s5 ⟨rfl, g5⟩
  have l5 := rdL_gr g5 lq
  simp only [p_reprD ex1, p_mix l5, p_tuple l5]
  refine Rn.of (comes_rn hw hh hl hT s5) ?_
  rintro _ s6 ⟨rfl, g6⟩
  have l6 := rdL_gr g6 l5
  have E6 : Ev r st s6 := E4.trans (Ev.gr E4.pool (g5.trans g6))
  refine Rn.of (law_mixed_ok E6.pool l6 hl) ?_
  rintro _ s7 ⟨⟨h', rfl, pm⟩, g7⟩
  have hh' : ∀ x ∈ h', Wo x := fun x hx => hh x (pm.mem_iff.mpr hx)
  have hl' : h'.length ≤ 11 := by rw [← pm.length_eq]; exact hl
  have l7 := g7.rdL l6 (by omega)
  refine Rn.of (comes_rn hw hh' hl' hT s7) ?_
  rintro _ s8 ⟨rfl, g8⟩
  rw [← Te.ev_perm pm t]
  have l8 := rdL_gr g8 l7
  have E8 : Ev r st s8 := (E6.trans g7).trans (Ev.gr g7.pool g8)
  refine New.of fun a s9 g9 _ _ _ la => ?_
  have la : rdL s9 a = some ([t.ev w h, t.ev w h].map D.int) := la
  refine lc_map [t.ev w h, t.ev w h] D.int (fun _ => D.str x1) ?_
  simp only [rn_ok, rn_bind, rn_noEx, rn_and, rn_or, rn_not, rn_chain, rn_mB, rn_tand, rn_tor, rn_tnot, rn_if, rn_tup, rn_lst, rn_call, rn_fn, rn_m2, rn_m1, rn_cons, rn_nil, rn_c, rn_v0, rn_vs, rn_yes, rn_pNone, rn_pSome, rn_sl, rn_def, rn_meth, rn_methT, rn_callE, p_instI, rs_seq, rs_nil, rs_break, rs_retN, rs_ret, rs_expr, rs_if, rs_asg, rs_asg2, rs_par, pg_gN, pg_cons, pg_nil, pg_tup, pg_seqT, rs_for, rn_iVal, itm_t, rn_rng1, rn_rng2, rn_enum, br_t, br_f, p_add, p_addI, p_sub, p_mul, p_mulI, p_div, p_mod, p_neg, p_lt, p_ltT, p_le, p_gt, p_ge, p_eq, p_ne, p_addT, p_lenT, p_tupT, p_listT, p_max2, p_min2, p_abs, p_int, p_intB, p_is, p_isnot, p_isN, p_isnotN, p_slT, p_sumT, List.map_cons, List.map_nil, List.length_cons, List.length_nil, List.length_map, Nat.reduceAdd, Nat.reduceSub, Nat.zero_add, List.replicate_succ, List.replicate_zero, List.cons_append, List.nil_append, List.set_cons_zero, List.set_cons_succ, D.int.injEq, D.bl.injEq, D.tup.injEq, D.ref.injEq, D.str.injEq, exists_eq_left', exists_eq_left, List.cons.injEq, and_true, true_and, Option.some.injEq, sz_le, Nat.reduceLeDiff, wipeE, reduceCtorEq, false_and, and_false, exists_false, or_false, false_or, exists_const, decide_true, decide_false, Bool.not_true, Bool.not_false, Bool.false_eq_true, gOk, Int.reduceLT, Int.reduceLE, Int.reduceEq, Int.reduceGT, Int.reduceGE, Int.reduceAdd, Int.reduceSub, Int.reduceMul, if_true, if_false, and_self, itm_r la]
  refine ⟨la, fun x hx s gs => ?_, fun b s10 g10 _ _ _ lb => ?_⟩
  · have e : x = t.ev w h := by simpa using hx
    subst e
    rw [p_reprD ex1]
    exact ⟨rfl, List.prefix_refl _⟩
  have lb : rdL s10 b = some ([x1, x1].map D.str) := lb
  refine New.of fun c s11 g11 _ _ _ lc => ?_
  have lc : rdL s11 c = some ([x1, x1].map D.str) := lc
  have l11 := rdL_gr (g9.trans (g10.trans g11)) l8
  have hx11 : ∀ y ∈ [x1, x1], PyData.strOk y = true := fun y hy => by
    have e : y = x1 := by simpa using hy
    rw [e]; exact hx1
  simp only [p_neLf hx11 (rdL_gr g11 lb) lc, rn_ok, rn_bind, rn_noEx, rn_and, rn_or, rn_not, rn_chain, rn_mB, rn_tand, rn_tor, rn_tnot, rn_if, rn_tup, rn_lst, rn_call, rn_fn, rn_m2, rn_m1, rn_cons, rn_nil, rn_c, rn_v0, rn_vs, rn_yes, rn_pNone, rn_pSome, rn_sl, rn_def, rn_meth, rn_methT, rn_callE, p_instI, rs_seq, rs_nil, rs_break, rs_retN, rs_ret, rs_expr, rs_if, rs_asg, rs_asg2, rs_par, pg_gN, pg_cons, pg_nil, pg_tup, pg_seqT, rs_for, rn_iVal, itm_t, rn_rng1, rn_rng2, rn_enum, br_t, br_f, p_add, p_addI, p_sub, p_mul, p_mulI, p_div, p_mod, p_neg, p_lt, p_ltT, p_le, p_gt, p_ge, p_eq, p_ne, p_addT, p_lenT, p_tupT, p_listT, p_max2, p_min2, p_abs, p_int, p_intB, p_is, p_isnot, p_isN, p_isnotN, p_slT, p_sumT, List.map_cons, List.map_nil, List.length_cons, List.length_nil, List.length_map, Nat.reduceAdd, Nat.reduceSub, Nat.zero_add, List.replicate_succ, List.replicate_zero, List.cons_append, List.nil_append, List.set_cons_zero, List.set_cons_succ, D.int.injEq, D.bl.injEq, D.tup.injEq, D.ref.injEq, D.str.injEq, exists_eq_left', exists_eq_left, List.cons.injEq, and_true, true_and, Option.some.injEq, sz_le, Nat.reduceLeDiff, wipeE, reduceCtorEq, false_and, and_false, exists_false, or_false, false_or, exists_const, decide_true, decide_false, Bool.not_true, Bool.not_false, Bool.false_eq_true, gOk, Int.reduceLT, Int.reduceLE, Int.reduceEq, Int.reduceGT, Int.reduceGE, Int.reduceAdd, Int.reduceSub, Int.reduceMul, if_true, if_false, and_self, br_f, p_mix l11, p_neS hx2]
  have E11 : Ev r st s11 := E8.trans (Ev.gr E8.pool (g9.trans (g10.trans g11)))
  refine Br.dec (fun hz => ?_) fun hz => ?_
  · have hv0 : v = 0 := by omega
    simp only [p_len l11, List.length_map]
    have hbl : t.looks = false := by
      rcases hv with ⟨_, rfl, rfl⟩ | ⟨e, _, _⟩
      · exact Te.blind t ht.ok
      · omega
    rw [p_repT (by omega) (by omega), Int.toNat_natCast]
    have eh : D.tup (List.replicate h.length (D.int 0)) = .tup ((List.replicate h.length (0 : Int)).map D.int) := by simp
    rw [eh]
    refine Rn.of (comes_rn (h := List.replicate h.length (0 : Int)) hw (fun x hx => by rw [List.eq_of_mem_replicate hx]; exact ⟨by omega, by omega⟩) (by simpa using hl) hT s11) ?_
    rintro _ s12 ⟨rfl, g12⟩
    have e := Te.ev_heap (w := w) (h := List.replicate h.length (0 : Int)) (h' := h) hb (by simp) t ht.ok hbl
    rw [e]
    simp only [p_reprD ex1, p_neS hx1, rn_ok, rn_bind, rn_noEx, rn_and, rn_or, rn_not, rn_chain, rn_mB, rn_tand, rn_tor, rn_tnot, rn_if, rn_tup, rn_lst, rn_call, rn_fn, rn_m2, rn_m1, rn_cons, rn_nil, rn_c, rn_v0, rn_vs, rn_yes, rn_pNone, rn_pSome, rn_sl, rn_def, rn_meth, rn_methT, rn_callE, p_instI, rs_seq, rs_nil, rs_break, rs_retN, rs_ret, rs_expr, rs_if, rs_asg, rs_asg2, rs_par, pg_gN, pg_cons, pg_nil, pg_tup, pg_seqT, rs_for, rn_iVal, itm_t, rn_rng1, rn_rng2, rn_enum, br_t, br_f, p_add, p_addI, p_sub, p_mul, p_mulI, p_div, p_mod, p_neg, p_lt, p_ltT, p_le, p_gt, p_ge, p_eq, p_ne, p_addT, p_lenT, p_tupT, p_listT, p_max2, p_min2, p_abs, p_int, p_intB, p_is, p_isnot, p_isN, p_isnotN, p_slT, p_sumT, List.map_cons, List.map_nil, List.length_cons, List.length_nil, List.length_map, Nat.reduceAdd, Nat.reduceSub, Nat.zero_add, List.replicate_succ, List.replicate_zero, List.cons_append, List.nil_append, List.set_cons_zero, List.set_cons_succ, D.int.injEq, D.bl.injEq, D.tup.injEq, D.ref.injEq, D.str.injEq, exists_eq_left', exists_eq_left, List.cons.injEq, and_true, true_and, Option.some.injEq, sz_le, Nat.reduceLeDiff, wipeE, reduceCtorEq, false_and, and_false, exists_false, or_false, false_or, exists_const, decide_true, decide_false, Bool.not_true, Bool.not_false, Bool.false_eq_true, gOk, Int.reduceLT, Int.reduceLE, Int.reduceEq, Int.reduceGT, Int.reduceGE, Int.reduceAdd, Int.reduceSub, Int.reduceMul, if_true, if_false, and_self, br_f]
    exact ⟨⟨_, _, _, _, _, _, _, _, _, _, rfl⟩, E11.trans (Ev.gr E11.pool g12)⟩
  · exact ⟨⟨_, _, _, _, _, _, _, _, _, _, rfl⟩, E11⟩
theorem law_k {ns : List Int} {k : Nat} {st : Sto} (hc : rdL st 0 = some (ns.map D.int)) {q2 q3 q4 q5 q6 q7 q8 q9 q10 q11 q12 : Option D} :
    Rs (L2_law [some (.ref 0), some (.int (k : Nat)), q2, q3, q4, q5, q6, q7, q8, q9, q10, q11, q12] st) (fun e s => (∃ p1 p2 p3 p4 p5 p6 p7 p8 p9 p10 p11 p12, e = [some (.ref 0), p1, p2, p3, p4, p5, p6, p7, p8, p9, p10, p11, p12]) ∧ rdL s 0 = some (ns.map D.int)) (fun d _ => d = .bl true) B0 E1 := by
  have h0 := rdL_lt hc
  simp only [rn_ok, rn_bind, rn_noEx, rn_and, rn_or, rn_not, rn_chain, rn_mB, rn_tand, rn_tor, rn_tnot, rn_if, rn_tup, rn_lst, rn_call, rn_fn, rn_m2, rn_m1, rn_cons, rn_nil, rn_c, rn_v0, rn_vs, rn_yes, rn_pNone, rn_pSome, rn_sl, rn_def, rn_meth, rn_methT, rn_callE, p_instI, rs_seq, rs_nil, rs_break, rs_retN, rs_ret, rs_expr, rs_if, rs_asg, rs_asg2, rs_par, pg_gN, pg_cons, pg_nil, pg_tup, pg_seqT, rs_for, rn_iVal, itm_t, rn_rng1, rn_rng2, rn_enum, br_t, br_f, p_add, p_addI, p_sub, p_mul, p_mulI, p_div, p_mod, p_neg, p_lt, p_ltT, p_le, p_gt, p_ge, p_eq, p_ne, p_addT, p_lenT, p_tupT, p_listT, p_max2, p_min2, p_abs, p_int, p_intB, p_is, p_isnot, p_isN, p_isnotN, p_slT, p_sumT, List.map_cons, List.map_nil, List.length_cons, List.length_nil, List.length_map, Nat.reduceAdd, Nat.reduceSub, Nat.zero_add, List.replicate_succ, List.replicate_zero, List.cons_append, List.nil_append, List.set_cons_zero, List.set_cons_succ, D.int.injEq, D.bl.injEq, D.tup.injEq, D.ref.injEq, D.str.injEq, exists_eq_left', exists_eq_left, List.cons.injEq, and_true, true_and, Option.some.injEq, sz_le, Nat.reduceLeDiff, wipeE, reduceCtorEq, false_and, and_false, exists_false, or_false, false_or, exists_const, decide_true, decide_false, Bool.not_true, Bool.not_false, Bool.false_eq_true, gOk, Int.reduceLT, Int.reduceLE, Int.reduceEq, Int.reduceGT, Int.reduceGE, Int.reduceAdd, Int.reduceSub, Int.reduceMul, if_true, if_false, and_self]
  (refine Rn.of (pool_rn ns 0 k st hc) ?_; rintro _ s1 ⟨r, rfl, hp, hr, g1⟩)
  have c1 := rdL_gr g1 hc
  refine ⟨by unfold Mid; omega, ?_⟩
  refine loop_wp (fun i e s => Env3 k r e ∧ Ev r s1 s) ⟨⟨_, _, _, _, _, _, _, _, _, _, rfl⟩, Ev.refl hp⟩ (fun _ _ _ _ _ => trivial) ?_ ?_
  · rintro i e s hi ⟨⟨p3, p4, p5, p6, p7, p8, p9, p10, p11, p12, rfl⟩, E⟩
    rw [rngD_get hi]
    refine pg_gN.mpr ?_
    simp only [List.set_cons_succ, List.set_cons_zero]
    refine Rs.mono (law_turn ⟨_, _, _, _, _, _, _, _, _, _, rfl⟩ E.pool) (fun e s h => ⟨h.1, E.trans h.2⟩) fun d s h => h
  · rintro e s ⟨⟨p3, p4, p5, p6, p7, p8, p9, p10, p11, p12, rfl⟩, E⟩
    simp only [rn_ok, rn_bind, rn_noEx, rn_and, rn_or, rn_not, rn_chain, rn_mB, rn_tand, rn_tor, rn_tnot, rn_if, rn_tup, rn_lst, rn_call, rn_fn, rn_m2, rn_m1, rn_cons, rn_nil, rn_c, rn_v0, rn_vs, rn_yes, rn_pNone, rn_pSome, rn_sl, rn_def, rn_meth, rn_methT, rn_callE, p_instI, rs_seq, rs_nil, rs_break, rs_retN, rs_ret, rs_expr, rs_if, rs_asg, rs_asg2, rs_par, pg_gN, pg_cons, pg_nil, pg_tup, pg_seqT, rs_for, rn_iVal, itm_t, rn_rng1, rn_rng2, rn_enum, br_t, br_f, p_add, p_addI, p_sub, p_mul, p_mulI, p_div, p_mod, p_neg, p_lt, p_ltT, p_le, p_gt, p_ge, p_eq, p_ne, p_addT, p_lenT, p_tupT, p_listT, p_max2, p_min2, p_abs, p_int, p_intB, p_is, p_isnot, p_isN, p_isnotN, p_slT, p_sumT, List.map_cons, List.map_nil, List.length_cons, List.length_nil, List.length_map, Nat.reduceAdd, Nat.reduceSub, Nat.zero_add, List.replicate_succ, List.replicate_zero, List.cons_append, List.nil_append, List.set_cons_zero, List.set_cons_succ, D.int.injEq, D.bl.injEq, D.tup.injEq, D.ref.injEq, D.str.injEq, exists_eq_left', exists_eq_left, List.cons.injEq, and_true, true_and, Option.some.injEq, sz_le, Nat.reduceLeDiff, wipeE, reduceCtorEq, false_and, and_false, exists_false, or_false, false_or, exists_const, decide_true, decide_false, Bool.not_true, Bool.not_false, Bool.false_eq_true, gOk, Int.reduceLT, Int.reduceLE, Int.reduceEq, Int.reduceGT, Int.reduceGE, Int.reduceAdd, Int.reduceSub, Int.reduceMul, if_true, if_false, and_self]
    refine Rn.of (ops_right_ok E.pool) ?_
    rintro _ s5 ⟨rfl, E5⟩
    simp only [rn_ok, rn_bind, rn_noEx, rn_and, rn_or, rn_not, rn_chain, rn_mB, rn_tand, rn_tor, rn_tnot, rn_if, rn_tup, rn_lst, rn_call, rn_fn, rn_m2, rn_m1, rn_cons, rn_nil, rn_c, rn_v0, rn_vs, rn_yes, rn_pNone, rn_pSome, rn_sl, rn_def, rn_meth, rn_methT, rn_callE, p_instI, rs_seq, rs_nil, rs_break, rs_retN, rs_ret, rs_expr, rs_if, rs_asg, rs_asg2, rs_par, pg_gN, pg_cons, pg_nil, pg_tup, pg_seqT, rs_for, rn_iVal, itm_t, rn_rng1, rn_rng2, rn_enum, br_t, br_f, p_add, p_addI, p_sub, p_mul, p_mulI, p_div, p_mod, p_neg, p_lt, p_ltT, p_le, p_gt, p_ge, p_eq, p_ne, p_addT, p_lenT, p_tupT, p_listT, p_max2, p_min2, p_abs, p_int, p_intB, p_is, p_isnot, p_isN, p_isnotN, p_slT, p_sumT, List.map_cons, List.map_nil, List.length_cons, List.length_nil, List.length_map, Nat.reduceAdd, Nat.reduceSub, Nat.zero_add, List.replicate_succ, List.replicate_zero, List.cons_append, List.nil_append, List.set_cons_zero, List.set_cons_succ, D.int.injEq, D.bl.injEq, D.tup.injEq, D.ref.injEq, D.str.injEq, exists_eq_left', exists_eq_left, List.cons.injEq, and_true, true_and, Option.some.injEq, sz_le, Nat.reduceLeDiff, wipeE, reduceCtorEq, false_and, and_false, exists_false, or_false, false_or, exists_const, decide_true, decide_false, Bool.not_true, Bool.not_false, Bool.false_eq_true, gOk, Int.reduceLT, Int.reduceLE, Int.reduceEq, Int.reduceGT, Int.reduceGE, Int.reduceAdd, Int.reduceSub, Int.reduceMul, if_true, if_false, and_self, Bool.not_true, br_f]
    exact ⟨⟨_, _, _, _, _, _, _, _, _, _, _, _, rfl, rfl, rfl, rfl, rfl, rfl, rfl, rfl, rfl, rfl, rfl, rfl⟩, (E.trans E5).rdL c1 (by omega)⟩
theorem main : ∀ ns : List Int, ns.length ≤ 63 → ∃ st', f_law [.ref 0] [.fro (ns.map D.int)] = .ok (.bl true) st' := by
  intro ns hn
  suffices h : Rn (f_law [.ref 0] [.fro (ns.map D.int)]) (fun d s => d = .bl true ∧ True) E0 by
    obtain ⟨s, e, _⟩ := h.told
    exact ⟨s, e⟩
  have h0 : rdL [.fro (ns.map D.int)] 0 = some (ns.map D.int) := rfl
  unfold f_law b_law
  simp only [rn_ok, rn_bind, rn_noEx, rn_and, rn_or, rn_not, rn_chain, rn_mB, rn_tand, rn_tor, rn_tnot, rn_if, rn_tup, rn_lst, rn_call, rn_fn, rn_m2, rn_m1, rn_cons, rn_nil, rn_c, rn_v0, rn_vs, rn_yes, rn_pNone, rn_pSome, rn_sl, rn_def, rn_meth, rn_methT, rn_callE, p_instI, rs_seq, rs_nil, rs_break, rs_retN, rs_ret, rs_expr, rs_if, rs_asg, rs_asg2, rs_par, pg_gN, pg_cons, pg_nil, pg_tup, pg_seqT, rs_for, rn_iVal, itm_t, rn_rng1, rn_rng2, rn_enum, br_t, br_f, p_add, p_addI, p_sub, p_mul, p_mulI, p_div, p_mod, p_neg, p_lt, p_ltT, p_le, p_gt, p_ge, p_eq, p_ne, p_addT, p_lenT, p_tupT, p_listT, p_max2, p_min2, p_abs, p_int, p_intB, p_is, p_isnot, p_isN, p_isnotN, p_slT, p_sumT, List.map_cons, List.map_nil, List.length_cons, List.length_nil, List.length_map, Nat.reduceAdd, Nat.reduceSub, Nat.zero_add, List.replicate_succ, List.replicate_zero, List.cons_append, List.nil_append, List.set_cons_zero, List.set_cons_succ, D.int.injEq, D.bl.injEq, D.tup.injEq, D.ref.injEq, D.str.injEq, exists_eq_left', exists_eq_left, List.cons.injEq, and_true, true_and, Option.some.injEq, sz_le, Nat.reduceLeDiff, wipeE, reduceCtorEq, false_and, and_false, exists_false, or_false, false_or, exists_const, decide_true, decide_false, Bool.not_true, Bool.not_false, Bool.false_eq_true, gOk, Int.reduceLT, Int.reduceLE, Int.reduceEq, Int.reduceGT, Int.reduceGE, Int.reduceAdd, Int.reduceSub, Int.reduceMul, if_true, if_false, and_self, p_len h0]
  refine ⟨by unfold Mid; omega, ?_⟩
  refine loop_wp (fun i e s => (∃ p1 p2 p3 p4 p5 p6 p7 p8 p9 p10 p11 p12, e = [some (.ref 0), p1, p2, p3, p4, p5, p6, p7, p8, p9, p10, p11, p12]) ∧ rdL s 0 = some (ns.map D.int)) ⟨⟨_, _, _, _, _, _, _, _, _, _, _, _, rfl⟩, h0⟩ (fun _ _ _ _ _ => trivial) ?_ ?_
  · rintro i e s hi ⟨⟨p1, p2, p3, p4, p5, p6, p7, p8, p9, p10, p11, p12, rfl⟩, hc⟩
    rw [rngD_get hi]
    refine pg_gN.mpr ?_
    simp only [List.set_cons_succ, List.set_cons_zero]
    refine Rs.weak (law_k hc) (fun e s h => h) fun d s h => h
  · rintro e s _
    simp only [rn_ok, rn_bind, rn_noEx, rn_and, rn_or, rn_not, rn_chain, rn_mB, rn_tand, rn_tor, rn_tnot, rn_if, rn_tup, rn_lst, rn_call, rn_fn, rn_m2, rn_m1, rn_cons, rn_nil, rn_c, rn_v0, rn_vs, rn_yes, rn_pNone, rn_pSome, rn_sl, rn_def, rn_meth, rn_methT, rn_callE, p_instI, rs_seq, rs_nil, rs_break, rs_retN, rs_ret, rs_expr, rs_if, rs_asg, rs_asg2, rs_par, pg_gN, pg_cons, pg_nil, pg_tup, pg_seqT, rs_for, rn_iVal, itm_t, rn_rng1, rn_rng2, rn_enum, br_t, br_f, p_add, p_addI, p_sub, p_mul, p_mulI, p_div, p_mod, p_neg, p_lt, p_ltT, p_le, p_gt, p_ge, p_eq, p_ne, p_addT, p_lenT, p_tupT, p_listT, p_max2, p_min2, p_abs, p_int, p_intB, p_is, p_isnot, p_isN, p_isnotN, p_slT, p_sumT, List.map_cons, List.map_nil, List.length_cons, List.length_nil, List.length_map, Nat.reduceAdd, Nat.reduceSub, Nat.zero_add, List.replicate_succ, List.replicate_zero, List.cons_append, List.nil_append, List.set_cons_zero, List.set_cons_succ, D.int.injEq, D.bl.injEq, D.tup.injEq, D.ref.injEq, D.str.injEq, exists_eq_left', exists_eq_left, List.cons.injEq, and_true, true_and, Option.some.injEq, sz_le, Nat.reduceLeDiff, wipeE, reduceCtorEq, false_and, and_false, exists_false, or_false, false_or, exists_const, decide_true, decide_false, Bool.not_true, Bool.not_false, Bool.false_eq_true, gOk, Int.reduceLT, Int.reduceLE, Int.reduceEq, Int.reduceGT, Int.reduceGE, Int.reduceAdd, Int.reduceSub, Int.reduceMul, if_true, if_false, and_self]
end Pr
set_option maxRecDepth 100000
open PySem PySem.W PyProof.Rows
set_option maxHeartbeats 0 in
theorem PySem.Challenge.cw_comeright_k04_what_terms_come_to_holds : PySem.Challenge.rw_comeright_k04_what_terms_come_to.Holds := by
  w_on; o_law; k_head; (case hw => w_witness2)
  k_fill
  refine DL.walk_d (l := PySem.Challenge.rw_comeright_k04_what_terms_come_to) (n := 63) (k := 53) (x := "script") (f := Pr.f_law) rfl (by decide) rfl ⟨rfl, by decide, by decide⟩ (fun w h Y => PySem.W.kIn_of Y) ?F Pr.main
  case F =>
    intro w mg fa h KX G hmg
    have T_law_pool : DL.TopFnX KX mg "_law_pool" Pr.s_law_pool ["cells", "k"] := by
      refine' DL.topFn_of KX G ?a ?l ?c ?k ?b; (case a => k_is); (case l => k_is); (case c => k_is); (case k => k_is); (case b => exact fun _ _ _ _ _ _ us hl => match us, hl with | [_, _], _ => rfl)
    have T_law_take : DL.TopFnX KX mg "_law_take" Pr.s_law_take ["pool", "many"] := by
      refine' DL.topFn_of KX G ?a ?l ?c ?k ?b; (case a => k_is); (case l => k_is); (case c => k_is); (case k => k_is); (case b => exact fun _ _ _ _ _ _ us hl => match us, hl with | [_, _], _ => rfl)
    have T_plus : DL.TopFnX KX mg "plus" Pr.s_plus ["one", "two"] := by
      refine' DL.topFn_of KX G ?a ?l ?c ?k ?b; (case a => k_is); (case l => k_is); (case c => k_is); (case k => k_is); (case b => exact fun _ _ _ _ _ _ us hl => match us, hl with | [_, _], _ => rfl)
    have T_minus : DL.TopFnX KX mg "minus" Pr.s_minus ["one", "two"] := by
      refine' DL.topFn_of KX G ?a ?l ?c ?k ?b; (case a => k_is); (case l => k_is); (case c => k_is); (case k => k_is); (case b => exact fun _ _ _ _ _ _ us hl => match us, hl with | [_, _], _ => rfl)
    have T_times : DL.TopFnX KX mg "times" Pr.s_times ["one", "two"] := by
      refine' DL.topFn_of KX G ?a ?l ?c ?k ?b; (case a => k_is); (case l => k_is); (case c => k_is); (case k => k_is); (case b => exact fun _ _ _ _ _ _ us hl => match us, hl with | [_, _], _ => rfl)
    have T_over : DL.TopFnX KX mg "over" Pr.s_over ["one", "two"] := by
      refine' DL.topFn_of KX G ?a ?l ?c ?k ?b; (case a => k_is); (case l => k_is); (case c => k_is); (case k => k_is); (case b => exact fun _ _ _ _ _ _ us hl => match us, hl with | [_, _], _ => rfl)
    have T_rest : DL.TopFnX KX mg "rest" Pr.s_rest ["one", "two"] := by
      refine' DL.topFn_of KX G ?a ?l ?c ?k ?b; (case a => k_is); (case l => k_is); (case c => k_is); (case k => k_is); (case b => exact fun _ _ _ _ _ _ us hl => match us, hl with | [_, _], _ => rfl)
    have T_less : DL.TopFnX KX mg "less" Pr.s_less ["one", "two"] := by
      refine' DL.topFn_of KX G ?a ?l ?c ?k ?b; (case a => k_is); (case l => k_is); (case c => k_is); (case k => k_is); (case b => exact fun _ _ _ _ _ _ us hl => match us, hl with | [_, _], _ => rfl)
    have T_same : DL.TopFnX KX mg "same" Pr.s_same ["one", "two"] := by
      refine' DL.topFn_of KX G ?a ?l ?c ?k ?b; (case a => k_is); (case l => k_is); (case c => k_is); (case k => k_is); (case b => exact fun _ _ _ _ _ _ us hl => match us, hl with | [_, _], _ => rfl)
    have T_low : DL.TopFnX KX mg "low" Pr.s_low ["one", "two"] := by
      refine' DL.topFn_of KX G ?a ?l ?c ?k ?b; (case a => k_is); (case l => k_is); (case c => k_is); (case k => k_is); (case b => exact fun _ _ _ _ _ _ us hl => match us, hl with | [_, _], _ => rfl)
    have T_high : DL.TopFnX KX mg "high" Pr.s_high ["one", "two"] := by
      refine' DL.topFn_of KX G ?a ?l ?c ?k ?b; (case a => k_is); (case l => k_is); (case c => k_is); (case k => k_is); (case b => exact fun _ _ _ _ _ _ us hl => match us, hl with | [_, _], _ => rfl)
    have T_law_any_worth : DL.TopFnX KX mg "_law_any_worth" Pr.s_law_any_worth ["pool"] := by
      refine' DL.topFn_of KX G ?a ?l ?c ?k ?b; (case a => k_is); (case l => k_is); (case c => k_is); (case k => k_is); (case b => exact fun _ _ _ _ _ _ us hl => match us, hl with | [_], _ => rfl)
    have T_law_made : DL.TopFnX KX mg "_law_made" Pr.s_law_made ["op", "one", "other"] := by
      refine' DL.topFn_of KX G ?a ?l ?c ?k ?b; (case a => k_is); (case l => k_is); (case c => k_is); (case k => k_is); (case b => exact fun _ _ _ _ _ _ us hl => match us, hl with | [_, _, _], _ => rfl)
    have T_law_ops_right : DL.TopFnX KX mg "_law_ops_right" Pr.s_law_ops_right ["pool"] := by
      refine' DL.topFn_of KX G ?a ?l ?c ?k ?b; (case a => k_is); (case l => k_is); (case c => k_is); (case k => k_is); (case b => exact fun _ _ _ _ _ _ us hl => match us, hl with | [_], _ => rfl)
    have T_law_sized : DL.TopFnX KX mg "_law_sized" Pr.s_law_sized ["pool", "leaves", "many"] := by
      refine' DL.topFn_of KX G ?a ?l ?c ?k ?b; (case a => k_is); (case l => k_is); (case c => k_is); (case k => k_is); (case b => exact fun _ _ _ _ _ _ us hl => match us, hl with | [_, _, _], _ => rfl)
    have T_law_value : DL.TopFnX KX mg "_law_value" Pr.s_law_value ["term", "worth", "heap"] := by
      refine' DL.topFn_of KX G ?a ?l ?c ?k ?b; (case a => k_is); (case l => k_is); (case c => k_is); (case k => k_is); (case b => exact fun _ _ _ _ _ _ us hl => match us, hl with | [_, _, _], _ => rfl)
    have T_is_below : DL.TopFnX KX mg "is_below" Pr.s_is_below ["thing", "top"] := by
      refine' DL.topFn_of KX G ?a ?l ?c ?k ?b; (case a => k_is); (case l => k_is); (case c => k_is); (case k => k_is); (case b => exact fun _ _ _ _ _ _ us hl => match us, hl with | [_, _], _ => rfl)
    have T_is_worth : DL.TopFnX KX mg "is_worth" Pr.s_is_worth ["thing"] := by
      refine' DL.topFn_of KX G ?a ?l ?c ?k ?b; (case a => k_is); (case l => k_is); (case c => k_is); (case k => k_is); (case b => exact fun _ _ _ _ _ _ us hl => match us, hl with | [_], _ => rfl)
    have T_count_terms : DL.TopFnX KX mg "count_terms" Pr.s_count_terms ["thing", "bare", "pair", "deep"] := by
      refine' DL.topFn_of KX G ?a ?l ?c ?k ?b; (case a => k_is); (case l => k_is); (case c => k_is); (case k => k_is); (case b => exact fun _ _ _ _ _ _ us hl => match us, hl with | [_, _, _, _], _ => rfl)
    have T_are_terms : DL.TopFnX KX mg "are_terms" Pr.s_are_terms ["things", "bare", "pair"] := by
      refine' DL.topFn_of KX G ?a ?l ?c ?k ?b; (case a => k_is); (case l => k_is); (case c => k_is); (case k => k_is); (case b => exact fun _ _ _ _ _ _ us hl => match us, hl with | [_, _, _], _ => rfl)
    have T_are_firsts : DL.TopFnX KX mg "are_firsts" Pr.s_are_firsts ["things"] := by
      refine' DL.topFn_of KX G ?a ?l ?c ?k ?b; (case a => k_is); (case l => k_is); (case c => k_is); (case k => k_is); (case b => exact fun _ _ _ _ _ _ us hl => match us, hl with | [_], _ => rfl)
    have T_is_first : DL.TopFnX KX mg "is_first" Pr.s_is_first ["thing"] := by
      refine' DL.topFn_of KX G ?a ?l ?c ?k ?b; (case a => k_is); (case l => k_is); (case c => k_is); (case k => k_is); (case b => exact fun _ _ _ _ _ _ us hl => match us, hl with | [_], _ => rfl)
    have T_are_nexts : DL.TopFnX KX mg "are_nexts" Pr.s_are_nexts ["things"] := by
      refine' DL.topFn_of KX G ?a ?l ?c ?k ?b; (case a => k_is); (case l => k_is); (case c => k_is); (case k => k_is); (case b => exact fun _ _ _ _ _ _ us hl => match us, hl with | [_], _ => rfl)
    have T_is_next : DL.TopFnX KX mg "is_next" Pr.s_is_next ["thing"] := by
      refine' DL.topFn_of KX G ?a ?l ?c ?k ?b; (case a => k_is); (case l => k_is); (case c => k_is); (case k => k_is); (case b => exact fun _ _ _ _ _ _ us hl => match us, hl with | [_], _ => rfl)
    have T_need_term : DL.TopFnX KX mg "need_term" Pr.s_need_term ["term"] := by
      refine' DL.topFn_of KX G ?a ?l ?c ?k ?b; (case a => k_is); (case l => k_is); (case c => k_is); (case k => k_is); (case b => exact fun _ _ _ _ _ _ us hl => match us, hl with | [_], _ => rfl)
    have T_own_worth : DL.TopFnX KX mg "own_worth" Pr.s_own_worth ["worth", "heap"] := by
      refine' DL.topFn_of KX G ?a ?l ?c ?k ?b; (case a => k_is); (case l => k_is); (case c => k_is); (case k => k_is); (case b => exact fun _ _ _ _ _ _ us hl => match us, hl with | [_, _], _ => rfl)
    have T_heap_ties : DL.TopFnX KX mg "heap_ties" Pr.s_heap_ties ["worth", "heap"] := by
      refine' DL.topFn_of KX G ?a ?l ?c ?k ?b; (case a => k_is); (case l => k_is); (case c => k_is); (case k => k_is); (case b => exact fun _ _ _ _ _ _ us hl => match us, hl with | [_, _], _ => rfl)
    have T_heap_sum : DL.TopFnX KX mg "heap_sum" Pr.s_heap_sum ["worth", "heap"] := by
      refine' DL.topFn_of KX G ?a ?l ?c ?k ?b; (case a => k_is); (case l => k_is); (case c => k_is); (case k => k_is); (case b => exact fun _ _ _ _ _ _ us hl => match us, hl with | [_, _], _ => rfl)
    have T_heap_least : DL.TopFnX KX mg "heap_least" Pr.s_heap_least ["worth", "heap"] := by
      refine' DL.topFn_of KX G ?a ?l ?c ?k ?b; (case a => k_is); (case l => k_is); (case c => k_is); (case k => k_is); (case b => exact fun _ _ _ _ _ _ us hl => match us, hl with | [_, _], _ => rfl)
    have T_heap_most : DL.TopFnX KX mg "heap_most" Pr.s_heap_most ["worth", "heap"] := by
      refine' DL.topFn_of KX G ?a ?l ?c ?k ?b; (case a => k_is); (case l => k_is); (case c => k_is); (case k => k_is); (case b => exact fun _ _ _ _ _ _ us hl => match us, hl with | [_, _], _ => rfl)
    have T_worth_of : DL.TopFnX KX mg "worth_of" Pr.s_worth_of ["term", "worth", "heap"] := by
      refine' DL.topFn_of KX G ?a ?l ?c ?k ?b; (case a => k_is); (case l => k_is); (case c => k_is); (case k => k_is); (case b => exact fun _ _ _ _ _ _ us hl => match us, hl with | [_, _, _], _ => rfl)
    have T_is_row : DL.TopFnX KX mg "is_row" Pr.s_is_row ["thing", "least", "most"] := by
      refine' DL.topFn_of KX G ?a ?l ?c ?k ?b; (case a => k_is); (case l => k_is); (case c => k_is); (case k => k_is); (case b => exact fun _ _ _ _ _ _ us hl => match us, hl with | [_, _, _], _ => rfl)
    have T_comes_to : DL.TopFnX KX mg "comes_to" Pr.s_comes_to ["term", "worth", "heap"] := by
      refine' DL.topFn_of KX G ?a ?l ?c ?k ?b; (case a => k_is); (case l => k_is); (case c => k_is); (case k => k_is); (case b => exact fun _ _ _ _ _ _ us hl => match us, hl with | [_, _, _], _ => rfl)
    have T_law_any_term : DL.TopFnX KX mg "_law_any_term" Pr.s_law_any_term ["pool", "leaves", "deep"] := by
      refine' DL.topFn_of KX G ?a ?l ?c ?k ?b; (case a => k_is); (case l => k_is); (case c => k_is); (case k => k_is); (case b => exact fun _ _ _ _ _ _ us hl => match us, hl with | [_, _, _], _ => rfl)
    have T_law_any_first : DL.TopFnX KX mg "_law_any_first" Pr.s_law_any_first ["pool"] := by
      refine' DL.topFn_of KX G ?a ?l ?c ?k ?b; (case a => k_is); (case l => k_is); (case c => k_is); (case k => k_is); (case b => exact fun _ _ _ _ _ _ us hl => match us, hl with | [_], _ => rfl)
    have T_law_any_next : DL.TopFnX KX mg "_law_any_next" Pr.s_law_any_next ["pool"] := by
      refine' DL.topFn_of KX G ?a ?l ?c ?k ?b; (case a => k_is); (case l => k_is); (case c => k_is); (case k => k_is); (case b => exact fun _ _ _ _ _ _ us hl => match us, hl with | [_], _ => rfl)
    have T_law_leaves : DL.TopFnX KX mg "_law_leaves" Pr.s_law_leaves ["kind"] := by
      refine' DL.topFn_of KX G ?a ?l ?c ?k ?b; (case a => k_is); (case l => k_is); (case c => k_is); (case k => k_is); (case b => exact fun _ _ _ _ _ _ us hl => match us, hl with | [_], _ => rfl)
    have T_law_mixed : DL.TopFnX KX mg "_law_mixed" Pr.s_law_mixed ["pool", "row"] := by
      refine' DL.topFn_of KX G ?a ?l ?c ?k ?b; (case a => k_is); (case l => k_is); (case c => k_is); (case k => k_is); (case b => exact fun _ _ _ _ _ _ us hl => match us, hl with | [_, _], _ => rfl)
    have T : Pr.TxtX KX w mg := by
      constructor
      · refine' (DL.tabs_cons (DL.tab_of ?e1_OPS ?e2_OPS ?e3_OPS ?e4_OPS) (DL.tabs_cons (DL.tab_of ?e1_BARE ?e2_BARE ?e3_BARE ?e4_BARE) DL.tabs_nil)); (case e1_OPS => k_is); (case e2_OPS => k_is); (case e3_OPS => first | rfl | decide); (case e4_OPS => exact (.cons ⟨⟨_, rfl⟩, rfl, ⟨.ref _, rfl, fun _ _ => .nam (by k_is)⟩⟩ (.cons ⟨⟨_, rfl⟩, rfl, ⟨.ref _, rfl, fun _ _ => .nam (by k_is)⟩⟩ (.cons ⟨⟨_, rfl⟩, rfl, ⟨.ref _, rfl, fun _ _ => .nam (by k_is)⟩⟩ (.cons ⟨⟨_, rfl⟩, rfl, ⟨.ref _, rfl, fun _ _ => .nam (by k_is)⟩⟩ (.cons ⟨⟨_, rfl⟩, rfl, ⟨.ref _, rfl, fun _ _ => .nam (by k_is)⟩⟩ (.cons ⟨⟨_, rfl⟩, rfl, ⟨.ref _, rfl, fun _ _ => .nam (by k_is)⟩⟩ (.cons ⟨⟨_, rfl⟩, rfl, ⟨.ref _, rfl, fun _ _ => .nam (by k_is)⟩⟩ (.cons ⟨⟨_, rfl⟩, rfl, ⟨.ref _, rfl, fun _ _ => .nam (by k_is)⟩⟩ (.cons ⟨⟨_, rfl⟩, rfl, ⟨.ref _, rfl, fun _ _ => .nam (by k_is)⟩⟩ DL.EntsOk.nil)))))))))); (case e1_BARE => k_is); (case e2_BARE => k_is); (case e3_BARE => first | rfl | decide); (case e4_BARE => exact (.cons ⟨⟨_, rfl⟩, rfl, ⟨.ref _, rfl, fun _ _ => .nam (by k_is)⟩⟩ (.cons ⟨⟨_, rfl⟩, rfl, ⟨.ref _, rfl, fun _ _ => .nam (by k_is)⟩⟩ (.cons ⟨⟨_, rfl⟩, rfl, ⟨.ref _, rfl, fun _ _ => .nam (by k_is)⟩⟩ (.cons ⟨⟨_, rfl⟩, rfl, ⟨.ref _, rfl, fun _ _ => .nam (by k_is)⟩⟩ (.cons ⟨⟨_, rfl⟩, rfl, ⟨.ref _, rfl, fun _ _ => .nam (by k_is)⟩⟩ (.cons ⟨⟨_, rfl⟩, rfl, ⟨.ref _, rfl, fun _ _ => .nam (by k_is)⟩⟩ DL.EntsOk.nil)))))))
      · refine' DL.named_of KX G ?z_OPS; (case z_OPS => k_is)
      · refine' DL.named_of KX G ?z_BARE; (case z_BARE => k_is)
      · refine' DL.named_of KX G ?z_plus; (case z_plus => k_is)
      · refine' DL.named_of KX G ?z_minus; (case z_minus => k_is)
      · refine' DL.named_of KX G ?z_times; (case z_times => k_is)
      · refine' DL.named_of KX G ?z_over; (case z_over => k_is)
      · refine' DL.named_of KX G ?z_rest; (case z_rest => k_is)
      · refine' DL.named_of KX G ?z_less; (case z_less => k_is)
      · refine' DL.named_of KX G ?z_same; (case z_same => k_is)
      · refine' DL.named_of KX G ?z_low; (case z_low => k_is)
      · refine' DL.named_of KX G ?z_high; (case z_high => k_is)
      · refine' DL.named_of KX G ?z_own_worth; (case z_own_worth => k_is)
      · refine' DL.named_of KX G ?z_heap_ties; (case z_heap_ties => k_is)
      · refine' DL.named_of KX G ?z_heap_sum; (case z_heap_sum => k_is)
      · refine' DL.named_of KX G ?z_heap_least; (case z_heap_least => k_is)
      · refine' DL.named_of KX G ?z_heap_most; (case z_heap_most => k_is)
      · refine' DL.named_of KX G ?z__law_any_first; (case z__law_any_first => k_is)
      · refine' DL.named_of KX G ?z__law_any_next; (case z__law_any_next => k_is)
      · refine' PySem.W.mg_none_of KX G ?z_len; (case z_len => k_is)
      · refine' PySem.W.mg_none_of KX G ?z_abs; (case z_abs => k_is)
      · refine' PySem.W.mg_none_of KX G ?z_int; (case z_int => k_is)
      · refine' PySem.W.mg_none_of KX G ?z_min; (case z_min => k_is)
      · refine' PySem.W.mg_none_of KX G ?z_max; (case z_max => k_is)
      · refine' PySem.W.mg_none_of KX G ?z_sorted; (case z_sorted => k_is)
      · refine' PySem.W.mg_none_of KX G ?z_range; (case z_range => k_is)
      · refine' PySem.W.mg_none_of KX G ?z_repr; (case z_repr => k_is)
      · refine' PySem.W.mg_none_of KX G ?z_isinstance; (case z_isinstance => k_is)
      · refine' PySem.W.mg_none_of KX G ?z_sum; (case z_sum => k_is)
      · refine' PySem.W.mg_none_of KX G ?z_type; (case z_type => k_is)
      · refine' PySem.W.mg_none_of KX G ?z_str; (case z_str => k_is)
      · refine' PySem.W.mg_none_of KX G ?z_tuple; (case z_tuple => k_is)
      · refine' PySem.W.mg_none_of KX G ?z_all; (case z_all => k_is)
      · refine' PySem.W.mg_none_of KX G ?z_list; (case z_list => k_is)
      · have' z := PySem.W.mg_of (n := "WORTHS") KX G ?z_WORTHS; (case z_WORTHS => k_is); exact ⟨_, z⟩
      · have' z := PySem.W.mg_of (n := "NO_TERM") KX G ?z_NO_TERM; (case z_NO_TERM => k_is); exact ⟨_, z⟩
      · have' z := PySem.W.mg_of (n := "MOST_WITHIN") KX G ?z_MOST_WITHIN; (case z_MOST_WITHIN => k_is); exact ⟨_, z⟩
      · have' z := PySem.W.mg_of (n := "MOST_TERMS") KX G ?z_MOST_TERMS; (case z_MOST_TERMS => k_is); exact ⟨_, z⟩
      · refine' DL.glob_tup_of KX G ?e1_PAIR_OF_FIRST ?e2_PAIR_OF_FIRST ?e3_PAIR_OF_FIRST ?e4_PAIR_OF_FIRST; (case e1_PAIR_OF_FIRST => k_is); (case e2_PAIR_OF_FIRST => k_is); (case e3_PAIR_OF_FIRST => decide); (case e4_PAIR_OF_FIRST => exact ⟨[], .nil, fun _ _ => .nil⟩)
      · refine' DL.glob_tup_of KX G ?e1_BARE_OF_FIRST ?e2_BARE_OF_FIRST ?e3_BARE_OF_FIRST ?e4_BARE_OF_FIRST; (case e1_BARE_OF_FIRST => k_is); (case e2_BARE_OF_FIRST => k_is); (case e3_BARE_OF_FIRST => decide); (case e4_BARE_OF_FIRST => exact ⟨[L2.V.str "word", L2.V.str "ties"], (.cons ⟨_, rfl⟩ (.cons ⟨_, rfl⟩ .nil)), fun _ _ => (.cons (.str _) (.cons (.str _) .nil))⟩)
      · refine' DL.glob_tup_of KX G ?e1_PAIR_OF_NEXT ?e2_PAIR_OF_NEXT ?e3_PAIR_OF_NEXT ?e4_PAIR_OF_NEXT; (case e1_PAIR_OF_NEXT => k_is); (case e2_PAIR_OF_NEXT => k_is); (case e3_PAIR_OF_NEXT => decide); (case e4_PAIR_OF_NEXT => exact ⟨[L2.V.str "many"], (.cons ⟨_, rfl⟩ .nil), fun _ _ => (.cons (.str _) .nil)⟩)
      · refine' DL.glob_tup_of KX G ?e1_BARE_OF_NEXT ?e2_BARE_OF_NEXT ?e3_BARE_OF_NEXT ?e4_BARE_OF_NEXT; (case e1_BARE_OF_NEXT => k_is); (case e2_BARE_OF_NEXT => k_is); (case e3_BARE_OF_NEXT => decide); (case e4_BARE_OF_NEXT => exact ⟨[L2.V.str "own", L2.V.str "ties", L2.V.str "least", L2.V.str "most", L2.V.str "sum"], (.cons ⟨_, rfl⟩ (.cons ⟨_, rfl⟩ (.cons ⟨_, rfl⟩ (.cons ⟨_, rfl⟩ (.cons ⟨_, rfl⟩ .nil))))), fun _ _ => (.cons (.str _) (.cons (.str _) (.cons (.str _) (.cons (.str _) (.cons (.str _) .nil)))))⟩)
      · have' z := PySem.W.mg_of (n := "MOST_HEAP") KX G ?z_MOST_HEAP; (case z_MOST_HEAP => k_is); exact ⟨_, z⟩
    refine' DL.law_of KX G hmg ?a ?l ?c ?k (fun _ _ _ _ _ _ s v => .of_eq rfl) fun base fd F => Pr.all_ok T T_law_pool T_law_take T_plus T_minus T_times T_over T_rest T_less T_same T_low T_high T_law_any_worth T_law_made T_law_ops_right T_law_sized T_law_value T_is_below T_is_worth T_count_terms T_are_terms T_are_firsts T_is_first T_are_nexts T_is_next T_need_term T_own_worth T_heap_ties T_heap_sum T_heap_least T_heap_most T_worth_of T_is_row T_comes_to T_law_any_term T_law_any_first T_law_any_next T_law_leaves T_law_mixed F; (case a => k_is); (case l => k_is); (case c => k_is); (case k => k_is)
