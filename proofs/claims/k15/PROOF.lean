import PyProof.Rows.All
import Wide.All
import OpenK.AllK
import Wide.FinOn
import HandS.ForMost
import HandS.ForExc
import HandS.Iter
import HandS.ExcOwn
import HandS.TryOnly
import HandS.TryMany
import HandS.TupAny
import HandS.Zip
import HandS.Wide
import HandS.IsInst
import HandS.Style
import HandS.TupLe
import HandS.Lambda
import HandS.Conv
import HandS.Flow
import HandS.DictComp
import HandS.Small
import KE.DataEq
import HandS.CallSlots
import HandS.RaiseMore
import HandS.TupMul
import HandS.WideBits
import HandS.Defaults
import HandS.HeadHook2
import HandS.EndTab
import HandS.HeadWalk
import KE.KNestM
import HandS.Dict
import PyProof.StrOps2
import PySem.Challenge.RW_shardstack_k15_disks_that_go_down
section
set_option Elab.async false
set_option linter.all false
set_option maxRecDepth 100000
/-! Deep values over the hand layer: a mirror of expressions and statements by plain functions. -/
namespace DD
open PySem L2

/-- a value to its depth; ref: the l-th of the objects that may change; con: a named constant (a class, a def); fls: a list that nobody writes -/
inductive D where
  | non | bl (b : Bool) | int (i : Int) | str (x : Str) | tup (xs : List D) | ref (l : Nat) | con (c : Nat) | fls (xs : List D)
/-- an object that may change -/
inductive O where
  | lst (xs : List D) | dct (kvs : List (Key × D)) | ins (c : Nat) (fs : List (Str × D))
abbrev AH := List O
abbrev SL := List (Option D)
/-- the written part, the constants by number, the tables of code objects -/
structure G where
  K : PySem.W.Frag
  cl : Nat → Addr
  T : List (Addr × Str)

/-- a list that nobody writes -/
def FzL (K : PySem.W.Frag) (H : Hp) (a : Addr) (xs : List V) : Prop := (∃ o, H a = some (.frz o (.lst xs))) ∨
    ∃ (o : Obj) (its : Array Value) (n : Nat), K.lookup a = some o ∧ o.cls = .type "list" ∧ o.dict = none ∧ o.data = .seq its n ∧ its.size ≤ sizeLine ∧ Vals xs its.toList
mutual
inductive Den (g : G) (α : List Addr) (H : Hp) : D → V → Prop
  | non : Den g α H .non .non
  | bl (b : Bool) : Den g α H (.bl b) (.bl b)
  | int (i : Int) : Den g α H (.int i) (.int i)
  | str (x : Str) : Den g α H (.str x) (.str x)
  | tup {a : Addr} {ds : List D} {vs : List V} : SqT g.K H a vs → DenL g α H ds vs → Den g α H (.tup ds) (.ref a)
  | ref {l : Nat} {a : Addr} : α[l]? = some a → Den g α H (.ref l) (.ref a)
  | con {c : Nat} : Den g α H (.con c) (.ref (g.cl c))
  | fls {a : Addr} {ds : List D} {vs : List V} : FzL g.K H a vs → DenL g α H ds vs → Den g α H (.fls ds) (.ref a)
inductive DenL (g : G) (α : List Addr) (H : Hp) : List D → List V → Prop
  | nil : DenL g α H [] []
  | cons {d : D} {ds : List D} {v : V} {vs : List V} : Den g α H d v → DenL g α H ds vs → DenL g α H (d :: ds) (v :: vs)
end

/-- what stays of (α, H) in (α', H') -/
structure Ext (α : List Addr) (H : Hp) (α' : List Addr) (H' : Hp) : Prop where
  pre : ∀ (l : Nat) (a : Addr), α[l]? = some a → α'[l]? = some a
  tup : ∀ b xs, Rd H b (.tup xs) → Rd H' b (.tup xs)
  frl : ∀ b o xs, H b = some (.frz o (.lst xs)) → H' b = some (.frz o (.lst xs))

section
variable {g : G} {α α' α'' : List Addr} {H H' H'' : Hp} {d : D} {v : V} {ds es : List D} {vs ws : List V}
theorem Ext.refl : Ext α H α H := ⟨fun _ _ h => h, fun _ _ h => h, fun _ _ _ h => h⟩
theorem Ext.trans (a : Ext α H α' H') (b : Ext α' H' α'' H'') : Ext α H α'' H'' :=
  ⟨fun l x h => b.pre l x (a.pre l x h), fun c xs h => b.tup c xs (a.tup c xs h), fun c o xs h => b.frl c o xs (a.frl c o xs h)⟩
theorem Ext.sqT {K : PySem.W.Frag} {a : Addr} {xs : List V} (e : Ext α H α' H') (h : SqT K H a xs) : SqT K H' a xs := by
  rcases h with h | h
  · exact .inl (e.tup _ _ h)
  · exact .inr h
theorem Ext.fzL {K : PySem.W.Frag} {a : Addr} {xs : List V} (e : Ext α H α' H') (h : FzL K H a xs) : FzL K H' a xs := by
  rcases h with ⟨o, h⟩ | h
  · exact .inl ⟨o, e.frl _ _ _ h⟩
  · exact .inr h
theorem FzL.seq {K : PySem.W.Frag} {a : Addr} {xs : List V} (h : FzL K H a xs) : SqL K H a xs := by
  rcases h with ⟨o, h⟩ | h
  · exact .inl (.inr ⟨o, h⟩)
  · exact .inr h
mutual
theorem Den.ext (e : Ext α H α' H') : ∀ (d : D) (v : V), Den g α H d v → Den g α' H' d v
  | .non, _, h => by cases h; exact .non
  | .bl _, _, h => by cases h; exact .bl _
  | .int _, _, h => by cases h; exact .int _
  | .str _, _, h => by cases h; exact .str _
  | .tup ds, _, h => by
    cases h with
    | tup hs hl => exact .tup (e.sqT hs) (DenL.ext e ds _ hl)
  | .ref _, _, h => by
    cases h with
    | ref hl => exact .ref (e.pre _ _ hl)
  | .con _, _, h => by cases h; exact .con
  | .fls ds, _, h => by
    cases h with
    | fls hs hl => exact .fls (e.fzL hs) (DenL.ext e ds _ hl)
theorem DenL.ext (e : Ext α H α' H') : ∀ (ds : List D) (vs : List V), DenL g α H ds vs → DenL g α' H' ds vs
  | [], _, h => by cases h; exact .nil
  | d :: ds, _, h => by
    cases h with
    | cons h1 h2 => exact .cons (Den.ext e d _ h1) (DenL.ext e ds _ h2)
end
theorem DenL.length : ∀ {ds : List D} {vs : List V}, DenL g α H ds vs → ds.length = vs.length
  | [], _, h => by cases h; rfl
  | d :: ds, _, h => by
    cases h with
    | cons h1 h2 => simp [DenL.length h2]
theorem DenL.append : ∀ {ds es : List D} {vs ws : List V}, DenL g α H ds vs → DenL g α H es ws → DenL g α H (ds ++ es) (vs ++ ws)
  | [], _, _, _, h, k => by cases h; exact k
  | d :: ds, _, _, _, h, k => by
    cases h with
    | cons h1 h2 => exact .cons h1 (DenL.append h2 k)
theorem DenL.take : ∀ (n : Nat) {ds : List D} {vs : List V}, DenL g α H ds vs → DenL g α H (ds.take n) (vs.take n)
  | 0, _, _, _ => by simp only [List.take_zero]; exact .nil
  | n + 1, [], _, h => by cases h; exact .nil
  | n + 1, d :: ds, _, h => by
    cases h with
    | cons h1 h2 => exact .cons h1 (DenL.take n h2)
theorem DenL.drop : ∀ (n : Nat) {ds : List D} {vs : List V}, DenL g α H ds vs → DenL g α H (ds.drop n) (vs.drop n)
  | 0, _, _, h => h
  | n + 1, [], _, h => by cases h; exact .nil
  | n + 1, d :: ds, _, h => by
    cases h with
    | cons h1 h2 => exact DenL.drop n h2
theorem DenL.get : ∀ {ds : List D} {vs : List V} {i : Nat} {d : D}, DenL g α H ds vs → ds[i]? = some d → ∃ v, vs[i]? = some v ∧ Den g α H d v
  | [], _, _, _, h, e => by simp at e
  | d :: ds, _, 0, _, h, e => by
    cases h with
    | cons h1 h2 => simp at e; subst e; exact ⟨_, rfl, h1⟩
  | d :: ds, _, i + 1, _, h, e => by
    cases h with
    | cons h1 h2 =>
      obtain ⟨v, q, r⟩ := DenL.get (i := i) h2 (by simpa using e)
      exact ⟨v, by simpa using q, r⟩
theorem DenL.set : ∀ {ds : List D} {vs : List V} (i : Nat) {d : D} {v : V}, DenL g α H ds vs → Den g α H d v → DenL g α H (ds.set i d) (vs.set i v)
  | [], _, _, _, _, h, k => by cases h; exact .nil
  | d :: ds, _, 0, _, _, h, k => by
    cases h with
    | cons h1 h2 => exact .cons k h2
  | d :: ds, _, i + 1, _, _, h, k => by
    cases h with
    | cons h1 h2 => exact .cons h1 (DenL.set i h2 k)
theorem DenL.eraseIdx : ∀ {ds : List D} {vs : List V} (i : Nat), DenL g α H ds vs → DenL g α H (ds.eraseIdx i) (vs.eraseIdx i)
  | [], _, _, h => by cases h; exact .nil
  | d :: ds, _, 0, h => by
    cases h with
    | cons h1 h2 => exact h2
  | d :: ds, _, i + 1, h => by
    cases h with
    | cons h1 h2 => exact .cons h1 (DenL.eraseIdx i h2)
theorem DenL.snoc (h : DenL g α H ds vs) (k : Den g α H d v) : DenL g α H (ds ++ [d]) (vs ++ [v]) := h.append (.cons k .nil)
end

/-- what the mirrors write -/
def MutS : HO → Prop
  | .lst _ => True
  | .dK _ => True
  | .ins _ _ _ => True
  | _ => False
theorem MutS.mut {u : HO} (m : MutS u) : Mut (some u) := by cases u <;> first | exact True.intro | exact m.elim
/-- an object of the abstract heap at an address -/
def RepO (g : G) (α : List Addr) (H : Hp) (a : Addr) : O → Prop
  | .lst ds => ∃ vs, H a = some (.lst vs) ∧ DenL g α H ds vs
  | .dct kvs => ∃ ws : List (Key × V), H a = some (.dK ws) ∧ ws.map (·.1) = kvs.map (·.1) ∧ DenL g α H (kvs.map (·.2)) (ws.map (·.2))
  | .ins c fs => ∃ dx, ∃ ws : List (Str × V), H a = some (.ins (g.cl c) dx ws) ∧ ws.map (·.1) = fs.map (·.1) ∧ DenL g α H (fs.map (·.2)) (ws.map (·.2))
structure Rep (g : G) (α : List Addr) (h : AH) (H : Hp) : Prop where
  len : α.length = h.length
  nd : α.Nodup
  tabs : LamX.Tabs g.T H
  ob : ∀ (l : Nat) (o : O) (a : Addr), h[l]? = some o → α[l]? = some a → RepO g α H a o
/-- slots -/
structure DenS (g : G) (α : List Addr) (H : Hp) (τ : SL) (σ : St) : Prop where
  len : τ.length = σ.length
  at_ : ∀ (i : Nat) (d : D), τ[i]? = some (some d) → ∃ v, σ[i]? = some (some v) ∧ Den g α H d v

section
variable {g : G} {α α' α'' : List Addr} {H H' H'' : Hp} {d : D} {v : V} {ds es : List D} {vs ws : List V} {h : AH} {a : Addr} {o : O} {l : Nat}
theorem DenS.ext {τ : SL} {σ : St} (s : DenS g α H τ σ) (e : Ext α H α' H') : DenS g α' H' τ σ :=
  ⟨s.len, fun i d q => let ⟨v, h1, h2⟩ := s.at_ i d q; ⟨v, h1, Den.ext e _ _ h2⟩⟩
theorem DenS.set {τ : SL} {σ : St} (s : DenS g α H τ σ) (i : Nat) (k : Den g α H d v) : DenS g α H (τ.set i (some d)) (σ.set i (some v)) := by
  refine ⟨by simp [s.len], fun j e q => ?_⟩
  by_cases hj : i = j
  · subst hj
    by_cases hi : i < τ.length
    · rw [List.getElem?_set_self hi] at q
      cases q
      exact ⟨v, by rw [List.getElem?_set_self (by rw [← s.len]; exact hi)], k⟩
    · rw [List.getElem?_eq_none (by simp; omega)] at q
      cases q
  · rw [List.getElem?_set_ne hj] at q
    obtain ⟨w, h1, h2⟩ := s.at_ j e q
    exact ⟨w, by rw [List.getElem?_set_ne hj]; exact h1, h2⟩
theorem Rep.addr (r : Rep g α h H) (e : h[l]? = some o) : ∃ a, α[l]? = some a ∧ RepO g α H a o := by
  obtain ⟨hl, _⟩ := List.getElem?_eq_some_iff.mp e
  have hl' : l < α.length := by rw [r.len]; exact hl
  exact ⟨α[l], List.getElem?_eq_getElem hl', r.ob l o _ e (List.getElem?_eq_getElem hl')⟩
theorem nodup_at {β : Type} : ∀ {l : List β} {i j : Nat} {x : β}, l.Nodup → l[i]? = some x → l[j]? = some x → i = j
  | [], i, j, x, _, h, _ => by simp at h
  | b :: l, 0, 0, x, _, _, _ => rfl
  | b :: l, 0, j + 1, x, n, h1, h2 => by
    simp at h1 h2
    subst h1
    exact absurd (List.mem_of_getElem? h2) (List.nodup_cons.mp n).1
  | b :: l, i + 1, 0, x, n, h1, h2 => by
    simp at h1 h2
    subst h2
    exact absurd (List.mem_of_getElem? h1) (List.nodup_cons.mp n).1
  | b :: l, i + 1, j + 1, x, n, h1, h2 => by
    have := nodup_at (i := i) (j := j) (List.nodup_cons.mp n).2 (by simpa using h1) (by simpa using h2)
    omega
theorem Rep.inj (r : Rep g α h H) {i j : Nat} (h1 : α[i]? = some a) (h2 : α[j]? = some a) : i = j := nodup_at r.nd h1 h2
theorem RepO.ext (x : RepO g α H a o) (e : Ext α H α' H') (k : H' a = H a ) : RepO g α' H' a o := by
  cases o with
  | lst ds => obtain ⟨vs, h1, h2⟩ := x; exact ⟨vs, k.trans h1, DenL.ext e _ _ h2⟩
  | dct kvs => obtain ⟨ws, h1, h2, h3⟩ := x; exact ⟨ws, k.trans h1, h2, DenL.ext e _ _ h3⟩
  | ins c fs => obtain ⟨dx, ws, h1, h2, h3⟩ := x; exact ⟨dx, ws, k.trans h1, h2, DenL.ext e _ _ h3⟩
theorem RepO.some_of (x : RepO g α H a o) : ∃ u, H a = some u ∧ MutS u := by
  cases o with
  | lst ds => obtain ⟨vs, h1, h2⟩ := x; exact ⟨_, h1, True.intro⟩
  | dct kvs => obtain ⟨ws, h1, h2, h3⟩ := x; exact ⟨_, h1, True.intro⟩
  | ins c fs => obtain ⟨dx, ws, h1, h2, h3⟩ := x; exact ⟨_, h1, True.intro⟩
end

/-! ### outcomes -/
inductive EO where
  | ok (d : D) (h : AH) | exc (c : Nat) (h : AH) | bad
abbrev EM := SL → AH → EO
inductive SO where
  | nx (τ : SL) (h : AH) | rt (d : D) (h : AH) | bk (τ : SL) (h : AH) | ct (τ : SL) (h : AH) | exc (c : Nat) (τ : SL) (h : AH) | bad
abbrev SM := SL → AH → SO
def EO.bind : EO → (D → AH → EO) → EO
  | .ok d h, f => f d h
  | .exc c h, _ => .exc c h
  | .bad, _ => .bad

def PostE (g : G) (W : WX) (α : List Addr) (H : Hp) (σ : St) (Q : VK) : EO → Prop
  | .ok d h' => ∀ α' H' v, Ext α H α' H' → Rep g α' h' H' → Den g α' H' d v → Q v H'
  | .exc c h' => ∀ α' H', Ext α H α' H' → Rep g α' h' H' → W (.ref (g.cl c)) none σ H'
  | .bad => False
def tE (g : G) (W : WX) (m : EM) : TE := fun σ H Q => ∃ α h τ, Rep g α h H ∧ DenS g α H τ σ ∧ PostE g W α H σ Q (m τ h)

section
variable {g : G} {W : WX} {α α' α'' : List Addr} {H H' H'' : Hp} {σ : St} {Q Q' : VK} {o : EO} {f : D → AH → EO}
theorem PostE.mono (p : PostE g W α H σ Q o) (e : Ext α H α' H') : PostE g W α' H' σ Q o := by
  cases o with
  | ok d h => exact fun α2 H2 v e2 r d => p α2 H2 v (e.trans e2) r d
  | exc c h => exact fun α2 H2 e2 r => p α2 H2 (e.trans e2) r
  | bad => exact p
theorem PostE.imp (p : PostE g W α H σ Q o) (k : ∀ v H', Q v H' → Q' v H') : PostE g W α H σ Q' o := by
  cases o with
  | ok d h => exact fun α2 H2 v e2 r d => k _ _ (p α2 H2 v e2 r d)
  | exc c h => exact p
  | bad => exact p
theorem PostE.bind (p : PostE g W α H σ Q (o.bind f)) :
    PostE g W α H σ (fun v H1 => ∃ α1 d h1, Ext α H α1 H1 ∧ Rep g α1 h1 H1 ∧ Den g α1 H1 d v ∧ PostE g W α1 H1 σ Q (f d h1)) o := by
  cases o with
  | ok d h => exact fun α2 H2 v e2 r dd => ⟨α2, d, h, e2, r, dd, PostE.mono p e2⟩
  | exc c h => exact p
  | bad => exact p
end

theorem PE.imp {X : Cx} {e : Expr} {t t' : TE} (h : PE X e t) (k : ∀ σ H Q, t' σ H Q → t σ H Q) : PE X e t' :=
  ⟨fun pins s σ H Q I q => h.run pins s σ H Q I (k σ H Q q)⟩
theorem PT.imp {X : Cx} {e : Expr} {t t' : TT} (h : PT X e t) (k : ∀ σ H Q, t' σ H Q → t σ H Q) : PT X e t' :=
  ⟨fun pins s σ H Q I q => h.run pins s σ H Q I (k σ H Q q)⟩
theorem PS.imp {X : Cx} {e : Stmt} {t t' : TS} (h : PS X e t) (k : ∀ D σ H, t' D σ H → t D σ H) : PS X e t' :=
  ⟨fun pins s σ H Q I q => h.run pins s σ H Q I (k Q σ H q)⟩
theorem PSs.imp {X : Cx} {e : List Stmt} {t t' : TS} (h : PSs X e t) (k : ∀ D σ H, t' D σ H → t D σ H) : PSs X e t' :=
  ⟨fun pins s σ H Q I q => h.run pins s σ H Q I (k Q σ H q)⟩

/-! ### new objects, written objects -/
section
variable {g : G} {α α' α'' : List Addr} {H H' H'' : Hp} {d : D} {v : V} {ds es : List D} {vs ws : List V} {h : AH} {a p : Addr} {o : O} {l : Nat} {u u' : HO}
/-- a new thing at p -/
theorem Ext.new (hp : H p = none) : Ext α H α (upd H p u) := by
  refine ⟨fun _ _ h => h, fun b xs r => ?_, fun b o xs e => by rw [upd_ne (ne_of_none e hp)]; exact e⟩
  rcases r with r | ⟨ob, r⟩
  · exact .inl (by rw [upd_ne (ne_of_none r hp)]; exact r)
  · exact .inr ⟨ob, by rw [upd_ne (ne_of_none r hp)]; exact r⟩
theorem tabs_new {T : List (Addr × Str)} (t : LamX.Tabs T H) (hp : H p = none) : LamX.Tabs T (upd H p u) := t.ext fun b o e => by rw [upd_ne (ne_of_none e hp)]; exact e
theorem tabs_put {T : List (Addr × Str)} (t : LamX.Tabs T H) (ha : H a = some u) (m : MutS u) : LamX.Tabs T (upd H a u') := fun q hq => by
  obtain ⟨ps, h1, h2, h3⟩ := t q hq
  have n1 : q.1 ≠ a := fun z => by rw [z, ha] at h1; cases h1; exact m
  refine ⟨ps, by rw [upd_ne n1]; exact h1, h2, fun pos cv hc => ?_⟩
  obtain ⟨c, e1, e2⟩ := h3 pos cv hc
  refine ⟨c, e1, ?_⟩
  have n2 : c ≠ a := fun z => by
    rw [z, ha] at e2
    have e3 := Option.some.inj e2
    unfold LamX.CodeO at e3
    rw [e3] at m
    exact m
  rw [upd_ne n2]
  exact e2
theorem Ext.put (ha : H a = some u) (m' : MutS u) : Ext α H α (upd H a u') := by
  have m := m'.mut
  have nt : ∀ b x, H b = some x → ¬ Mut (some x) → b ≠ a := fun b x e nm z => by subst z; rw [ha] at e; cases e; exact nm m
  refine ⟨fun _ _ h => h, fun b xs r => ?_, fun b o xs e => by rw [upd_ne (nt b _ e (fun z => z))]; exact e⟩
  rcases r with r | ⟨ob, r⟩
  · exact .inl (by rw [upd_ne (nt b _ r (fun z => z))]; exact r)
  · exact .inr ⟨ob, by rw [upd_ne (nt b _ r (fun z => z))]; exact r⟩
theorem Ext.app (b : List Addr) : Ext α H (α ++ b) H := ⟨fun l a e => by
  obtain ⟨hl, _⟩ := List.getElem?_eq_some_iff.mp e
  rw [List.getElem?_append_left hl]; exact e, fun _ _ h => h, fun _ _ _ h => h⟩
/-- an immutable thing is laid: the abstract heap is as it was -/
theorem Rep.new (r : Rep g α h H) (hp : H p = none) : Rep g α h (upd H p u) := by
  refine ⟨r.len, r.nd, tabs_new r.tabs hp, fun l o a h1 h2 => ?_⟩
  have x := r.ob l o a h1 h2
  obtain ⟨z, e, _⟩ := x.some_of
  exact x.ext (Ext.new hp) (upd_ne (ne_of_none e hp))
theorem Rep.ne_new (r : Rep g α h H) (hp : H p = none) : p ∉ α := fun hm => by
  obtain ⟨i, hi, e⟩ := List.getElem_of_mem hm
  have h1 : α[i]? = some p := by rw [List.getElem?_eq_getElem hi, e]
  have hl : i < h.length := by rw [← r.len]; exact hi
  obtain ⟨z, e2, _⟩ := (r.ob i _ p (List.getElem?_eq_getElem hl) h1).some_of
  rw [hp] at e2; cases e2
/-- a thing that may change is laid at p -/
theorem Rep.push (r : Rep g α h H) (hp : H p = none) (x : RepO g (α ++ [p]) (upd H p u) p o) : Rep g (α ++ [p]) (h ++ [o]) (upd H p u) ∧ Ext α H (α ++ [p]) (upd H p u) := by
  have e : Ext α H (α ++ [p]) (upd H p u) := (Ext.new hp).trans (Ext.app _)
  refine ⟨⟨by simp [r.len], ?_, tabs_new r.tabs hp, fun l o' a h1 h2 => ?_⟩, e⟩
  · rw [List.nodup_append]
    refine ⟨r.nd, by simp, fun b hb c hc => ?_⟩
    rw [List.mem_singleton] at hc
    subst hc
    intro q
    subst q
    exact r.ne_new hp hb
  · by_cases hl : l < h.length
    · rw [List.getElem?_append_left hl] at h1
      rw [List.getElem?_append_left (by rw [r.len]; exact hl)] at h2
      have y := r.ob l o' a h1 h2
      obtain ⟨z, e3, _⟩ := y.some_of
      exact y.ext e (upd_ne (ne_of_none e3 hp))
    · have hle : l < (h ++ [o]).length := (List.getElem?_eq_some_iff.mp h1).1
      have : l = h.length := by rw [List.length_append, List.length_singleton] at hle; omega
      subst this
      rw [List.getElem?_append_right (Nat.le_refl _), Nat.sub_self] at h1
      rw [← r.len, List.getElem?_append_right (Nat.le_refl _), Nat.sub_self] at h2
      cases h1
      cases h2
      exact x
/-- what stands at l is written -/
theorem Rep.write (r : Rep g α h H) (hl : α[l]? = some a) (ha : H a = some u) (m : MutS u) (x : RepO g α (upd H a u') a o) : Rep g α (h.set l o) (upd H a u') ∧ Ext α H α (upd H a u') := by
  have e : Ext α H α (upd H a u') := Ext.put ha m
  refine ⟨⟨by simp [r.len], r.nd, tabs_put r.tabs ha m, fun j o' b h1 h2 => ?_⟩, e⟩
  by_cases hj : l = j
  · subst hj
    rw [hl] at h2
    cases h2
    have hlt : l < h.length := by rw [← r.len]; exact (List.getElem?_eq_some_iff.mp hl).1
    rw [List.getElem?_set_self hlt] at h1
    cases h1
    exact x
  · rw [List.getElem?_set_ne hj] at h1
    have y := r.ob j o' b h1 h2
    refine y.ext e (upd_ne fun q => hj ?_)
    subst q
    exact (r.inj h2 hl).symm
end
end DD
end

section
set_option Elab.async false
set_option linter.all false
set_option maxRecDepth 100000
/-! Expressions. -/
namespace DD
open PySem L2
open PyProof.Rows (b2i)

/-! ### mirrors of expressions -/
def varM (i : Nat) : EM := fun τ h => match τ[i]? with
  | some (some d) => .ok d h
  | _ => .bad
def cM (d : D) : EM := fun _ h => .ok d h
def binM (a b : EM) (f : D → D → AH → EO) : EM := fun τ h => (a τ h).bind fun x h1 => (b τ h1).bind fun y h2 => f x y h2
def unM (a : EM) (f : D → AH → EO) : EM := fun τ h => (a τ h).bind fun x h1 => f x h1

section
variable {X : Cx} {g : G} {W : WX} {a b c e : Expr} {ma mb mc : EM} {pos : Pos} {σ : St} {H : Hp} {Q : VK}

theorem tE_var {i : Nat} (p : tE g W (varM i) σ H Q) : tVar i σ H Q := by
  obtain ⟨α, h, τ, r, s, p⟩ := p
  unfold varM at p
  split at p
  · rename_i d e
    obtain ⟨v, h1, h2⟩ := s.at_ i d e
    exact ⟨v, h1, p α H v .refl r h2⟩
  · exact p.elim
theorem tE_c {d : D} {v : V} (hd : ∀ α H, Den g α H d v) (p : tE g W (cM d) σ H Q) : tC v σ H Q := by
  obtain ⟨α, h, τ, r, s, p⟩ := p
  exact p α H v .refl r (hd α H)
theorem de_var {i : Nat} (h : PE X e (tVar i)) : PE X e (tE g W (varM i)) := PE.imp h fun _ _ _ => tE_var
theorem de_c {d : D} {v : V} (hd : ∀ α H, Den g α H d v) (h : PE X e (tC v)) : PE X e (tE g W (cM d)) := PE.imp h fun _ _ _ => tE_c hd

/-- an operation by values keeps what f says -/
def RS2 (g : G) (W : WX) (r : R2) (f : D → D → AH → EO) : Prop :=
  ∀ (α : List Addr) (h : AH) (H : Hp) (σ : St) (x y : V) (dx dy : D) (Q : VK), Rep g α h H → Den g α H dx x → Den g α H dy y → PostE g W α H σ Q (f dx dy h) → r x y H Q
def RS1 (g : G) (W : WX) (r : V → Hp → VK → Prop) (f : D → AH → EO) : Prop :=
  ∀ (α : List Addr) (h : AH) (H : Hp) (σ : St) (x : V) (dx : D) (Q : VK), Rep g α h H → Den g α H dx x → PostE g W α H σ Q (f dx h) → r x H Q
theorem tE_bin {r : R2} {f : D → D → AH → EO} (rs : RS2 g W r f) (p : tE g W (binM ma mb f) σ H Q) : tOp r (tE g W ma) (tE g W mb) σ H Q := by
  obtain ⟨α, h, τ, R, s, p⟩ := p
  refine ⟨α, h, τ, R, s, PostE.imp (PostE.bind p) ?_⟩
  rintro v H1 ⟨α1, d, h1, E1, R1, D1, p1⟩
  refine ⟨α1, h1, τ, R1, s.ext E1, PostE.imp (PostE.bind p1) ?_⟩
  rintro w H2 ⟨α2, d2, h2, E2, R2, D2, p2⟩
  exact rs α2 h2 H2 σ v w d d2 Q R2 (Den.ext E2 _ _ D1) D2 p2
theorem tE_un {r : V → Hp → VK → Prop} {f : D → AH → EO} (rs : RS1 g W r f) (p : tE g W (unM ma f) σ H Q) : tUn r (tE g W ma) σ H Q := by
  obtain ⟨α, h, τ, R, s, p⟩ := p
  refine ⟨α, h, τ, R, s, PostE.imp (PostE.bind p) ?_⟩
  rintro v H1 ⟨α1, d, h1, E1, R1, D1, p1⟩
  exact rs α1 h1 H1 σ v d Q R1 D1 p1
theorem de_op {op : Operator} {r : R2} {f : D → D → AH → EO} (ho : OpR X (binaryOp op) r) (rs : RS2 g W r f) (ha : PE X a (tE g W ma)) (hb : PE X b (tE g W mb)) : PE X (.BinOp a op b pos) (tE g W (binM ma mb f)) :=
  PE.imp (pe_op ho ha hb) fun _ _ _ => tE_bin rs
theorem de_un {op : UnaryOp} {r : V → Hp → VK → Prop} {f : D → AH → EO} (ho : UnR X (unaryOp op) r) (rs : RS1 g W r f) (ha : PE X a (tE g W ma)) : PE X (.UnaryOp op a pos) (tE g W (unM ma f)) :=
  PE.imp (pe_un ho ha) fun _ _ _ => tE_un rs
theorem de_cmp {op : CmpOp} {r : R2} {f : D → D → AH → EO} (ho : OpR X (compareOp op) r) (rs : RS2 g W r f) (ha : PE X a (tE g W ma)) (hb : PE X b (tE g W mb)) (hm : behindInMarks op b = false) : PE X (.Compare a [op] [b] pos) (tE g W (binM ma mb f)) :=
  PE.imp (pe_cmpR ho ha hb hm) fun _ _ _ => tE_bin rs
theorem de_ix {r : R2} {f : D → D → AH → EO} (ho : IxR X r) (rs : RS2 g W r f) (ha : PE X a (tE g W ma)) (hb : PE X b (tE g W mb)) (hm : PlainIx b) : PE X (.Subscript a b pos) (tE g W (binM ma mb f)) :=
  PE.imp (pe_ix ho ha hb hm) fun _ _ _ => tE_bin rs

/-! ### ints -/
def iiM (C : Int → Int → Bool) (k : Int → Int → D) : D → D → AH → EO
  | .int i, .int j, h => if C i j = true then .ok (k i j) h else .bad
  | _, _, _ => .bad
theorem rs_rI {C : Int → Int → Prop} {Cb : Int → Int → Bool} {gv : Int → Int → V} {k : Int → Int → D} (hC : ∀ i j, Cb i j = true → C i j) (hd : ∀ i j α H, Den g α H (k i j) (gv i j)) : RS2 g W (rI C gv) (iiM Cb k) := by
  intro α h H σ x y dx dy Q R hx hy p
  cases hx <;> cases hy <;> try exact False.elim p
  rename_i i j
  simp only [iiM] at p
  by_cases hc : Cb i j = true
  · rw [if_pos hc] at p
    exact ⟨i, j, rfl, rfl, hC i j hc, p α H _ .refl R (hd i j α H)⟩
  · rw [if_neg hc] at p
    exact p.elim
theorem rs_rI0 {gv : Int → Int → V} {k : Int → Int → D} (hd : ∀ i j α H, Den g α H (k i j) (gv i j)) : RS2 g W (rI0 gv) (iiM (fun _ _ => true) k) := by
  intro α h H σ x y dx dy Q R hx hy p
  cases hx <;> cases hy <;> try exact False.elim p
  rename_i i j
  exact ⟨i, j, rfl, rfl, p α H _ .refl R (hd i j α H)⟩
theorem den_int {i j : Int} {α : List Addr} : Den g α H (.int i) (.int i) := .int i
theorem den_bl {i : Bool} {α : List Addr} : Den g α H (.bl i) (.bl i) := .bl i
abbrev ltM : D → D → AH → EO := iiM (fun _ _ => true) fun i j => .bl (decide (i < j))
abbrev leM : D → D → AH → EO := iiM (fun _ _ => true) fun i j => .bl (decide (i ≤ j))
abbrev gtM : D → D → AH → EO := iiM (fun _ _ => true) fun i j => .bl (decide (j < i))
abbrev geM : D → D → AH → EO := iiM (fun _ _ => true) fun i j => .bl (decide (j ≤ i))
abbrev subM : D → D → AH → EO := iiM (fun _ _ => true) fun i j => .int (i - j)
def CMb (i j : Int) : Bool := (decide (-(2 ^ 64) < i) && decide (i < 2 ^ 64)) || (decide (-(2 ^ 64) < j) && decide (j < 2 ^ 64))
def CDb (i j : Int) : Bool := decide (0 < j) && decide (j < 2 ^ 128)
def CPb (i j : Int) : Bool := decide (0 ≤ j) && decide (j ≤ 1000000) && decide (i.natAbs < 2 ^ 64)
abbrev fdivM : D → D → AH → EO := iiM CDb fun i j => .int (i / j)
abbrev modM : D → D → AH → EO := iiM (fun _ j => decide (0 < j)) fun i j => .int (i % j)
abbrev powM : D → D → AH → EO := iiM CPb fun i j => .int (i ^ j.toNat)
theorem rs_lt : RS2 g W (rI0 fun i j => .bl (decide (i < j))) ltM := rs_rI0 fun _ _ _ _ => .bl _
theorem rs_le : RS2 g W (rI0 fun i j => .bl (decide (i ≤ j))) leM := rs_rI0 fun _ _ _ _ => .bl _
theorem rs_gt : RS2 g W (rI0 fun i j => .bl (decide (j < i))) gtM := rs_rI0 fun _ _ _ _ => .bl _
theorem rs_ge : RS2 g W (rI0 fun i j => .bl (decide (j ≤ i))) geM := rs_rI0 fun _ _ _ _ => .bl _
theorem rs_sub : RS2 g W (rI0 fun i j => .int (i - j)) subM := rs_rI0 fun _ _ _ _ => .int _
theorem rs_mod : RS2 g W (rI (fun _ j => 0 < j) fun i j => .int (i % j)) modM := rs_rI (fun _ _ h => of_decide_eq_true h) fun _ _ _ _ => .int _
theorem cdiv_ok (i j : Int) (h : CDb i j = true) : CDivW i j := by
  unfold CDb at h
  rw [Bool.and_eq_true, decide_eq_true_eq, decide_eq_true_eq] at h
  exact wide_div h.1 (b := 128) (by omega) (by decide) (by decide)
theorem rs_fdiv : RS2 g W (rI CDivW fun i j => .int (i / j)) fdivM := rs_rI cdiv_ok fun _ _ _ _ => .int _
theorem cpow_ok (i j : Int) (h : CPb i j = true) : CPow i j := by
  unfold CPb at h
  rw [Bool.and_eq_true, Bool.and_eq_true, decide_eq_true_eq, decide_eq_true_eq, decide_eq_true_eq] at h
  exact ⟨h.1.1, h.1.2, h.2⟩
theorem rs_pow : RS2 g W (rI CPow fun i j => .int (i ^ j.toNat)) powM := rs_rI cpow_ok fun _ _ _ _ => .int _

/-! ### + -/
def addM : D → D → AH → EO
  | .int i, .int j, h => .ok (.int (i + j)) h
  | .int i, .bl k, h => .ok (.int (i + b2i k)) h
  | .str x, .str y, h => if x.length + y.length ≤ sizeLine then .ok (.str (x ++ y)) h else .bad
  | .tup xs, .tup ys, h => if xs.length + ys.length ≤ sizeLine then .ok (.tup (xs ++ ys)) h else .bad
  | .ref i, .ref j, h => match h[i]?, h[j]? with
    | some (.lst xs), some (.lst ys) => if xs.length + ys.length ≤ sizeLine then .ok (.ref h.length) (h ++ [.lst (xs ++ ys)]) else .bad
    | _, _ => .bad
  | _, _, _ => .bad
def rAddAny (K : PySem.W.Frag) : R2 := fun x y H Q =>
  (∃ i j, x = .int i ∧ y = .int j ∧ Q (.int (i + j)) H) ∨ (∃ i k, x = .int i ∧ y = .bl k ∧ Q (.int (i + b2i k)) H) ∨
  (∃ i j, x = .str i ∧ y = .str j ∧ i.length + j.length ≤ sizeLine ∧ Q (.str (i ++ j)) H) ∨ rCatA K x y H Q ∨ rCat x y H Q
theorem op_addAny : OpR X (binaryOp .Add) (rAddAny X.K) := OpR.or op_add (OpR.or op_add_ib (OpR.or op_add_str (OpR.or op_catA op_cat)))
theorem rs_add : RS2 g W (rAddAny g.K) addM := by
  intro α h H σ x y dx dy Q R hx hy p
  cases hx <;> cases hy <;> try exact False.elim p
  · rename_i i k
    exact .inr (.inl ⟨i, k, rfl, rfl, p α H _ .refl R (.int _)⟩)
  · rename_i i j
    exact .inl ⟨i, j, rfl, rfl, p α H _ .refl R (.int _)⟩
  · rename_i i j
    simp only [addM] at p
    split at p
    · rename_i hl
      exact .inr (.inr (.inl ⟨i, j, rfl, rfl, hl, p α H _ .refl R (.str _)⟩))
    · exact p.elim
  · rename_i a ds vs h1 h2 b es ws h3 h4
    simp only [addM] at p
    split at p
    · rename_i hl
      refine .inr (.inr (.inr (.inl ⟨a, b, vs, ws, rfl, rfl, h1, h3, by rw [← h2.length, ← h4.length]; exact hl, fun e => ?_, fun e1 e2 => ?_, fun e1 e2 q hq => ?_⟩)))
      · subst e
        cases h2
        exact p α H _ .refl R (.tup h3 h4)
      · subst e2
        cases h4
        exact p α H _ .refl R (by simpa using Den.tup h1 h2)
      · refine p α _ _ (Ext.new hq) (R.new hq) (.tup (SqT.of upd_same) ?_)
        exact (DenL.ext (Ext.new hq) _ _ h2).append (DenL.ext (Ext.new hq) _ _ h4)
    · exact p.elim
  · rename_i l1 a1 e1 l2 a2 e2
    simp only [addM] at p
    split at p
    · rename_i xs ys h1 h2
      split at p
      · rename_i hl
        obtain ⟨vs, q1, q2⟩ := R.ob _ _ _ h1 e1
        obtain ⟨ws, q3, q4⟩ := R.ob _ _ _ h2 e2
        refine .inr (.inr (.inr (.inr ⟨a1, a2, vs, ws, rfl, rfl, q1, q3, by rw [← q2.length, ← q4.length]; exact hl, fun z hz => ?_⟩)))
        have E := (Ext.new (u := .lst (vs ++ ws)) hz).trans (Ext.app (α := α) [z])
        have x : RepO g (α ++ [z]) (upd H z (.lst (vs ++ ws))) z (.lst (xs ++ ys)) := ⟨_, upd_same, (DenL.ext E _ _ q2).append (DenL.ext E _ _ q4)⟩
        obtain ⟨R', E'⟩ := R.push hz x
        exact p _ _ _ E' R' (.ref (by rw [← R.len]; simp))
      · exact p.elim
    · exact p.elim
end
end DD
end

section
set_option Elab.async false
set_option linter.all false
set_option maxRecDepth 100000
namespace DD
open PySem L2
open PyProof.Rows (b2i)

/-! ### data to compare -/
mutual
def toP : D → PyData
  | .non => .none
  | .bl b => .bool b
  | .int i => .int i
  | .str x => .str x
  | .tup xs => .tuple (toPs xs)
  | .ref _ => .none
  | .con _ => .none
  | .fls _ => .none
def toPs : List D → List PyData
  | [] => []
  | d :: ds => toP d :: toPs ds
end
mutual
/-- no list, no object within -/
def plD : D → Bool
  | .non => true
  | .bl _ => true
  | .int _ => true
  | .str _ => true
  | .tup xs => plDs xs
  | .ref _ => false
  | .con _ => false
  | .fls _ => false
def plDs : List D → Bool
  | [] => true
  | d :: ds => plD d && plDs ds
end
mutual
def depD : D → Nat
  | .tup xs => depDs xs + 1
  | .non => 0
  | .bl _ => 0
  | .int _ => 0
  | .str _ => 0
  | .ref _ => 0
  | .con _ => 0
  | .fls _ => 0
def depDs : List D → Nat
  | [] => 0
  | d :: ds => max (depD d) (depDs ds)
end
mutual
/-- x == y -/
def eqD : D → D → Bool
  | .non, .non => true
  | .bl a, .bl b => a == b
  | .bl a, .int j => (if a then 1 else 0) == j
  | .int i, .bl b => i == (if b then 1 else 0)
  | .int i, .int j => i == j
  | .str x, .str y => x == y
  | .tup xs, .tup ys => eqDs xs ys
  | _, _ => false
def eqDs : List D → List D → Bool
  | [], [] => true
  | x :: xs, y :: ys => eqD x y && eqDs xs ys
  | _, _ => false
end
mutual
theorem eqD_toP : ∀ (x y : D), plD x = true → plD y = true → PyData.eqv (toP x) (toP y) = eqD x y
  | .non, y, _, h => by cases y <;> simp_all [toP, eqD, PyData.eqv, plD]
  | .bl _, y, _, h => by cases y <;> simp_all [toP, eqD, PyData.eqv, plD]
  | .int _, y, _, h => by cases y <;> simp_all [toP, eqD, PyData.eqv, plD]
  | .str _, y, _, h => by cases y <;> simp_all [toP, eqD, PyData.eqv, plD]
  | .tup xs, y, h0, h => by
    cases y with
    | tup ys =>
      simp only [toP, eqD, PyData.eqv]
      exact eqDs_toP xs ys (by simpa [plD] using h0) (by simpa [plD] using h)
    | _ => simp_all [toP, eqD, PyData.eqv, plD]
  | .ref _, _, h, _ => by simp [plD] at h
  | .con _, _, h, _ => by simp [plD] at h
  | .fls _, _, h, _ => by simp [plD] at h
theorem eqDs_toP : ∀ (xs ys : List D), plDs xs = true → plDs ys = true → PyData.eqvAll (toPs xs) (toPs ys) = eqDs xs ys
  | [], [], _, _ => by simp [toPs, eqDs, PyData.eqvAll]
  | [], _ :: _, _, _ => by simp [toPs, eqDs, PyData.eqvAll]
  | _ :: _, [], _, _ => by simp [toPs, eqDs, PyData.eqvAll]
  | x :: xs, y :: ys, h1, h2 => by
    simp only [plDs, Bool.and_eq_true] at h1 h2
    simp only [toPs, eqDs, PyData.eqvAll]
    rw [eqD_toP x y h1.1 h2.1, eqDs_toP xs ys h1.2 h2.2]
end
mutual
theorem depD_toP : ∀ (x : D), (toP x).depth = depD x
  | .non => by simp [toP, depD, PyData.depth]
  | .bl _ => by simp [toP, depD, PyData.depth]
  | .int _ => by simp [toP, depD, PyData.depth]
  | .str _ => by simp [toP, depD, PyData.depth]
  | .ref _ => by simp [toP, depD, PyData.depth]
  | .con _ => by simp [toP, depD, PyData.depth]
  | .fls _ => by simp [toP, depD, PyData.depth]
  | .tup xs => by simp only [toP, depD, PyData.depth]; rw [depDs_toP xs]
theorem depDs_toP : ∀ (xs : List D), PyData.depthAll (toPs xs) = depDs xs
  | [] => by simp [toPs, depDs, PyData.depthAll]
  | x :: xs => by simp only [toPs, depDs, PyData.depthAll]; rw [depD_toP x, depDs_toP xs]
end
mutual
theorem plain_toP : ∀ (x : D), (toP x).plain = true
  | .non => by simp [toP, PyData.plain]
  | .bl _ => by simp [toP, PyData.plain]
  | .int _ => by simp [toP, PyData.plain]
  | .str _ => by simp [toP, PyData.plain]
  | .ref _ => by simp [toP, PyData.plain]
  | .con _ => by simp [toP, PyData.plain]
  | .fls _ => by simp [toP, PyData.plain]
  | .tup xs => by simp only [toP, PyData.plain]; exact plains_toP xs
theorem plains_toP : ∀ (xs : List D), PyData.plainAll (toPs xs) = true
  | [] => by simp [toPs, PyData.plainAll]
  | x :: xs => by simp only [toPs, PyData.plainAll]; rw [plain_toP x, plains_toP xs]; rfl
end
section
variable {g : G} {α : List Addr} {H : Hp}
mutual
theorem toP_den : ∀ (d : D) (v : V), Den g α H d v → plD d = true → Dp g.K H v (toP d)
  | .non, _, h, _ => by cases h; exact .non
  | .bl _, _, h, _ => by cases h; exact .bl _
  | .int _, _, h, _ => by cases h; exact .int _
  | .str _, _, h, _ => by cases h; exact .str _
  | .tup ds, _, h, q => by
    cases h with
    | tup hs hl => exact .tup hs (toPs_den ds _ hl (by simpa [plD] using q))
  | .ref _, _, _, q => by simp [plD] at q
  | .con _, _, _, q => by simp [plD] at q
  | .fls _, _, _, q => by simp [plD] at q
theorem toPs_den : ∀ (ds : List D) (vs : List V), DenL g α H ds vs → plDs ds = true → DpAll g.K H vs (toPs ds)
  | [], _, h, _ => by cases h; exact .nil
  | d :: ds, _, h, q => by
    cases h with
    | cons h1 h2 =>
      simp only [plDs, Bool.and_eq_true] at q
      exact .cons (toP_den d _ h1 q.1) (toPs_den ds _ h2 q.2)
end
end
/-- lists by their items, all else by itself -/
def eqB (h : AH) (x y : D) : Option Bool := match x, y with
  | .ref i, .ref j => match h[i]?, h[j]? with
    | some (.lst xs), some (.lst ys) => if (plDs xs && plDs ys && decide (min (depDs xs) (depDs ys) < 64)) = true then some (eqDs xs ys) else none
    | _, _ => none
  | a, b => if (plD a && plD b && decide (min (depD a) (depD b) ≤ 64)) = true then some (eqD a b) else none
def eqM (x y : D) (h : AH) : EO := match eqB h x y with
  | some b => .ok (.bl b) h
  | none => .bad
def neM (x y : D) (h : AH) : EO := match eqB h x y with
  | some b => .ok (.bl (!b)) h
  | none => .bad
def rEqAny (K : PySem.W.Frag) : R2 := fun x y H Q => ∃ d e, Dp K H x d ∧ Dp K H y e ∧ d.plain = true ∧ e.plain = true ∧ min d.depth e.depth ≤ 64 ∧ Q (.bl (PyData.eqv d e)) H
def rNeAny (K : PySem.W.Frag) : R2 := fun x y H Q => ∃ d e, Dp K H x d ∧ Dp K H y e ∧ d.plain = true ∧ e.plain = true ∧ min d.depth e.depth ≤ 64 ∧ Q (.bl (!PyData.eqv d e)) H
section
variable {X : Cx} {g : G} {W : WX} {a b c e : Expr} {ma mb mc : EM} {pos : Pos} {σ : St} {H : Hp} {Q : VK}
theorem op_eqAny (hu : X.A.units + 64 < cLine) : OpR X (compareOp .Eq) (rEqAny X.K) := by
  intro pins s σ H x y v u Q I rx ry h
  obtain ⟨d, e, hd, he, pd, pe, hz, q⟩ := h
  obtain ⟨as, r1⟩ := Dp.reads I d x v hd rx
  obtain ⟨bs, r2⟩ := Dp.reads I e y u he ry
  exact SeqAt.eq_plain r1 r2 pd pe (by omega) ⟨.bl _, H, I, rfl, q⟩
theorem op_neAny (hu : X.A.units + 64 < cLine) : OpR X (compareOp .NotEq) (rNeAny X.K) := by
  intro pins s σ H x y v u Q I rx ry h
  obtain ⟨d, e, hd, he, pd, pe, hz, q⟩ := h
  obtain ⟨as, r1⟩ := Dp.reads I d x v hd rx
  obtain ⟨bs, r2⟩ := Dp.reads I e y u he ry
  exact SeqAt.ne_plain r1 r2 pd pe (by omega) ⟨.bl _, H, I, rfl, q⟩
theorem eqB_den {α : List Addr} {h : AH} {x y : V} {dx dy : D} {k : Bool} (R : Rep g α h H) (hx : Den g α H dx x) (hy : Den g α H dy y) (q : eqB h dx dy = some k) : ∃ d e, Dp g.K H x d ∧ Dp g.K H y e ∧ d.plain = true ∧ e.plain = true ∧ min d.depth e.depth ≤ 64 ∧ PyData.eqv d e = k := by
  unfold eqB at q
  split at q
  · split at q
    · rename_i xs ys h1 h2
      split at q
      · rename_i hc
        simp only [Bool.and_eq_true, decide_eq_true_eq] at hc
        cases q
        cases hx with
        | ref ha =>
          cases hy with
          | ref hb =>
            obtain ⟨vs, a1, a2⟩ := R.ob _ _ _ h1 ha
            obtain ⟨ws, b1, b2⟩ := R.ob _ _ _ h2 hb
            refine ⟨.list (toPs xs), .list (toPs ys), .lst (SqL.of a1) (toPs_den xs _ a2 hc.1.1), .lst (SqL.of b1) (toPs_den ys _ b2 hc.1.2), by simp only [PyData.plain]; exact plains_toP xs, by simp only [PyData.plain]; exact plains_toP ys, ?_, ?_⟩
            · simp only [PyData.depth, depDs_toP]
              omega
            · simp only [PyData.eqv]
              exact eqDs_toP xs ys hc.1.1 hc.1.2
      · cases q
    · cases q
  · split at q
    · rename_i hc
      simp only [Bool.and_eq_true, decide_eq_true_eq] at hc
      cases q
      exact ⟨toP dx, toP dy, toP_den _ _ hx hc.1.1, toP_den _ _ hy hc.1.2, plain_toP _, plain_toP _, by rw [depD_toP, depD_toP]; exact hc.2, eqD_toP _ _ hc.1.1 hc.1.2⟩
    · cases q
theorem rs_eq : RS2 g W (rEqAny g.K) eqM := by
  intro α h H σ x y dx dy Q R hx hy p
  unfold eqM at p
  split at p
  · rename_i k hk
    obtain ⟨d, e, h1, h2, h3, h4, h5, h6⟩ := eqB_den R hx hy hk
    exact ⟨d, e, h1, h2, h3, h4, h5, by rw [h6]; exact p α H _ .refl R (.bl _)⟩
  · exact p.elim
theorem rs_ne : RS2 g W (rNeAny g.K) neM := by
  intro α h H σ x y dx dy Q R hx hy p
  unfold neM at p
  split at p
  · rename_i k hk
    obtain ⟨d, e, h1, h2, h3, h4, h5, h6⟩ := eqB_den R hx hy hk
    exact ⟨d, e, h1, h2, h3, h4, h5, by rw [h6]; exact p α H _ .refl R (.bl _)⟩
  · exact p.elim

/-! ### is -/
def isC : D → D → Option Bool
  | .non, .non => some true
  | .bl a, .bl b => some (decide (a = b))
  | _, .non => some false
  | .non, .bl _ => some false
  | .int _, .bl _ => some false
  | .str _, .bl _ => some false
  | .tup _, .bl _ => some false
  | .ref _, .bl _ => some false
  | _, _ => none
def isM (x y : D) (h : AH) : EO := match isC x y with
  | some b => .ok (.bl b) h
  | none => .bad
def isnotM (x y : D) (h : AH) : EO := match isC x y with
  | some b => .ok (.bl (!b)) h
  | none => .bad
theorem is_bool_gen {M : Model} {A : Around} {E : Value → Shared → Prop} {s : Shared} {c : Bool} {Q : Value → Shared → Prop} {v : Value} (hv : ∀ id, v ≠ .builtin id) (h : Q (.bool (v == .bool c)) s) : wpAny M A (compareOp .Is v (.bool c)) Q E s := by
  cases v <;> first | exact wpAny_pure h | exact absurd rfl (hv _)
theorem isnot_bool_gen {M : Model} {A : Around} {E : Value → Shared → Prop} {s : Shared} {c : Bool} {Q : Value → Shared → Prop} {v : Value} (hv : ∀ id, v ≠ .builtin id) (h : Q (.bool (!(v == .bool c))) s) : wpAny M A (compareOp .IsNot v (.bool c)) Q E s := by
  cases v <;> first | exact wpAny_pure h | exact absurd rfl (hv _)
def rIsB2 : R2 := fun x y H Q => ∃ b : Bool, y = .bl b ∧ Q (.bl (decide (x = .bl b))) H
def rIsnB2 : R2 := fun x y H Q => ∃ b : Bool, y = .bl b ∧ Q (.bl (!decide (x = .bl b))) H
theorem op_isB2 : OpR X (compareOp .Is) rIsB2 := by
  intro pins s σ H x y v u Q I rx ry h
  obtain ⟨b, rfl, q⟩ := h
  cases ry
  refine is_bool_gen (by intro id e; subst e; cases x <;> simp [RelV] at rx) (fin_bl I q ?_)
  cases x <;> first
    | (cases rx; rename_i k; cases k <;> cases b <;> rfl)
    | (cases rx; rfl)
    | (obtain ⟨t, rfl⟩ := rx; rfl)
theorem op_isnB2 : OpR X (compareOp .IsNot) rIsnB2 := by
  intro pins s σ H x y v u Q I rx ry h
  obtain ⟨b, rfl, q⟩ := h
  cases ry
  refine isnot_bool_gen (by intro id e; subst e; cases x <;> simp [RelV] at rx) (fin_bl I q ?_)
  cases x <;> first
    | (cases rx; rename_i k; cases k <;> cases b <;> rfl)
    | (cases rx; rfl)
    | (obtain ⟨t, rfl⟩ := rx; rfl)
def rIsAny : R2 := fun x y H Q => (y = .non ∧ Q (.bl (decide (x = .non))) H) ∨ rIsB2 x y H Q
def rIsnAny : R2 := fun x y H Q => (y = .non ∧ Q (.bl (!decide (x = .non))) H) ∨ rIsnB2 x y H Q
theorem op_isAny : OpR X (compareOp .Is) rIsAny := OpR.or op_isN op_isB2
theorem op_isnAny : OpR X (compareOp .IsNot) rIsnAny := OpR.or op_notN op_isnB2
theorem rs_is : RS2 g W rIsAny isM := by
  intro α h H σ x y dx dy Q R hx hy p
  cases hx <;> cases hy <;> simp only [isM, isC] at p <;> first
    | exact False.elim p
    | (refine .inl ⟨rfl, ?_⟩; have := p α H _ .refl R (.bl _); simpa using this)
    | (refine .inr ⟨_, rfl, ?_⟩; have := p α H _ .refl R (.bl _); simpa using this)
theorem rs_isn : RS2 g W rIsnAny isnotM := by
  intro α h H σ x y dx dy Q R hx hy p
  cases hx <;> cases hy <;> simp only [isnotM, isC] at p <;> first
    | exact False.elim p
    | (refine .inl ⟨rfl, ?_⟩; have := p α H _ .refl R (.bl _); simpa using this)
    | (refine .inr ⟨_, rfl, ?_⟩; have := p α H _ .refl R (.bl _); simpa using this)

/-! ### tests -/
/-- a test, by a mirror that gives a truth -/
abbrev tT (g : G) (W : WX) (m : EM) : TT := tB (tE g W m)
def andM (a b : EM) : EM := fun τ h => (a τ h).bind fun d h1 => match d with
  | .bl true => b τ h1
  | .bl false => .ok (.bl false) h1
  | _ => .bad
def orM (a b : EM) : EM := fun τ h => (a τ h).bind fun d h1 => match d with
  | .bl false => b τ h1
  | .bl true => .ok (.bl true) h1
  | _ => .bad
def notM (a : EM) : EM := fun τ h => (a τ h).bind fun d h1 => match d with
  | .bl b => .ok (.bl (!b)) h1
  | _ => .bad
def ifM (c a b : EM) : EM := fun τ h => (c τ h).bind fun d h1 => match d with
  | .bl true => a τ h1
  | .bl false => b τ h1
  | _ => .bad
/-- truth of a value -/
def truM (d : D) (h : AH) : EO := match d with
  | .non => .ok (.bl false) h
  | .bl b => .ok (.bl b) h
  | .int i => .ok (.bl (i != 0)) h
  | .tup xs => .ok (.bl (!xs.isEmpty)) h
  | .str y => if y.length ≤ sizeLine then .ok (.bl ((y.length : Int) != 0)) h else .bad
  | .ref l => match h[l]? with
    | some (.lst xs) => .ok (.bl (!xs.isEmpty)) h
    | some (.dct xs) => .ok (.bl (!xs.isEmpty)) h
    | _ => .bad
  | _ => .bad
theorem tE_start {f : D → AH → EO} (p : tE g W (fun τ h => (ma τ h).bind f) σ H Q) : tE g W ma σ H fun v H1 => ∃ α1 d h1 τ, Rep g α1 h1 H1 ∧ DenS g α1 H1 τ σ ∧ Den g α1 H1 d v ∧ PostE g W α1 H1 σ Q (f d h1) := by
  obtain ⟨α, h, τ, R, s, p⟩ := p
  refine ⟨α, h, τ, R, s, PostE.imp (PostE.bind p) ?_⟩
  rintro v H1 ⟨α1, d, h1, E1, R1, D1, p1⟩
  exact ⟨α1, d, h1, τ, R1, s.ext E1, D1, p1⟩
/-- .. where what follows leans on the slots too -/
theorem tE_startS {f : SL → D → AH → EO} (p : tE g W (fun τ h => (ma τ h).bind (f τ)) σ H Q) : tE g W ma σ H fun v H1 => ∃ α1 d h1 τ, Rep g α1 h1 H1 ∧ DenS g α1 H1 τ σ ∧ Den g α1 H1 d v ∧ PostE g W α1 H1 σ Q (f τ d h1) := by
  obtain ⟨α, h, τ, R, s, p⟩ := p
  refine ⟨α, h, τ, R, s, PostE.imp (PostE.bind p) ?_⟩
  rintro v H1 ⟨α1, d, h1, E1, R1, D1, p1⟩
  exact ⟨α1, d, h1, τ, R1, s.ext E1, D1, p1⟩
theorem tE_and (p : tE g W (andM ma mb) σ H Q) : tAndV (tE g W ma) (tE g W mb) σ H Q := by
  obtain ⟨α, h, τ, R, s, p⟩ := tE_startS (f := fun τ d h1 => match d with | .bl true => mb τ h1 | .bl false => .ok (.bl false) h1 | _ => .bad) p
  refine ⟨α, h, τ, R, s, PostE.imp p ?_⟩
  rintro v H1 ⟨α1, d, h1, τ1, R1, s1, D1, p1⟩
  cases D1 <;> try exact False.elim p1
  rename_i b
  refine ⟨b, rfl, ?_⟩
  cases b
  · exact iteF (p1 α1 H1 _ .refl R1 (.bl _))
  · exact iteT ⟨α1, h1, τ1, R1, s1, p1⟩
theorem tE_or (p : tE g W (orM ma mb) σ H Q) : tOrV (tE g W ma) (tE g W mb) σ H Q := by
  obtain ⟨α, h, τ, R, s, p⟩ := tE_startS (f := fun τ d h1 => match d with | .bl false => mb τ h1 | .bl true => .ok (.bl true) h1 | _ => .bad) p
  refine ⟨α, h, τ, R, s, PostE.imp p ?_⟩
  rintro v H1 ⟨α1, d, h1, τ1, R1, s1, D1, p1⟩
  cases D1 <;> try exact False.elim p1
  rename_i b
  refine ⟨b, rfl, ?_⟩
  cases b
  · exact iteF ⟨α1, h1, τ1, R1, s1, p1⟩
  · exact iteT (p1 α1 H1 _ .refl R1 (.bl _))
theorem tE_not (p : tE g W (notM ma) σ H Q) : tNotV (tE g W ma) σ H Q := by
  obtain ⟨α, h, τ, R, s, p⟩ := tE_start p
  refine ⟨α, h, τ, R, s, PostE.imp p ?_⟩
  rintro v H1 ⟨α1, d, h1, τ1, R1, s1, D1, p1⟩
  cases D1 <;> try exact False.elim p1
  rename_i b
  exact ⟨b, rfl, p1 α1 H1 _ .refl R1 (.bl _)⟩
theorem tT_if {Q : VK} (p : tE g W (ifM mc ma mb) σ H Q) : tIf (tT g W mc) (tE g W ma) (tE g W mb) σ H Q := by
  obtain ⟨α, h, τ, R, s, p⟩ := tE_startS (f := fun τ d h1 => match d with | .bl true => ma τ h1 | .bl false => mb τ h1 | _ => .bad) p
  refine ⟨α, h, τ, R, s, PostE.imp p ?_⟩
  rintro v H1 ⟨α1, d, h1, τ1, R1, s1, D1, p1⟩
  cases D1 <;> try exact False.elim p1
  rename_i b
  refine ⟨b, rfl, ?_⟩
  cases b
  · exact iteF ⟨α1, h1, τ1, R1, s1, p1⟩
  · exact iteT ⟨α1, h1, τ1, R1, s1, p1⟩
theorem de_and {rest : List Expr} (ha : PE X a (tE g W ma)) (hb : PE X (.BoolOp .And (b :: rest) pos) (tE g W mb)) : PE X (.BoolOp .And (a :: b :: rest) pos) (tE g W (andM ma mb)) := PE.imp (pe_and ha hb) fun _ _ _ => tE_and
theorem de_or {rest : List Expr} (ha : PE X a (tE g W ma)) (hb : PE X (.BoolOp .Or (b :: rest) pos) (tE g W mb)) : PE X (.BoolOp .Or (a :: b :: rest) pos) (tE g W (orM ma mb)) := PE.imp (pe_or ha hb) fun _ _ _ => tE_or
theorem de_not (ha : PE X a (tE g W ma)) : PE X (.UnaryOp .Not a pos) (tE g W (notM ma)) := PE.imp (pe_not ha) fun _ _ _ => tE_not
theorem de_if (hc : PT X c (tT g W mc)) (ha : PE X a (tE g W ma)) (hb : PE X b (tE g W mb)) : PE X (.IfExp c a b pos) (tE g W (ifM mc ma mb)) := PE.imp (pe_ifExp hc ha hb) fun _ _ _ => tT_if
theorem dt_val (ha : PE X a (tE g W ma)) (he : ∀ whole, isTrue a X.env whole = (do let v ← whole; standAt a.pos; holding [v] (truthy v)) := by intro _; rfl) : PT X a (tT g W ma) := pt_val ha he
/-- any value's truth -/
theorem dt_tru (ha : PE X a (tE g W ma)) (hK : g.K = X.K) (he : ∀ whole, isTrue a X.env whole = (do let v ← whole; standAt a.pos; holding [v] (truthy v)) := by intro _; rfl) : PT X a (tT g W (unM ma truM)) := by
  refine PT.imp (pt_truth ha he) fun σ H Q p => ?_
  obtain ⟨α, h, τ, R, s, p⟩ := tE_start (f := truM) p
  refine ⟨α, h, τ, R, s, PostE.imp p ?_⟩
  rintro v H1 ⟨α1, d, h1, τ1, R1, s1, D1, p1⟩
  have fin : ∀ {k : Bool}, PostE g W α1 H1 σ (fun x H' => ∃ c, x = V.bl c ∧ Q c H') (.ok (.bl k) h1) → Q k H1 := fun {k} p => by
    obtain ⟨c, e, q⟩ := p α1 H1 (.bl k) .refl R1 (.bl k)
    cases e
    exact q
  rw [← hK]
  cases D1 with
  | non => exact ⟨_, rfl, fin p1⟩
  | bl b => exact ⟨_, rfl, fin p1⟩
  | int i => exact ⟨_, rfl, fin p1⟩
  | str x =>
    simp only [truM] at p1
    split at p1
    · rename_i hl
      exact ⟨_, ⟨hl, rfl⟩, fin p1⟩
    · exact p1.elim
  | tup hs hl =>
    rename_i ds vs
    have e : (!ds.isEmpty) = !vs.isEmpty := by cases hl <;> rfl
    exact ⟨_, .inr (.inl ⟨_, hs, rfl⟩), by rw [← e]; exact fin p1⟩
  | ref hl =>
    simp only [truM] at p1
    split at p1
    · rename_i xs hx
      obtain ⟨vs, a1, a2⟩ := R1.ob _ _ _ hx hl
      have e : (!xs.isEmpty) = !vs.isEmpty := by cases a2 <;> rfl
      exact ⟨_, .inl ⟨_, SqL.of a1, rfl⟩, by rw [← e]; exact fin p1⟩
    · rename_i xs hx
      obtain ⟨ws, a1, a2, a3⟩ := R1.ob _ _ _ hx hl
      have e : (!xs.isEmpty) = !ws.isEmpty := by cases xs <;> cases ws <;> simp at a2 <;> rfl
      exact ⟨_, .inr (.inr ⟨_, a1, rfl⟩), by rw [← e]; exact fin p1⟩
    · exact p1.elim
  | con => exact p1.elim
  | fls _ _ => exact p1.elim
theorem tT_and {tA tB' : EM} {Q : Bool → Hp → Prop} (p : tT g W (andM tA tB') σ H Q) : tAnd (tT g W tA) (tT g W tB') σ H Q := by
  obtain ⟨α, h, τ, R, s, p⟩ := tE_startS (f := fun τ d h1 => match d with | .bl true => tB' τ h1 | .bl false => .ok (.bl false) h1 | _ => .bad) p
  refine ⟨α, h, τ, R, s, PostE.imp p ?_⟩
  rintro v H1 ⟨α1, d, h1, τ1, R1, s1, D1, p1⟩
  cases D1 <;> try exact False.elim p1
  rename_i b
  refine ⟨b, rfl, ?_⟩
  cases b
  · refine iteF ?_
    obtain ⟨c, e, q⟩ := p1 α1 H1 _ .refl R1 (.bl _)
    cases e
    exact q
  · exact iteT ⟨α1, h1, τ1, R1, s1, p1⟩
theorem tT_or {tA tB' : EM} {Q : Bool → Hp → Prop} (p : tT g W (orM tA tB') σ H Q) : tOr (tT g W tA) (tT g W tB') σ H Q := by
  obtain ⟨α, h, τ, R, s, p⟩ := tE_startS (f := fun τ d h1 => match d with | .bl false => tB' τ h1 | .bl true => .ok (.bl true) h1 | _ => .bad) p
  refine ⟨α, h, τ, R, s, PostE.imp p ?_⟩
  rintro v H1 ⟨α1, d, h1, τ1, R1, s1, D1, p1⟩
  cases D1 <;> try exact False.elim p1
  rename_i b
  refine ⟨b, rfl, ?_⟩
  cases b
  · exact iteF ⟨α1, h1, τ1, R1, s1, p1⟩
  · refine iteT ?_
    obtain ⟨c, e, q⟩ := p1 α1 H1 _ .refl R1 (.bl _)
    cases e
    exact q
theorem dw_and {rest : List Expr} (ha : PT X a (tT g W ma)) (hb : PW X (.BoolOp .And (b :: rest) pos) (tT g W mb)) : PW X (.BoolOp .And (a :: b :: rest) pos) (tT g W (andM ma mb)) :=
  ⟨fun wh pins s σ H Q I h => (pw_and ha hb).run wh pins s σ H Q I (tT_and h)⟩
theorem dw_or {rest : List Expr} (ha : PT X a (tT g W ma)) (hb : PW X (.BoolOp .Or (b :: rest) pos) (tT g W mb)) : PW X (.BoolOp .Or (a :: b :: rest) pos) (tT g W (orM ma mb)) :=
  ⟨fun wh pins s σ H Q I h => (pw_or ha hb).run wh pins s σ H Q I (tT_or h)⟩
theorem dt_not (ha : PT X a (tT g W ma)) : PT X (.UnaryOp .Not a pos) (tT g W (notM ma)) := by
  refine PT.imp (pt_not ha) fun σ H Q p => ?_
  obtain ⟨α, h, τ, R, s, p⟩ := tE_start p
  refine ⟨α, h, τ, R, s, PostE.imp p ?_⟩
  rintro v H1 ⟨α1, d, h1, τ1, R1, s1, D1, p1⟩
  cases D1 <;> try exact False.elim p1
  rename_i b
  obtain ⟨c, e, q⟩ := p1 α1 H1 _ .refl R1 (.bl _)
  cases e
  exact ⟨b, rfl, q⟩
/-- a test that is a comparison -/
theorem dt_cmp {op : CmpOp} {r : R2} {f : D → D → AH → EO} (ho : OpR X (compareOp op) r) (rs : RS2 g W r f) (ha : PE X a (tE g W ma)) (hb : PE X b (tE g W mb)) (hm : behindInMarks op b = false) : PT X (.Compare a [op] [b] pos) (tT g W (binM ma mb f)) :=
  PT.imp (pt_cmpR ho ha hb hm) fun _ _ _ p => tE_bin rs p
/-- a < b < c -/
def chainM (a b c : EM) (f f' : D → D → AH → EO) : EM := fun τ h => (a τ h).bind fun x h1 => (b τ h1).bind fun y h2 => (f x y h2).bind fun d h3 => match d with
  | .bl true => (c τ h3).bind fun z h4 => f' y z h4
  | .bl false => .ok (.bl false) h3
  | _ => .bad
theorem tE_chain {r r' : R2} {f f' : D → D → AH → EO} (rs : RS2 g W r f) (rs' : RS2 g W r' f') (p : tE g W (chainM ma mb mc f f') σ H Q) : tChain r r' (tE g W ma) (tE g W mb) (tE g W mc) σ H Q := by
  obtain ⟨α, h, τ, R, s, p⟩ := p
  refine ⟨α, h, τ, R, s, PostE.imp (PostE.bind p) ?_⟩
  rintro v H1 ⟨α1, d, h1, E1, R1, D1, p1⟩
  refine ⟨α1, h1, τ, R1, s.ext E1, PostE.imp (PostE.bind p1) ?_⟩
  rintro w H2 ⟨α2, d2, h2, E2, R2, D2, p2⟩
  refine rs α2 h2 H2 σ v w d d2 _ R2 (Den.ext E2 _ _ D1) D2 (PostE.imp (PostE.bind p2) ?_)
  rintro z H3 ⟨α3, d3, h3, E3, R3, D3, p3⟩
  cases D3 <;> try exact False.elim p3
  rename_i b
  refine ⟨b, rfl, ?_⟩
  cases b
  · exact iteF (p3 α3 H3 _ .refl R3 (.bl _))
  · refine iteT ⟨α3, h3, τ, R3, ((s.ext E1).ext E2).ext E3, PostE.imp (PostE.bind p3) ?_⟩
    rintro y H4 ⟨α4, d4, h4, E4, R4, D4, p4⟩
    exact rs' α4 h4 H4 σ w y d2 d4 Q R4 (Den.ext E4 _ _ (Den.ext E3 _ _ D2)) D4 p4
theorem de_chain {op op' : CmpOp} {r r' : R2} {f f' : D → D → AH → EO} (ho : OpR X (compareOp op) r) (ho' : OpR X (compareOp op') r') (rs : RS2 g W r f) (rs' : RS2 g W r' f') (ha : PE X a (tE g W ma)) (hb : PE X b (tE g W mb)) (hc : PE X c (tE g W mc))
    (hm : lastMarks [op, op'] [b, c] = false := by with_unfolding_all rfl) : PE X (.Compare a [op, op'] [b, c] pos) (tE g W (chainM ma mb mc f f')) :=
  PE.imp (pe_chain ho ho' ha hb hc hm) fun _ _ _ => tE_chain rs rs'
theorem dt_chain {op op' : CmpOp} {r r' : R2} {f f' : D → D → AH → EO} (ho : OpR X (compareOp op) r) (ho' : OpR X (compareOp op') r') (rs : RS2 g W r f) (rs' : RS2 g W r' f') (ha : PE X a (tE g W ma)) (hb : PE X b (tE g W mb)) (hc : PE X c (tE g W mc))
    (hm : lastMarks [op, op'] [b, c] = false := by with_unfolding_all rfl) : PT X (.Compare a [op, op'] [b, c] pos) (tT g W (chainM ma mb mc f f')) :=
  PT.imp (pt_chain ho ho' ha hb hc hm) fun _ _ _ p => tE_chain rs rs' p
end
end DD
end

section
set_option Elab.async false
set_option linter.all false
set_option maxRecDepth 100000
namespace DD
open PySem L2
open PyProof.Rows (b2i)

/-! ### items, slices -/
def itM : D → D → AH → EO
  | .tup xs, .int i, h => match atI xs i with
    | some d => .ok d h
    | none => .bad
  | .str z, .int i, h => if z.length ≤ sizeLine then match atI z.cps.toList i with
    | some c => .ok (.str ⟨#[c]⟩) h
    | none => .bad else .bad
  | .ref l, .int i, h => match h[l]? with
    | some (.lst xs) => match atI xs i with
      | some d => .ok d h
      | none => .bad
    | _ => .bad
  | _, _, _ => .bad
def cutL {β : Type} (xs : List β) (lo hi : Option Int) : List β := (xs.drop (HT.sIx xs.length 0 lo)).take (HT.sIx xs.length xs.length hi - HT.sIx xs.length 0 lo)
def sliceM : D → Option Int → Option Int → AH → EO
  | .tup xs, lo, hi, h => .ok (.tup (cutL xs lo hi)) h
  | .fls xs, lo, hi, h => .ok (.ref h.length) (h ++ [.lst (cutL xs lo hi)])
  | .ref l, lo, hi, h => match h[l]? with
    | some (.lst xs) => .ok (.ref h.length) (h ++ [.lst (cutL xs lo hi)])
    | _ => .bad
  | _, _, _, _ => .bad
section
variable {X : Cx} {g : G} {W : WX} {a b c e : Expr} {ma mb mc : EM} {pos : Pos} {σ : St} {H : Hp} {Q : VK}
theorem DenL.atI {α : List Addr} {ds : List D} {vs : List V} {i : Int} {d : D} (h : DenL g α H ds vs) (q : atI ds i = some d) : ∃ v, L2.atI vs i = some v ∧ Den g α H d v := by
  unfold L2.atI at q ⊢
  rw [h.length] at q
  cases e : ixN vs.length i with
  | none => rw [e] at q; cases q
  | some j =>
    rw [e] at q
    obtain ⟨v, h1, h2⟩ := h.get (show ds[j]? = some d from q)
    exact ⟨v, h1, h2⟩
theorem rs_it : RS2 g W (rIx g.K) itM := by
  intro α h H σ x y dx dy Q R hx hy p
  cases hx <;> cases hy <;> try exact False.elim p
  · rename_i z i
    simp only [itM] at p
    split at p
    · rename_i hz
      split at p
      · rename_i c hc
        exact .inr (.inr ⟨z, i, c, rfl, rfl, hz, hc, p α H _ .refl R (.str _)⟩)
      · exact p.elim
    · exact p.elim
  · rename_i a ds vs hs hl i
    simp only [itM] at p
    split at p
    · rename_i d hd
      obtain ⟨v, h1, h2⟩ := hl.atI hd
      exact .inr (.inl ⟨a, vs, i, v, rfl, rfl, hs, h1, p α H _ .refl R h2⟩)
    · exact p.elim
  · rename_i l a hl i
    simp only [itM] at p
    split at p
    · rename_i xs hx
      split at p
      · rename_i d hd
        obtain ⟨vs, a1, a2⟩ := R.ob _ _ _ hx hl
        obtain ⟨v, h1, h2⟩ := a2.atI hd
        exact .inl ⟨a, vs, i, v, rfl, rfl, SqL.of a1, h1, p α H _ .refl R h2⟩
      · exact p.elim
    · exact p.elim
theorem DenL.cut {α : List Addr} {ds : List D} {vs : List V} {lo hi : Option Int} (h : DenL g α H ds vs) : DenL g α H (cutL ds lo hi) (cutV vs lo hi) := by
  unfold cutL cutV
  rw [h.length]
  exact (h.drop _).take _
def rSlAny (K : PySem.W.Frag) : V → Option Int → Option Int → Hp → VK → Prop := fun x lo hi H Q => rSlA K x lo hi H Q ∨ rSlL K x lo hi H Q
theorem sl_any : SlR X (rSlAny X.K) := SlR.or sl_tupA sl_list
theorem whole_cut {xs : List V} {lo hi : Option Int} (h : HT.sIx xs.length 0 lo = 0 ∧ HT.sIx xs.length xs.length hi = xs.length) : cutV xs lo hi = xs := by
  unfold cutV
  rw [h.1, h.2, List.drop_zero, Nat.sub_zero, List.take_length]
/-- the bounds of a slice -/
inductive OM where
  | none | some (m : EM)
def OM.run : OM → SL → AH → (Option Int → AH → EO) → EO
  | .none, _, h, f => f Option.none h
  | .some m, τ, h, f => (m τ h).bind fun d h1 => match d with
    | .int i => f (Option.some i) h1
    | _ => .bad
def slM (a : EM) (lo hi : OM) : EM := fun τ h => (a τ h).bind fun x h1 => lo.run τ h1 fun l h2 => hi.run τ h2 fun u h3 => sliceM x l u h3
def tO (g : G) (W : WX) : OM → TO
  | .none => tNoPart
  | .some m => tPart (tE g W m)
theorem tO_run {o : OM} {f : Option Int → AH → EO} {α : List Addr} {h : AH} {τ : SL} (R : Rep g α h H) (s : DenS g α H τ σ) (p : PostE g W α H σ Q (o.run τ h f)) :
    tO g W o σ H fun i H1 => ∃ α1 h1, Ext α H α1 H1 ∧ Rep g α1 h1 H1 ∧ PostE g W α1 H1 σ Q (f i h1) := by
  cases o with
  | none => exact ⟨α, h, .refl, R, p⟩
  | some m =>
    refine ⟨α, h, τ, R, s, PostE.imp (PostE.bind p) ?_⟩
    rintro v H1 ⟨α1, d, h1, E1, R1, D1, p1⟩
    cases D1 <;> try exact False.elim p1
    exact ⟨_, rfl, α1, h1, E1, R1, p1⟩
theorem TO.imp_of {g : G} {W : WX} {o : OM} {Q Q' : Option Int → Hp → Prop} (p : tO g W o σ H Q) (k : ∀ i H1, Q i H1 → Q' i H1) : tO g W o σ H Q' := by
  cases o with
  | none => exact k _ _ p
  | some m =>
    obtain ⟨α, h, τ, R, s, p⟩ := p
    exact ⟨α, h, τ, R, s, PostE.imp p fun v H1 ⟨i, e, q⟩ => ⟨i, e, k _ _ q⟩⟩
theorem de_slice {lo hi : Option Expr} {ol oh : OM} {p2 : Pos} (hK : g.K = X.K) (ha : PE X a (tE g W ma)) (hl : PO X lo (tO g W ol)) (hh : PO X hi (tO g W oh)) : PE X (.Subscript a (.Slice lo hi none p2) pos) (tE g W (slM ma ol oh)) := by
  refine PE.imp (pe_slice sl_any ha hl hh) fun σ H Q p => ?_
  obtain ⟨α, h, τ, R, s, p⟩ := p
  refine ⟨α, h, τ, R, s, PostE.imp (PostE.bind p) ?_⟩
  rintro v H1 ⟨α1, d, h1, E1, R1, D1, p1⟩
  refine TO.imp_of (tO_run R1 (s.ext E1) p1) ?_
  rintro l H2 ⟨α2, h2, E2, R2, p2⟩
  refine TO.imp_of (tO_run R2 ((s.ext E1).ext E2) p2) ?_
  rintro u H3 ⟨α3, h3, E3, R3, p3⟩
  have D3 := Den.ext E3 _ _ (Den.ext E2 _ _ D1)
  rw [← hK]
  cases D3 <;> try exact False.elim p3
  · rename_i a ds vs hs hl
    refine .inl ⟨a, vs, rfl, hs, fun w => ?_, fun w z hz => ?_⟩
    · refine p3 α3 H3 _ .refl R3 (.tup hs ?_)
      have := hl.cut (lo := l) (hi := u)
      rw [whole_cut w] at this
      exact this
    · exact p3 α3 _ _ (Ext.new hz) (R3.new hz) (.tup (SqT.of upd_same) (DenL.ext (Ext.new hz) _ _ hl.cut))
  · rename_i i a hl
    simp only [sliceM] at p3
    split at p3
    · rename_i xs hx
      obtain ⟨vs, a1, a2⟩ := R3.ob _ _ _ hx hl
      refine .inr ⟨a, vs, rfl, SqL.of a1, fun z hz => ?_⟩
      have E := (Ext.new (u := .lst (cutV vs l u)) hz).trans (Ext.app (α := α3) [z])
      obtain ⟨R', E'⟩ := R3.push hz (o := .lst (cutL xs l u)) (u := .lst (cutV vs l u)) ⟨_, upd_same, DenL.ext E _ _ a2.cut⟩
      exact p3 _ _ _ E' R' (.ref (by rw [← R3.len]; simp))
    · exact p3.elim
  · rename_i a ds vs hs hl
    refine .inr ⟨a, vs, rfl, hs.seq, fun z hz => ?_⟩
    have E := (Ext.new (u := .lst (cutV vs l u)) hz).trans (Ext.app (α := α3) [z])
    obtain ⟨R', E'⟩ := R3.push hz (o := .lst (cutL ds l u)) (u := .lst (cutV vs l u)) ⟨_, upd_same, DenL.ext E _ _ hl.cut⟩
    exact p3 _ _ _ E' R' (.ref (by rw [← R3.len]; simp))
theorem do_none : PO X none (tO g W .none) := po_none
theorem do_some (ha : PE X a (tE g W ma)) : PO X (some a) (tO g W (.some ma)) := po_some ha

/-! ### argument lists -/
inductive LO where
  | ok (ds : List D) (h : AH) | exc (c : Nat) (h : AH) | bad
abbrev LM := SL → AH → LO
def PostL (g : G) (W : WX) (α : List Addr) (H : Hp) (σ : St) (Q : List V → Hp → Prop) : LO → Prop
  | .ok ds h' => ∀ α' H' vs, Ext α H α' H' → Rep g α' h' H' → DenL g α' H' ds vs → Q vs H'
  | .exc c h' => ∀ α' H', Ext α H α' H' → Rep g α' h' H' → W (.ref (g.cl c)) none σ H'
  | .bad => False
def tL (g : G) (W : WX) (m : LM) : TA := fun σ H Q => ∃ α h τ, Rep g α h H ∧ DenS g α H τ σ ∧ PostL g W α H σ Q (m τ h)
def EO.bindL : EO → (D → AH → LO) → LO
  | .ok d h, f => f d h
  | .exc c h, _ => .exc c h
  | .bad, _ => .bad
def LO.bind : LO → (List D → AH → LO) → LO
  | .ok d h, f => f d h
  | .exc c h, _ => .exc c h
  | .bad, _ => .bad
def LO.bindE : LO → (List D → AH → EO) → EO
  | .ok d h, f => f d h
  | .exc c h, _ => .exc c h
  | .bad, _ => .bad
theorem PostL.mono {α α' : List Addr} {H' : Hp} {o : LO} {Q : List V → Hp → Prop} (p : PostL g W α H σ Q o) (e : Ext α H α' H') : PostL g W α' H' σ Q o := by
  cases o with
  | ok d h => exact fun α2 H2 v e2 r d => p α2 H2 v (e.trans e2) r d
  | exc c h => exact fun α2 H2 e2 r => p α2 H2 (e.trans e2) r
  | bad => exact p
theorem PostL.imp {α : List Addr} {o : LO} {Q Q' : List V → Hp → Prop} (p : PostL g W α H σ Q o) (k : ∀ v H', Q v H' → Q' v H') : PostL g W α H σ Q' o := by
  cases o with
  | ok d h => exact fun α2 H2 v e2 r d => k _ _ (p α2 H2 v e2 r d)
  | exc c h => exact p
  | bad => exact p
theorem PostE.bindL {α : List Addr} {o : EO} {f : D → AH → LO} {Q : List V → Hp → Prop} (p : PostL g W α H σ Q (o.bindL f)) :
    PostE g W α H σ (fun v H1 => ∃ α1 d h1, Ext α H α1 H1 ∧ Rep g α1 h1 H1 ∧ Den g α1 H1 d v ∧ PostL g W α1 H1 σ Q (f d h1)) o := by
  cases o with
  | ok d h => exact fun α2 H2 v e2 r dd => ⟨α2, d, h, e2, r, dd, PostL.mono p e2⟩
  | exc c h => exact p
  | bad => exact p
theorem PostL.bind {α : List Addr} {o : LO} {f : List D → AH → LO} {Q : List V → Hp → Prop} (p : PostL g W α H σ Q (o.bind f)) :
    PostL g W α H σ (fun vs H1 => ∃ α1 ds h1, Ext α H α1 H1 ∧ Rep g α1 h1 H1 ∧ DenL g α1 H1 ds vs ∧ PostL g W α1 H1 σ Q (f ds h1)) o := by
  cases o with
  | ok d h => exact fun α2 H2 v e2 r dd => ⟨α2, d, h, e2, r, dd, PostL.mono p e2⟩
  | exc c h => exact p
  | bad => exact p
theorem PostL.bindE {α : List Addr} {o : LO} {f : List D → AH → EO} {Q : VK} (p : PostE g W α H σ Q (o.bindE f)) :
    PostL g W α H σ (fun vs H1 => ∃ α1 ds h1, Ext α H α1 H1 ∧ Rep g α1 h1 H1 ∧ DenL g α1 H1 ds vs ∧ PostE g W α1 H1 σ Q (f ds h1)) o := by
  cases o with
  | ok d h => exact fun α2 H2 v e2 r dd => ⟨α2, d, h, e2, r, dd, PostE.mono p e2⟩
  | exc c h => exact p
  | bad => exact p
def nilM : LM := fun _ h => .ok [] h
def consM (a : EM) (r : LM) : LM := fun τ h => (a τ h).bindL fun d h1 => (r τ h1).bind fun ds h2 => .ok (d :: ds) h2
theorem PA.imp {es : List Expr} {t t' : TA} (h : PA X es t) (k : ∀ σ H Q, t' σ H Q → t σ H Q) : PA X es t' :=
  ⟨fun pos pins s σ H Q I q => h.run pos pins s σ H Q I (k σ H Q q)⟩
theorem dl_nil : PA X [] (tL g W nilM) := PA.imp pa_nil fun σ H Q ⟨α, h, τ, R, s, p⟩ => p α H _ .refl R .nil
theorem dl_cons {es : List Expr} {mr : LM} (ha : PE X a (tE g W ma)) (hr : PA X es (tL g W mr)) (hs : starEach (a :: es) X.env = (false, eval a X.env) :: starEach es X.env := by rfl) : PA X (a :: es) (tL g W (consM ma mr)) := by
  refine PA.imp (pa_cons ha hr hs) fun σ H Q p => ?_
  obtain ⟨α, h, τ, R, s, p⟩ := p
  refine ⟨α, h, τ, R, s, PostE.imp (PostE.bindL p) ?_⟩
  rintro v H1 ⟨α1, d, h1, E1, R1, D1, p1⟩
  refine ⟨α1, h1, τ, R1, s.ext E1, PostL.imp (PostL.bind p1) ?_⟩
  rintro vs H2 ⟨α2, ds, h2, E2, R2, D2, p2⟩
  exact p2 α2 H2 _ .refl R2 (.cons (Den.ext E2 _ _ D1) D2)
def tupM (m : LM) : EM := fun τ h => (m τ h).bindE fun ds h1 => if ds.length ≤ sizeLine then .ok (.tup ds) h1 else .bad
def lstM (m : LM) : EM := fun τ h => (m τ h).bindE fun ds h1 => if ds.length ≤ sizeLine then .ok (.ref h1.length) (h1 ++ [.lst ds]) else .bad
theorem new_list {α : List Addr} {h : AH} {ds : List D} {vs : List V} {z : Addr} (R : Rep g α h H) (d : DenL g α H ds vs) (hz : H z = none) :
    Rep g (α ++ [z]) (h ++ [.lst ds]) (upd H z (.lst vs)) ∧ Ext α H (α ++ [z]) (upd H z (.lst vs)) ∧ Den g (α ++ [z]) (upd H z (.lst vs)) (.ref h.length) (.ref z) := by
  have E := (Ext.new (u := .lst vs) hz).trans (Ext.app (α := α) [z])
  obtain ⟨R', E'⟩ := R.push hz (o := .lst ds) (u := .lst vs) ⟨_, upd_same, DenL.ext E _ _ d⟩
  exact ⟨R', E', .ref (by rw [← R.len]; simp)⟩
theorem new_tup {α : List Addr} {h : AH} {ds : List D} {vs : List V} {z : Addr} (R : Rep g α h H) (d : DenL g α H ds vs) (hz : H z = none) :
    Rep g α h (upd H z (.tup vs)) ∧ Ext α H α (upd H z (.tup vs)) ∧ Den g α (upd H z (.tup vs)) (.tup ds) (.ref z) :=
  ⟨R.new hz, Ext.new hz, .tup (SqT.of upd_same) (DenL.ext (Ext.new hz) _ _ d)⟩
theorem de_tup {es : List Expr} {m : LM} {x1} (hl : PA X es (tL g W m)) : PE X (.Tuple es x1 pos) (tE g W (tupM m)) := by
  refine PE.imp (pe_tup hl) fun σ H Q p => ?_
  obtain ⟨α, h, τ, R, s, p⟩ := p
  refine ⟨α, h, τ, R, s, PostL.imp (PostL.bindE p) ?_⟩
  rintro vs H1 ⟨α1, ds, h1, E1, R1, D1, p1⟩
  split at p1
  · rename_i hl
    refine ⟨by rw [← D1.length]; exact hl, fun z hz => ?_⟩
    obtain ⟨a1, a2, a3⟩ := new_tup R1 D1 hz
    exact p1 _ _ _ a2 a1 a3
  · exact p1.elim
theorem de_lst {es : List Expr} {m : LM} (hl : PA X es (tL g W m)) : PE X (.List es pos) (tE g W (lstM m)) := by
  refine PE.imp (pe_lst hl) fun σ H Q p => ?_
  obtain ⟨α, h, τ, R, s, p⟩ := p
  refine ⟨α, h, τ, R, s, PostL.imp (PostL.bindE p) ?_⟩
  rintro vs H1 ⟨α1, ds, h1, E1, R1, D1, p1⟩
  split at p1
  · rename_i hl
    refine ⟨by rw [← D1.length]; exact hl, fun z hz => ?_⟩
    obtain ⟨a1, a2, a3⟩ := new_list R1 D1 hz
    exact p1 _ _ _ a2 a1 a3
  · exact p1.elim

/-! ### built-in functions -/
def RSn (g : G) (W : WX) (r : List V → Hp → VK → Prop) (f : List D → AH → EO) : Prop :=
  ∀ (α : List Addr) (h : AH) (H : Hp) (σ : St) (vs : List V) (ds : List D) (Q : VK), Rep g α h H → DenL g α H ds vs → PostE g W α H σ Q (f ds h) → r vs H Q
def callM (m : LM) (f : List D → AH → EO) : EM := fun τ h => (m τ h).bindE f
theorem tL_call {r : List V → Hp → VK → Prop} {f : List D → AH → EO} {m : LM} (rs : RSn g W r f) (p : tE g W (callM m f) σ H Q) : tCB r (tL g W m) σ H Q := by
  obtain ⟨α, h, τ, R, s, p⟩ := p
  refine ⟨α, h, τ, R, s, PostL.imp (PostL.bindE p) ?_⟩
  rintro vs H1 ⟨α1, ds, h1, E1, R1, D1, p1⟩
  exact rs α1 h1 H1 σ vs ds Q R1 D1 p1
theorem de_callB {r : List V → Hp → VK → Prop} {f : List D → AH → EO} {m : LM} {id : String} {x : Str} {p : Pos} {es : List Expr} (hc : CallR X (.builtin id) r) (rs : RSn g W r f) (hg : Gl X x) (hm : X.mg x = none) (hv : bootBuiltins x = some (.builtin id)) (ha : PA X (e :: es) (tL g W m)) (hn : x ≠ "__name__" := by decide) (hdb : (x == ("__debug__" : Str)) = false := by decide)
    (he : starEach (e :: es) X.env = (false, eval e X.env) :: starEach es X.env := by rfl) (hpl : (backTo pos (starEach es X.env)).any (·.1) = false := by rfl) : PE X (.Call (.Name x p) (e :: es) [] pos) (tE g W (callM m f)) :=
  PE.imp (pe_callB hc hg hm hv ha hn hdb he hpl) fun _ _ _ => tL_call rs
theorem de_callTy {r : List V → Hp → VK → Prop} {f : List D → AH → EO} {m : LM} {T : String} {x : Str} {p : Pos} {es : List Expr} (hc : CallR X (.type T) r) (rs : RSn g W r f) (hg : Gl X x) (hm : X.mg x = none) (hv : bootBuiltins x = some (.type T)) (ha : PA X (e :: es) (tL g W m)) (hn : x ≠ "__name__" := by decide) (hdb : (x == ("__debug__" : Str)) = false := by decide)
    (he : starEach (e :: es) X.env = (false, eval e X.env) :: starEach es X.env := by rfl) (hpl : (backTo pos (starEach es X.env)).any (·.1) = false := by rfl) : PE X (.Call (.Name x p) (e :: es) [] pos) (tE g W (callM m f)) :=
  PE.imp (pe_callTy hc hg hm hv ha hn hdb he hpl) fun _ _ _ => tL_call rs
/-- len -/
def lenF : List D → AH → EO
  | [.str z], h => if z.length ≤ sizeLine then .ok (.int z.length) h else .bad
  | [.tup xs], h => .ok (.int xs.length) h
  | [.ref l], h => match h[l]? with
    | some (.lst xs) => .ok (.int xs.length) h
    | some (.dct xs) => .ok (.int xs.length) h
    | _ => .bad
  | _, _ => .bad
def rLenAny (K : PySem.W.Frag) : List V → Hp → VK → Prop := fun xs H Q => (∃ x n, xs = [x] ∧ LenV K x H n ∧ Q (.int n) H) ∨ (∃ a kvs, xs = [V.ref a] ∧ H a = some (.dK kvs) ∧ Q (.int kvs.length) H)
theorem call_lenAny : CallR X (.builtin "len") (rLenAny X.K) := CallR.or call_len call_lenD
theorem rs_len : RSn g W (rLenAny g.K) lenF := by
  intro α h H σ vs ds Q R hd p
  cases hd with
  | nil => exact p.elim
  | cons h1 h2 =>
    cases h2 with
    | cons _ _ => cases h1 <;> exact False.elim p
    | nil =>
      cases h1 <;> try exact False.elim p
      · simp only [lenF] at p
        split at p
        · rename_i hz
          exact .inl ⟨_, _, rfl, ⟨hz, rfl⟩, p α H _ .refl R (.int _)⟩
        · exact p.elim
      · rename_i hs hl
        exact .inl ⟨_, _, rfl, .inr ⟨_, hs, rfl⟩, p α H _ .refl R (by rw [hl.length]; exact .int _)⟩
      · rename_i l a hl
        simp only [lenF] at p
        split at p
        · rename_i xs hx
          obtain ⟨vs, a1, a2⟩ := R.ob _ _ _ hx hl
          exact .inl ⟨_, _, rfl, .inl ⟨_, SqL.of a1, rfl⟩, p α H _ .refl R (by rw [a2.length]; exact .int _)⟩
        · rename_i xs hx
          obtain ⟨ws, a1, a2, a3⟩ := R.ob _ _ _ hx hl
          have e : xs.length = ws.length := by have := congrArg List.length a2; simpa using this.symm
          exact .inr ⟨_, _, rfl, a1, p α H _ .refl R (by rw [e]; exact .int _)⟩
        · exact p.elim
/-- abs, int -/
def absF : List D → AH → EO
  | [.int i], h => .ok (.int (if i < 0 then -i else i)) h
  | _, _ => .bad
def intF : List D → AH → EO
  | [.int i], h => .ok (.int i) h
  | [.bl k], h => .ok (.int (if k then 1 else 0)) h
  | _, _ => .bad
theorem rs_abs : RSn g W (fun xs H Q => ∃ i, xs = [.int i] ∧ Q (.int (if i < 0 then -i else i)) H) absF := by
  intro α h H σ vs ds Q R hd p
  cases hd with
  | nil => exact p.elim
  | cons h1 h2 =>
    cases h2 with
    | cons _ _ => cases h1 <;> exact False.elim p
    | nil =>
      cases h1 <;> try exact False.elim p
      exact ⟨_, rfl, p α H _ .refl R (.int _)⟩
theorem rs_int : RSn g W (fun xs H Q => (∃ i, xs = [.int i] ∧ Q (.int i) H) ∨ ∃ k, xs = [.bl k] ∧ Q (.int (if k then 1 else 0)) H) intF := by
  intro α h H σ vs ds Q R hd p
  cases hd with
  | nil => exact p.elim
  | cons h1 h2 =>
    cases h2 with
    | cons _ _ => cases h1 <;> exact False.elim p
    | nil =>
      cases h1 <;> try exact False.elim p
      · exact .inr ⟨_, rfl, p α H _ .refl R (.int _)⟩
      · exact .inl ⟨_, rfl, p α H _ .refl R (.int _)⟩
/-- min, max of two -/
def maxF : List D → AH → EO
  | [.int i, .int j], h => .ok (.int (if j > i then j else i)) h
  | _, _ => .bad
def minF : List D → AH → EO
  | [.int i, .int j], h => .ok (.int (if j < i then j else i)) h
  | _, _ => .bad
theorem rs_max2 : RSn g W (fun xs H Q => ∃ i j, xs = [.int i, .int j] ∧ Q (.int (if j > i then j else i)) H) maxF := by
  intro α h H σ vs ds Q R hd p
  cases hd with
  | nil => exact p.elim
  | cons h1 h2 =>
    cases h2 with
    | nil => cases h1 <;> exact False.elim p
    | cons h2 h3 =>
      cases h3 with
      | cons _ _ => cases h1 <;> cases h2 <;> exact False.elim p
      | nil =>
        cases h1 <;> cases h2 <;> try exact False.elim p
        exact ⟨_, _, rfl, p α H _ .refl R (.int _)⟩
theorem rs_min2 : RSn g W (fun xs H Q => ∃ i j, xs = [.int i, .int j] ∧ Q (.int (if j < i then j else i)) H) minF := by
  intro α h H σ vs ds Q R hd p
  cases hd with
  | nil => exact p.elim
  | cons h1 h2 =>
    cases h2 with
    | nil => cases h1 <;> exact False.elim p
    | cons h2 h3 =>
      cases h3 with
      | cons _ _ => cases h1 <;> cases h2 <;> exact False.elim p
      | nil =>
        cases h1 <;> cases h2 <;> try exact False.elim p
        exact ⟨_, _, rfl, p α H _ .refl R (.int _)⟩
/-- tuple(x), list(x) -/
def tupF (d : D) (h : AH) : EO := match d with
  | .tup xs => .ok (.tup xs) h
  | .ref l => match h[l]? with
    | some (.lst xs) => .ok (.tup xs) h
    | _ => .bad
  | _ => .bad
theorem de_tuple {p pos : Pos} (hK : g.K = X.K) (hg : Gl X "tuple") (hm : X.mg "tuple" = none) (ha : PE X a (tE g W ma)) (na : starEach [a] X.env = (false, eval a X.env) :: starEach [] X.env := by rfl) :
    PE X (.Call (.Name "tuple" p) [a] [] pos) (tE g W (unM ma tupF)) := by
  refine PE.imp (pe_tupleOf hg hm ha na) fun σ H Q p => ?_
  obtain ⟨α, h, τ, R, s, p⟩ := tE_start (f := tupF) p
  refine ⟨α, h, τ, R, s, PostE.imp p ?_⟩
  rintro v H1 ⟨α1, d, h1, τ1, R1, s1, D1, p1⟩
  rw [← hK]
  cases D1 <;> try exact False.elim p1
  · rename_i hs hl
    exact .inr ⟨_, _, rfl, hs, p1 α1 H1 _ .refl R1 (.tup hs hl)⟩
  · rename_i l a hl
    simp only [tupF] at p1
    split at p1
    · rename_i xs hx
      obtain ⟨vs, a1, a2⟩ := R1.ob _ _ _ hx hl
      refine .inl ⟨_, _, rfl, SqL.of a1, fun q hq => ?_⟩
      obtain ⟨b1, b2, b3⟩ := new_tup R1 a2 hq
      exact p1 _ _ _ b2 b1 b3
    · exact p1.elim
def listF : List D → AH → EO
  | [.tup xs], h => .ok (.ref h.length) (h ++ [.lst xs])
  | [.ref l], h => match h[l]? with
    | some (.lst xs) => .ok (.ref h.length) (h ++ [.lst xs])
    | _ => .bad
  | _, _ => .bad
theorem rs_list : RSn g W (fun xs H Q => ∃ p ys, xs = [.ref p] ∧ (SqL g.K H p ys ∨ SqT g.K H p ys) ∧ ∀ l, H l = none → Q (.ref l) (upd H l (.lst ys))) listF := by
  intro α h H σ vs ds Q R hd p
  cases hd with
  | nil => exact p.elim
  | cons h1 h2 =>
    cases h2 with
    | cons _ _ => cases h1 <;> exact False.elim p
    | nil =>
      cases h1 <;> try exact False.elim p
      · rename_i hs hl
        refine ⟨_, _, rfl, .inr hs, fun q hq => ?_⟩
        obtain ⟨b1, b2, b3⟩ := new_list R hl hq
        exact p _ _ _ b2 b1 b3
      · rename_i l a hl
        simp only [listF] at p
        split at p
        · rename_i xs hx
          obtain ⟨vs, a1, a2⟩ := R.ob _ _ _ hx hl
          refine ⟨_, _, rfl, .inl (SqL.of a1), fun q hq => ?_⟩
          obtain ⟨b1, b2, b3⟩ := new_list R a2 hq
          exact p _ _ _ b2 b1 b3
        · exact p.elim
/-- any, all of a list of truths -/
def blsOf : List D → Option (List Bool)
  | [] => some []
  | .bl b :: r => (blsOf r).map (b :: ·)
  | _ :: _ => none
theorem blsOf_den {α : List Addr} : ∀ {ds : List D} {vs : List V} {bs : List Bool}, DenL g α H ds vs → blsOf ds = some bs → vs = bs.map V.bl
  | [], _, _, h, q => by cases h; cases q; rfl
  | d :: ds, _, bs, h, q => by
    cases h with
    | cons h1 h2 =>
      cases h1 <;> simp only [blsOf, reduceCtorEq] at q
      simp only [Option.map_eq_some_iff] at q
      obtain ⟨r, q1, rfl⟩ := q
      rw [blsOf_den h2 q1]
      rfl
def anyF : List D → AH → EO
  | [.ref l], h => match h[l]? with
    | some (.lst xs) => match blsOf xs with
      | some bs => .ok (.bl (bs.any id)) h
      | none => .bad
    | _ => .bad
  | _, _ => .bad
def allF : List D → AH → EO
  | [.ref l], h => match h[l]? with
    | some (.lst xs) => match blsOf xs with
      | some bs => .ok (.bl (bs.all id)) h
      | none => .bad
    | _ => .bad
  | _, _ => .bad
theorem rs_any : RSn g W (rAny g.K) anyF := by
  intro α h H σ vs ds Q R hd p
  cases hd with
  | nil => exact p.elim
  | cons h1 h2 =>
    cases h2 with
    | cons _ _ => cases h1 <;> exact False.elim p
    | nil =>
      cases h1 <;> try exact False.elim p
      rename_i l a hl
      simp only [anyF] at p
      split at p
      · rename_i xs hx
        obtain ⟨vs, a1, a2⟩ := R.ob _ _ _ hx hl
        split at p
        · rename_i bs hb
          exact ⟨a, bs, rfl, by rw [← blsOf_den a2 hb]; exact SqL.of a1, p α H _ .refl R (.bl _)⟩
        · exact p.elim
      · exact p.elim
theorem rs_all : RSn g W (rAll g.K) allF := by
  intro α h H σ vs ds Q R hd p
  cases hd with
  | nil => exact p.elim
  | cons h1 h2 =>
    cases h2 with
    | cons _ _ => cases h1 <;> exact False.elim p
    | nil =>
      cases h1 <;> try exact False.elim p
      rename_i l a hl
      simp only [allF] at p
      split at p
      · rename_i xs hx
        obtain ⟨vs, a1, a2⟩ := R.ob _ _ _ hx hl
        split at p
        · rename_i bs hb
          exact ⟨a, bs, rfl, by rw [← blsOf_den a2 hb]; exact SqL.of a1, p α H _ .refl R (.bl _)⟩
        · exact p.elim
      · exact p.elim
end
end DD
end

section
set_option Elab.async false
set_option linter.all false
set_option maxRecDepth 100000
namespace DD
open PySem L2
open PyProof.Rows (b2i)

/-! ### statements -/
def PostS (g : G) (W : WX) (α : List Addr) (H : Hp) (Dn : Ends) : SO → Prop
  | .nx τ' h' => ∀ α' H' σ', Ext α H α' H' → Rep g α' h' H' → DenS g α' H' τ' σ' → Dn.nx σ' H'
  | .rt d h' => ∀ α' H' v, Ext α H α' H' → Rep g α' h' H' → Den g α' H' d v → Dn.rt v H'
  | .bk τ' h' => ∀ α' H' σ', Ext α H α' H' → Rep g α' h' H' → DenS g α' H' τ' σ' → Dn.bk σ' H'
  | .ct τ' h' => ∀ α' H' σ', Ext α H α' H' → Rep g α' h' H' → DenS g α' H' τ' σ' → Dn.ct σ' H'
  | .exc c τ' h' => ∀ α' H' σ', Ext α H α' H' → Rep g α' h' H' → DenS g α' H' τ' σ' → W (.ref (g.cl c)) none σ' H'
  | .bad => False
def tS (g : G) (W : WX) (m : SM) : TS := fun Dn σ H => ∃ α h τ, Rep g α h H ∧ DenS g α H τ σ ∧ PostS g W α H Dn (m τ h)
def EO.toS : EO → SL → (D → AH → SO) → SO
  | .ok d h, _, f => f d h
  | .exc c h, τ, _ => .exc c τ h
  | .bad, _, _ => .bad
def SO.bind : SO → (SL → AH → SO) → SO
  | .nx τ h, f => f τ h
  | o, _ => o
def seqM (a b : SM) : SM := fun τ h => (a τ h).bind b
def passM : SM := fun τ h => .nx τ h
def brkM : SM := fun τ h => .bk τ h
def contM : SM := fun τ h => .ct τ h
def exprM (e : EM) : SM := fun τ h => (e τ h).toS τ fun _ h1 => .nx τ h1
def retM (e : EM) : SM := fun τ h => (e τ h).toS τ fun d h1 => .rt d h1
def retNM : SM := fun _ h => .rt .non h
def setM (i : Nat) (e : EM) : SM := fun τ h => (e τ h).toS τ fun d h1 => .nx (τ.set i (some d)) h1
def raiseM (c : Nat) : SM := fun τ h => .exc c τ h
def ifSM (c : EM) (a b : SM) : SM := fun τ h => (c τ h).toS τ fun d h1 => match d with
  | .bl true => a τ h1
  | .bl false => b τ h1
  | _ => .bad
section
variable {X : Cx} {g : G} {W : WX} {a b c e : Expr} {ma mb mc : EM} {pos : Pos} {σ : St} {H H' : Hp} {Q : VK} {Dn : Ends} {α α' : List Addr} {o : SO} {τ : SL} {sa sb : SM} {st : Stmt} {rest : List Stmt}
theorem PostS.mono (p : PostS g W α H Dn o) (e : Ext α H α' H') : PostS g W α' H' Dn o := by
  cases o with
  | nx τ h => exact fun α2 H2 σ2 e2 r d => p α2 H2 σ2 (e.trans e2) r d
  | rt d h => exact fun α2 H2 v e2 r d => p α2 H2 v (e.trans e2) r d
  | bk τ h => exact fun α2 H2 σ2 e2 r d => p α2 H2 σ2 (e.trans e2) r d
  | ct τ h => exact fun α2 H2 σ2 e2 r d => p α2 H2 σ2 (e.trans e2) r d
  | exc c τ h => exact fun α2 H2 σ2 e2 r d => p α2 H2 σ2 (e.trans e2) r d
  | bad => exact p
theorem PostS.toS {f : D → AH → SO} {o : EO} (p : PostS g W α H Dn (o.toS τ f)) (s : DenS g α H τ σ) :
    PostE g W α H σ (fun v H1 => ∃ α1 d h1, Ext α H α1 H1 ∧ Rep g α1 h1 H1 ∧ Den g α1 H1 d v ∧ DenS g α1 H1 τ σ ∧ PostS g W α1 H1 Dn (f d h1)) o := by
  cases o with
  | ok d h => exact fun α2 H2 v e2 r dd => ⟨α2, d, h, e2, r, dd, s.ext e2, PostS.mono p e2⟩
  | exc c h => exact fun α2 H2 e2 r => p α2 H2 σ e2 r (s.ext e2)
  | bad => exact p
theorem PostS.bind {f : SL → AH → SO} (p : PostS g W α H Dn (o.bind f)) :
    PostS g W α H { Dn with nx := fun σ1 H1 => ∃ α1 τ1 h1, Ext α H α1 H1 ∧ Rep g α1 h1 H1 ∧ DenS g α1 H1 τ1 σ1 ∧ PostS g W α1 H1 Dn (f τ1 h1) } o := by
  cases o with
  | nx τ h => exact fun α2 H2 σ2 e2 r d => ⟨α2, τ, h, e2, r, d, PostS.mono p e2⟩
  | rt d h => exact p
  | bk τ h => exact p
  | ct τ h => exact p
  | exc c τ h => exact p
  | bad => exact p
theorem PostS.imp {Dn' : Ends} (p : PostS g W α H Dn o) (k1 : ∀ σ H, Dn.nx σ H → Dn'.nx σ H) (k2 : ∀ v H, Dn.rt v H → Dn'.rt v H) (k3 : ∀ σ H, Dn.bk σ H → Dn'.bk σ H) (k4 : ∀ σ H, Dn.ct σ H → Dn'.ct σ H) : PostS g W α H Dn' o := by
  cases o with
  | nx τ h => exact fun α2 H2 σ2 e2 r d => k1 _ _ (p α2 H2 σ2 e2 r d)
  | rt d h => exact fun α2 H2 v e2 r d => k2 _ _ (p α2 H2 v e2 r d)
  | bk τ h => exact fun α2 H2 σ2 e2 r d => k3 _ _ (p α2 H2 σ2 e2 r d)
  | ct τ h => exact fun α2 H2 σ2 e2 r d => k4 _ _ (p α2 H2 σ2 e2 r d)
  | exc c τ h => exact p
  | bad => exact p
theorem tS_e {f : SL → D → AH → SO} (p : tS g W (fun τ h => (ma τ h).toS τ (f τ)) Dn σ H) : tE g W ma σ H fun v H1 => ∃ α1 d h1 τ, Rep g α1 h1 H1 ∧ DenS g α1 H1 τ σ ∧ Den g α1 H1 d v ∧ PostS g W α1 H1 Dn (f τ d h1) := by
  obtain ⟨α, h, τ, R, s, p⟩ := p
  refine ⟨α, h, τ, R, s, PostE.imp (PostS.toS p s) ?_⟩
  rintro v H1 ⟨α1, d, h1, E1, R1, D1, s1, p1⟩
  exact ⟨α1, d, h1, τ, R1, s1, D1, p1⟩
theorem dss_nil : PSs X [] (tS g W passM) := PSs.imp pss_nil fun Dn σ H ⟨α, h, τ, R, s, p⟩ => p α H σ .refl R s
theorem dss_cons (h1 : PS X st (tS g W sa)) (h2 : PSs X rest (tS g W sb)) : PSs X (st :: rest) (tS g W (seqM sa sb)) := by
  refine PSs.imp (pss_cons h1 h2) fun Dn σ H p => ?_
  obtain ⟨α, h, τ, R, s, p⟩ := p
  refine ⟨α, h, τ, R, s, PostS.imp (PostS.bind p) (fun σ1 H1 q => ?_) (fun _ _ q => q) (fun _ _ q => q) fun _ _ q => q⟩
  obtain ⟨α1, τ1, h1, E1, R1, s1, p1⟩ := q
  exact ⟨α1, h1, τ1, R1, s1, p1⟩
theorem dss_one (h1 : PS X st (tS g W sa)) : PSs X [st] (tS g W sa) := pss_one h1
theorem ds_pass : PS X (.Pass pos) (tS g W passM) := PS.imp ps_pass fun Dn σ H ⟨α, h, τ, R, s, p⟩ => p α H σ .refl R s
theorem ds_break : PS X (.Break pos) (tS g W brkM) := PS.imp ps_break fun Dn σ H ⟨α, h, τ, R, s, p⟩ => p α H σ .refl R s
theorem ds_continue : PS X (.Continue pos) (tS g W contM) := PS.imp ps_continue fun Dn σ H ⟨α, h, τ, R, s, p⟩ => p α H σ .refl R s
theorem ds_expr (he : PE X e (tE g W ma)) (hs : swapsWith e none pos.line X.env = pure false := by rfl) : PS X (.Expr e pos) (tS g W (exprM ma)) := by
  refine PS.imp (ps_expr he hs) fun Dn σ H p => ?_
  obtain ⟨α, h, τ, R, s, p⟩ := tS_e (f := fun τ _ h1 => .nx τ h1) p
  refine ⟨α, h, τ, R, s, PostE.imp p ?_⟩
  rintro v H1 ⟨α1, d, h1, τ1, R1, s1, D1, p1⟩
  exact p1 α1 H1 σ .refl R1 s1
theorem ds_ret (he : PE X e (tE g W ma)) : PS X (.Return (some e) pos) (tS g W (retM ma)) := by
  refine PS.imp (ps_ret he) fun Dn σ H p => ?_
  obtain ⟨α, h, τ, R, s, p⟩ := tS_e (f := fun τ d h1 => .rt d h1) p
  refine ⟨α, h, τ, R, s, PostE.imp p ?_⟩
  rintro v H1 ⟨α1, d, h1, τ1, R1, s1, D1, p1⟩
  exact p1 α1 H1 v .refl R1 D1
theorem ds_retN : PS X (.Return none pos) (tS g W retNM) := PS.imp ps_retN fun Dn σ H ⟨α, h, τ, R, s, p⟩ => p α H .non .refl R .non
theorem ds_set {i : Nat} {x : Str} {pos' : Pos} (hN : X.N.Nodup) (hi : X.N[i]? = some x) (hx : Loc X.env.scope x) (he : PE X e (tE g W ma)) (hs : swapsWith e (some (.Name x pos')) pos.line X.env = pure false := by rfl) (hf : X.fn x = true ∨ X.env.scope.names.lookup x = some .local := by first | exact .inl rfl | exact .inr rfl | assumption) :
    PS X (.Assign [.Name x pos'] e pos) (tS g W (setM i ma)) := by
  refine PS.imp (ps_set hN hi hx he hs hf) fun Dn σ H p => ?_
  obtain ⟨α, h, τ, R, s, p⟩ := tS_e (f := fun τ d h1 => .nx (τ.set i (some d)) h1) p
  refine ⟨α, h, τ, R, s, PostE.imp p ?_⟩
  rintro v H1 ⟨α1, d, h1, τ1, R1, s1, D1, p1⟩
  exact p1 α1 H1 _ .refl R1 (s1.set i D1)
theorem ds_if {p q : List Stmt} (hc : PT X c (tT g W mc)) (hp : PSs X p (tS g W sa)) (hq : PSs X q (tS g W sb)) : PS X (.If c p q pos) (tS g W (ifSM mc sa sb)) := by
  refine PS.imp (ps_if hc hp hq) fun Dn σ H p => ?_
  obtain ⟨α, h, τ, R, s, p⟩ := tS_e (f := fun τ d h1 => match d with | .bl true => sa τ h1 | .bl false => sb τ h1 | _ => .bad) p
  refine ⟨α, h, τ, R, s, PostE.imp p ?_⟩
  rintro v H1 ⟨α1, d, h1, τ1, R1, s1, D1, p1⟩
  cases D1 <;> try exact False.elim p1
  rename_i k
  refine ⟨k, rfl, ?_⟩
  cases k
  · exact iteF ⟨α1, h1, τ1, R1, s1, p1⟩
  · exact iteT ⟨α1, h1, τ1, R1, s1, p1⟩

/-! ### targets -/
abbrev TM := D → SL → AH → SO
/-- an end that goes on alone -/
def nxE (Q : St → Hp → Prop) : Ends := { nx := Q, rt := fun _ _ => False }
def RG (g : G) (W : WX) (t : TG) (f : TM) : Prop := ∀ (α : List Addr) (h : AH) (H : Hp) (τ : SL) (σ : St) (v : V) (d : D) (Q : St → Hp → Prop), Rep g α h H → DenS g α H τ σ → Den g α H d v → PostS g W α H (nxE Q) (f d τ h) → t v σ H Q
def nameG (i : Nat) : TM := fun d τ h => .nx (τ.set i (some d)) h
def unpackG (fs : List TM) : List D → SL → AH → SO := match fs with
  | [] => fun ds τ h => match ds with
    | [] => .nx τ h
    | _ => .bad
  | f :: fs => fun ds τ h => match ds with
    | d :: ds => (f d τ h).bind fun τ1 h1 => unpackG fs ds τ1 h1
    | _ => .bad
def tupG (fs : List TM) : TM := fun d τ h => match d with
  | .tup ds => unpackG fs ds τ h
  | _ => .bad
theorem rg_name {i : Nat} : RG g W (gName i) (nameG i) := fun α h H τ σ v d Q R s hd p => p α H _ .refl R (s.set i hd)
def RGs (g : G) (W : WX) (t : TGs) (fs : List TM) : Prop := ∀ (α : List Addr) (h : AH) (H : Hp) (τ : SL) (σ : St) (vs : List V) (ds : List D) (Q : St → Hp → Prop), Rep g α h H → DenS g α H τ σ → DenL g α H ds vs → PostS g W α H (nxE Q) (unpackG fs ds τ h) → t vs σ H Q
theorem rgs_nil : RGs g W gNil [] := fun α h H τ σ vs ds Q R s hd p => by
  cases hd with
  | nil => exact ⟨rfl, p α H σ .refl R s⟩
  | cons _ _ => exact p.elim
theorem rgs_cons {t : TG} {u : TGs} {f : TM} {fs : List TM} (h1 : RG g W t f) (h2 : RGs g W u fs) : RGs g W (gCons t u) (f :: fs) := fun α h H τ σ vs ds Q R s hd p => by
  cases hd with
  | nil => exact p.elim
  | cons k1 k2 =>
    refine ⟨_, _, rfl, h1 α h H τ σ _ _ _ R s k1 (PostS.imp (PostS.bind p) (fun σ1 H1 q => ?_) (fun _ _ q => q) (fun _ _ q => q) fun _ _ q => q)⟩
    obtain ⟨α1, τ1, h1', E1, R1, s1, p1⟩ := q
    exact h2 α1 h1' H1 τ1 σ1 _ _ Q R1 s1 (DenL.ext E1 _ _ k2) p1
theorem unpack_len {fs : List TM} : ∀ {ds : List D} {τ : SL} {h : AH} {Q : St → Hp → Prop}, PostS g W α H (nxE Q) (unpackG fs ds τ h) → (∀ f ∈ fs, ∀ d τ h α H Q, PostS g W α H (nxE Q) (f d τ h) → ∃ τ' h', f d τ h = .nx τ' h') → ds.length = fs.length := by
  induction fs with
  | nil => intro ds τ h Q p _; cases ds with
    | nil => rfl
    | cons _ _ => exact p.elim
  | cons f fs ih => intro ds τ h Q p k; cases ds with
    | nil => exact p.elim
    | cons d ds =>
      obtain ⟨τ', h', e⟩ : ∃ τ' h', f d τ h = .nx τ' h' := k f List.mem_cons_self d τ h α H _ (PostS.imp (PostS.bind p) (fun _ _ q => q) (fun _ _ q => q) (fun _ _ q => q) fun _ _ q => q)
      have p' : PostS g W α H (nxE Q) ((f d τ h).bind fun τ1 h1 => unpackG fs ds τ1 h1) := p
      rw [e] at p'
      have := ih (ds := ds) (τ := τ') (h := h') (Q := Q) p' (fun f hf => k f (List.mem_cons_of_mem _ hf))
      simp [this]
/-- a tuple of names -/
theorem rg_names {t : TGs} {is : List Nat} (hr : RGs g W t (is.map nameG)) : RG g W (gTup g.K is.length t) (tupG (is.map nameG)) := fun α h H τ σ v d Q R s hd p => by
  cases hd <;> try exact False.elim p
  rename_i a ds vs hs hl
  have e := unpack_len (fs := is.map nameG) (ds := ds) (τ := τ) (h := h) (Q := Q) p (fun f hf d τ h α H Q q => by
    obtain ⟨i, _, rfl⟩ := List.mem_map.mp hf
    exact ⟨_, _, rfl⟩)
  refine ⟨a, vs, rfl, hs, by rw [← hl.length, e, List.length_map], hr α h H τ σ vs ds Q R s hl p⟩
def asgM (e : EM) (f : TM) : SM := fun τ h => (e τ h).toS τ fun d h1 => f d τ h1
theorem ds_asg {tg : Expr} {t : TG} {f : TM} (he : PE X e (tE g W ma)) (hg : PG X tg t) (rg : RG g W t f) (hf : ∀ d τ h Q α H Dn, PostS g W α H Dn (f d τ h) → (∀ σ H, Dn.nx σ H → Q σ H) → PostS g W α H (nxE Q) (f d τ h)) (hs : swapsWithSole [tg] e pos.line X.env = pure false := by rfl) (hw : swappedStores [tg] e X.env = pure none := by rfl)
    (h1 : (assignEach [tg] X.env).map (·.2) = [assign tg X.env] := by rfl) : PS X (.Assign [tg] e pos) (tS g W (asgM ma f)) := by
  refine PS.imp (ps_asg he hg hs hw h1) fun Dn σ H p => ?_
  obtain ⟨α, h, τ, R, s, p⟩ := tS_e (f := fun τ d h1 => f d τ h1) p
  refine ⟨α, h, τ, R, s, PostE.imp p ?_⟩
  rintro v H1 ⟨α1, d, h1, τ1, R1, s1, D1, p1⟩
  exact rg α1 h1 H1 τ1 σ v d _ R1 s1 D1 (hf d τ1 h1 _ α1 H1 Dn p1 fun _ _ q => q)
/-- a mirror of a target goes on, or raises, or is bad -/
def Goes (f : TM) : Prop := ∀ d τ h, (∃ τ' h', f d τ h = .nx τ' h') ∨ (∃ c τ' h', f d τ h = .exc c τ' h') ∨ f d τ h = .bad
theorem Goes.post {f : TM} (k : Goes f) (d : D) (τ : SL) (h : AH) (Q : St → Hp → Prop) (α : List Addr) (H : Hp) (Dn : Ends) (p : PostS g W α H Dn (f d τ h)) (q : ∀ σ H, Dn.nx σ H → Q σ H) : PostS g W α H (nxE Q) (f d τ h) := by
  rcases k d τ h with ⟨τ', h', e⟩ | ⟨c, τ', h', e⟩ | e
  · rw [e] at p ⊢; exact fun α2 H2 σ2 e2 r d => q _ _ (p α2 H2 σ2 e2 r d)
  · rw [e] at p ⊢; exact p
  · rw [e] at p; exact p.elim
theorem goes_name {i : Nat} : Goes (nameG i) := fun d τ h => .inl ⟨_, _, rfl⟩
theorem goes_unpack : ∀ (fs : List TM), (∀ f ∈ fs, Goes f) → ∀ ds τ h, (∃ τ' h', unpackG fs ds τ h = .nx τ' h') ∨ (∃ c τ' h', unpackG fs ds τ h = .exc c τ' h') ∨ unpackG fs ds τ h = .bad
  | [], _, [], τ, h => .inl ⟨_, _, rfl⟩
  | [], _, _ :: _, τ, h => .inr (.inr rfl)
  | f :: fs, k, [], τ, h => .inr (.inr rfl)
  | f :: fs, k, d :: ds, τ, h => by
    have e0 : unpackG (f :: fs) (d :: ds) τ h = (f d τ h).bind fun τ1 h1 => unpackG fs ds τ1 h1 := rfl
    rcases k f List.mem_cons_self d τ h with ⟨τ', h', e⟩ | ⟨c, τ', h', e⟩ | e
    · rw [e0, e]; exact goes_unpack fs (fun f hf => k f (List.mem_cons_of_mem _ hf)) ds τ' h'
    · rw [e0, e]; exact .inr (.inl ⟨_, _, _, rfl⟩)
    · rw [e0, e]; exact .inr (.inr rfl)
theorem goes_tup {fs : List TM} (k : ∀ f ∈ fs, Goes f) : Goes (tupG fs) := fun d τ h => by
  cases d <;> first | exact .inr (.inr rfl) | exact goes_unpack fs k _ τ h
theorem goes_names {is : List Nat} : Goes (tupG (is.map nameG)) := goes_tup fun f hf => by
  obtain ⟨i, _, rfl⟩ := List.mem_map.mp hf
  exact goes_name
/-- a, b = x, y -/
def parM (i j : Nat) (m : LM) : SM := fun τ h => match m τ h with
  | .ok [d, e] h1 => .nx ((τ.set i (some d)).set j (some e)) h1
  | .exc c h1 => .exc c τ h1
  | _ => .bad
theorem ds_par {i j : Nat} {x y : Str} {a b : Expr} {m : LM} {px py pt : Pos} {kt k2 pt2} (hc : X.calm = true) (hN : X.N.Nodup) (hi : X.N[i]? = some x) (hj : X.N[j]? = some y) (hij : i ≠ j)
    (hx : X.env.scope.names.lookup x = some .local) (hy : X.env.scope.names.lookup y = some .local) (ha : PA X [a, b] (tL g W m))
    (hw : swappedStores [.Tuple [.Name x px, .Name y py] kt pt] (.Tuple [a, b] k2 pt2) X.env = pure (some [x, y]))
    (hs : swapsWithSole [.Tuple [.Name x px, .Name y py] kt pt] (.Tuple [a, b] k2 pt2) pos.line X.env = pure false := by rfl) :
    PS X (.Assign [.Tuple [.Name x px, .Name y py] kt pt] (.Tuple [a, b] k2 pt2) pos) (tS g W (parM i j m)) := by
  refine PS.imp (ps_par hc hN hi hj hij hx hy ha hw hs) fun Dn σ H p => ?_
  obtain ⟨α, h, τ, R, s, p⟩ := p
  refine ⟨α, h, τ, R, s, ?_⟩
  unfold parM at p
  split at p
  · rename_i d e h1 e1
    rw [e1]
    rintro α' H' vs E R' dl
    cases dl with
    | cons d1 dl =>
      cases dl with
      | cons d2 dl =>
        cases dl
        exact ⟨_, _, rfl, p α' H' _ E R' (((s.ext E).set i d1).set j d2)⟩
  · rename_i c h1 e1
    rw [e1]
    exact fun α' H' E R' => p α' H' σ E R' (s.ext E)
  · exact p.elim

/-! ### while -/
def whileN (c : EM) (b : SM) : Nat → SM
  | 0 => fun _ _ => .bad
  | n + 1 => fun τ h => (c τ h).toS τ fun d h1 => match d with
    | .bl true => match b τ h1 with
      | .nx τ' h' => whileN c b n τ' h'
      | .ct τ' h' => whileN c b n τ' h'
      | .bk τ' h' => .nx τ' h'
      | r => r
    | .bl false => .nx τ h1
    | _ => .bad
open Classical in
noncomputable def whileM (c : EM) (b : SM) : SM := fun τ h => if H : ∃ n, whileN c b n τ h ≠ .bad then whileN c b (Classical.choose H) τ h else .bad
theorem whileN_mono {c : EM} {b : SM} : ∀ (n k : Nat) (τ : SL) (h : AH), whileN c b n τ h ≠ .bad → whileN c b (n + k) τ h = whileN c b n τ h
  | 0, k, τ, h, q => absurd rfl q
  | n + 1, k, τ, h, q => by
    rw [show n + 1 + k = (n + k) + 1 by omega]
    simp only [whileN] at q ⊢
    cases e : c τ h with
    | ok d h1 =>
      rw [e] at q
      simp only [EO.toS] at q ⊢
      cases d with
      | bl t =>
        cases t with
        | true =>
          simp only at q ⊢
          cases e2 : b τ h1 with
          | nx τ' h' => rw [e2] at q; exact whileN_mono n k τ' h' q
          | ct τ' h' => rw [e2] at q; exact whileN_mono n k τ' h' q
          | bk τ' h' => rfl
          | rt d h' => rfl
          | exc c τ' h' => rfl
          | bad => rfl
        | false => rfl
      | _ => rfl
    | exc c h1 => rfl
    | bad => rfl
theorem whileM_of {c : EM} {b : SM} {n : Nat} {τ : SL} {h : AH} (q : whileN c b n τ h ≠ .bad) : whileM c b τ h = whileN c b n τ h := by
  have H : ∃ n, whileN c b n τ h ≠ .bad := ⟨n, q⟩
  unfold whileM
  rw [dif_pos H]
  have h1 := Classical.choose_spec H
  have e1 := whileN_mono (Classical.choose H) n τ h h1
  have e2 := whileN_mono n (Classical.choose H) τ h q
  rw [Nat.add_comm] at e2
  exact e1.symm.trans e2
/-- one turn -/
def turnM (c : EM) (b : SM) (k : SM) : SM := fun τ h => (c τ h).toS τ fun d h1 => match d with
    | .bl true => match b τ h1 with
      | .nx τ' h' => k τ' h'
      | .ct τ' h' => k τ' h'
      | .bk τ' h' => .nx τ' h'
      | r => r
    | .bl false => .nx τ h1
    | _ => .bad
theorem whileM_eq {c : EM} {b : SM} (τ : SL) (h : AH) : whileM c b τ h = turnM c b (whileM c b) τ h := by
  by_cases H : ∃ n, whileN c b n τ h ≠ .bad
  · obtain ⟨n, q⟩ := H
    rw [whileM_of q]
    cases n with
    | zero => exact absurd rfl q
    | succ n =>
      simp only [whileN, turnM] at q ⊢
      cases e : c τ h with
      | ok d h1 =>
        rw [e] at q
        simp only [EO.toS] at q ⊢
        cases d with
        | bl t =>
          cases t with
          | true =>
            simp only at q ⊢
            cases e2 : b τ h1 with
            | nx τ' h' => rw [e2] at q; exact (whileM_of q).symm
            | ct τ' h' => rw [e2] at q; exact (whileM_of q).symm
            | bk τ' h' => rfl
            | rt d h' => rfl
            | exc c τ' h' => rfl
            | bad => rfl
          | false => rfl
        | _ => rfl
      | exc c h1 => rfl
      | bad => rfl
  · have e0 : whileM c b τ h = .bad := by unfold whileM; rw [dif_neg H]
    rw [e0]
    have H' : ∀ n, whileN c b n τ h = .bad := fun n => Classical.byContradiction fun q => H ⟨n, q⟩
    simp only [turnM]
    cases e : c τ h with
    | ok d h1 =>
      simp only [EO.toS]
      have H1 := H' 1
      simp only [whileN, e, EO.toS] at H1
      cases d with
      | bl t =>
        cases t with
        | true =>
          simp only at H1 ⊢
          cases e2 : b τ h1 with
          | nx τ' h' =>
            simp only
            have : ¬ ∃ n, whileN c b n τ' h' ≠ .bad := fun ⟨n, q⟩ => q (by have := H' (n + 1); simp only [whileN, e, EO.toS, e2] at this; exact this)
            unfold whileM; rw [dif_neg this]
          | ct τ' h' =>
            simp only
            have : ¬ ∃ n, whileN c b n τ' h' ≠ .bad := fun ⟨n, q⟩ => q (by have := H' (n + 1); simp only [whileN, e, EO.toS, e2] at this; exact this)
            unfold whileM; rw [dif_neg this]
          | bk τ' h' => rw [e2] at H1; exact absurd H1 (by simp)
          | rt d h' => rw [e2] at H1; exact absurd H1 (by simp)
          | exc c τ' h' => rw [e2] at H1; exact absurd H1 (by simp)
          | bad => rfl
        | false => exact absurd H1 (by simp)
      | _ => rfl
    | exc c h1 => have H1 := H' 1; simp only [whileN, e, EO.toS] at H1; exact absurd H1 (by simp)
    | bad => rfl
theorem ds_while {body : List Stmt} (hp : PassesOwn (model X.prog X.w) X.A X.env X.xe) (hc : PT X c (tT g W mc)) (hb : PSs X body (tS g W sb)) : PS X (.While c body [] pos) (tS g W (whileM mc sb)) := by
  refine PS.imp (ps_while hp hc hb) fun Dn σ H p => ?_
  obtain ⟨α, h, τ, R, s, p⟩ := p
  by_cases HB : ∃ n, whileN mc sb n τ h ≠ .bad
  · obtain ⟨n, q⟩ := HB
    rw [whileM_of q] at p
    refine ⟨fun m σ H => ∃ α h τ, Rep g α h H ∧ DenS g α H τ σ ∧ PostS g W α H Dn (whileN mc sb m τ h), ⟨n, α, h, τ, R, s, p⟩, ?_⟩
    rintro m σ H ⟨α, h, τ, R, s, p⟩
    cases m with
    | zero => exact p.elim
    | succ m =>
      simp only [whileN] at p
      refine ⟨α, h, τ, R, s, PostE.imp (PostS.toS p s) ?_⟩
      rintro v H1 ⟨α1, d, h1, E1, R1, D1, s1, p1⟩
      cases D1 <;> try exact False.elim p1
      rename_i k
      refine ⟨k, rfl, ?_⟩
      cases k
      · exact iteF (p1 α1 H1 σ .refl R1 s1)
      · refine iteT ⟨fun σ' H' => ∃ α h τ, Rep g α h H' ∧ DenS g α H' τ σ' ∧ PostS g W α H' Dn (whileN mc sb m τ h), fun σ' H' w => ⟨m, Nat.lt_succ_self m, w⟩, α1, h1, τ, R1, s1, ?_⟩
        simp only at p1
        cases e : sb τ h1 with
        | nx τ' h' => rw [e] at p1; exact fun α2 H2 σ2 e2 r d => ⟨α2, h', τ', r, d, PostS.mono p1 e2⟩
        | ct τ' h' => rw [e] at p1; exact fun α2 H2 σ2 e2 r d => ⟨α2, h', τ', r, d, PostS.mono p1 e2⟩
        | bk τ' h' => rw [e] at p1; exact p1
        | rt d h' => rw [e] at p1; exact p1
        | exc c τ' h' => rw [e] at p1; exact p1
        | bad => rw [e] at p1; exact p1
  · exfalso
    unfold whileM at p
    rw [dif_neg HB] at p
    exact p
end
end DD
end

section
set_option Elab.async false
set_option linter.all false
set_option maxRecDepth 100000
namespace DD
open PySem L2
open PyProof.Rows (b2i)

/-! ### for -/
/-- what the body leaves for the next turn -/
def nextM (o : SO) (k : SM) : SO := match o with
  | .nx τ' h' => k τ' h'
  | .ct τ' h' => k τ' h'
  | .bk τ' h' => .nx τ' h'
  | r => r
/-- turn by turn; live tells whether what is walked stands as it stood -/
def loopM (live : AH → Bool) (f : TM) (b : SM) : List D → SM
  | [] => fun τ h => if live h = true then .nx τ h else .bad
  | d :: ds => fun τ h => if live h = true then (f d τ h).bind fun τ1 h1 => nextM (b τ1 h1) (loopM live f b ds) else .bad
section
variable {X : Cx} {g : G} {W : WX} {a b c e : Expr} {ma mb mc : EM} {pos : Pos} {σ : St} {H H' : Hp} {Q : VK} {Dn : Ends} {α α' : List Addr} {o : SO} {τ : SL} {sa sb : SM} {st : Stmt} {rest : List Stmt}
/-- the loop over any walk J that yields the values of ds in order -/
theorem loop_core {J : It} {tgt : TG} {f : TM} {live : AH → Bool} {ds : List D} {h : AH} (rg : RG g W tgt f) (gf : Goes f) (R : Rep g α h H) (s : DenS g α H τ σ) (p : PostS g W α H Dn (loopM live f sb ds τ h))
    (stop : ∀ α' H' h', Ext α H α' H' → Rep g α' h' H' → live h' = true → ∀ i, ds.length ≤ i → J.stop i H')
    (go : ∀ α' H' h', Ext α H α' H' → Rep g α' h' H' → live h' = true → ∀ i d, ds[i]? = some d → J.go i H')
    (yld : ∀ α' H' h' x H2, Ext α H α' H' → Rep g α' h' H' → live h' = true → ∀ i d, ds[i]? = some d → J.yld i H' x H2 → Ext α' H' α' H2 ∧ Rep g α' h' H2 ∧ Den g α' H2 d x) :
    ∃ W' : Nat → Nat → St → Hp → Prop, (∃ m, W' 0 m σ H) ∧ ∀ i m σ H, W' i m σ H → (J.stop i H ∧ Dn.nx σ H) ∨
      (J.go i H ∧ ∃ N : St → Hp → Prop, (∀ σ' H', N σ' H' → ∃ m', m' < m ∧ W' (i + 1) m' σ' H') ∧ ∀ x H', J.yld i H x H' → tgt x σ H' fun σ2 H2 => tS g W sb { Dn with nx := N, ct := N, bk := Dn.nx } σ2 H2) := by
  refine ⟨fun i m σ' H' => m = ds.length - i ∧ ∃ α' h' τ', Ext α H α' H' ∧ Rep g α' h' H' ∧ DenS g α' H' τ' σ' ∧ PostS g W α' H' Dn (loopM live f sb (ds.drop i) τ' h'), ⟨ds.length, by simp, α, h, τ, .refl, R, s, p⟩, ?_⟩
  rintro i m σ1 H1 ⟨rfl, α1, h1, τ1, E1, R1, s1, p1⟩
  by_cases hi : i < ds.length
  · have hd : ds.drop i = ds[i] :: ds.drop (i + 1) := by rw [List.drop_eq_getElem_cons hi]
    have hg : ds[i]? = some ds[i] := List.getElem?_eq_getElem hi
    rw [hd] at p1
    simp only [loopM] at p1
    split at p1
    · rename_i hl
      refine .inr ⟨go α1 H1 h1 E1 R1 hl i _ hg, fun σ' H' => ∃ α' h' τ', Ext α H α' H' ∧ Rep g α' h' H' ∧ DenS g α' H' τ' σ' ∧ PostS g W α' H' Dn (loopM live f sb (ds.drop (i + 1)) τ' h'), fun σ' H' w => ⟨ds.length - (i + 1), by omega, rfl, w⟩, fun x H2 hy => ?_⟩
      obtain ⟨E2, R2, D2⟩ := yld α1 H1 h1 x H2 E1 R1 hl i _ hg hy
      have p2 := PostS.mono p1 E2
      refine rg α1 h1 H2 τ1 σ1 x _ _ R2 (s1.ext E2) D2 (gf.post _ _ _ _ _ _ _ (PostS.bind p2) fun σ3 H3 w => ?_)
      obtain ⟨α3, τ3, h3, E3, R3, s3, p3⟩ := w
      refine ⟨α3, h3, τ3, R3, s3, ?_⟩
      have EE := (E1.trans E2).trans E3
      cases e : sb τ3 h3 with
      | nx τ' h' => rw [e] at p3; exact fun α4 H4 σ4 e4 r d => ⟨α4, h', τ', EE.trans e4, r, d, PostS.mono p3 e4⟩
      | ct τ' h' => rw [e] at p3; exact fun α4 H4 σ4 e4 r d => ⟨α4, h', τ', EE.trans e4, r, d, PostS.mono p3 e4⟩
      | bk τ' h' => rw [e] at p3; exact p3
      | rt d h' => rw [e] at p3; exact p3
      | exc c τ' h' => rw [e] at p3; exact p3
      | bad => rw [e] at p3; exact p3
    · exact p1.elim
  · have hd : ds.drop i = [] := List.drop_eq_nil_of_le (by omega)
    rw [hd] at p1
    simp only [loopM] at p1
    split at p1
    · rename_i hl
      exact .inl ⟨stop α1 H1 h1 E1 R1 hl i (by omega), p1 α1 H1 σ1 .refl R1 s1⟩
    · exact p1.elim
end
/-- what a for walks: a mirror of the iterable gives the values and the test of life -/
def forM (e : EM) (items : D → AH → Option (List D × (AH → Bool))) (f : TM) (b : SM) : SM := fun τ h => (e τ h).toS τ fun d h1 => match items d h1 with
  | some (ds, live) => loopM live f b ds τ h1
  | none => .bad
mutual
def D.beq : D → D → Bool
  | .non, .non => true
  | .bl a, .bl b => a == b
  | .int a, .int b => a == b
  | .str a, .str b => decide (a = b)
  | .tup a, .tup b => D.beqs a b
  | .ref a, .ref b => a == b
  | .con a, .con b => a == b
  | .fls a, .fls b => D.beqs a b
  | _, _ => false
def D.beqs : List D → List D → Bool
  | [], [] => true
  | a :: as, b :: bs => D.beq a b && D.beqs as bs
  | _, _ => false
end
mutual
theorem D.eq_of_beq : ∀ {a b : D}, D.beq a b = true → a = b
  | .non, b, h => by cases b <;> simp [D.beq] at h ⊢
  | .bl _, b, h => by cases b <;> simp [D.beq] at h ⊢; exact h
  | .int _, b, h => by cases b <;> simp [D.beq] at h ⊢; exact h
  | .str _, b, h => by cases b <;> simp [D.beq] at h ⊢; exact h
  | .tup xs, b, h => by
    cases b <;> simp [D.beq] at h ⊢
    exact D.eq_of_beqs h
  | .ref _, b, h => by cases b <;> simp [D.beq] at h ⊢; exact h
  | .con _, b, h => by cases b <;> simp [D.beq] at h ⊢; exact h
  | .fls xs, b, h => by
    cases b <;> simp [D.beq] at h ⊢
    exact D.eq_of_beqs h
theorem D.eq_of_beqs : ∀ {a b : List D}, D.beqs a b = true → a = b
  | [], b, h => by cases b <;> simp [D.beqs] at h ⊢
  | x :: xs, b, h => by
    cases b <;> simp [D.beqs] at h ⊢
    exact ⟨D.eq_of_beq h.1, D.eq_of_beqs h.2⟩
end
mutual
theorem D.beq_self : ∀ (a : D), D.beq a a = true
  | .non => by simp [D.beq]
  | .bl _ => by simp [D.beq]
  | .int _ => by simp [D.beq]
  | .str _ => by simp [D.beq]
  | .tup xs => by simp [D.beq, D.beqs_self xs]
  | .ref _ => by simp [D.beq]
  | .con _ => by simp [D.beq]
  | .fls xs => by simp [D.beq, D.beqs_self xs]
theorem D.beqs_self : ∀ (a : List D), D.beqs a a = true
  | [] => by simp [D.beqs]
  | x :: xs => by simp [D.beqs, D.beq_self x, D.beqs_self xs]
end
/-- the list at l is xs -/
def isLst (l : Nat) (xs : List D) (h : AH) : Bool := match h[l]? with
  | some (.lst ys) => D.beqs ys xs
  | _ => false
theorem isLst_of {l : Nat} {xs : List D} {h : AH} (e : isLst l xs h = true) : h[l]? = some (.lst xs) := by
  unfold isLst at e
  split at e
  · rename_i ys q
    rw [q, D.eq_of_beqs e]
  · cases e
theorem isLst_mk {l : Nat} {xs : List D} {h : AH} (e : h[l]? = some (.lst xs)) : isLst l xs h = true := by
  unfold isLst
  rw [e]
  exact D.beqs_self xs
def seqIt (d : D) (h : AH) : Option (List D × (AH → Bool)) := match d with
  | .tup xs => some (xs, fun _ => true)
  | .ref l => match h[l]? with
    | some (.lst xs) => some (xs, isLst l xs)
    | _ => none
  | _ => none
def tupIt (d : D) (_ : AH) : Option (List D × (AH → Bool)) := match d with
  | .tup xs => some (xs, fun _ => true)
  | _ => none
def lstIt (d : D) (h : AH) : Option (List D × (AH → Bool)) := match d with
  | .ref l => match h[l]? with
    | some (.lst xs) => some (xs, isLst l xs)
    | _ => none
  | _ => none
/-- the signs of a text -/
def signs (x : Str) : List D := x.cps.toList.map fun c => .str ⟨#[c]⟩
def strIt (d : D) (_ : AH) : Option (List D × (AH → Bool)) := match d with
  | .str x => some (signs x, fun _ => true)
  | _ => none
/-- lo, lo + 1, .. n of them -/
def rngL (lo : Int) (n : Nat) : List D := (List.range n).map fun (k : Nat) => .int (lo + (k : Int))
def rngIt1 (d : D) (_ : AH) : Option (List D × (AH → Bool)) := match d with
  | .int j => if -(2 ^ 62) ≤ j ∧ j < 2 ^ 62 then some (rngL 0 j.toNat, fun _ => true) else none
  | _ => none
def rngIt2 (d : D) (_ : AH) : Option (List D × (AH → Bool)) := match d with
  | .tup [.int i, .int j] => if -(2 ^ 62) ≤ i ∧ i < 2 ^ 62 ∧ -(2 ^ 62) ≤ j ∧ j < 2 ^ 62 then some (rngL i (j - i).toNat, fun _ => true) else none
  | _ => none
theorem rngL_get {lo : Int} {n i : Nat} {d : D} (h : (rngL lo n)[i]? = some d) : i < n ∧ d = .int (lo + (i : Int)) := by
  unfold rngL at h
  rw [List.getElem?_map] at h
  cases e : (List.range n)[i]? with
  | none => rw [e] at h; cases h
  | some k =>
    rw [e] at h
    have hi := (List.getElem?_eq_some_iff.mp e).1
    rw [List.length_range] at hi
    rw [List.getElem?_range hi] at e
    cases e
    exact ⟨hi, (Option.some.inj h).symm⟩
theorem rngL_length {lo : Int} {n : Nat} : (rngL lo n).length = n := by simp [rngL]
section
variable {X : Cx} {g : G} {W : WX} {a b c e : Expr} {ma mb mc : EM} {pos : Pos} {σ : St} {H H' : Hp} {Q : VK} {Dn : Ends} {α α' : List Addr} {o : SO} {τ : SL} {sa sb : SM} {st : Stmt} {rest : List Stmt} {body : List Stmt} {tg : Expr} {t : TG} {f : TM}
theorem den_rng {lo : Int} : ∀ (n : Nat), ∃ vs, DenL g α H (rngL lo n) vs := fun n => by
  unfold rngL
  generalize List.range n = l
  induction l with
  | nil => exact ⟨[], .nil⟩
  | cons k l ih => obtain ⟨vs, h⟩ := ih; exact ⟨.int (lo + (k : Int)) :: vs, .cons (.int _) h⟩
theorem den_signs {x : Str} : ∃ vs, DenL g α H (signs x) vs := by
  unfold signs
  generalize x.cps.toList = l
  induction l with
  | nil => exact ⟨[], .nil⟩
  | cons k l ih => obtain ⟨vs, h⟩ := ih; exact ⟨.str ⟨#[k]⟩ :: vs, .cons (.str _) h⟩
/-- a value, or the values of some arguments -/
def DenW (g : G) (α : List Addr) (H : Hp) (d : D) : Prop := (∃ v, Den g α H d v) ∨ ∃ ds vs, d = .tup ds ∧ DenL g α H ds vs
/-- a walk J over the values ds while live holds -/
def WalkOf (g : G) (α1 : List Addr) (H1 : Hp) (ds : List D) (live : AH → Bool) (J : It) : Prop :=
  (∀ α' H' h', Ext α1 H1 α' H' → Rep g α' h' H' → live h' = true → ∀ i, ds.length ≤ i → J.stop i H') ∧
  (∀ α' H' h', Ext α1 H1 α' H' → Rep g α' h' H' → live h' = true → ∀ (i : Nat) (d : D), ds[i]? = some d → J.go i H') ∧
  (∀ α' H' h' x H2, Ext α1 H1 α' H' → Rep g α' h' H' → live h' = true → ∀ (i : Nat) (d : D), ds[i]? = some d → J.yld i H' x H2 → Ext α' H' α' H2 ∧ Rep g α' h' H2 ∧ Den g α' H2 d x)
def PostI (g : G) (W : WX) (items : D → AH → Option (List D × (AH → Bool))) (α : List Addr) (H : Hp) (σ : St) (R : It → Hp → Prop) : EO → Prop
  | .ok d h' => ∀ α' H', Ext α H α' H' → Rep g α' h' H' → DenW g α' H' d → ∃ ds live, items d h' = some (ds, live) ∧ ∀ J, WalkOf g α' H' ds live J → R J H'
  | .exc c h' => ∀ α' H', Ext α H α' H' → Rep g α' h' H' → W (.ref (g.cl c)) none σ H'
  | .bad => False
/-- an iterable's reading comes to its values and to a walk over them -/
def IterOk (g : G) (W : WX) (wi : TI) (ma : EM) (items : D → AH → Option (List D × (AH → Bool))) : Prop :=
  ∀ σ H R, (∃ α h τ, Rep g α h H ∧ DenS g α H τ σ ∧ PostI g W items α H σ R (ma τ h)) → wi σ H R
theorem ds_for {iter : Expr} {wi : TI} {items : D → AH → Option (List D × (AH → Bool))} (io : IterOk g W wi ma items) (hi : PI X tg iter wi) (hp : PassesOwn (model X.prog X.w) X.A X.env X.xe) (hc : X.calm = true) (hg : PG X tg t) (rg : RG g W t f) (gf : Goes f) (hb : PSs X body (tS g W sb))
    (hs : ∀ x, foldedSetIterable iter X.env x = pure x := by intro _; rfl) : PS X (.For tg iter body [] pos) (tS g W (forM ma items f sb)) := by
  refine PS.imp (ps_for hp hc hi hg hb hs) fun Dn σ H p => ?_
  refine io σ H _ ?_
  obtain ⟨α, h, τ, R, s, p⟩ := p
  refine ⟨α, h, τ, R, s, ?_⟩
  unfold forM at p
  cases e : ma τ h with
  | ok d h1 =>
    rw [e] at p
    intro α1 H1 E1 R1 _
    have p1 := PostS.mono p E1
    simp only [EO.toS] at p1
    split at p1
    · rename_i ds live hit
      exact ⟨ds, live, hit, fun J w => loop_core rg gf R1 (s.ext E1) p1 w.1 w.2.1 w.2.2⟩
    · exact p1.elim
  | exc c h1 =>
    rw [e] at p
    exact fun α1 H1 E1 R1 => p α1 H1 σ E1 R1 (s.ext E1)
  | bad => rw [e] at p; exact p
theorem PostI.toE {items : D → AH → Option (List D × (AH → Bool))} {R : It → Hp → Prop} {o : EO} (q : PostI g W items α H σ R o) :
    PostE g W α H σ (fun v H1 => ∃ α1 d h1, Ext α H α1 H1 ∧ Rep g α1 h1 H1 ∧ Den g α1 H1 d v ∧ ∃ ds live, items d h1 = some (ds, live) ∧ ∀ J, WalkOf g α1 H1 ds live J → R J H1) o := by
  cases o with
  | ok d h => exact fun α1 H1 v E1 R1 D1 => ⟨α1, d, h, E1, R1, D1, q α1 H1 E1 R1 (.inl ⟨v, D1⟩)⟩
  | exc c h => exact q
  | bad => exact q
theorem it_tup {K : PySem.W.Frag} (hK : g.K = K) : IterOk g W (iTup K (tE g W ma)) ma tupIt := by
  rintro σ H R ⟨α, h, τ, R1, s, p⟩
  refine ⟨α, h, τ, R1, s, PostE.imp (PostI.toE p) ?_⟩
  rintro v H1 ⟨α1, d, h1, E1, R2, D1, ds, live, hit, k⟩
  cases D1 <;> simp only [tupIt, reduceCtorEq] at hit
  rename_i a ds' vs hs' hl
  cases hit
  refine ⟨a, rfl, ⟨vs, by rw [← hK]; exact hs'⟩, k _ ⟨fun α' H' h' E r l i hi => ⟨vs, by rw [← hK]; exact E.sqT hs', by rw [← hl.length]; exact hi⟩, fun α' H' h' E r l i d hd => ?_, fun α' H' h' x H2 E r l i d hd hy => ?_⟩⟩
  · obtain ⟨v, q1, q2⟩ := hl.get hd
    exact ⟨vs, v, by rw [← hK]; exact E.sqT hs', q1⟩
  · obtain ⟨rfl, q⟩ := hy
    obtain ⟨v, q1, q2⟩ := hl.get hd
    have := q vs (by rw [← hK]; exact E.sqT hs')
    rw [q1] at this
    cases this
    exact ⟨.refl, r, Den.ext E _ _ q2⟩
theorem it_lst {K : PySem.W.Frag} (hK : g.K = K) : IterOk g W (iList K (tE g W ma)) ma lstIt := by
  rintro σ H R ⟨α, h, τ, R1, s, p⟩
  refine ⟨α, h, τ, R1, s, PostE.imp (PostI.toE p) ?_⟩
  rintro v H1 ⟨α1, d, h1, E1, R2, D1, ds, live, hit, k⟩
  cases D1 <;> simp only [lstIt, reduceCtorEq] at hit
  rename_i l a hl
  split at hit
  · rename_i xs hx
    cases hit
    obtain ⟨vs, a1, a2⟩ := R2.ob _ _ _ hx hl
    have at_ : ∀ {α' : List Addr} {H' : Hp} {h' : AH}, Ext α1 H1 α' H' → Rep g α' h' H' → isLst l ds h' = true → ∃ vs', H' a = some (.lst vs') ∧ DenL g α' H' ds vs' := fun {α' H' h'} E r lv => r.ob _ _ _ (isLst_of lv) (E.pre _ _ hl)
    refine ⟨a, rfl, ⟨vs, SqL.of a1⟩, k _ ⟨fun α' H' h' E r lv i hi => ?_, fun α' H' h' E r lv i d hd => ?_, fun α' H' h' x H2 E r lv i d hd hy => ?_⟩⟩
    · obtain ⟨vs', b1, b2⟩ := at_ E r lv
      exact ⟨vs', SqL.of b1, by rw [← b2.length]; exact hi⟩
    · obtain ⟨vs', b1, b2⟩ := at_ E r lv
      obtain ⟨v, q1, q2⟩ := b2.get hd
      exact ⟨vs', v, SqL.of b1, q1⟩
    · obtain ⟨vs', b1, b2⟩ := at_ E r lv
      obtain ⟨rfl, q⟩ := hy
      obtain ⟨v, q1, q2⟩ := b2.get hd
      have := q vs' (SqL.of b1)
      rw [q1] at this
      cases this
      exact ⟨.refl, r, q2⟩
  · cases hit
theorem it_str : IterOk g W (iStr (tE g W ma)) ma strIt := by
  rintro σ H R ⟨α, h, τ, R1, s, p⟩
  refine ⟨α, h, τ, R1, s, PostE.imp (PostI.toE p) ?_⟩
  rintro v H1 ⟨α1, d, h1, E1, R2, D1, ds, live, hit, k⟩
  cases D1 <;> simp only [strIt, reduceCtorEq] at hit
  rename_i x
  cases hit
  have sz : (signs x).length = x.cps.size := by simp [signs]
  refine ⟨x, rfl, k _ ⟨fun α' H' h' E r lv i hi => by rw [sz] at hi; exact hi, fun α' H' h' E r lv i d hd => ?_, fun α' H' h' y H2 E r lv i d hd hy => ?_⟩⟩
  · have := (List.getElem?_eq_some_iff.mp hd).1
    rw [sz] at this
    exact this
  · obtain ⟨rfl, c, hc, rfl⟩ := hy
    unfold signs at hd
    rw [List.getElem?_map, Array.getElem?_toList, hc] at hd
    cases hd
    exact ⟨.refl, r, .str _⟩
theorem walk_rng {lo : Int} {n : Nat} : WalkOf g α H (rngL lo n) (fun _ => true) (Itr lo n) :=
  ⟨fun α' H' h' E r lv i hi => by rw [rngL_length] at hi; exact hi, fun α' H' h' E r lv i d hd => (rngL_get hd).1, fun α' H' h' y H2 E r lv i d hd hy => by
    obtain ⟨rfl, rfl⟩ := hy
    obtain ⟨_, rfl⟩ := rngL_get hd
    exact ⟨.refl, r, .int _⟩⟩
theorem it_rng1 : IterOk g W (iRng1 (tCons (tE g W ma) tNil)) ma rngIt1 := by
  rintro σ H R ⟨α, h, τ, R1, s, p⟩
  refine ⟨α, h, τ, R1, s, PostE.imp (PostI.toE p) ?_⟩
  rintro v H1 ⟨α1, d, h1, E1, R2, D1, ds, live, hit, k⟩
  cases D1 <;> simp only [rngIt1, reduceCtorEq] at hit
  rename_i j
  split at hit
  · rename_i hj
    cases hit
    exact ⟨j, rfl, hj.1, hj.2, k _ walk_rng⟩
  · cases hit
/-- two arguments, told as a pair that is nowhere -/
def pairM (a b : EM) : EM := fun τ h => (a τ h).bind fun x h1 => (b τ h1).bind fun y h2 => .ok (.tup [x, y]) h2
theorem PostI.pair {items : D → AH → Option (List D × (AH → Bool))} {R : It → Hp → Prop} {h : AH} (R1 : Rep g α h H) (s : DenS g α H τ σ) (q : PostI g W items α H σ R (pairM ma mb τ h)) :
    tCons (tE g W ma) (tCons (tE g W mb) tNil) σ H fun vs H1 => ∃ α1 d e x y h1, vs = [x, y] ∧ Ext α H α1 H1 ∧ Rep g α1 h1 H1 ∧ Den g α1 H1 d x ∧ Den g α1 H1 e y ∧ ∃ ds live, items (.tup [d, e]) h1 = some (ds, live) ∧ ∀ J, WalkOf g α1 H1 ds live J → R J H1 := by
  refine ⟨α, h, τ, R1, s, ?_⟩
  unfold pairM at q
  cases e1 : ma τ h with
  | ok d h1 =>
    rw [e1] at q
    intro α1 H1 x E1 R2 D1
    refine ⟨α1, h1, τ, R2, s.ext E1, ?_⟩
    simp only [EO.bind] at q
    cases e2 : mb τ h1 with
    | ok e h2 =>
      rw [e2] at q
      intro α2 H2 y E2 R3 D2
      have D1' := Den.ext E2 _ _ D1
      exact ⟨α2, d, e, x, y, h2, rfl, E1.trans E2, R3, D1', D2, q α2 H2 (E1.trans E2) R3 (.inr ⟨_, _, rfl, .cons D1' (.cons D2 .nil)⟩)⟩
    | exc c h2 => rw [e2] at q; exact fun α2 H2 E2 R3 => q α2 H2 (E1.trans E2) R3
    | bad => rw [e2] at q; exact q
  | exc c h1 => rw [e1] at q; exact q
  | bad => rw [e1] at q; exact q
theorem it_rng2 : IterOk g W (iRng2 (tCons (tE g W ma) (tCons (tE g W mb) tNil))) (pairM ma mb) rngIt2 := by
  rintro σ H R ⟨α, h, τ, R1, s, p⟩
  obtain ⟨α', h', τ', a1, a2, a3⟩ := PostI.pair R1 s p
  refine ⟨α', h', τ', a1, a2, PostE.imp a3 ?_⟩
  rintro x H1 ⟨α2, h2, τ2, b1, b2, b3⟩
  refine ⟨α2, h2, τ2, b1, b2, PostE.imp b3 ?_⟩
  rintro y H2 ⟨α1, d, e, x', y', h1, ev, E1, R2, D1, D2, ds, live, hit, k⟩
  cases ev
  cases D1 <;> simp only [rngIt2, reduceCtorEq] at hit
  cases D2 <;> simp only [reduceCtorEq] at hit
  rename_i i j
  split at hit
  · rename_i hj
    cases hit
    exact ⟨i, j, rfl, hj, k _ walk_rng⟩
  · cases hit
/-- zip of two lists, of two tuples -/
def zipL : List D → List D → List D
  | x :: xs, y :: ys => .tup [x, y] :: zipL xs ys
  | _, _ => []
def zipIt (d : D) (h : AH) : Option (List D × (AH → Bool)) := match d with
  | .tup [.tup xs, .tup ys] => some (zipL xs ys, fun _ => true)
  | .tup [.ref i, .ref j] => match h[i]?, h[j]? with
    | some (.lst xs), some (.lst ys) => some (zipL xs ys, fun h => isLst i xs h && isLst j ys h)
    | _, _ => none
  | _ => none
theorem zipL_get : ∀ {xs ys : List D} {i : Nat} {d : D}, (zipL xs ys)[i]? = some d → ∃ x y, xs[i]? = some x ∧ ys[i]? = some y ∧ d = .tup [x, y]
  | [], _, _, _, h => by simp [zipL] at h
  | _ :: _, [], _, _, h => by simp [zipL] at h
  | x :: xs, y :: ys, 0, _, h => by simp [zipL] at h; exact ⟨x, y, rfl, rfl, h.symm⟩
  | x :: xs, y :: ys, i + 1, _, h => by
    obtain ⟨a, b, h1, h2, h3⟩ := zipL_get (xs := xs) (ys := ys) (i := i) (by simpa [zipL] using h)
    exact ⟨a, b, by simpa using h1, by simpa using h2, h3⟩
theorem zipL_length : ∀ (xs ys : List D), (zipL xs ys).length = min xs.length ys.length
  | [], ys => by simp [zipL]
  | _ :: _, [] => by simp [zipL]
  | x :: xs, y :: ys => by simp [zipL, zipL_length xs ys]
theorem it_zip {K : PySem.W.Frag} (hK : g.K = K) : IterOk g W (RZ.iZipA K (tCons (tE g W ma) (tCons (tE g W mb) tNil))) (pairM ma mb) zipIt := by
  rintro σ H R ⟨α, h, τ, R1, s, p⟩
  obtain ⟨α', h', τ', a1, a2, a3⟩ := PostI.pair R1 s p
  refine ⟨α', h', τ', a1, a2, PostE.imp a3 ?_⟩
  rintro x H1 ⟨α2, h2, τ2, b1, b2, b3⟩
  refine ⟨α2, h2, τ2, b1, b2, PostE.imp b3 ?_⟩
  rintro y H2 ⟨α1, d, e, x', y', h1, ev, E1, R2, D1, D2, ds, live, hit, k⟩
  cases ev
  cases D1 <;> simp only [zipIt, reduceCtorEq] at hit
  · cases D2 <;> simp only [reduceCtorEq] at hit
    rename_i a xs vs hs hl b ys ws hs2 hl2
    cases hit
    refine ⟨a, b, vs, ws, rfl, .inr ⟨by rw [← hK]; exact hs, by rw [← hK]; exact hs2, k _ ⟨fun α' H' h' E r lv i hi => ?_, fun α' H' h' E r lv i d hd => ?_, fun α' H' h' z H2 E r lv i d hd hy => ?_⟩⟩⟩
    · rw [zipL_length, hl.length, hl2.length] at hi
      exact ⟨vs, ws, by rw [← hK]; exact E.sqT hs, by rw [← hK]; exact E.sqT hs2, by omega⟩
    · obtain ⟨x, y, q1, q2, rfl⟩ := zipL_get hd
      obtain ⟨v, r1, r2⟩ := hl.get q1
      obtain ⟨w, r3, r4⟩ := hl2.get q2
      exact ⟨vs, ws, v, w, by rw [← hK]; exact E.sqT hs, by rw [← hK]; exact E.sqT hs2, r1, r3⟩
    · obtain ⟨x, y, q1, q2, rfl⟩ := zipL_get hd
      obtain ⟨v, r1, r2⟩ := hl.get q1
      obtain ⟨w, r3, r4⟩ := hl2.get q2
      obtain ⟨T, v', w', rfl, hT, rfl, k1, k2⟩ := hy
      have e1 := k1 vs (by rw [← hK]; exact E.sqT hs)
      have e2 := k2 ws (by rw [← hK]; exact E.sqT hs2)
      rw [r1] at e1
      rw [r3] at e2
      cases e1
      cases e2
      exact ⟨Ext.new hT, r.new hT, .tup (SqT.of upd_same) (.cons (Den.ext (E.trans (Ext.new hT)) _ _ r2) (.cons (Den.ext (E.trans (Ext.new hT)) _ _ r4) .nil))⟩
  · cases D2 <;> simp only [reduceCtorEq] at hit
    rename_i i a hl j b hl2
    split at hit
    · rename_i xs ys hx hy
      cases hit
      obtain ⟨vs, c1, c2⟩ := R2.ob _ _ _ hx hl
      obtain ⟨ws, c3, c4⟩ := R2.ob _ _ _ hy hl2
      have at_ : ∀ {α' : List Addr} {H' : Hp} {h' : AH}, Ext α1 H2 α' H' → Rep g α' h' H' → (isLst i xs h' && isLst j ys h') = true → (∃ vs', H' a = some (.lst vs') ∧ DenL g α' H' xs vs') ∧ ∃ ws', H' b = some (.lst ws') ∧ DenL g α' H' ys ws' := fun {α' H' h'} E r lv => by
        rw [Bool.and_eq_true] at lv
        exact ⟨r.ob _ _ _ (isLst_of lv.1) (E.pre _ _ hl), r.ob _ _ _ (isLst_of lv.2) (E.pre _ _ hl2)⟩
      refine ⟨a, b, vs, ws, rfl, .inl ⟨SqL.of c1, SqL.of c3, k _ ⟨fun α' H' h' E r lv n hn => ?_, fun α' H' h' E r lv n d hd => ?_, fun α' H' h' z H2 E r lv n d hd hy => ?_⟩⟩⟩
      · obtain ⟨⟨vs', d1, d2⟩, ws', d3, d4⟩ := at_ E r lv
        rw [zipL_length, d2.length, d4.length] at hn
        exact ⟨vs', ws', SqL.of d1, SqL.of d3, by omega⟩
      · obtain ⟨⟨vs', d1, d2⟩, ws', d3, d4⟩ := at_ E r lv
        obtain ⟨x, y, q1, q2, rfl⟩ := zipL_get hd
        obtain ⟨v, r1, r2⟩ := d2.get q1
        obtain ⟨w, r3, r4⟩ := d4.get q2
        exact ⟨vs', ws', v, w, SqL.of d1, SqL.of d3, r1, r3⟩
      · obtain ⟨⟨vs', d1, d2⟩, ws', d3, d4⟩ := at_ E r lv
        obtain ⟨x, y, q1, q2, rfl⟩ := zipL_get hd
        obtain ⟨v, r1, r2⟩ := d2.get q1
        obtain ⟨w, r3, r4⟩ := d4.get q2
        obtain ⟨T, v', w', rfl, hT, rfl, k1, k2⟩ := hy
        have e1 := k1 vs' (SqL.of d1)
        have e2 := k2 ws' (SqL.of d3)
        rw [r1] at e1
        rw [r3] at e2
        cases e1
        cases e2
        exact ⟨Ext.new hT, r.new hT, .tup (SqT.of upd_same) (.cons (Den.ext (Ext.new hT) _ _ r2) (.cons (Den.ext (Ext.new hT) _ _ r4) .nil))⟩
    · cases hit
/-- enumerate of a list, from 0 on -/
def enumL (xs : List D) : List D := (List.range xs.length).zipWith (fun i x => .tup [.int (i : Nat), x]) xs
def enumIt (d : D) (h : AH) : Option (List D × (AH → Bool)) := match d with
  | .ref l => match h[l]? with
    | some (.lst xs) => some (enumL xs, isLst l xs)
    | _ => none
  | _ => none
theorem enumL_get {xs : List D} {i : Nat} {d : D} (h : (enumL xs)[i]? = some d) : ∃ x, xs[i]? = some x ∧ d = .tup [.int (i : Nat), x] := by
  unfold enumL at h
  rw [List.getElem?_zipWith] at h
  cases e1 : xs[i]? with
  | none => rw [e1] at h; cases h2 : (List.range xs.length)[i]? <;> rw [h2] at h <;> cases h
  | some x =>
    have hi := (List.getElem?_eq_some_iff.mp e1).1
    rw [e1, List.getElem?_range hi] at h
    cases h
    exact ⟨x, rfl, rfl⟩
theorem enumL_length (xs : List D) : (enumL xs).length = xs.length := by simp [enumL]
theorem it_enum {K : PySem.W.Frag} : IterOk g W (iEnum K (tCons (tE g W ma) tNil)) ma enumIt := by
  rintro σ H R ⟨α, h, τ, R1, s, p⟩
  refine ⟨α, h, τ, R1, s, PostE.imp (PostI.toE p) ?_⟩
  rintro v H1 ⟨α1, d, h1, E1, R2, D1, ds, live, hit, k⟩
  cases D1 <;> simp only [enumIt, reduceCtorEq] at hit
  rename_i l a hl
  split at hit
  · rename_i xs hx
    cases hit
    obtain ⟨vs, a1, a2⟩ := R2.ob _ _ _ hx hl
    have at_ : ∀ {α' : List Addr} {H' : Hp} {h' : AH}, Ext α1 H1 α' H' → Rep g α' h' H' → isLst l xs h' = true → ∃ vs', H' a = some (.lst vs') ∧ DenL g α' H' xs vs' := fun {α' H' h'} E r lv => r.ob _ _ _ (isLst_of lv) (E.pre _ _ hl)
    refine ⟨a, vs, rfl, SqL.of a1, k _ ⟨fun α' H' h' E r lv i hi => ?_, fun α' H' h' E r lv i d hd => ?_, fun α' H' h' x H2 E r lv i d hd hy => ?_⟩⟩
    · obtain ⟨vs', b1, b2⟩ := at_ E r lv
      rw [enumL_length] at hi
      exact ⟨vs', SqL.of b1, by rw [← b2.length]; exact hi⟩
    · obtain ⟨vs', b1, b2⟩ := at_ E r lv
      obtain ⟨x, q0, rfl⟩ := enumL_get hd
      obtain ⟨v, q1, q2⟩ := b2.get q0
      exact ⟨vs', v, SqL.of b1, q1⟩
    · obtain ⟨vs', b1, b2⟩ := at_ E r lv
      obtain ⟨x, q0, rfl⟩ := enumL_get hd
      obtain ⟨v, q1, q2⟩ := b2.get q0
      obtain ⟨T, w, rfl, hT, rfl, k1⟩ := hy
      have := k1 vs' (SqL.of b1)
      rw [q1] at this
      cases this
      exact ⟨Ext.new hT, r.new hT, .tup (SqT.of upd_same) (.cons (.int _) (.cons (Den.ext (Ext.new hT) _ _ q2) .nil))⟩
  · cases hit

/-! ### attributes -/
def fldM (f : Str) (cs : List Nat) (d : D) (h : AH) : EO := match d with
  | .ref l => match h[l]? with
    | some (.ins c fs) => if c ∈ cs then match fs.lookup f with
      | some v => .ok v h
      | none => .bad else .bad
    | _ => .bad
  | _ => .bad
theorem lookup_den {ws : List (Str × V)} : ∀ {fs : List (Str × D)} {ws : List (Str × V)} {x : Str} {d : D}, ws.map (·.1) = fs.map (·.1) → DenL g α H (fs.map (·.2)) (ws.map (·.2)) → fs.lookup x = some d → ∃ v, ws.lookup x = some v ∧ Den g α H d v
  | [], _, _, _, _, _, q => by simp at q
  | (n, d0) :: fs, [], _, _, e, _, _ => by simp at e
  | (n, d0) :: fs, (m, v0) :: ws, x, d, e, hl, q => by
    simp only [List.map_cons, List.cons.injEq] at e hl
    obtain ⟨rfl, e⟩ := e
    cases hl with
    | cons h1 h2 =>
      rw [List.lookup_cons] at q ⊢
      cases hb : x == m with
      | true => rw [hb] at q; cases q; exact ⟨v0, rfl, h1⟩
      | false => rw [hb] at q; exact lookup_den (ws := ws) e h2 q
theorem de_fld {fl : Str} {cs : List Nat} (hK : g.K = X.K) (hc : ∀ c ∈ cs, Cls X.K (g.cl c) ∧ NoAttr X.K (g.cl c) fl) (he : PE X e (tE g W ma)) (hb : attributeBase e fl X.env (eval e X.env) = eval e X.env := by rfl) : PE X (.Attribute e fl pos) (tE g W (unM ma (fldM fl cs))) := by
  refine PE.imp (pe_fld he hb) fun σ H Q p => ?_
  obtain ⟨α, h, τ, R, s, p⟩ := tE_start (f := fldM fl cs) p
  refine ⟨α, h, τ, R, s, PostE.imp p ?_⟩
  rintro v H1 ⟨α1, d, h1, τ1, R1, s1, D1, p1⟩
  cases D1 <;> try exact False.elim p1
  rename_i l a hl
  simp only [fldM] at p1
  split at p1
  · rename_i c fs hx
    split at p1
    · rename_i hm
      split at p1
      · rename_i v hv
        obtain ⟨dx, ws, b1, b2, b3⟩ := R1.ob _ _ _ hx hl
        obtain ⟨w, q1, q2⟩ := lookup_den (ws := ws) b2 b3 hv
        exact ⟨a, _, dx, ws, w, rfl, b1, (hc c hm).1, (hc c hm).2, q1, p1 α1 H1 w .refl R1 q2⟩
      · exact p1.elim
    · exact p1.elim
  · exact p1.elim
/-- a field is set -/
def putD (f : Str) (v : D) : List (Str × D) → List (Str × D)
  | [] => [(f, v)]
  | (k, w) :: r => if k = f then (k, v) :: r else (k, w) :: putD f v r
def fldSetM (f : Str) (cs : List Nat) (o v : EM) : SM := fun τ h => (v τ h).toS τ fun y h1 => (o τ h1).toS τ fun d h2 => match d with
  | .ref l => match h2[l]? with
    | some (.ins c fs) => if c ∈ cs ∧ fs.length < 1000 then .nx τ (h2.set l (.ins c (putD f y fs))) else .bad
    | _ => .bad
  | _ => .bad
theorem putF_den {fl : Str} {y : D} {yv : V} (hy : Den g α H y yv) : ∀ {fs : List (Str × D)} {ws : List (Str × V)}, ws.map (·.1) = fs.map (·.1) → DenL g α H (fs.map (·.2)) (ws.map (·.2)) →
    (putF fl yv ws).map (·.1) = (putD fl y fs).map (·.1) ∧ DenL g α H ((putD fl y fs).map (·.2)) ((putF fl yv ws).map (·.2))
  | [], [], _, _ => ⟨rfl, .cons hy .nil⟩
  | [], _ :: _, e, _ => by simp at e
  | _ :: _, [], e, _ => by simp at e
  | (n, d0) :: fs, (m, v0) :: ws, e, hl => by
    simp only [List.map_cons, List.cons.injEq] at e
    obtain ⟨rfl, e⟩ := e
    cases hl with
    | cons h1 h2 =>
      unfold putF putD
      by_cases hk : m = fl
      · rw [if_pos hk, if_pos hk]
        exact ⟨by simp [e], .cons hy h2⟩
      · rw [if_neg hk, if_neg hk]
        obtain ⟨q1, q2⟩ := putF_den hy e h2
        exact ⟨by simp [q1], .cons h1 q2⟩
theorem ds_fld {fl : Str} {cs : List Nat} {pos' : Pos} {o value : Expr} {mo mv : EM} (hc : ∀ c ∈ cs, Cls X.K (g.cl c) ∧ NoAttr X.K (g.cl c) fl) (ho : PE X o (tE g W mo)) (hv : PE X value (tE g W mv)) (hs : swapsWith value (some (.Attribute o fl pos')) pos.line X.env = pure false := by rfl) :
    PS X (.Assign [.Attribute o fl pos'] value pos) (tS g W (fldSetM fl cs mo mv)) := by
  refine PS.imp (ps_fld ho hv hs) fun Dn σ H p => ?_
  obtain ⟨α, h, τ, R, s, p⟩ := tS_e (f := fun τ y h1 => (mo τ h1).toS τ fun d h2 => match d with
    | .ref l => match h2[l]? with
      | some (.ins c fs) => if c ∈ cs ∧ fs.length < 1000 then .nx τ (h2.set l (.ins c (putD fl y fs))) else .bad
      | _ => .bad
    | _ => .bad) p
  refine ⟨α, h, τ, R, s, PostE.imp p ?_⟩
  rintro v H1 ⟨α1, y, h1, τ1, R1, s1, D1, p1⟩
  refine ⟨α1, h1, τ1, R1, s1, PostE.imp (PostS.toS p1 s1) ?_⟩
  rintro w H2 ⟨α2, d, h2, E2, R2, D2, s2, p2⟩
  cases D2 <;> try exact False.elim p2
  rename_i l a hl
  simp only at p2
  split at p2
  · rename_i c fs hx
    split at p2
    · rename_i hm
      obtain ⟨dx, ws, b1, b2, b3⟩ := R2.ob _ _ _ hx hl
      have el : ws.length = fs.length := by have := congrArg List.length b2; simpa using this
      refine ⟨a, _, dx, ws, rfl, b1, (hc c hm.1).1, (hc c hm.1).2, by rw [el]; exact hm.2, ?_⟩
      have D1' := Den.ext E2 _ _ D1
      have E3 : Ext α2 H2 α2 (upd H2 a (.ins (g.cl c) dx (putF fl v ws))) := Ext.put b1 True.intro
      obtain ⟨q1, q2⟩ := putF_den (fl := fl) (Den.ext E3 _ _ D1') b2 (DenL.ext E3 _ _ b3)
      obtain ⟨R3, _⟩ := R2.write hl b1 True.intro (u' := .ins (g.cl c) dx (putF fl v ws)) (o := .ins c (putD fl y fs)) ⟨dx, _, upd_same, q1, q2⟩
      exact p2 α2 _ σ E3 R3 (s2.ext E3)
    · exact p2.elim
  · exact p2.elim
end
end DD
end

section
set_option Elab.async false
set_option linter.all false
set_option maxRecDepth 100000
namespace DD
open PySem L2
open PyProof.Rows (b2i)

/-! ### defs -/
def retOf : SO → EO
  | .nx _ h => .ok .non h
  | .rt d h => .ok d h
  | .exc c _ h => .exc c h
  | _ => .bad
def startD (n : Nat) (ds : List D) : SL := ds.map some ++ List.replicate (n - ds.length) none
/-- the promise of a def by a function -/
def spD (g : G) (n : Nat) (c : List D → AH → EO) : Sp := fun vs H Q E => ∃ α h ds, Rep g α h H ∧ DenL g α H ds vs ∧ ds.length = n ∧ PostE g (fun cls d _ H => E cls d H) α H [] Q (c ds h)
/-- a call by a promise: n parameters, the last of them given by the defaults dfl -/
def callF (n : Nat) (dfl : List D) (c : List D → AH → EO) : List D → AH → EO := fun ds h => if (ds ++ dfl).length = n then c (ds ++ dfl) h else .bad
section
variable {X : Cx} {g : G} {W : WX} {a b c e o : Expr} {es : List Expr} {ma mb mc mo : EM} {m : LM} {pos p apos : Pos} {σ : St} {H H' : Hp} {Q : VK} {Dn : Ends} {α α' : List Addr} {τ : SL} {sa sb : SM} {st : Stmt} {rest : List Stmt} {body : List Stmt}
variable {k n : Nat} {f C : Addr} {fd : FuncData} {ps : List Str} {x : Str} {dfl : List D} {dvs : List V} {dus : List Value} {cf : List D → AH → EO}
/-- what a call lets out is as wished -/
def Pas (X : Cx) (W : WX) : Prop := ∀ σ, PassesAt (L2.CX X.prog X.w) X σ (WE W σ)
theorem Pas.of (tk : Takes X W) : Pas X W := fun σ => passAt tk σ
theorem PostE.toSp {o : EO} (q : PostE g W α H σ Q o) : PostE g (fun cls d _ H => WE W σ cls d H) α H [] Q o := by
  cases o with
  | ok d h => exact q
  | exc c h => exact q
  | bad => exact q
theorem de_call (F : FnOk X.prog X.w X.K X.mg X.base (L2.CX X.prog X.w) k f fd ps (spD g n cf)) (tk : Pas X W) (hr : Room k X.A) (hg : Gl X x) (hm : X.mg x = some (.ref f)) (hk : PySem.W.keepIn X.K (.ref f) = true) (hb : Binds X.K fd ps dus) (hd : Vals dvs dus) (hdd : ∀ α H, DenL g α H dfl dvs)
    (ha : PA X (e :: es) (tL g W m)) (hdb : (x == ("__debug__" : Str)) = false := by decide) (he : starEach (e :: es) X.env = (false, eval e X.env) :: starEach es X.env := by rfl) (hpl : (backTo pos (starEach es X.env)).any (·.1) = false := by rfl) :
    PE X (.Call (.Name x p) (e :: es) [] pos) (tE g W (callM m (callF n dfl cf))) := by
  refine PE.imp (pe_callSD F hr hg hm hk hb hd tk ha hdb he hpl) fun σ H Q q => ?_
  obtain ⟨α, h, τ, R, s, q⟩ := q
  refine ⟨α, h, τ, R, s, PostL.imp (PostL.bindE q) ?_⟩
  rintro vs H1 ⟨α1, ds, h1, E1, R1, D1, p1⟩
  unfold callF at p1
  split at p1
  · rename_i hn
    exact ⟨α1, h1, ds ++ dfl, R1, D1.append (hdd α1 H1), hn, PostE.toSp p1⟩
  · exact p1.elim
/-- f() -/
theorem de_call0 (F : FnOk X.prog X.w X.K X.mg X.base (L2.CX X.prog X.w) k f fd ps (spD g n cf)) (tk : Pas X W) (hr : Room k X.A) (hg : Gl X x) (hm : X.mg x = some (.ref f)) (hk : PySem.W.keepIn X.K (.ref f) = true) (hb : Binds X.K fd ps dus) (hd : Vals dvs dus) (hdd : ∀ α H, DenL g α H dfl dvs)
    (hdb : (x == ("__debug__" : Str)) = false := by decide) : PE X (.Call (.Name x p) [] [] pos) (tE g W (callM nilM (callF n dfl cf))) := by
  refine ⟨fun pins s σ H Q I q => ?_⟩
  obtain ⟨α, h, τ, R, s', q⟩ := q
  refine wpAny_Call_Name_kw (ld_glob I hg hm ?_ hdb)
  have q' : PostE g W α H σ Q (callF n dfl cf [] h) := q
  unfold callF at q'
  split at q'
  · rename_i hn
    exact PySem.W.callWith_K0 I.kIn hk (run_fnSD (us := []) (vs := []) F hr hb hd (tk σ) I .nil ⟨α, h, dfl, R, by simpa using hdd α H, by simpa using hn, PostE.toSp (by simpa using q')⟩)
  · exact q'.elim
/-- o.m(..): the class by its number -/
def methF (m : Str) (c : Nat) (n : Nat) (dfl : List D) (cf : List D → AH → EO) (mo : EM) (m' : LM) : EM := fun τ h => (mo τ h).bind fun d h1 => match d with
  | .ref l => match h1[l]? with
    | some (.ins c' fs) => if c' = c ∧ fs.lookup m = none then (m' τ h1).bindE fun ds h2 => callF n dfl cf (d :: ds) h2 else .bad
    | _ => .bad
  | _ => .bad
theorem lookup_none_den : ∀ {fs : List (Str × D)} {ws : List (Str × V)} {x : Str}, ws.map (·.1) = fs.map (·.1) → fs.lookup x = none → ws.lookup x = none
  | [], [], _, _, _ => rfl
  | [], _ :: _, _, e, _ => by simp at e
  | _ :: _, [], _, e, _ => by simp at e
  | (n, d0) :: fs, (m, v0) :: ws, x, e, q => by
    simp only [List.map_cons, List.cons.injEq] at e
    obtain ⟨rfl, e⟩ := e
    rw [List.lookup_cons] at q ⊢
    cases hb : x == m with
    | true => rw [hb] at q; cases q
    | false => rw [hb] at q; exact lookup_none_den e q
theorem de_meth {mn : Str} {ci : Nat} {pl : Sem Bool} (ho : PE X o (tE g W mo)) (hcl : Cls X.K (g.cl ci)) (hm : Meth X.K (g.cl ci) mn f) (F : FnOk X.prog X.w X.K X.mg X.base (L2.CX X.prog X.w) k f fd ps (spD g n cf)) (tk : Pas X W) (hr : Room k X.A) (hb : Binds X.K fd ps dus) (hd : Vals dvs dus) (hdd : ∀ α H, DenL g α H dfl dvs) (ha : PA X (e :: es) (tL g W m))
    (hst : starEach (e :: es) X.env = (false, eval e X.env) :: starEach es X.env := by rfl) (hpl : (backTo pos (starEach es X.env)).any (·.1) = false := by rfl)
    (ht : eval (.Call (.Attribute o mn apos) (e :: es) [] pos) X.env = (do
      let ov ← eval o X.env
      standAt apos.atName
      let (f, first) ← holding [ov] (getMethod ov mn pl)
      callWith pos f first (backTo pos (starEach (e :: es) X.env)) (backToKw pos (keywordEach [] X.env))) := by rfl) :
    PE X (.Call (.Attribute o mn apos) (e :: es) [] pos) (tE g W (methF mn ci n dfl cf mo m)) := by
  refine ⟨fun pins s σ H Q I q => ?_⟩
  obtain ⟨α, h, τ, R, s', q⟩ := q
  refine PySem.W.methodCall_KW (pl := pl) (thn (ho.run pins s σ H _ I ⟨α, h, τ, R, s', PostE.bind q⟩) fun u s1 ⟨v, H1, I1, rx, α1, d, h1, E1, R1, D1, p1⟩ => ?_) ht
  cases D1 <;> try exact False.elim p1
  rename_i l a hl
  simp only at p1
  split at p1
  · rename_i c' fs hx
    split at p1
    · rename_i hc
      obtain ⟨rfl, hno⟩ := hc
      obtain ⟨dx, ws, b1, b2, b3⟩ := R1.ob _ _ _ hx hl
      obtain rfl : u = Value.ref a := rx
      refine getmeth_ok I1 b1 hcl hm (lookup_none_den b2 hno) ?_
      refine PySem.W.callWith_K (first := [.ref a]) (h₀ := X.base) I.ok.mod.kin hm.kp (thn (ha.run pos pins s1 σ H1 _ I1 ⟨α1, h1, τ, R1, s'.ext E1, PostL.bindE p1⟩) fun us s2 ⟨vs, H2, I2, r, α2, ds, h2, E2, R2, D2, p2⟩ => ⟨I2.kIn, ?_⟩) hst hpl
      unfold callF at p2
      split at p2
      · rename_i hn
        exact run_fnSD (us := .ref a :: us) (vs := .ref a :: vs) F hr hb hd (tk σ) I2 (.cons rfl r) ⟨α2, h2, (.ref l :: ds) ++ dfl, R2, (DenL.cons (.ref (E2.pre _ _ hl)) D2).append (hdd α2 H2), hn, PostE.toSp p2⟩
      · exact p2.elim
    · exact p1.elim
  · exact p1.elim
theorem de_meth0 {mn : Str} {ci : Nat} {pl : Sem Bool} (ho : PE X o (tE g W mo)) (hcl : Cls X.K (g.cl ci)) (hm : Meth X.K (g.cl ci) mn f) (F : FnOk X.prog X.w X.K X.mg X.base (L2.CX X.prog X.w) k f fd ps (spD g n cf)) (tk : Pas X W) (hr : Room k X.A) (hb : Binds X.K fd ps dus) (hd : Vals dvs dus) (hdd : ∀ α H, DenL g α H dfl dvs)
    (ht : eval (.Call (.Attribute o mn apos) [] [] pos) X.env = (do
      let ov ← eval o X.env
      standAt apos.atName
      let (f, first) ← holding [ov] (getMethod ov mn pl)
      callWith pos f first (backTo pos (starEach [] X.env)) (backToKw pos (keywordEach [] X.env))) := by rfl) :
    PE X (.Call (.Attribute o mn apos) [] [] pos) (tE g W (methF mn ci n dfl cf mo nilM)) := by
  refine ⟨fun pins s σ H Q I q => ?_⟩
  obtain ⟨α, h, τ, R, s', q⟩ := q
  refine PySem.W.methodCall_KW (pl := pl) (thn (ho.run pins s σ H _ I ⟨α, h, τ, R, s', PostE.bind q⟩) fun u s1 ⟨v, H1, I1, rx, α1, d, h1, E1, R1, D1, p1⟩ => ?_) ht
  cases D1 <;> try exact False.elim p1
  rename_i l a hl
  simp only at p1
  split at p1
  · rename_i c' fs hx
    split at p1
    · rename_i hc
      obtain ⟨rfl, hno⟩ := hc
      obtain ⟨dx, ws, b1, b2, b3⟩ := R1.ob _ _ _ hx hl
      obtain rfl : u = Value.ref a := rx
      refine getmeth_ok I1 b1 hcl hm (lookup_none_den b2 hno) ?_
      have p2 : PostE g W α1 H1 σ Q (callF n dfl cf [.ref l] h1) := p1
      unfold callF at p2
      split at p2
      · rename_i hn
        exact PySem.W.callWith_K0 (first := [.ref a]) I1.kIn hm.kp (run_fnSD (us := [.ref a]) (vs := [.ref a]) F hr hb hd (tk σ) I1 (.cons rfl .nil) ⟨α1, h1, [.ref l] ++ dfl, R1, (DenL.cons (.ref hl) .nil).append (hdd α1 H1), hn, PostE.toSp p2⟩)
      · exact p2.elim
    · exact p1.elim
  · exact p1.elim
/-- C(..) -/
def makeF (c n : Nat) (dfl : List D) (cf : List D → AH → EO) : List D → AH → EO := fun ds h => (callF n dfl cf (.ref h.length :: ds) (h ++ [.ins c []])).bind fun d h' => match d with
  | .non => .ok (.ref h.length) h'
  | _ => .bad
theorem make_core {ci : Nat} {ds : List D} {vs : List V} {us : List Value} {h : AH} {pins : List (Addr × Obj)} {s : Shared} (M : Mk X.K (g.cl ci) f) (F : FnOk X.prog X.w X.K X.mg X.base (L2.CX X.prog X.w) k f fd ps (spD g n cf)) (tk : Pas X W) (hr : Room (k + 1) X.A) (hb : Binds X.K fd ps dus) (hd : Vals dvs dus) (hdd : ∀ α H, DenL g α H dfl dvs)
    (I : L2.Inv X pins σ H s) (r : Vals vs us) (R : Rep g α h H) (D1 : DenL g α H ds vs) (p1 : PostE g W α H σ Q (makeF ci n dfl cf ds h)) : wpAny (model X.prog X.w) X.A (call (.ref (g.cl ci)) us) (EP X pins σ Q) X.xe s := by
  have hq : ∀ x dx, H x = none → H dx = none → dx ≠ x → spD g n cf (.ref x :: (vs ++ dvs)) (upd (upd H dx (.own x)) x (.ins (g.cl ci) dx [])) (fun v H2 => v = .non ∧ Q (.ref x) H2) (WE W σ) := fun x dx hx hdx hne => by
    have R0 := R.new (u := .own x) hdx
    have E0 : L2.Hp := H
    have Ex0 : Ext α H α (upd H dx (.own x)) := Ext.new hdx
    have hx0 : upd H dx (.own x) x = none := by rw [upd_ne (Ne.symm hne)]; exact hx
    obtain ⟨R1, E1⟩ := R0.push hx0 (u := .ins (g.cl ci) dx []) (o := .ins ci []) ⟨dx, [], upd_same, rfl, .nil⟩
    have EE := Ex0.trans E1
    have p2 := PostE.mono p1 EE
    unfold makeF at p2
    have hl : (α ++ [x])[h.length]? = some x := by rw [← R.len]; simp
    have p3 := PostE.bind p2
    unfold callF at p3
    split at p3
    · rename_i hn
      refine ⟨α ++ [x], h ++ [.ins ci []], (.ref h.length :: ds) ++ dfl, R1, (DenL.cons (.ref hl) (DenL.ext EE _ _ D1)).append (hdd _ _), hn, PostE.imp (PostE.toSp p3) ?_⟩
      rintro v H3 ⟨α3, d3, h3, E3, R3, D3, p4⟩
      cases D3 <;> try exact False.elim p4
      exact ⟨rfl, p4 α3 H3 _ .refl R3 (.ref (E3.pre _ _ hl))⟩
    · exact p3.elim
  have hq0 := hq (s.heap.objs.size + 1) s.heap.objs.size (I.hok.fresh (Nat.le_succ _)) (I.hok.fresh (Nat.le_refl _)) (Nat.ne_of_lt (Nat.lt_succ_self _))
  have I2 := Inv.made (C := g.cl ci) I
  have r2 : Vals (V.ref (s.heap.objs.size + 1) :: (vs ++ dvs)) (Value.ref (s.heap.objs.size + 1) :: (us ++ dus)) := .cons rfl (r.append hd)
  have hl : (Value.ref (s.heap.objs.size + 1) :: us ++ dus).length = ps.length := by
    have e := r2.length
    rw [F.len _ _ _ _ hq0] at e
    exact e.symm
  refine wpAny_call (make_map (f := f) I.kIn M.makes M.init (beq_iff_eq.mp M.fn) (codeAny_mono (F.run _ X.stack _ _ ⟨Value.ref (s.heap.objs.size + 1) :: us, []⟩ (Value.ref (s.heap.objs.size + 1) :: (us ++ dus)) _ _ (WE W σ) (hr.make _ us [])
    (I2.env0.make _ us []) (hb _ (Value.ref (s.heap.objs.size + 1) :: us) I2.kIn hl) r2 hq0) fun r s' hq' => ?_))
  cases r with
  | error e => exact tk σ pins _ _ e s' I2 hq'
  | ok fl =>
    cases fl with
    | ret u =>
      obtain ⟨v, H', I3, rv, ev, q3⟩ := I2.after hq'
      subst ev
      exact ⟨rv, ⟨V.ref (s.heap.objs.size + 1), H', I3, rfl, q3⟩⟩
    | next => exact False.elim hq'
    | brk => exact False.elim hq'
    | cont => exact False.elim hq'
theorem de_make {ci : Nat} (M : Mk X.K (g.cl ci) f) (F : FnOk X.prog X.w X.K X.mg X.base (L2.CX X.prog X.w) k f fd ps (spD g n cf)) (tk : Pas X W) (hr : Room (k + 1) X.A) (hg : Gl X x) (hm : X.mg x = some (.ref (g.cl ci))) (hb : Binds X.K fd ps dus) (hd : Vals dvs dus) (hdd : ∀ α H, DenL g α H dfl dvs)
    (ha : PA X (e :: es) (tL g W m)) (hdb : (x == ("__debug__" : Str)) = false := by decide) (he : starEach (e :: es) X.env = (false, eval e X.env) :: starEach es X.env := by rfl) (hpl : (backTo pos (starEach es X.env)).any (·.1) = false := by rfl) :
    PE X (.Call (.Name x p) (e :: es) [] pos) (tE g W (callM m (makeF ci n dfl cf))) := by
  refine ⟨fun pins s σ H Q I q => ?_⟩
  obtain ⟨α, h, τ, R, s', q⟩ := q
  refine wpAny_Call_Name_kw (ld_glob I hg hm ?_ hdb)
  refine PySem.W.callWith_K (h₀ := X.base) I.ok.mod.kin M.kp (thn (ha.run pos pins s σ H _ I ⟨α, h, τ, R, s', PostL.bindE q⟩) fun us s1 ⟨vs, H1, I1, r, α1, ds, h1, E1, R1, D1, p1⟩ => ⟨I1.kIn, ?_⟩) he hpl
  exact make_core M F tk hr hb hd hdd I1 r R1 D1 p1
theorem de_make0 {ci : Nat} (M : Mk X.K (g.cl ci) f) (F : FnOk X.prog X.w X.K X.mg X.base (L2.CX X.prog X.w) k f fd ps (spD g n cf)) (tk : Pas X W) (hr : Room (k + 1) X.A) (hg : Gl X x) (hm : X.mg x = some (.ref (g.cl ci))) (hb : Binds X.K fd ps dus) (hd : Vals dvs dus) (hdd : ∀ α H, DenL g α H dfl dvs)
    (hdb : (x == ("__debug__" : Str)) = false := by decide) : PE X (.Call (.Name x p) [] [] pos) (tE g W (callM nilM (makeF ci n dfl cf))) := by
  refine ⟨fun pins s σ H Q I q => ?_⟩
  obtain ⟨α, h, τ, R, s', q⟩ := q
  refine wpAny_Call_Name_kw (ld_glob I hg hm ?_ hdb)
  exact PySem.W.callWith_K0 I.kIn M.kp (make_core (us := []) (vs := []) (ds := []) M F tk hr hb hd hdd I .nil R .nil q)

theorem den_start {N : List Str} {ds : List D} {vs : List V} (dl : DenL g α H ds vs) : DenS g α H (startD N.length ds) (L2.start N vs) := by
  have el := dl.length
  refine ⟨by simp [startD, L2.start, el], fun i d q => ?_⟩
  unfold startD at q
  unfold L2.start
  by_cases hi : i < ds.length
  · rw [List.getElem?_append_left (by simpa using hi), List.getElem?_map] at q
    rw [List.getElem?_append_left (by simp; omega), List.getElem?_map]
    cases e : ds[i]? with
    | none => rw [e] at q; cases q
    | some d' =>
      rw [e] at q
      cases q
      obtain ⟨v, h1, h2⟩ := dl.get e
      exact ⟨v, by rw [h1]; rfl, h2⟩
  · rw [List.getElem?_append_right (by simp; omega)] at q
    rw [List.getElem?_replicate] at q
    split at q <;> cases q
/-- a def keeps the promise of its own mirror -/
theorem fn_okD {P : Program} {w : World} {K : PySem.W.Frag} {mg : Str → Option Value} {base : Heap} {qual : Str} {st : Stmt} {N : List Str} {m : SM} (F : Fun K x qual st f fd) (S : FnScope N ps (defScope st))
    (hb : ∀ (cdv : Value) (A : Around) (outer : List Env) (s : Shared) (H : Hp) (E : XK), Room k (A.deeper (PyProof.Rows.envOfC qual (defScope st) s.heap.objs.size f cdv)) →
      PSs (cxOf (L2.CX P w) P w K mg base N qual (defScope st) f cdv A outer s H E) (defBody st) (tS g (fun cls d _ H => E cls d H) m)) :
    FnOk P w K mg base (L2.CX P w) (k + 1) f fd ps (spD g ps.length fun ds h => retOf (m (startD N.length ds) h)) := by
  refine F.okX S (fun vs H Q E q => ?_) (fun cdv A outer s H vs Q E hr q => ?_)
  · obtain ⟨α, h, ds, _, dl, hn, _⟩ := q
    rw [← dl.length, hn]
  · obtain ⟨α, h, ds, R, dl, hn, q⟩ := q
    have q : PostE g (fun cls d _ H => E cls d H) α H [] Q (retOf (m (startD N.length ds) h)) := q
    refine ⟨_, hb cdv A outer s H E hr, α, h, startD N.length ds, R, den_start dl, ?_⟩
    cases e : m (startD N.length ds) h with
    | nx τ' h' => rw [e] at q; exact fun α' H' σ' E' R' s' => q α' H' .non E' R' .non
    | rt d h' => rw [e] at q; exact q
    | bk τ' h' => rw [e] at q; exact q.elim
    | ct τ' h' => rw [e] at q; exact q.elim
    | exc c τ' h' => rw [e] at q; exact fun α' H' σ' E' R' s' => q α' H' E' R'
    | bad => rw [e] at q; exact q.elim

/-! ### raise, try -/
theorem ds_raise {t : St → Hp → XK → Prop} {c : Nat} (hc : X.calm = true) (tk : Takes X W) (he : PMk X e t) (ht : ∀ σ H (Q : XK), Q (.ref (g.cl c)) none H → t σ H Q) : PS X (.Raise (some e) none pos) (tS g W (raiseM c)) :=
  PS.imp (ps_raise hc tk he) fun Dn σ H ⟨α, h, τ, R, s, q⟩ => ht σ H _ (q α H σ .refl R s)
/-- which clause takes an exception: each tells yes, no, or nothing -/
def pick : List ((Nat → Option Bool) × SM) → Nat → Option (Option SM)
  | [], _ => some none
  | (mt, s) :: r, c => match mt c with
    | some true => some (some s)
    | some false => pick r c
    | none => none
def tryM (b : SM) (hs : List ((Nat → Option Bool) × SM)) : SM := fun τ h => match b τ h with
  | .exc c τ' h' => match pick hs c with
    | some (some s) => s τ' h'
    | some none => .exc c τ' h'
    | none => .bad
  | r => r
/-- the clauses' bodies, and which of the classes each takes -/
inductive Hds (X : Cx) (g : G) : List ExceptHandler → List ((Nat → Option Bool) × SM) → List (Value × (Addr → Value → Option Addr → TS)) → Prop
  | nil : Hds X g [] [] []
  | cons {x : Str} {c : Value} {mt : Nat → Option Bool} {sm : SM} {b₀ : Stmt} {suite : List Stmt} {np pos' : Pos} {hds : List ExceptHandler} {l : List ((Nat → Option Bool) × SM)} {l' : List (Value × (Addr → Value → Option Addr → TS))} (hc : Names X x c) (hm : ∀ i b, mt i = some b → PySem.W.exmOne X.K (.ref (g.cl i)) c = some b)
      (hsu : ∀ (a : Addr) (pn : List (Addr × Obj)), PSs (X.suite a pn) (b₀ :: suite) (tS g (fun _ _ _ _ => False) sm)) (r : Hds X g hds l l') :
      Hds X g (.ExceptHandler (some (.Name x np)) none (b₀ :: suite) pos' :: hds) ((mt, sm) :: l) ((c, fun _ _ _ => tS g (fun _ _ _ _ => False) sm) :: l')
theorem Hds.ok {hds : List ExceptHandler} {l : List ((Nat → Option Bool) × SM)} {l' : List (Value × (Addr → Value → Option Addr → TS))} (k : Hds X g hds l l') : HdsOk X hds l' := by
  induction k with
  | nil => exact .nil
  | cons hc hm hsu r ih => exact .cons hc (fun a oe cls d pn _ _ => hsu a _) ih
theorem Hds.wish {hds : List ExceptHandler} {l : List ((Nat → Option Bool) × SM)} {l' : List (Value × (Addr → Value → Option Addr → TS))} (k : Hds X g hds l l') {c : Nat} {h : AH} (R : Rep g α h H) (s : DenS g α H τ σ)
    (hno : ∀ sm, pick l c = some (some sm) → PostS g (fun _ _ _ _ => False) α H Dn (sm τ h)) (hout : pick l c = some none → W (.ref (g.cl c)) none σ H) (hp : pick l c ≠ none) : wMany X.K W Dn l' (.ref (g.cl c)) none σ H := by
  induction k with
  | nil => exact hout rfl
  | @cons x c' mt sm b₀ suite np pos' hds l l' hc hm hsu r ih =>
    simp only [pick] at hno hout hp
    cases e : mt c with
    | none => rw [e] at hp; exact absurd rfl hp
    | some b =>
      rw [e] at hno hout hp
      refine ⟨b, hm c b e, fun hb a _ => ?_, fun hb => ?_⟩
      · subst hb
        exact ⟨α, h, τ, R, s, hno sm rfl⟩
      · subst hb
        exact ih hno hout hp
/-- the suites raise nothing: their mirrors' outcomes count without a wish -/
def quiet : SO → SO
  | .exc _ _ _ => .bad
  | o => o
theorem PostS.quiet {o : SO} {W' : WX} (q : PostS g W α H Dn (quiet o)) : PostS g W' α H Dn o := by
  cases o with
  | nx τ h => exact q
  | rt d h => exact q
  | bk τ h => exact q
  | ct τ h => exact q
  | exc c τ h => exact q.elim
  | bad => exact q
def tryQ (b : SM) (hs : List ((Nat → Option Bool) × SM)) : SM := tryM b (hs.map fun p => (p.1, fun τ h => quiet (p.2 τ h)))
theorem pick_map {l : List ((Nat → Option Bool) × SM)} {c : Nat} : pick (l.map fun p => (p.1, fun τ h => quiet (p.2 τ h))) c = (pick l c).map fun o => o.map fun s => fun τ h => quiet (s τ h) := by
  induction l with
  | nil => rfl
  | cons p l ih =>
    simp only [List.map_cons, pick]
    cases p.1 c with
    | none => rfl
    | some b => cases b with
      | true => rfl
      | false => exact ih
theorem ds_try {h₀ : ExceptHandler} {hds : List ExceptHandler} {l : List ((Nat → Option Bool) × SM)} {l' : List (Value × (Addr → Value → Option Addr → TS))} (hs : X.stack = X.env :: X.outer) (hf : X.env.frame = some X.env.locals) (tk : Takes X W)
    (hb : ∀ (W : WX) (pn : List (Addr × Obj)) (xe : Value → Shared → Prop), Takes (X.tr pn xe) W → PassesOwn (model X.prog X.w) X.A X.env xe → PSs (X.tr pn xe) body (tS g W sb)) (hh : Hds X g (h₀ :: hds) l l') :
    PS X (.Try body (h₀ :: hds) [] [] pos) (tS g W (tryQ sb l)) := by
  refine PS.imp (ps_try_many hs hf tk hb hh.ok) fun Dn σ H q => ?_
  obtain ⟨α, h, τ, R, s, q⟩ := q
  refine ⟨α, h, τ, R, s, ?_⟩
  unfold tryQ tryM at q
  cases e : sb τ h with
  | nx τ' h' => rw [e] at q; exact q
  | rt d h' => rw [e] at q; exact q
  | bk τ' h' => rw [e] at q; exact q
  | ct τ' h' => rw [e] at q; exact q
  | bad => rw [e] at q; exact q
  | exc c τ' h' =>
    rw [e] at q
    simp only [pick_map] at q
    intro α' H' σ' E' R' s'
    cases ep : pick l c with
    | none => rw [ep] at q; exact q.elim
    | some o =>
      rw [ep] at q
      refine hh.wish R' s' (fun sm es => ?_) (fun es => ?_) (by rw [ep]; simp)
      · rw [ep] at es
        cases es
        exact PostS.quiet (PostS.mono q E')
      · rw [ep] at es
        cases es
        exact q α' H' σ' E' R' s'
end
end DD
end

section
set_option Elab.async false
set_option linter.all false
set_option maxRecDepth 100000
namespace DD
open PySem L2
open PyProof.Rows (b2i)

/-! ### methods of lists -/
def RSm (g : G) (W : WX) (r : V → List V → Hp → VK → Prop) (f : D → List D → AH → EO) : Prop :=
  ∀ (α : List Addr) (h : AH) (H : Hp) (σ : St) (x : V) (dx : D) (vs : List V) (ds : List D) (Q : VK), Rep g α h H → Den g α H dx x → DenL g α H ds vs → PostE g W α H σ Q (f dx ds h) → r x vs H Q
/-- o.name(..) where o is a list -/
def bmM (o : EM) (m : LM) (f : D → List D → AH → EO) : EM := fun τ h => (o τ h).bind fun d h1 => match d with
  | .ref l => match h1[l]? with
    | some (.lst _) => (m τ h1).bindE fun ds h2 => f d ds h2
    | _ => .bad
  | _ => .bad
def appendF (d : D) (ds : List D) (h : AH) : EO := match d, ds with
  | .ref l, [y] => match h[l]? with
    | some (.lst xs) => if xs.length < sizeLine then .ok .non (h.set l (.lst (xs ++ [y]))) else .bad
    | _ => .bad
  | _, _ => .bad
def extendF (d : D) (ds : List D) (h : AH) : EO := match d, ds with
  | .ref l, [.ref b] => match h[l]?, h[b]? with
    | some (.lst xs), some (.lst zs) => if xs.length + zs.length ≤ sizeLine then .ok .non (h.set l (.lst (xs ++ zs))) else .bad
    | _, _ => .bad
  | .ref l, [.tup zs] => match h[l]? with
    | some (.lst xs) => if xs.length + zs.length ≤ sizeLine then .ok .non (h.set l (.lst (xs ++ zs))) else .bad
    | _ => .bad
  | _, _ => .bad
section
variable {X : Cx} {g : G} {W : WX} {a b c e o : Expr} {es : List Expr} {ma mb mc mo : EM} {m : LM} {pos p apos cpos : Pos} {σ : St} {H H' : Hp} {Q : VK} {Dn : Ends} {α α' : List Addr} {τ : SL} {sa sb : SM} {st : Stmt} {rest : List Stmt} {body : List Stmt}
theorem put_list {h : AH} {l : Nat} {a : Addr} {vs : List V} {zs : List D} {ws : List V} (R : Rep g α h H) (hl : α[l]? = some a) (a1 : H a = some (.lst vs)) (d : DenL g α H zs ws) :
    Rep g α (h.set l (.lst zs)) (upd H a (.lst ws)) ∧ Ext α H α (upd H a (.lst ws)) := by
  have E : Ext α H α (upd H a (.lst ws)) := Ext.put a1 True.intro
  exact R.write hl a1 True.intro (u' := .lst ws) (o := .lst zs) ⟨ws, upd_same, DenL.ext E _ _ d⟩
theorem rs_append : RSm g W rAppend appendF := by
  intro α h H σ x dx vs ds Q R hx hd p
  cases hx
  case ref l a hl =>
   cases hd with
   | nil => exact p.elim
   | cons h1 h2 =>
    cases h2 with
    | cons _ _ => exact p.elim
    | nil =>
      simp only [appendF] at p
      split at p
      · rename_i xs hx
        split at p
        · rename_i hz
          obtain ⟨vs, a1, a2⟩ := R.ob _ _ _ hx hl
          obtain ⟨b1, b2⟩ := put_list R hl a1 (a2.snoc h1)
          exact ⟨a, vs, _, rfl, rfl, a1, by rw [← a2.length]; exact hz, p α _ .non b2 b1 .non⟩
        · exact p.elim
      · exact p.elim
  all_goals exact False.elim p
/-- extend by a tuple -/
def rExtT (K : PySem.W.Frag) : V → List V → Hp → VK → Prop := fun x vs H Q => ∃ l b xs zs, x = .ref l ∧ vs = [.ref b] ∧ H l = some (.lst xs) ∧ SqT K H b zs ∧ xs.length + zs.length ≤ sizeLine ∧ Q .non (upd H l (.lst (xs ++ zs)))
end
section
open PySem.Spec PyProof.Rows
variable {X : Cx}
theorem ext_tup (l : Addr) (xs : Array Value) (n : Nat) (b : Addr) (ys : Array Value) (n2 : Nat) (dd : Option Addr) (sl : Array (Option Value)) (hl : ¬ (!xs.isEmpty && Builtin.List.listTooLong (xs.size + ys.size)) = true) (h1 : xs.size ≤ sizeLine) (h2 : xs.size + ys.size ≤ sizeLine + 1) :
    Meets (Builtin.«list.extend» ⟨[.ref l, .ref b], []⟩) fun _ R s => s.heap.get? l = some { cls := .type "list", dict := none, data := .seq xs n, slots := #[] } ∧ s.heap.get? b = some { cls := .type "tuple", dict := dd, data := .seq ys n2, slots := sl } ∧
      R (.ok (.ret Value.none)) { s with heap := s.heap.update l (Obj.mapSeq fun x => x ++ ys), toks := s.toks } := by
  refine .of_wp fun prog w A R s h => ?_
  obtain ⟨hp, g, d, tk, os⟩ := s
  obtain ⟨k1, k2, k3⟩ := h
  have f1 := PySem.AutoSeq1.idx_int
  have f2 := PySem.AutoSeq1.sub_tuple_tuple
  have f3 := PySem.AutoSeq1.sub_list_list
  have f4 := PySem.AutoSeq1.sub_tuple_list
  have f5 := PySem.AutoSeq1.sub_list_tuple
  have hz : (xs ++ ys).size ≤ sizeLine + 1 := by rw [Array.size_append]; exact h2
  wp_walk using (wpAny_updateSeq k1 rfl (hz := h1) (_hz' := hz)), PySem.AutoSeq1.wpAny_loadPart' k1, PySem.AutoSeq1.wpAny_loadPart' k2
  exact ⟨_, rfl, k3⟩
theorem mt_extT : MtM X "list.extend" (rExtT X.K) := by
  intro pins s σ H x vs v us Q I rx rv h
  obtain ⟨l, b, xs, zs, rfl, rfl, hH, hB, hz, q⟩ := h
  cases rx
  obtain ⟨u, rfl, ru⟩ := rv.one
  cases ru
  obtain ⟨z, its, n, r, hl, e⟩ := I.lstM hH
  obtain ⟨its2, r2, ⟨⟨cls, dd, data, sl⟩, ho, hc, n2, hd⟩, _⟩ := I.tuple hB
  simp only at hc hd
  subst hc hd
  have hl2 := r2.length
  have hsz : its.toArray.size + its2.toArray.size ≤ sizeLine := by rw [List.size_toArray, List.size_toArray]; omega
  have hlong : ¬ (!its.toArray.isEmpty && Builtin.List.listTooLong (its.toArray.size + its2.toArray.size)) = true := by
    rw [notLongL hsz, Bool.and_false]
    exact Bool.false_ne_true
  refine call_meets F.slot_list_extend ⟨_, e, rfl⟩ F.entry_list_extend (F.args_list_extend_2 _ _) (ext_tup l its.toArray n b its2.toArray n2 dd sl hlong (by omega) (by omega)) ⟨e, ho, ?_⟩
  refine ⟨.non, _, I.lset (its' := its ++ its2) hH e (by simp) (r.append r2) ?_, rfl, q⟩
  rw [List.length_append]
  omega
end

section
variable {X : Cx} {g : G} {W : WX} {a b c e o : Expr} {es : List Expr} {ma mb mc mo : EM} {m : LM} {pos p apos cpos : Pos} {σ : St} {H H' : Hp} {Q : VK} {Dn : Ends} {α α' : List Addr} {τ : SL} {sa sb : SM} {st : Stmt} {rest : List Stmt} {body : List Stmt}
def rExtAny (K : PySem.W.Frag) : V → List V → Hp → VK → Prop := fun x vs H Q => rExtend x vs H Q ∨ rExtT K x vs H Q
theorem mt_extAny : MtR X "list.extend" (rExtAny X.K) := MtR.or (r := rExtend) mt_extend mt_extT
theorem rs_extend : RSm g W (rExtAny g.K) extendF := by
  intro α h H σ x dx vs ds Q R hx hd p
  cases hx
  case ref l a hl =>
   cases hd with
   | nil => exact p.elim
   | cons h1 h2 =>
    cases h2 with
    | cons _ _ => cases h1 <;> exact False.elim p
    | nil =>
      cases h1
      case tup b zs ws hs hw =>
        simp only [extendF] at p
        split at p
        · rename_i xs hx
          split at p
          · rename_i hz
            obtain ⟨vs, a1, a2⟩ := R.ob _ _ _ hx hl
            obtain ⟨b1, b2⟩ := put_list R hl a1 (a2.append hw)
            exact .inr ⟨a, b, vs, ws, rfl, rfl, a1, hs, by rw [← a2.length, ← hw.length]; exact hz, p α _ .non b2 b1 .non⟩
          · exact p.elim
        · exact p.elim
      case ref b q hb =>
        simp only [extendF] at p
        split at p
        · rename_i xs zs hx hz
          split at p
          · rename_i hl2
            obtain ⟨vs, a1, a2⟩ := R.ob _ _ _ hx hl
            obtain ⟨ws, c1, c2⟩ := R.ob _ _ _ hz hb
            obtain ⟨b1, b2⟩ := put_list R hl a1 (a2.append c2)
            exact .inl ⟨a, q, vs, ws, rfl, rfl, a1, c1, by rw [← a2.length, ← c2.length]; exact hl2, p α _ .non b2 b1 .non⟩
          · exact p.elim
        · exact p.elim
      all_goals exact False.elim p
  all_goals exact False.elim p
open PySem.Spec in
theorem de_bm {name : Str} {id : String} {r : V → List V → Hp → VK → Prop} {f : D → List D → AH → EO} (pa : PlainAttrs "list") (slot : Slot "list" name id) (hty : typeOf (.builtin id) = pure (.type "method_descriptor")) (hm : MtR X id r) (rs : RSm g W r f) (ho : PE X o (tE g W mo)) (ha : PA X (e :: es) (tL g W m))
    (hbase : attributeBase o name X.env (eval o X.env) = eval o X.env := by rfl)
    (hfew : ((backTo cpos (starEach (e :: es) X.env)).all (fun x => !x.1) && (backToKw cpos (keywordEach [] X.env)).all (fun x => x.1.isSome)
      && decide ((e :: es).length + ([] : List Keyword).length + (if ([] : List Keyword).isEmpty then 0 else 1) < 30)) = true := by rfl)
    (hline : (apos.endLine == cpos.line) = true := by rfl) (hs : starEach (e :: es) X.env = (false, eval e X.env) :: starEach es X.env := by rfl) (hplain : (backTo cpos (starEach es X.env)).any (·.1) = false := by rfl) :
    PE X (.Call (.Attribute o name apos) (e :: es) [] cpos) (tE g W (bmM mo m f)) := by
  refine PE.imp (pe_bm pa slot hty hm ho ha hbase hfew hline hs hplain) fun σ H Q q => ?_
  obtain ⟨α, h, τ, R, s, q⟩ := q
  refine ⟨α, h, τ, R, s, PostE.imp (PostE.bind q) ?_⟩
  rintro v H1 ⟨α1, d, h1, E1, R1, D1, p1⟩
  cases D1 <;> try exact False.elim p1
  rename_i l a hl
  simp only at p1
  split at p1
  · rename_i xs hx
    obtain ⟨vs, a1, a2⟩ := R1.ob _ _ _ hx hl
    refine ⟨.inl ⟨rfl, _, SqL.of a1⟩, α1, h1, τ, R1, s.ext E1, PostL.imp (PostL.bindE p1) ?_⟩
    rintro ws H2 ⟨α2, ds, h2, E2, R2, D2, p2⟩
    exact rs α2 h2 H2 σ _ _ ws ds Q R2 (.ref (E2.pre _ _ hl)) D2 p2
  · exact p1.elim
/-! ### methods of texts -/
def smM (o a : EM) (f : Str → D → AH → EO) : EM := fun τ h => (o τ h).bind fun d h1 => match d with
  | .str x => (a τ h1).bind fun y h2 => f x y h2
  | _ => .bad
open PySem.Spec in
theorem de_sm {name : Str} {id : String} {r : V → List V → Hp → VK → Prop} {f : Str → D → AH → EO} (slot : Slot "str" name id) (ty : typeOf (.builtin id) = pure (.type "method_descriptor")) (rule : MtR X id r) (rs : ∀ z, RS1 g W (fun y H Q => r (.str z) [y] H Q) (f z)) (ho : PE X o (tE g W mo)) (he : PE X e (tE g W ma))
    (hs : starEach [e] X.env = [(false, eval e X.env)] := by rfl) (hbase : attributeBase o name X.env (eval o X.env) = eval o X.env := by rfl) (hline : (apos.endLine == pos.line) = true := by rfl) :
    PE X (.Call (.Attribute o name apos) [e] [] pos) (tE g W (smM mo ma f)) := by
  refine PE.imp (pe_m1 slot ty rule ho he hs hbase hline) fun σ H Q q => ?_
  obtain ⟨α, h, τ, R, s, q⟩ := q
  refine ⟨α, h, τ, R, s, PostE.imp (PostE.bind q) ?_⟩
  rintro v H1 ⟨α1, d, h1, E1, R1, D1, p1⟩
  cases D1 <;> try exact False.elim p1
  rename_i z
  refine ⟨⟨z, rfl⟩, α1, h1, τ, R1, s.ext E1, PostE.imp (PostE.bind p1) ?_⟩
  rintro w H2 ⟨α2, d2, h2, E2, R2, D2, p2⟩
  exact rs z α2 h2 H2 σ w d2 Q R2 D2 p2
def findS (x : Str) (d : D) (h : AH) : EO := match d with
  | .str y => .ok (.int (Txt.find x y)) h
  | _ => .bad
theorem rs_find (z : Str) : RS1 g W (fun y H Q => ∃ a b, V.str z = .str a ∧ [y] = [.str b] ∧ Q (.int (Txt.find a b)) H) (findS z) := by
  intro α h H σ x dx Q R hx p
  cases hx <;> try exact False.elim p
  exact ⟨z, _, rfl, rfl, p α H _ .refl R (.int _)⟩
/-- texts of a list -/
def strsOf : List D → Option (List Str)
  | [] => some []
  | .str b :: r => (strsOf r).map (b :: ·)
  | _ :: _ => none
theorem strsOf_den : ∀ {ds : List D} {vs : List V} {bs : List Str}, DenL g α H ds vs → strsOf ds = some bs → vs = bs.map V.str
  | [], _, _, h, q => by cases h; cases q; rfl
  | d :: ds, _, bs, h, q => by
    cases h with
    | cons h1 h2 =>
      cases h1 <;> simp only [strsOf, reduceCtorEq] at q
      simp only [Option.map_eq_some_iff] at q
      obtain ⟨r, q1, rfl⟩ := q
      rw [strsOf_den h2 q1]
      rfl
def joinS (x : Str) (d : D) (h : AH) : EO := match d with
  | .ref l => match h[l]? with
    | some (.lst xs) => match strsOf xs with
      | some ys => if (ys.map (·.length)).sum + ys.length * x.length ≤ 16777216 then .ok (.str (Txt.join x ys)) h else .bad
      | none => .bad
    | _ => .bad
  | _ => .bad
theorem rs_join (z : Str) : RS1 g W (fun y H Q => ∃ a p, ∃ ys : List Str, V.str z = .str a ∧ [y] = [.ref p] ∧ (SqL g.K H p (ys.map V.str) ∨ SqT g.K H p (ys.map V.str)) ∧ (ys.map (·.length)).sum + ys.length * a.length ≤ 16777216 ∧ Q (.str (Txt.join a ys)) H) (joinS z) := by
  intro α h H σ x dx Q R hx p
  cases hx <;> try exact False.elim p
  rename_i l a hl
  simp only [joinS] at p
  split at p
  · rename_i xs hx
    split at p
    · rename_i ys hy
      split at p
      · rename_i hz
        obtain ⟨vs, a1, a2⟩ := R.ob _ _ _ hx hl
        exact ⟨z, a, ys, rfl, rfl, .inl (by rw [← strsOf_den a2 hy]; exact SqL.of a1), hz, p α H _ .refl R (.str _)⟩
      · exact p.elim
    · exact p.elim
  · exact p.elim
/-! ### isinstance by a built-in class -/
def tyName (h : AH) : D → Option String
  | .non => some "NoneType"
  | .bl _ => some "bool"
  | .int _ => some "int"
  | .str _ => some "str"
  | .tup _ => some "tuple"
  | .ref l => match h[l]? with
    | some (.lst _) => some "list"
    | some (.dct _) => some "dict"
    | _ => none
  | .con _ => none
  | .fls _ => none
/-- kitB's answers for the classes that stand in the programs -/
def isTy (n T : String) : Option Bool :=
  if n = "bool" ∧ T = "int" then some true else
  if (n = "NoneType" ∨ n = "bool" ∨ n = "int" ∨ n = "str" ∨ n = "tuple" ∨ n = "list" ∨ n = "dict") ∧ (T = "int" ∨ T = "str" ∨ T = "tuple" ∨ T = "list" ∨ T = "bool" ∨ T = "dict") then some (decide (n = T)) else none
theorem isTy_kit {K : PySem.W.Frag} {n T : String} {b : Bool} (h : isTy n T = some b) : PySem.W.kitOne K (.type n) (.type T) = some b := by
  refine kit_ty ?_
  unfold isTy at h
  split at h
  · rename_i q
    obtain ⟨rfl, rfl⟩ := q
    cases h
    decide +kernel
  · split at h
    · rename_i q1 q
      cases h
      obtain ⟨hn, hT⟩ := q
      rcases hn with rfl | rfl | rfl | rfl | rfl | rfl | rfl <;> rcases hT with rfl | rfl | rfl | rfl | rfl | rfl <;> first | (exfalso; exact q1 ⟨rfl, rfl⟩) | decide +kernel
    · cases h
def isiM (T : String) (d : D) (h : AH) : EO := match tyName h d with
  | some n => match isTy n T with
    | some b => .ok (.bl b) h
    | none => .bad
  | none => .bad
theorem tyX_tup {K : PySem.W.Frag} {a : Addr} {vs : List V} (h : SqT K H a vs) : TyX K H (.ref a) (.type "tuple") := by
  rcases h with (h | ⟨o, h⟩) | ⟨o, its, n, h1, h2, _⟩
  · exact .base (.tup h)
  · exact .fTuple h
  · exact .kTuple h1 h2
theorem de_isi {T : String} {x2 : Str} {p2 : Pos} (hK : g.K = X.K) (hg : Gl X "isinstance") (hm : X.mg "isinstance" = none) (hg2 : Gl X x2) (hm2 : X.mg x2 = none) (hv2 : bootBuiltins x2 = some (.type T)) (ha : PE X a (tE g W ma)) (hn : x2 ≠ "__name__" := by decide) (hd2 : (x2 == ("__debug__" : Str)) = false := by decide)
    (he : starEach [a, .Name x2 p2] X.env = (false, eval a X.env) :: starEach [.Name x2 p2] X.env := by rfl) (he2 : starEach [.Name x2 p2] X.env = (false, eval (.Name x2 p2) X.env) :: starEach [] X.env := by rfl) (hpl : (backTo pos (starEach [.Name x2 p2] X.env)).any (·.1) = false := by rfl) :
    PE X (.Call (.Name "isinstance" p) [a, .Name x2 p2] [] pos) (tE g W (unM ma (isiM T))) := by
  have hT : PE X (.Name x2 p2) (tC (.ty T)) := pe_bltn hg2 hm2 hv2 rfl hn hd2
  refine PE.imp (pe_callB call_isi hg hm PyProof.Rows.boot_isinstance (pa_cons ha (pa_cons hT pa_nil he2) he) (by decide) (by decide) he hpl) fun σ H Q q => ?_
  obtain ⟨α, h, τ, R, s, q⟩ := tE_start (f := isiM T) q
  refine ⟨α, h, τ, R, s, PostE.imp q ?_⟩
  rintro v H1 ⟨α1, d, h1, τ1, R1, s1, D1, p1⟩
  unfold isiM at p1
  split at p1
  · rename_i n hn'
    split at p1
    · rename_i b hb
      have fin := p1 α1 H1 _ .refl R1 (.bl b)
      have ty : TyX X.K H1 v (.type n) := by
        rw [← hK]
        cases D1 with
        | non => cases hn'; exact .base .non
        | bl k => cases hn'; exact .base (.bl k)
        | int i => cases hn'; exact .base (.int i)
        | str z => cases hn'; exact .base (.str z)
        | tup hs hl => cases hn'; exact tyX_tup hs
        | ref hl =>
          simp only [tyName] at hn'
          split at hn'
          · rename_i xs hx
            cases hn'
            obtain ⟨vs, a1, a2⟩ := R1.ob _ _ _ hx hl
            exact .base (.lst a1)
          · rename_i xs hx
            cases hn'
            obtain ⟨ws, a1, a2, a3⟩ := R1.ob _ _ _ hx hl
            exact .base (.dK a1)
          · cases hn'
        | con => cases hn'
        | fls _ _ => cases hn'
      exact ⟨v, .ty T, .type n, .type T, b, rfl, .ty T, ty, isTy_kit hb, fin⟩
    · exact p1.elim
  · exact p1.elim
/-! ### o[i] = v -/
def subG (o i : EM) (f : D → D → D → AH → Option AH) : TM := fun v τ h => (o τ h).toS τ fun d h1 => (i τ h1).toS τ fun k h2 => match f d k v h2 with
  | some h3 => .nx τ h3
  | none => .bad
def setLF (d k v : D) (h : AH) : Option AH := match d, k with
  | .ref l, .int i => match h[l]? with
    | some (.lst xs) => match ixN xs.length i with
      | some j => some (h.set l (.lst (xs.set j v)))
      | none => none
    | _ => none
  | _, _ => none
def RSet (g : G) (t : TSet) (f : D → D → D → AH → Option AH) : Prop := ∀ (α : List Addr) (h h' : AH) (H : Hp) (o i v : V) (d k w : D) (Q : Hp → Prop), Rep g α h H → Den g α H d o → Den g α H k i → Den g α H w v → f d k w h = some h' →
  (∀ H', Ext α H α H' → Rep g α h' H' → Q H') → t o i v H Q
theorem rset_list : RSet g rSetL setLF := by
  intro α h h' H o i v d k w Q R hd hk hw e q
  cases hd <;> cases hk <;> simp only [setLF, reduceCtorEq] at e
  rename_i l a hl i
  split at e
  · rename_i xs hx
    split at e
    · rename_i j hj
      cases e
      obtain ⟨vs, a1, a2⟩ := R.ob _ _ _ hx hl
      obtain ⟨b1, b2⟩ := put_list R hl a1 (a2.set j hw)
      exact ⟨a, vs, i, j, rfl, rfl, a1, by rw [← a2.length]; exact hj, q _ b2 b1⟩
    · cases e
  · cases e
theorem rg_sub {mi : EM} {t : TSet} {f : D → D → D → AH → Option AH} (rs : RSet g t f) : RG g W (gSub (tE g W mo) (tE g W mi) t) (subG mo mi f) := by
  intro α h H τ σ v d Q R s hd p
  refine ⟨α, h, τ, R, s, PostE.imp (PostS.toS p s) ?_⟩
  rintro x H1 ⟨α1, d1, h1, E1, R1, D1, s1, p1⟩
  refine ⟨α1, h1, τ, R1, s1, PostE.imp (PostS.toS p1 s1) ?_⟩
  rintro y H2 ⟨α2, d2, h2, E2, R2, D2, s2, p2⟩
  split at p2
  · rename_i h3 e3
    exact rs α2 h2 h3 H2 x y v d1 d2 d _ R2 (Den.ext E2 _ _ D1) D2 (Den.ext E2 _ _ (Den.ext E1 _ _ hd)) e3 fun H' E' R' => p2 α2 H' σ E' R' (s2.ext E')
  · exact p2.elim
theorem goes_sub {mi : EM} {f : D → D → D → AH → Option AH} : Goes (subG mo mi f) := fun d τ h => by
  unfold subG
  cases e : mo τ h with
  | ok d1 h1 =>
    simp only [EO.toS]
    cases e2 : mi τ h1 with
    | ok k h2 =>
      simp only [EO.toS]
      cases f d1 k d h2 with
      | some h3 => exact .inl ⟨_, _, rfl⟩
      | none => exact .inr (.inr rfl)
    | exc c h2 => exact .inr (.inl ⟨_, _, _, rfl⟩)
    | bad => exact .inr (.inr rfl)
  | exc c h1 => exact .inr (.inl ⟨_, _, _, rfl⟩)
  | bad => exact .inr (.inr rfl)
theorem ds_asgG {tg : Expr} {t : TG} {f : TM} (he : PE X e (tE g W ma)) (hg : PG X tg t) (rg : RG g W t f) (gf : Goes f) (hs : swapsWithSole [tg] e pos.line X.env = pure false := by rfl) (hw : swappedStores [tg] e X.env = pure none := by rfl)
    (h1 : (assignEach [tg] X.env).map (·.2) = [assign tg X.env] := by rfl) : PS X (.Assign [tg] e pos) (tS g W (asgM ma f)) :=
  ds_asg he hg rg (fun d τ h Q α H Dn q k => gf.post d τ h Q α H Dn q k) hs hw h1
end
end DD
end

section
set_option Elab.async false
set_option linter.all false
set_option maxRecDepth 100000
namespace DD
open PySem L2
open PyProof.Rows (b2i)

/-! ### list comprehensions -/
def wipeD (τ : SL) : List Nat → SL
  | [] => τ
  | v :: vs => (wipeD τ vs).set v none
/-- the turns: l the new list, own the block's slots -/
def lcLoop (live : AH → Bool) (f : TM) (mc : Option EM) (me : EM) (own : List Nat) (τ : SL) (l : Nat) : List D → AH → EO
  | [] => fun h => if live h = true then .ok (.ref l) h else .bad
  | d :: ds => fun h => if live h = true then match f d (wipeD τ own) h with
    | .nx τ1 h1 => (match mc with
      | none => EO.ok (.bl true) h1
      | some c => c τ1 h1).bind fun k h2 => match k with
        | .bl true => (me τ1 h2).bind fun y h3 => match h3[l]? with
          | some (.lst acc) => if acc.length < sizeLine then lcLoop live f mc me own τ l ds (h3.set l (.lst (acc ++ [y]))) else .bad
          | _ => .bad
        | .bl false => lcLoop live f mc me own τ l ds h2
        | _ => .bad
    | _ => .bad else .bad
def lcM (e : EM) (items : D → AH → Option (List D × (AH → Bool))) (f : TM) (mc : Option EM) (me : EM) (own : List Nat) : EM := fun τ h => (e τ h).bind fun d h1 => match items d h1 with
  | some (ds, live) => lcLoop live f mc me own τ h1.length ds (h1 ++ [.lst []])
  | none => .bad
/-- no exception may come -/
def noexc : EO → EO
  | .exc _ _ => .bad
  | o => o
abbrev W0 : WX := fun _ _ _ _ => False
section
variable {X : Cx} {g : G} {W : WX} {a b c e o elt : Expr} {es : List Expr} {ma mb mo me : EM} {mc : Option EM} {m : LM} {pos p apos cpos : Pos} {σ : St} {H H' : Hp} {Q : VK} {Dn : Ends} {α α' : List Addr} {τ : SL} {sa sb : SM} {st : Stmt} {rest : List Stmt} {body : List Stmt} {tg iter : Expr} {t : TG} {f : TM} {wi : TI} {items : D → AH → Option (List D × (AH → Bool))} {ifs : List Expr} {scope : Scope} {own : List (Str × Nat)}
theorem PostE.noexc {o : EO} (q : PostE g W α H σ Q (noexc o)) : PostE g W0 α H σ Q o := by
  cases o with
  | ok d h => exact q
  | exc c h => exact q.elim
  | bad => exact q
theorem wipe_wipeD {τ : SL} (s : DenS g α H τ σ) (vs : List Nat) : DenS g α H (wipeD τ vs) (wipe σ vs) := by
  induction vs with
  | nil => exact s
  | cons v vs ih =>
    unfold wipeD wipe
    refine ⟨by simp [ih.len], fun i d q => ?_⟩
    by_cases hi : v = i
    · subst hi
      by_cases hl : v < (wipeD τ vs).length
      · rw [List.getElem?_set_self hl] at q
        cases q
      · rw [List.getElem?_eq_none (by simp; omega)] at q
        cases q
    · rw [List.getElem?_set_ne hi] at q
      obtain ⟨w, h1, h2⟩ := ih.at_ i d q
      exact ⟨w, by rw [List.getElem?_set_ne hi]; exact h1, h2⟩
/-- a target that stores the block's own slots alone -/
def OwnT (t : TG) (vs : List Nat) : Prop := ∀ (v : V) (σ : St) (H : Hp) (Q : St → Hp → Prop), t v σ H (fun σ2 H2 => wipe σ2 vs = wipe σ vs → Q σ2 H2) → t v σ H Q
def OwnTs (t : TGs) (vs : List Nat) : Prop := ∀ (v : List V) (σ : St) (H : Hp) (Q : St → Hp → Prop), t v σ H (fun σ2 H2 => wipe σ2 vs = wipe σ vs → Q σ2 H2) → t v σ H Q
theorem wipe_set {x : Option V} {i : Nat} : ∀ {vs : List Nat} {σ : St}, i ∈ vs → wipe (σ.set i x) vs = wipe σ vs
  | [], _, h => by cases h
  | v :: vs, σ, h => by
    unfold wipe
    by_cases hi : i ∈ vs
    · rw [wipe_set hi]
    · have hv : i = v := by rcases List.mem_cons.mp h with h | h <;> first | exact h | exact absurd h hi
      subst hv
      have key : ∀ (vs : List Nat) (σ : St), i ∉ vs → wipe (σ.set i x) vs = (wipe σ vs).set i x := by
        intro vs
        induction vs with
        | nil => intro σ _; rfl
        | cons w ws ih =>
          intro σ hn
          have hw : i ≠ w := fun z => hn (z ▸ List.mem_cons_self)
          unfold wipe
          rw [ih σ (fun z => hn (List.mem_cons_of_mem _ z)), List.set_comm _ _ hw]
      rw [key vs σ hi, List.set_set]
theorem wipe_none {a : Nat} : ∀ (l : List Nat) (ρ : St), wipe (ρ.set a none) l = (wipe ρ l).set a none
  | [], ρ => rfl
  | b :: l, ρ => by
    unfold wipe
    rw [wipe_none l ρ]
    by_cases hab : a = b
    · subst hab; rfl
    · rw [List.set_comm _ _ hab]
theorem wipe_wipe : ∀ (l : List Nat) (ρ : St), wipe (wipe ρ l) l = wipe ρ l
  | [], ρ => rfl
  | a :: l, ρ => by
    show (wipe ((wipe ρ l).set a none) l).set a none = (wipe ρ l).set a none
    rw [wipe_none, wipe_wipe l ρ, List.set_set]
theorem own_name {i : Nat} {vs : List Nat} (h : i ∈ vs) : OwnT (gName i) vs := fun v σ H Q q => q (wipe_set h)
theorem own_tup {n : Nat} {K : PySem.W.Frag} {t : TGs} {vs : List Nat} (h : OwnTs t vs) : OwnT (gTup K n t) vs := fun v σ H Q q => by
  obtain ⟨a, xs, h1, h2, h3, h4⟩ := q
  exact ⟨a, xs, h1, h2, h3, h _ _ _ _ h4⟩
theorem own_nil {vs : List Nat} : OwnTs gNil vs := fun ws σ H Q q => ⟨q.1, q.2 rfl⟩
theorem own_cons {vs : List Nat} {i : Nat} {u : TGs} (hi : i ∈ vs) (hu : OwnTs u vs) : OwnTs (gCons (gName i) u) vs := fun ws σ H Q q => by
  obtain ⟨v, r, h1, h2⟩ := q
  refine ⟨v, r, h1, hu r _ H Q ?_⟩
  rw [wipe_set hi]
  exact h2
/-- the block's tests by a mirror -/
def tTs (g : G) (W : WX) : Option EM → TT
  | none => tYes
  | some m => tT g W m
/-- a list comprehension that raises nothing: its reading from its mirror -/
theorem tE_lc (io : IterOk g W0 wi ma items) (rg : ∀ W, RG g W t f) (gf : Goes f) (ot : OwnT t (own.map (·.2))) (q : tE g W (fun τ h => noexc (lcM ma items f mc me (own.map (·.2)) τ h)) σ H Q) : tLc wi t (tTs g W0 mc) (tE g W0 me) (own.map (·.2)) σ H Q := by
  unfold tLc
  refine io σ H _ ?_
  obtain ⟨α, h, τ, R, s, q⟩ := q
  have q := PostE.noexc q
  refine ⟨α, h, τ, R, s, ?_⟩
  unfold lcM at q
  cases e0 : ma τ h with
  | exc c h1 => rw [e0] at q; exact q
  | bad => rw [e0] at q; exact q
  | ok d h1 =>
    rw [e0] at q
    intro α1 H1 E1 R1 _
    have p1 := PostE.mono q E1
    simp only [EO.bind] at p1
    obtain ⟨⟨ds, live⟩, hit⟩ : ∃ dl, items d h1 = some dl := by
      cases hit : items d h1 with
      | none => rw [hit] at p1; exact p1.elim
      | some dl => exact ⟨dl, rfl⟩
    rw [hit] at p1
    refine ⟨ds, live, hit, fun J wk => ?_⟩
    obtain ⟨stop, go, yld⟩ := wk
    intro L hD
    obtain ⟨R2, E2, D2⟩ := new_list R1 (ds := []) (vs := []) .nil hD
    refine ⟨fun i m H' => m = ds.length - i ∧ ∃ α' h', Ext (α1 ++ [L]) (upd H1 L (.lst [])) α' H' ∧ Rep g α' h' H' ∧ PostE g W0 α' H' σ Q (lcLoop live f mc me (own.map (·.2)) τ h1.length (ds.drop i) h'), ⟨ds.length, by simp, _, _, .refl, R2, PostE.mono p1 E2⟩, ?_⟩
    rintro i m H' ⟨rfl, α', h', E', R', p'⟩
    have EE := E2.trans E'
    have DD := Den.ext E' _ _ D2
    by_cases hi : i < ds.length
    · have hd : ds.drop i = ds[i] :: ds.drop (i + 1) := by rw [List.drop_eq_getElem_cons hi]
      have hg : ds[i]? = some ds[i] := List.getElem?_eq_getElem hi
      rw [hd] at p'
      simp only [lcLoop] at p'
      split at p'
      · rename_i hl
        refine .inr ⟨go α' H' h' EE R' hl i _ hg, fun H3 => ∃ α' h', Ext (α1 ++ [L]) (upd H1 L (.lst [])) α' H3 ∧ Rep g α' h' H3 ∧ PostE g W0 α' H3 σ Q (lcLoop live f mc me (own.map (·.2)) τ h1.length (ds.drop (i + 1)) h'), fun H3 w => ⟨ds.length - (i + 1), by omega, rfl, w⟩, fun x H3 hy => ?_⟩
        obtain ⟨E3, R3, D3⟩ := yld α' H' h' x H3 EE R' hl i _ hg hy
        have s3 : DenS g α' H3 (wipeD τ (own.map (·.2))) (wipe σ (own.map (·.2))) := wipe_wipeD (((s.ext E1).ext EE).ext E3) _
        split at p'
        · rename_i τ4 h4 e4
          refine ot x _ H3 _ (rg W0 α' h' H3 _ _ x _ _ R3 s3 D3 ?_)
          rw [e4]
          intro α4 H4 σ4 E4 R4 s4 hw
          rw [wipe_wipe] at hw
          have EE4 := (EE.trans E3).trans E4
          have p4 := PostE.mono (PostE.mono p' E3) E4
          refine ⟨hw, ?_⟩
          -- behind the test
          have fin : ∀ (k : Bool) (α5 : List Addr) (h5 : AH) (H5 : Hp), Ext α4 H4 α5 H5 → Rep g α5 h5 H5 → PostE g W0 α5 H5 σ Q (match D.bl k with
              | .bl true => (me τ4 h5).bind fun y h3 => match h3[h1.length]? with
                | some (.lst acc) => if acc.length < sizeLine then lcLoop live f mc me (own.map (·.2)) τ h1.length (ds.drop (i + 1)) (h3.set h1.length (.lst (acc ++ [y]))) else .bad
                | _ => .bad
              | .bl false => lcLoop live f mc me (own.map (·.2)) τ h1.length (ds.drop (i + 1)) h5
              | _ => .bad) → (if k = true then tE g W0 me σ4 H5 fun y H4 => ∃ acc, H4 L = some (.lst acc) ∧ acc.length < sizeLine ∧ ∃ α' h', Ext (α1 ++ [L]) (upd H1 L (.lst [])) α' (upd H4 L (.lst (acc ++ [y]))) ∧ Rep g α' h' (upd H4 L (.lst (acc ++ [y]))) ∧
                PostE g W0 α' (upd H4 L (.lst (acc ++ [y]))) σ Q (lcLoop live f mc me (own.map (·.2)) τ h1.length (ds.drop (i + 1)) h')
              else ∃ α' h', Ext (α1 ++ [L]) (upd H1 L (.lst [])) α' H5 ∧ Rep g α' h' H5 ∧ PostE g W0 α' H5 σ Q (lcLoop live f mc me (own.map (·.2)) τ h1.length (ds.drop (i + 1)) h')) := by
            intro k α5 h5 H5 E5 R5 p5
            cases k with
            | false => exact iteF ⟨α5, h5, ((E'.trans E3).trans E4).trans E5, R5, p5⟩
            | true =>
              refine iteT ⟨α5, h5, τ4, R5, s4.ext E5, PostE.imp (PostE.bind p5) ?_⟩
              rintro y H6 ⟨α6, dy, h6, E6, R6, D6, p6⟩
              split at p6
              · rename_i acc hacc
                split at p6
                · rename_i hz
                  have DD6 := Den.ext E6 _ _ (Den.ext E5 _ _ (Den.ext E4 _ _ (Den.ext E3 _ _ DD)))
                  cases DD6 with
                  | ref hl6 =>
                    obtain ⟨ws, a1, a2⟩ := R6.ob _ _ _ hacc hl6
                    obtain ⟨b1, b2⟩ := put_list R6 hl6 a1 (a2.snoc D6)
                    exact ⟨ws, a1, by rw [← a2.length]; exact hz, α6, _, ((((E'.trans E3).trans E4).trans E5).trans E6).trans b2, b1, PostE.mono p6 b2⟩
                · exact p6.elim
              · exact p6.elim
          cases mc with
          | none => exact fin true α4 h4 H4 .refl R4 p4
          | some c =>
            show tT g W0 c σ4 H4 _
            refine ⟨α4, h4, τ4, R4, s4, PostE.imp (PostE.bind p4) ?_⟩
            rintro z H5 ⟨α5, dz, h5, E5, R5, D5, p5⟩
            cases D5 <;> try exact False.elim p5
            rename_i k
            exact ⟨k, rfl, fin k α5 h5 H5 E5 R5 p5⟩
        · exact p'.elim
      · exact p'.elim
    · have hd : ds.drop i = [] := List.drop_eq_nil_of_le (by omega)
      rw [hd] at p'
      simp only [lcLoop] at p'
      split at p'
      · rename_i hl
        exact .inl ⟨stop α' H' h' EE R' hl i (by omega), p' α' H' _ .refl R' DD⟩
      · exact p'.elim
def lcQ (e : EM) (items : D → AH → Option (List D × (AH → Bool))) (f : TM) (mc : Option EM) (me : EM) (own : List Nat) : EM := fun τ h => noexc (lcM e items f mc me own τ h)
theorem de_lcQ (hc : X.calm = true) (hN : X.N.Nodup) (hi : PI X tg iter wi) (io : IterOk g W0 wi ma items) (ok : BlkOk X.N X.env.scope scope own) (rg : ∀ W, RG g W t f) (gf : Goes f) (ot : OwnT t (own.map (·.2)))
    (hg : ∀ (s : Shared) (H : Hp) (C : Addr) (cl : List (Str × Addr)) (fp : List Addr), PG (X.blk s H scope (compEnvC scope cl C X.env) fp) tg t) (ht : ∀ (s : Shared) (H : Hp) (C : Addr) (cl : List (Str × Addr)) (fp : List Addr), PTs (X.blk s H scope (compEnvC scope cl C X.env) fp) ifs (tTs g W0 mc))
    (he : ∀ (s : Shared) (H : Hp) (C : Addr) (cl : List (Str × Addr)) (fp : List Addr), PE (X.blk s H scope (compEnvC scope cl C X.env) fp) elt (tE g W0 me)) (hs : ∀ x, foldedSetIterable iter X.env x = pure x := by intro _; rfl) :
    PE X (.ListComp elt [⟨tg, iter, ifs, 0⟩] scope pos) (tE g W (lcQ ma items f mc me (own.map (·.2)))) :=
  PE.imp (pe_lc hc hN hi ok hg ht he hs) fun _ _ _ q => tE_lc io rg gf ot q
theorem ds_setLcQ {i : Nat} {y : Str} {py spos : Pos} (hc : X.calm = true) (hN : X.N.Nodup) (hy : X.N[i]? = some y) (hyl : X.env.scope.names.lookup y = some .local) (hsw : swapsWith (.ListComp elt [⟨tg, iter, ifs, 0⟩] scope pos) (some (.Name y py)) spos.line X.env = pure true)
    (hi : PI X tg iter wi) (io : IterOk g W0 wi ma items) (ok : BlkOk X.N X.env.scope scope own) (rg : ∀ W, RG g W t f) (gf : Goes f) (ot : OwnT t (own.map (·.2)))
    (hg : ∀ (s : Shared) (H : Hp) (C : Addr) (cl : List (Str × Addr)) (fp : List Addr), PG (X.blk s H scope (compEnvC scope cl C X.env) fp) tg t) (ht : ∀ (s : Shared) (H : Hp) (C : Addr) (cl : List (Str × Addr)) (fp : List Addr), PTs (X.blk s H scope (compEnvC scope cl C X.env) fp) ifs (tTs g W0 mc))
    (he : ∀ (s : Shared) (H : Hp) (C : Addr) (cl : List (Str × Addr)) (fp : List Addr), PE (X.blk s H scope (compEnvC scope cl C X.env) fp) elt (tE g W0 me)) (hs : ∀ x, foldedSetIterable iter X.env x = pure x := by intro _; rfl) :
    PS X (.Assign [.Name y py] (.ListComp elt [⟨tg, iter, ifs, 0⟩] scope pos) spos) (tS g W (setM i (lcQ ma items f mc me (own.map (·.2))))) := by
  refine PS.imp (ps_setLc hc hN hy hyl hsw hi ok hg ht he hs) fun Dn σ H q => ?_
  refine tE_lc (W := W) io rg gf ot ?_
  obtain ⟨α, h, τ, R, s, q⟩ := q
  refine ⟨α, h, τ, R, s, ?_⟩
  have q' : PostS g W α H Dn ((noexc (lcM ma items f mc me (own.map (·.2)) τ h)).toS τ fun d h1 => .nx (τ.set i (some d)) h1) := q
  refine PostE.imp (PostS.toS q' s) ?_
  rintro v H1 ⟨α1, d, h1, E1, R1, D1, s1, p1⟩
  exact p1 α1 H1 _ .refl R1 (s1.set i D1)
end
end DD
end

section
set_option Elab.async false
set_option linter.all false
set_option maxRecDepth 100000
set_option maxHeartbeats 2000000
namespace DD
open PySem L2 PySem.Spec PyProof.Rows
/-! ### a list comprehension out of which an exception may come -/
def endC (M : Model) (A : Around) (E Q : Value → Shared → Prop) (acc : Value) (cenv : Env) (r : Result) (s' : Shared) : Prop := match r with
  | .ok _ => ∃ m, s'.heap.Ns cenv.locals m ∧ ∀ h', Heap.SameBut cenv.locals s'.heap h' → Q acc { s' with heap := h' }
  | .error x => ∃ m, s'.heap.Ns cenv.locals m ∧ ∀ h', Heap.SameBut cenv.locals s'.heap h' → wpAny M A (passOn "comprehension.variables-let-go" x cenv : Sem Value) (fun _ _ => False) E { s' with heap := h' }
theorem comp_ends {M : Model} {A : Around} {E : Value → Shared → Prop} {s : Shared} {env : Env} {e : Expr} {scope : Scope} {pos : Pos} {newAcc first : Sem Value} {cg : Comprehension} {gs : List Comprehension} {cl : List (Str × Addr)} {Q : Value → Shared → Prop}
    (hcl : clausesOf e = cg :: gs) (hs : ∀ x, foldedSetIterable cg.iter env x = pure x) (hclos : closureFor scope env = pure cl) (hkind : scope.kind = .function) (hnames : ∀ x ∈ scope.names, x.2 = .local → scope.names.lookup x.1 = some .local)
    (h : wpAny M A first (fun x s₁ => wpAny M A (pyIter x) (fun it s₂ => wpAny M A newAcc (fun acc s₃ => wpAny M A (newFunctionEnv scope env.globals cl [] env.qual none .none (some env)) (fun cenv s₄ =>
        codeAny M A (.compStart e 0 it acc { cenv with scope := relabel scope env }) (endC M A E Q acc { cenv with scope := relabel scope env }) s₄) E s₃) E s₂) E s₁) E s) :
    wpAny M A (comprehension e scope env pos newAcc false first none) Q E s := by
  have same : ∀ {β : Type} {t : Sem β} {R R' : β → Shared → Prop} {z : Shared}, wpAny M A t R E z → (∀ a z, R a z → R' a z) → wpAny M A t R' E z := fun a b => wpAny_mono a b fun _ _ x => x
  unfold comprehension
  rw [hclos, hcl]
  refine wpAny_bind (same h fun x s₁ h₁ => wpAny_bind (wpAny_standAt (wpAny_bind (wpAny_of_eq (hs x) (wpAny_bind (wpAny_holding (same h₁ fun it s₂ h₂ => wpAny_standIf (wpAny_bind (same h₂ fun acc s₃ h₃ => wpAny_bind (wpAny_pure (wpAny_bind (same h₃ fun cenv s₄ h₄ => ?_))))))))))))
  dsimp only
  have hv : ∀ x ∈ (scope.names.filter fun x => (x.2 == .local || x.2 == .cell) && x.1 != (".0" : Str)).reverse, x.2 = .local → Env.kindOf { cenv with scope := relabel scope env } x.1 = some .local :=
    fun x hx hl => lookup_relabel_local (hnames x (List.mem_filter.mp (List.mem_reverse.mp hx)).1 hl)
  refine wpAny_holding (wpAny_bind (wpAny_attempt (wpAny_holding (wpAny_run (codeAny_mono h₄ fun r s' hr => ?_)))))
  cases r with
  | ok f =>
    obtain ⟨m, hn, hr⟩ := hr
    exact wpAny_bind (wpAny_holding (wpAny_comp_letGo (cenv := { cenv with scope := relabel scope env }) hkind _ s' m hv hn fun h' m' _ hs' => wpAny_pure (hr h' hs')))
  | error x =>
    obtain ⟨m, hn, hr⟩ := hr
    exact wpAny_bind (wpAny_holding (wpAny_comp_letGo (cenv := { cenv with scope := relabel scope env }) hkind _ s' m hv hn fun h' m' _ hs' => wpAny_mono (hr h' hs') (fun _ _ z => z.elim) fun _ _ y => y))
/-- noting a frame leans on the frame alone -/
theorem note_same {e : Value} {env env' : Env} (h : env.frame = env'.frame) : noteFrame e env = noteFrame e env' := by
  unfold noteFrame PySem.frameOf
  rw [h]

section
variable {X : Cx} {g : G} {W : WX} {pins : List (Addr × Obj)} {σ : L2.St} {H3 : Hp} {s3 : Shared}
/-- the same heap, the one time with a flight none, the other time with something else: never -/
theorem fly_only {B B' : Heap} {l l' : List Env} {a : Addr} {Z Z' : Obj → Prop} {L : Addr} {h : Heap} (fl : HandSPX.FlyingZ B' l' a Z' h) (sky : Sky B l a Z L h) : HandSPX.FlyingZ B l a Z h := by
  obtain ⟨_, _, _, oe, vs, T, oT, ts, e1, _, e2, e3, _, _, e4, e5, e6⟩ := fl
  rcases sky with ⟨_, _, _, oe', vs', q1, _, q2, q3⟩ | fl' | ⟨_, _, _, oe', vs', T', oT', ts', q1, _, q2, q3, _, _, q4, q5, q6⟩
  · rw [e1] at q1
    cases q1
    rw [e2] at q2
    cases q2
    rw [e3] at q3
    cases q3
  · exact fl'
  · rw [e1] at q1
    cases q1
    rw [e2] at q2
    cases q2
    rw [e3] at q3
    cases q3
    rw [e4] at q4
    cases q4
    rw [e5] at q5
    cases q5
    rw [e6] at q6
    cases q6
theorem blk_pas {scope : Scope} {ce : Env} {fp : List Addr} {Q acc' : Value → Shared → Prop} {acc : Value} (hst : X.stack = X.env :: X.outer) (hf : X.env.frame = some X.env.locals) (tk : Takes X W) (I3 : Inv X pins σ H3 s3) (f3 : ∀ b ∈ fp, FpOk X pins H3 b) (hC : ce.locals = s3.heap.objs.size) (hcf : ce.frame = X.env.frame) :
    Pas ((X.blk s3 H3 scope ce fp).wish (notedBy (model X.prog X.w) X.A ce fun e s' => endC (model X.prog X.w) X.A X.xe Q acc ce (.error e) s')) (fun cls d _ H' => W cls d σ H') := by
  intro σy pins' Hy sy e s' Iy c
  have ok := I3.ok
  have hfr : X.A.frames = some (X.env :: X.outer) := by rw [ok.frames, hst]
  obtain ⟨a, B, sI, pins1, σ1, H1, cls, d, rfl, IY, nb, up, sky, na, os, ag, w⟩ := XE.of_call (W := fun cls d _ H' => W cls d σ H') Iy (fun _ _ _ h => h) c
  have fl : HandSPX.FlyingZ B (X.env :: X.outer) a (Zc cls d) s'.heap := by
    obtain ⟨a', B', H', cls', d', e1, fl', _⟩ := c
    cases e1
    rw [← hst]
    exact fly_only fl' sky
  obtain ⟨m, ⟨oC, es, ep, hoC, hdC, hrC⟩, _⟩ := IY.loc
  have hoC : sI.heap.get? ce.locals = some oC := hoC
  have nfr : ∀ b ∈ frs X.stack, b < s3.heap.objs.size := fun b hb => by
    obtain ⟨_, o, ho, _⟩ := I3.stack.mem hb
    exact Heap.lt_size ho
  have nCfr : ce.locals ∉ frs X.stack := fun z => by
    have := nfr _ z
    rw [hC] at this
    exact Nat.lt_irrefl _ this
  have nb : ∀ b o, sI.heap.get? b = some o → b ∉ frs X.stack → B.get? b = some o := nb
  have I7 : Inv X pins σ H1 sI := I3.call' (ch := fp) IY.os IY.base IY.hok IY.bare fun b hb => ⟨(f3 b hb).2.2.2.1, (f3 b hb).2.1, (f3 b hb).2.2.2.2.1, (f3 b hb).2.2.2.2.2⟩
  have nC : H1 ce.locals = none := IY.free
  have fC : FpOk X pins H1 ce.locals := I3.fpOk (Nat.le_of_eq hC.symm) nC
  show wpAny (model X.prog X.w) X.A (noteFrame (.ref a) ce) _ _ s'
  rw [note_same hcf]
  refine HandSPX.looks_onZ Zc.steady hfr hf fl fun h2 hh up2 => ?_
  have hB : B.StaysIn h2 := hh.1
  have hoC2 : h2.get? ce.locals = some oC := hB _ _ (nb _ _ hoC nCfr)
  refine ⟨m, ⟨oC, es, ep, hoC2, hdC, hrC⟩, fun h3 sb => ?_⟩
  have sb2 : ∀ b, b ≠ ce.locals → h3.get? b = h2.get? b := sb.2
  obtain ⟨hst2, hen, hff, oe, vs, T, oT, ts, he, hz, hd, h1, hnT, hTe, hT, hdT, h3'⟩ := hh
  have naC : a ≠ ce.locals := fun z => by
    rw [z, hoC2] at he
    cases he
    rw [hdC] at hd
    cases hd
  have nTC : T ≠ ce.locals := fun z => by
    rw [z, hoC2] at hT
    cases hT
    rw [hdC] at hdT
    cases hdT
  -- the ground without the block's names
  have held : HandSPX.HeldZ (PySem.W.hideAll B [ce.locals]) (X.env :: X.outer) a (Zc cls d) X.env.locals h3 := by
    refine ⟨fun b o e => ?_, ?_, ?_, oe, vs, T, oT, ts, (sb2 a naC).trans he, hz, hd, h1, ?_, hTe, (sb2 T nTC).trans hT, hdT, h3'⟩
    · have hb : b ≠ ce.locals := fun z => by
        rw [z, PySem.W.hideAll_none [ce.locals] (by simp)] at e
        cases e
      rw [sb2 b hb]
      exact hst2 b o (PySem.W.of_hideAll _ e)
    · cases q : (PySem.W.hideAll B [ce.locals]).get? a with
      | none => rfl
      | some o =>
        have z := PySem.W.of_hideAll _ q
        rw [hen] at z
        cases z
    · have nfrs : ∀ L ∈ frs (X.env :: X.outer), L ≠ ce.locals := fun L hL z => nCfr (by rw [← z, hst]; exact hL)
      have all : ∀ (l : List Env), (∀ L ∈ frs l, L ≠ ce.locals) → h2.FunFrames B l → h3.FunFrames (PySem.W.hideAll B [ce.locals]) l := by
        intro l
        induction l with
        | nil => intro _ _; trivial
        | cons env r ih =>
          intro hs hl
          obtain ⟨hk, ⟨L, o, hf', hn, ho, hd'⟩, hr⟩ := hl
          have hL : L ≠ ce.locals := hs L (by unfold frs; rw [List.filterMap_cons, hf']; exact List.mem_cons_self)
          refine ⟨hk, ⟨L, o, hf', ?_, (sb2 L hL).trans ho, hd'⟩, ih (fun b hb => hs b (by unfold frs; rw [List.filterMap_cons, hf']; exact List.mem_cons_of_mem _ hb)) hr⟩
          cases q : (PySem.W.hideAll B [ce.locals]).get? L with
          | none => rfl
          | some o' =>
            have z := PySem.W.of_hideAll _ q
            rw [hn] at z
            cases z
      exact all _ nfrs hff
    · cases q : (PySem.W.hideAll B [ce.locals]).get? T with
      | none => rfl
      | some o =>
        have z := PySem.W.of_hideAll _ q
        rw [hnT] at z
        cases z
  unfold PySem.passOn
  refine wpAny_bind (wpAny_field ((sb2 a naC).trans he) hd h1 ?_)
  rw [if_neg (by simp)]
  rw [hcf, hf]
  refine wpAny_bind (HandSPX.setFlight_onZ held fun h4 hh4 up4 => wpAny_throw ?_)
  have upC : ∀ b o, b ≠ ce.locals → sI.heap.get? b = some o → (∀ vs, o.data ≠ .fields vs) → ∃ sl, h4.get? b = some { o with slots := sl } := fun b o hb e nf => by
    obtain ⟨sl1, e1⟩ := up b o e nf
    obtain ⟨sl2, e2⟩ := up2 b _ e1 nf
    have e3 : h3.get? b = some _ := (sb2 b hb).trans e2
    obtain ⟨sl4, e4⟩ := up4 b _ e3 nf
    exact ⟨sl4, e4⟩
  refine tk _ _ ⟨a, PySem.W.hideAll B [ce.locals], { sI with heap := PySem.W.hideAll sI.heap [ce.locals] }, pins, σ, H1, cls, d, rfl, ?_, fun b o e hb => ?_, fun b o e nf => ?_, .inr (.inr (by rw [hst]; exact hh4)), na, os, ag, w⟩
  · exact I7.turned (t' := sI.toks) (fun b o hb e => PySem.W.hideAll_get _ e (by simpa using hb)) fC.1 fC.2.1 fC.2.2.2.1 fC.2.2.2.2.1 fC.2.2.2.2.2
  · have e' := PySem.W.of_hideAll _ e
    refine PySem.W.hideAll_get _ (nb b o e' hb) fun hm => ?_
    rw [PySem.W.hideAll_none _ hm] at e
    cases e
  · have e' := PySem.W.of_hideAll _ e
    have hb : b ≠ ce.locals := fun z => by
      rw [z, PySem.W.hideAll_none [ce.locals] (by simp)] at e
      cases e
    exact upC b o hb e' nf
end

section
variable {X : Cx} {g : G} {W : WX} {elt : Expr} {ma me : EM} {mc : Option EM} {pos : Pos} {tg iter : Expr} {t : TG} {f : TM} {wi : TI} {items : D → AH → Option (List D × (AH → Bool))} {ifs : List Expr} {scope : Scope} {own : List (Str × Nat)}
theorem PostE.rebase {α : List Addr} {H : Hp} {σ σ' : L2.St} {Q : VK} {o : EO} (q : PostE g W α H σ Q o) : PostE g (fun cls d _ H' => W cls d σ H') α H σ' Q o := by
  cases o with
  | ok d h => exact q
  | exc c h => exact q
  | bad => exact q
theorem de_lcX (hc : X.calm = true) (hN : X.N.Nodup) (hst : X.stack = X.env :: X.outer) (hf : X.env.frame = some X.env.locals) (tk : Takes X W) (hi : PI X tg iter wi) (io : IterOk g W wi ma items) (ok : BlkOk X.N X.env.scope scope own) (rg : ∀ W, RG g W t f) (gf : Goes f) (ot : OwnT t (own.map (·.2)))
    (hg : ∀ (s : Shared) (H : Hp) (C : Addr) (cl : List (Str × Addr)) (fp : List Addr) (xe : Value → Shared → Prop), PG ((X.blk s H scope (compEnvC scope cl C X.env) fp).wish xe) tg t)
    (ht : ∀ (s : Shared) (H : Hp) (C : Addr) (cl : List (Str × Addr)) (fp : List Addr) (xe : Value → Shared → Prop) (W' : WX), Pas ((X.blk s H scope (compEnvC scope cl C X.env) fp).wish xe) W' → PTs ((X.blk s H scope (compEnvC scope cl C X.env) fp).wish xe) ifs (tTs g W' mc))
    (he : ∀ (s : Shared) (H : Hp) (C : Addr) (cl : List (Str × Addr)) (fp : List Addr) (xe : Value → Shared → Prop) (W' : WX), Pas ((X.blk s H scope (compEnvC scope cl C X.env) fp).wish xe) W' → PE ((X.blk s H scope (compEnvC scope cl C X.env) fp).wish xe) elt (tE g W' me))
    (hs : ∀ x, foldedSetIterable iter X.env x = pure x := by intro _; rfl) : PE X (.ListComp elt [⟨tg, iter, ifs, 0⟩] scope pos) (tE g W (lcM ma items f mc me (own.map (·.2)))) := by
  refine ⟨fun pins s σ H Q I q => ?_⟩
  rw [eval_ListComp]
  have hfree : ∀ y ∈ scope.names, y.2 = .free → ∃ c, X.env.cells.lookup y.1 = some c := fun y hy e => by
    rcases ok.free y hy e with k | k
    · exact I.ok.has _ (.inl k)
    · exact I.ok.has _ (.inr k)
  have hwi : wi σ H fun J H1 => ∃ α1 h1 τ ds live, Rep g α1 h1 H1 ∧ DenS g α1 H1 τ σ ∧ PostE g W α1 H1 σ Q (lcLoop live f mc me (own.map (·.2)) τ h1.length ds (h1 ++ [.lst []])) ∧
      WalkOf g α1 H1 ds live J := by
    refine io σ H _ ?_
    obtain ⟨α, h, τ, R, s', q⟩ := q
    refine ⟨α, h, τ, R, s', ?_⟩
    unfold lcM at q
    cases e0 : ma τ h with
    | exc c h1 => rw [e0] at q; exact q
    | bad => rw [e0] at q; exact q
    | ok d h1 =>
      rw [e0] at q
      intro α1 H1 E1 R1 _
      have p1 := PostE.mono q E1
      simp only [EO.bind] at p1
      split at p1
      · rename_i ds live hit
        exact ⟨ds, live, hit, fun J wk => ⟨α1, h1, τ, ds, live, R1, s'.ext E1, p1, wk⟩⟩
      · exact p1.elim
  refine comp_ends rfl hs (closure_ok hfree) ok.kind (fun y hy e => by rw [ok.uniq y hy, e]) (thn (hi.run pins s σ H _ I hwi) fun xv s1 hx => thn hx fun itv s2 h2 => ?_)
  obtain ⟨it, fp, tn, J, H2, e, I2, T, st2, f2, α1, h1, τ, ds, live, R1, sl1, p1, stop, go, yld⟩ := h2
  subst e
  refine wpAny_newObj_type (newEnv_comp ?_) (by show 0 ≤ sizeLine; decide)
  generalize hL : s2.heap.objs.size = L
  have hLn : H2 L = none := I2.hok.fresh (Nat.le_of_eq hL)
  obtain ⟨R2, E2, D2⟩ := new_list R1 (ds := []) (vs := []) .nil hLn
  generalize hs3 : ({ s2 with heap := s2.heap.push { cls := .type "list", data := .seq ([] : List Value).toArray } } : Shared) = s3
  have h3 : s3.heap = s2.heap.push { cls := .type "list", data := .seq ([] : List Value).toArray } := by rw [← hs3]
  have I3 : Inv X pins σ (upd H2 L (.lst [])) s3 := by
    rw [← hs3]
    refine I2.laid (t' := s2.toks) (fun b o e => Heap.get?_push_of_some _ e) (Nat.le_of_eq hL) ⟨Nat.zero_le _, [], 0, .nil, ?_⟩
    rw [← hL]
    exact Heap.get?_push_size _ rfl
  have f3 : ∀ b ∈ fp, FpOk X pins (upd H2 L (.lst [])) b ∧ b < s3.heap.objs.size := fun b hb => by
    obtain ⟨o, e, _⟩ := T.obj _ _ st2 b hb
    have hlt := Heap.lt_size e
    refine ⟨⟨?_, (f2 b hb).2⟩, by rw [h3, Heap.size_push]; exact Nat.lt_succ_of_lt hlt⟩
    rw [upd_ne (by rw [← hL]; exact Nat.ne_of_lt hlt)]
    exact (f2 b hb).1
  have st3 : tn 0 s3.heap := T.keep _ _ _ st2 fun b _ o e => by rw [h3]; exact Heap.get?_push_of_some _ e
  have I4 := block_start I3 ok hN f3
  show codeAny _ _ (.compStart (.ListComp elt [⟨tg, iter, ifs, 0⟩] scope pos) 0 (.ref it) (.ref L) (compEnvC scope (cellsFrom (s3.heap.objs.size + 1) scope.names (cloFrom X.env.cells scope.names [])) s3.heap.objs.size X.env))
    (endC (model X.prog X.w) X.A X.xe (EP X pins σ Q) (.ref L) (compEnvC scope (cellsFrom (s3.heap.objs.size + 1) scope.names (cloFrom X.env.cells scope.names [])) s3.heap.objs.size X.env)) { s3 with heap := pushCells (s3.heap.push { cls := .type "dict", data := .dict #[] }) scope.names }
  generalize hce : compEnvC scope (cellsFrom (s3.heap.objs.size + 1) scope.names (cloFrom X.env.cells scope.names [])) s3.heap.objs.size X.env = ce at I4 ⊢
  have cL : ce.locals = s3.heap.objs.size := by subst hce; rfl
  have cF : ce.frame = X.env.frame := by subst hce; rfl
  generalize hH3 : upd H2 L (.lst []) = H3 at *
  have nfp : ∀ b ∈ fp, H3 b = none := fun b hb => (f3 b hb).1.1
  generalize hs4 : ({ s3 with heap := pushCells (s3.heap.push { cls := .type "dict", data := .dict #[] }) scope.names } : Shared) = s4 at I4 ⊢
  have st4 : tn 0 s4.heap := T.keep _ _ _ st3 fun b _ o e => by rw [← hs4]; exact pushCells_keeps _ _ _ _ (Heap.get?_push_of_some _ e)
  -- the wish of the block
  have tkY := blk_pas (scope := scope) (fp := fp) (ce := ce) (Q := EP X pins σ Q) (acc' := fun _ _ => True) (acc := .ref L) hst hf tk I3 (fun b hb => (f3 b hb).1) cL cF
  generalize hZ : (notedBy (model X.prog X.w) X.A ce fun e s' => endC (model X.prog X.w) X.A X.xe (EP X pins σ Q) (.ref L) ce (.error e) s') = Z at tkY
  have I5 : Inv ((X.blk s3 H3 scope ce fp).wish Z) [] (wipe σ (own.map (·.2))) H3 s4 := I4.wish Z
  have pg : PG ((X.blk s3 H3 scope ce fp).wish Z) tg t := by rw [← hce]; exact hg _ _ _ _ _ _
  have pt : PTs ((X.blk s3 H3 scope ce fp).wish Z) ifs (tTs g (fun cls d _ H' => W cls d σ H') mc) := by rw [← hce]; exact ht _ _ _ _ _ _ _ (by rw [hce]; exact tkY)
  have pe : PE ((X.blk s3 H3 scope ce fp).wish Z) elt (tE g (fun cls d _ H' => W cls d σ H') me) := by rw [← hce]; exact he _ _ _ _ _ _ _ (by rw [hce]; exact tkY)
  have stat : ∀ {σ' : L2.St} {H' : Hp} {s' : Shared}, Inv ((X.blk s3 H3 scope ce fp).wish Z) [] σ' H' s' → (∀ b ∈ fp, H' b = none) → ∀ b ∈ fp, FpOk ((X.blk s3 H3 scope ce fp).wish Z) [] H' b := fun {σ' H' s'} I' hn b hb =>
    ⟨hn b hb, (I'.ok.exf b hb).1, I'.ok.exfs b hb, .inl hb, fun x c e => (I'.ok.exf b hb).2 x c e, fun p hp => absurd (show p ∈ ([] : List (Addr × Obj)) ++ [] from hp) (by simp)⟩
  have loop : codeAny (model X.prog X.w) X.A (.compLoop (.ListComp elt [⟨tg, iter, ifs, 0⟩] scope pos) 0 (.ref it) (.ref L) ce) (endC (model X.prog X.w) X.A X.xe (EP X pins σ Q) (.ref L) ce) s4 := by
    refine compLoop_any (fun n s' => ∃ i H', Inv ((X.blk s3 H3 scope ce fp).wish Z) [] (wipe σ (own.map (·.2))) H' s' ∧ tn i s'.heap ∧ (∀ b ∈ fp, H' b = none) ∧ n = ds.length - i ∧
      ∃ α' h', Ext (α1 ++ [L]) H3 α' H' ∧ Rep g α' h' H' ∧ PostE g W α' H' σ Q (lcLoop live f mc me (own.map (·.2)) τ h1.length (ds.drop i) h')) ?_ ds.length ⟨0, H3, I5, st4, nfp, by simp, α1 ++ [L], _, .refl, R2, PostE.mono p1 E2⟩
    rintro n s5 ⟨i, H5, J5, st5, n5, rfl, α', h', E', R', p'⟩
    rw [hZ]
    have EE := E2.trans E'
    have DD' := Den.ext E' _ _ D2
    by_cases hi : i < ds.length
    · have hd : ds.drop i = ds[i] :: ds.drop (i + 1) := by rw [List.drop_eq_getElem_cons hi]
      have hgi : ds[i]? = some ds[i] := List.getElem?_eq_getElem hi
      rw [hd] at p'
      simp only [lcLoop] at p'
      split at p'
      · rename_i hl
        have ti := T.item ((X.blk s3 H3 scope ce fp).wish Z) rfl rfl rfl hc i [] s5 _ H5 Z J5 (stat J5 n5) st5 (go α' H5 h' EE R' hl i _ hgi)
        refine thn ti fun r s6 ⟨u, hr, h6⟩ => ?_
        subst hr
        refine thn h6 fun _ s7 ⟨x, H7, I7, r7, y7, st7, n7⟩ => ?_
        obtain ⟨E3, R3, D3⟩ := yld α' H5 h' x H7 EE R' hl i _ hgi y7
        have s3' : DenS g α' H7 (wipeD τ (own.map (·.2))) (wipe σ (own.map (·.2))) := wipe_wipeD ((sl1.ext EE).ext E3) _
        have I7' := I7.pinned (stat I7 n7) (T.obj _ _ st7)
        -- the turn's end
        have fin : ∀ {s' : Shared} {H' : Hp} {σ8 : L2.St}, Inv ((X.blk s3 H3 scope ce fp).wish Z) ([] ++ pinsAt fp s7.heap) σ8 H' s' → wipe σ8 (own.map (·.2)) = wipe σ (own.map (·.2)) → (∃ α' h', Ext (α1 ++ [L]) H3 α' H' ∧ Rep g α' h' H' ∧ PostE g W α' H' σ Q (lcLoop live f mc me (own.map (·.2)) τ h1.length (ds.drop (i + 1)) h')) →
            ∃ m, m < ds.length - i ∧ ∃ i H', Inv ((X.blk s3 H3 scope ce fp).wish Z) [] (wipe σ (own.map (·.2))) H' s' ∧ tn i s'.heap ∧ (∀ b ∈ fp, H' b = none) ∧ m = ds.length - i ∧
              ∃ α' h', Ext (α1 ++ [L]) H3 α' H' ∧ Rep g α' h' H' ∧ PostE g W α' H' σ Q (lcLoop live f mc me (own.map (·.2)) τ h1.length (ds.drop i) h') := fun {s' H' σ8} I' hw8 k => by
          have pin' : ∀ b ∈ fp, ∀ o, s7.heap.get? b = some o → s'.heap.get? b = some o ∧ H' b = none := fun b hb o e =>
            let z := I'.pin (b, o) (List.mem_append_right _ (List.mem_append_right _ (mem_pinsAt hb e)))
            ⟨z.1, z.2.1⟩
          have hl : (wipe σ (own.map (·.2))).length = σ8.length := by rw [← hw8, wipe_length]
          refine ⟨ds.length - (i + 1), by omega, i + 1, H', (I'.unpinned (pins := [])).weak hl (fun j v e => ?_), T.keep _ _ _ st7 fun b hb o e => (pin' b hb o e).1, fun b hb => ?_, rfl, k⟩
          · rw [← hw8] at e
            exact (wipe_some e).1
          · obtain ⟨o, e, _⟩ := T.obj _ _ st7 b hb
            exact (pin' b hb o e).2
        split at p'
        · rename_i τ4 h4 e4
          have p4 := PostE.mono p' E3
          have stp : t x (wipe σ (own.map (·.2))) H7 fun σ8 H8 => wipe σ8 (own.map (·.2)) = wipe σ (own.map (·.2)) ∧ ∃ α4, Ext α' H7 α4 H8 ∧ Rep g α4 h4 H8 ∧ DenS g α4 H8 τ4 σ8 := by
            refine ot x _ H7 _ (rg W α' h' H7 _ _ x _ _ R3 s3' D3 ?_)
            rw [e4]
            exact fun α4 H4 σ4 E4 R4 s4 hw => ⟨by rw [hw, wipe_wipe], α4, E4, R4, s4⟩
          refine thn (pg.run _ s7 _ H7 x u _ I7' r7 stp) fun _ s8 ⟨σ8, H8, I8, hw8, α4, E4, R4, sl4⟩ => ?_
          have p5 := PostE.mono p4 E4
          have EE4 := (E'.trans E3).trans E4
          -- behind the tests
          have after : ∀ (k : Bool) (α5 : List Addr) (h5 : AH) (H9 : Hp) (s9 : Shared), Inv ((X.blk s3 H3 scope ce fp).wish Z) ([] ++ pinsAt fp s7.heap) σ8 H9 s9 → Ext α4 H8 α5 H9 → Rep g α5 h5 H9 → PostE g W α5 H9 σ Q (match DD.D.bl k with
              | .bl true => (me τ4 h5).bind fun y h3 => match h3[h1.length]? with
                | some (.lst acc) => if acc.length < sizeLine then lcLoop live f mc me (own.map (·.2)) τ h1.length (ds.drop (i + 1)) (h3.set h1.length (.lst (acc ++ [y]))) else .bad
                | _ => .bad
              | .bl false => lcLoop live f mc me (own.map (·.2)) τ h1.length (ds.drop (i + 1)) h5
              | _ => .bad) → (if k = true then wpAny (model X.prog X.w) X.A (eval elt ce) (fun x s₄ => wpAny (model X.prog X.w) X.A (call (.builtin "list.append") [.ref L, x]) (fun _ s₅ => ∃ m, m < ds.length - i ∧ ∃ i H', Inv ((X.blk s3 H3 scope ce fp).wish Z) [] (wipe σ (own.map (·.2))) H' s₅ ∧ tn i s₅.heap ∧ (∀ b ∈ fp, H' b = none) ∧ m = ds.length - i ∧
              ∃ α' h', Ext (α1 ++ [L]) H3 α' H' ∧ Rep g α' h' H' ∧ PostE g W α' H' σ Q (lcLoop live f mc me (own.map (·.2)) τ h1.length (ds.drop i) h')) Z s₄) Z s9
                else ∃ m, m < ds.length - i ∧ ∃ i H', Inv ((X.blk s3 H3 scope ce fp).wish Z) [] (wipe σ (own.map (·.2))) H' s9 ∧ tn i s9.heap ∧ (∀ b ∈ fp, H' b = none) ∧ m = ds.length - i ∧
              ∃ α' h', Ext (α1 ++ [L]) H3 α' H' ∧ Rep g α' h' H' ∧ PostE g W α' H' σ Q (lcLoop live f mc me (own.map (·.2)) τ h1.length (ds.drop i) h')) := by
            intro k α5 h5 H9 s9 I9 E5 R5 p6
            cases k with
            | false => exact iteF (fin I9 hw8 ⟨α5, h5, EE4.trans E5, R5, p6⟩)
            | true =>
              refine iteT ?_
              refine thn (pe.run _ s9 σ8 H9 _ I9 ⟨α5, h5, τ4, R5, sl4.ext E5, PostE.bind (PostE.rebase p6)⟩) fun z s10 ⟨yv, H10, I10, r10, α6, dy, h6, E6, R6, D6, p7⟩ => ?_
              split at p7
              · rename_i acc hacc
                split at p7
                · rename_i hz
                  have DD6 := Den.ext E6 _ _ (Den.ext E5 _ _ (Den.ext E4 _ _ (Den.ext E3 _ _ DD')))
                  cases DD6 with
                  | ref hl6 =>
                    obtain ⟨ws, a1, a2⟩ := R6.ob _ _ _ hacc hl6
                    obtain ⟨b1, b2⟩ := put_list R6 hl6 a1 (a2.snoc D6)
                    refine app_ok (X := (X.blk s3 H3 scope ce fp).wish Z) I10 a1 (by rw [← a2.length]; exact hz) r10 fun s11 I11 => fin I11 hw8 ⟨α6, _, ((EE4.trans E5).trans E6).trans b2, b1, ?_⟩
                    have p8 := PostE.mono p7 b2
                    revert p8
                    generalize lcLoop live f mc me (own.map (·.2)) τ h1.length (ds.drop (i + 1)) (h6.set h1.length (.lst (acc ++ [dy]))) = oo
                    intro p8
                    cases oo with
                    | ok d h => exact p8
                    | exc c h => exact p8
                    | bad => exact p8
                · exact p7.elim
              · exact p7.elim
          cases mc with
          | none =>
            refine thn (pt.run _ s8 σ8 H8 (fun b H9 => b = true ∧ H9 = H8) I8 ⟨rfl, rfl⟩) fun b s9 ⟨H9, I9, q9⟩ => ?_
            obtain ⟨rfl, rfl⟩ := q9
            exact after true α4 h4 H9 s9 I9 .refl R4 p5
          | some c =>
            have rd : tTs g (fun cls d _ H' => W cls d σ H') (some c) σ8 H8 (fun b H9 => ∃ α5 h5, Ext α4 H8 α5 H9 ∧ Rep g α5 h5 H9 ∧ PostE g W α5 H9 σ Q (match DD.D.bl b with
              | .bl true => (me τ4 h5).bind fun y h3 => match h3[h1.length]? with
                | some (.lst acc) => if acc.length < sizeLine then lcLoop live f (some c) me (own.map (·.2)) τ h1.length (ds.drop (i + 1)) (h3.set h1.length (.lst (acc ++ [y]))) else .bad
                | _ => .bad
              | .bl false => lcLoop live f (some c) me (own.map (·.2)) τ h1.length (ds.drop (i + 1)) h5
              | _ => .bad)) := by
              show tT g _ c σ8 H8 _
              refine ⟨α4, h4, τ4, R4, sl4, PostE.imp (PostE.rebase (PostE.bind p5)) ?_⟩
              rintro z H5 ⟨α5, dz, h5, E5, R5, D5, p6⟩
              cases D5 <;> try exact False.elim p6
              rename_i k
              exact ⟨k, rfl, α5, h5, E5, R5, p6⟩
            refine thn (pt.run _ s8 σ8 H8 _ I8 rd) fun b s9 ⟨H9, I9, α5, h5, E5, R5, p6⟩ => ?_
            exact after b α5 h5 H9 s9 I9 E5 R5 p6
        · exact p'.elim
      · exact p'.elim
    · have hd : ds.drop i = [] := List.drop_eq_nil_of_le (by omega)
      rw [hd] at p'
      simp only [lcLoop] at p'
      split at p'
      · rename_i hl
        have td := T.done ((X.blk s3 H3 scope ce fp).wish Z) rfl rfl rfl hc i [] s5 _ H5 Z J5 (stat J5 n5) st5 (stop α' H5 h' EE R' hl i (by omega))
        refine thn td fun r s6 ⟨hr, I6⟩ => ?_
        subst hr
        have I7 : Inv X pins σ H5 s6 := I3.call' (ch := fp) I6.os I6.base I6.hok I6.bare fun b hb => ⟨(f3 b hb).1.2.2.2.1, (f3 b hb).1.2.1, (f3 b hb).1.2.2.2.2.1, (f3 b hb).1.2.2.2.2.2⟩
        have nC : H5 ce.locals = none := I6.free
        obtain ⟨m, hn, _⟩ := I6.loc
        have fC : FpOk X pins H5 ce.locals := I3.fpOk (Nat.le_of_eq cL.symm) nC
        obtain ⟨f0, f1, f2', f3', f4, f5⟩ := fC
        refine ⟨m, hn, fun h'' sb => ⟨.ref L, H5, I7.turned (t' := s6.toks) (fun b o hb e => (sb.2 b hb).trans e) f0 f1 f3' f4 f5, rfl, p' α' H5 _ .refl R' DD'⟩⟩
      · exact p'.elim
  exact codeAny_compStart_list loop (T.self X.A 0 _ _ _ st4 loop)
end
end DD
end

section
set_option Elab.async false
set_option linter.all false
set_option maxRecDepth 100000
set_option maxHeartbeats 2000000
namespace DD
open PySem L2
/-! ### more built-ins: str, more walks: zip, enumerate, range of two -/
def strF : List D → AH → EO
  | [.int i], h => if i.natAbs.log2 < 1920 then .ok (.str (toString i)) h else .bad
  | [.str x], h => .ok (.str x) h
  | [.bl b], h => .ok (.str (if b then "True" else "False")) h
  | [.non], h => .ok (.str "None") h
  | _, _ => .bad
def rStrAny : List V → Hp → VK → Prop := fun xs H Q => (∃ i, xs = [.int i] ∧ i.natAbs.log2 < 1920 ∧ Q (.str (toString i)) H) ∨ (∃ a, xs = [.str a] ∧ Q (.str a) H) ∨ (∃ b : Bool, xs = [.bl b] ∧ Q (.str (if b then "True" else "False")) H) ∨ (xs = [.non] ∧ Q (.str "None") H)
section
variable {X : Cx} {g : G} {W : WX} {a b c e o elt : Expr} {es : List Expr} {ma mb mo me : EM} {mc : Option EM} {m : LM} {pos p apos cpos : Pos} {σ : L2.St} {H H' : Hp} {Q : VK} {Dn : Ends} {α α' : List Addr} {τ : SL} {sa sb : SM} {st : Stmt} {rest : List Stmt} {body : List Stmt} {tg iter : Expr}
theorem call_strAny : CallR X (.type "str") rStrAny := by
  intro pins s σ H xs us Q I r h
  rcases h with h | h | ⟨b, rfl, q⟩ | ⟨rfl, q⟩
  · exact call_str_int pins s σ H xs us Q I r h
  · exact SkE.call_str_str pins s σ H xs us Q I r h
  · obtain ⟨u, rfl, r1⟩ := vals1 r
    cases r1
    exact PySem.P.str_of_bool ⟨.str _, H, I.tok _, ⟨_, rfl⟩, q⟩
  · obtain ⟨u, rfl, r1⟩ := vals1 r
    cases r1
    exact PySem.P.str_of_none ⟨.str _, H, I.tok _, ⟨_, rfl⟩, q⟩
theorem rs_str : RSn g W rStrAny strF := by
  intro α h H σ vs ds Q R hd p
  cases hd with
  | nil => exact p.elim
  | cons h1 h2 =>
    cases h2 with
    | cons _ _ => cases h1 <;> exact False.elim p
    | nil =>
      cases h1 <;> try exact False.elim p
      · exact .inr (.inr (.inr ⟨rfl, p α H _ .refl R (.str _)⟩))
      · exact .inr (.inr (.inl ⟨_, rfl, p α H _ .refl R (.str _)⟩))
      · simp only [strF] at p
        split at p
        · rename_i hi
          exact .inl ⟨_, rfl, hi, p α H _ .refl R (.str _)⟩
        · exact p.elim
      · exact .inr (.inl ⟨_, rfl, p α H _ .refl R (.str _)⟩)
end
end DD
end

section
set_option Elab.async false
set_option linter.all false
set_option maxRecDepth 100000
set_option maxHeartbeats 2000000
namespace DD
open PySem L2 PySem.Spec PyProof.Rows
/-! ### a tuple by 0, by 1 -/
theorem tuple_mul1 (l : Addr) (items : Array Value) (n : Nat) (dd : Option Addr) (sl : Array (Option Value)) (u : Tok) :
    Meets (Builtin.«tuple.__mul__» ⟨[.ref l, .int 1 u], []⟩) (fun _ R s => s.heap.get? l = some { cls := .type "tuple", dict := dd, data := .seq items n, slots := sl } ∧
      R (.ok (.ret (Value.ref l))) s) :=
  .of_wp fun prog w A R s h => by
    obtain ⟨hp, g, d, tk, os⟩ := s
    obtain ⟨hl, h⟩ := h
    have f1 := AutoSeq1.idx_int
    wp_walk using wpAny_loadPart' hl
    exact ⟨_, rfl, h⟩
theorem tuple_mul0 (l : Addr) (items : Array Value) (n : Nat) (dd : Option Addr) (sl : Array (Option Value)) (u : Tok) (hi : items.isEmpty = false) :
    Meets (Builtin.«tuple.__mul__» ⟨[.ref l, .int 0 u], []⟩) (fun _ R s => s.heap.get? l = some { cls := .type "tuple", dict := dd, data := .seq items n, slots := sl } ∧
      R (.ok (.ret (Value.ref s.heap.objs.size))) { s with heap := s.heap.push { cls := Value.type "tuple", data := Data.seq #[] }, toks := s.toks }) :=
  .of_wp fun prog w A R s h => by
    obtain ⟨hp, g, d, tk, os⟩ := s
    obtain ⟨hl, h⟩ := h
    have f1 := AutoSeq1.idx_int
    have c1 : (items.isEmpty || (0 : Int) == 1) = false := by rw [hi]; rfl
    wp_walk using wpAny_loadPart' hl
    exact ⟨_, rfl, h⟩
def rRep01 (K : PySem.W.Frag) : R2 := fun x y H Q => ∃ l k xs, x = .ref l ∧ y = .int k ∧ SqT K H l xs ∧ xs ≠ [] ∧ ((k = 1 ∧ Q (.ref l) H) ∨ (k = 0 ∧ ∀ p, H p = none → Q (.ref p) (upd H p (.tup []))))
theorem op_rep01 {X : Cx} : OpR X (binaryOp .Mult) (rRep01 X.K) := by
  intro pins s σ H x y v u Q I rx ry h
  obtain ⟨l, k, xs, rfl, rfl, hT, hne, q⟩ := h
  cases rx
  obtain ⟨t, rfl⟩ := ry
  have hT' := hT
  obtain ⟨its, r, ⟨⟨cls, dd, data, sl⟩, ho, hc, n, hd⟩, hs⟩ := I.tuple hT
  simp only at hc hd
  subst hc hd
  have hn : its ≠ [] := fun e => hne (by
    have hle : its.length = xs.length := r.length.symm
    rw [e] at hle
    exact List.eq_nil_of_length_eq_zero hle.symm)
  have hi : its.toArray.isEmpty = false := by
    cases its with
    | nil => exact absurd rfl hn
    | cons a b => rfl
  rcases q with ⟨rfl, q⟩ | ⟨rfl, q⟩
  · exact wpAny_binaryOp_repeat_ref (T := "tuple") (U := "int") (by decide) ⟨_, ho, rfl⟩ (fun s' => typeIs_int s' 1 t) noFill_tuple_mul F.fills_int_mul F.slot_int_rmul repeat_tuple F.slot_int_index.lookup
      (call_meets F.slot_int_rmul (typeIs_int s 1 t) F.entry_int_rmul (F.args_int_rmul_2 _ _) (int_rmul_tuple 1 t l its.toArray n dd sl)
        ⟨ho, rfl, ⟨_, ho, rfl⟩, call_meets F.slot_tuple_mul ⟨_, ho, rfl⟩ F.entry_tuple_mul (F.args_tuple_mul_2 _ _) (tuple_mul1 l its.toArray n dd sl t) ⟨ho, ⟨.ref l, H, I, rfl, q⟩⟩⟩)
  · refine wpAny_binaryOp_repeat_ref (T := "tuple") (U := "int") (by decide) ⟨_, ho, rfl⟩ (fun s' => typeIs_int s' 0 t) noFill_tuple_mul F.fills_int_mul F.slot_int_rmul repeat_tuple F.slot_int_index.lookup
      (call_meets F.slot_int_rmul (typeIs_int s 0 t) F.entry_int_rmul (F.args_int_rmul_2 _ _) (int_rmul_tuple 0 t l its.toArray n dd sl)
        ⟨ho, rfl, ⟨_, ho, rfl⟩, call_meets F.slot_tuple_mul ⟨_, ho, rfl⟩ F.entry_tuple_mul (F.args_tuple_mul_2 _ _) (tuple_mul0 l its.toArray n dd sl t hi) ⟨ho, ?_⟩⟩)
    refine ⟨.ref s.heap.objs.size, _, I.laid (t' := s.toks) (o := .tup []) (fun b ob q => Heap.get?_push_of_some _ q) (Nat.le_refl _) ?_, rfl, q _ (I.hok.fresh (Nat.le_refl _))⟩
    exact ⟨by decide +kernel, [], .nil, IsTup.new _ #[]⟩
/-! ### * -/
def CMb' (i j : Int) : Bool := decide (i.natAbs < 2 ^ 64) || decide (j.natAbs < 2 ^ 64) || decide (i.natAbs.log2 + j.natAbs.log2 < 1000000)
def mulM : D → D → AH → EO
  | .int i, .int j, h => if CMb' i j = true then .ok (.int (i * j)) h else .bad
  | .tup ds, .int k, h => if ds.isEmpty = true then .bad else if k = 1 then .ok (.tup ds) h else if k = 0 then .ok (.tup []) h else if k < 0 ∨ 1000 < k ∨ 1000 < ds.length then .bad else .ok (.tup (List.replicate k.toNat ds).flatten) h
  | _, _, _ => .bad
def rMulAny (K : PySem.W.Frag) : R2 := fun x y H Q => rI CMul (fun i j => .int (i * j)) x y H Q ∨ rI CMulW (fun i j => .int (i * j)) x y H Q ∨ rRep01 K x y H Q ∨ rRepT K x y H Q
section
variable {X : Cx} {g : G} {W : WX} {a b c e o elt : Expr} {es : List Expr} {ma mb mo me : EM} {mc : Option EM} {m : LM} {pos p apos cpos : Pos} {σ : L2.St} {H H' : Hp} {Q : VK} {Dn : Ends} {α α' : List Addr} {τ : SL} {sa sb : SM} {st : Stmt} {rest : List Stmt} {body : List Stmt} {tg iter : Expr}
theorem op_mulAny : OpR X (binaryOp .Mult) (rMulAny X.K) := OpR.or op_mul (OpR.or op_mulW (OpR.or op_rep01 op_repT))
theorem DenL.rep {ds : List D} {vs : List V} (h : DenL g α H ds vs) : ∀ (n : Nat), DenL g α H (List.replicate n ds).flatten (List.replicate n vs).flatten
  | 0 => .nil
  | n + 1 => by simp only [List.replicate_succ, List.flatten_cons]; exact h.append (h.rep n)
theorem rs_mul : RS2 g W (rMulAny g.K) mulM := by
  intro α h H σ x y dx dy Q R hx hy p
  cases hx <;> cases hy <;> try exact False.elim p
  · rename_i i j
    simp only [mulM] at p
    split at p
    · rename_i hc
      unfold CMb' at hc
      rw [Bool.or_eq_true, Bool.or_eq_true, decide_eq_true_eq, decide_eq_true_eq, decide_eq_true_eq] at hc
      rcases hc with (hc | hc) | hc
      · exact .inl ⟨i, j, rfl, rfl, .inl (by omega), p α H _ .refl R (.int _)⟩
      · exact .inl ⟨i, j, rfl, rfl, .inr (by omega), p α H _ .refl R (.int _)⟩
      · exact .inr (.inl ⟨i, j, rfl, rfl, hc, p α H _ .refl R (.int _)⟩)
    · exact p.elim
  · rename_i l ds vs hs hl k
    simp only [mulM] at p
    split at p
    · exact p.elim
    · rename_i hne
      have hv : vs ≠ [] := fun e => by
        subst e
        cases hl
        exact hne rfl
      split at p
      · rename_i hk
        exact .inr (.inr (.inl ⟨l, k, _, rfl, rfl, hs, hv, .inl ⟨hk, p α H _ .refl R (.tup hs hl)⟩⟩))
      · split at p
        · rename_i hk
          refine .inr (.inr (.inl ⟨l, k, _, rfl, rfl, hs, hv, .inr ⟨hk, fun z hz => ?_⟩⟩))
          obtain ⟨a1, a2, a3⟩ := new_tup R DenL.nil hz
          exact p _ _ _ a2 a1 a3
        · split at p
          · exact p.elim
          · rename_i n1 n0 nb
            refine .inr (.inr (.inr ⟨l, k, _, rfl, rfl, hs, hv, by omega, by omega, ?_, fun z hz => ?_⟩))
            · have := hl.length
              omega
            · obtain ⟨a1, a2, a3⟩ := new_tup R (DenL.rep hl k.toNat) hz
              exact p _ _ _ a2 a1 a3

/-! ### a lambda told: try: return what() / except E: return 'E' -/
def toldM (c : Nat → Option Bool) (ret : Str) (mb : EM) : EM := fun τ h => match mb τ h with
  | .ok d h' => .ok d h'
  | .exc i h' => match c i with
    | some true => .ok (.str ret) h'
    | _ => .bad
  | .bad => .bad
theorem Ext.ofN {H1 : Hp} (e : LamX.ExtN H H1) : Ext α H α H1 := by
  refine ⟨fun _ _ h => h, fun b xs r => ?_, fun b o xs q => e b _ q fun ps z => by cases z⟩
  rcases r with r | ⟨ob, r⟩
  · exact .inl (e b _ r fun ps z => by cases z)
  · exact .inr ⟨ob, e b _ r fun ps z => by cases z⟩
theorem Rep.extN {h : AH} {H1 : Hp} (R : Rep g α h H) (e : LamX.ExtN H H1) (t : LamX.Tabs g.T H1) : Rep g α h H1 := by
  refine ⟨R.len, R.nd, t, fun l o a h1 h2 => ?_⟩
  have x := R.ob l o a h1 h2
  obtain ⟨z, e1, e2⟩ := x.some_of
  refine x.ext (Ext.ofN e) ?_
  rw [e1]
  exact e a z e1 fun ps y => by subst y; exact e2
theorem lam_takes {A : Around} {outer : List Env} {s : Shared} {E : XK} {scope : Scope} {f c' : Addr} : Takes (LamX.lamCx X A outer s H E scope f c') (fun cls d _ H => E cls d H) :=
  takes_of (X := LamX.lamCx X A outer s H E scope f c') rfl rfl rfl rfl
/-- x(lambda: body) where x tells -/
theorem de_told {x a e' : Str} {fg c P CS : Addr} {k : Nat} {pg : Arguments} {sg : Scope} {dV kV doc pm cdv ct oc : Value} {an od : Option Addr} {osl : Array (Option Value)} {Ng : List Str}
    {params : Arguments} {body : Expr} {scope : Scope} {lpos : Pos} {ret : Str} {ci : Nat → Option Bool} {mb : EM} {j : Nat} {p1 p2 p3 p4 p5 p6 p7 p8 : Pos}
    (hcl : ∀ i b, ci i = some b → PySem.W.exmOne X.K (.ref (g.cl i)) (.ref CS) = some b)
    (hge : sg.names.lookup e' = some .globalImplicit) (hme : X.mg e' = some (.ref CS)) (hde : (e' == ("__debug__" : Str)) = false) (h0 : ∀ f : Addr, (L2.start Ng [V.ref f])[0]? = some (some (V.ref f)))
    (hg : Gl X x) (hm : X.mg x = some (.ref fg)) (hk : PySem.W.keepIn X.K (.ref fg) = true)
    (lk : X.K.lookup fg = some ⟨oc, od, .func (PySem.W.fnOf x x pg [.Try [.Return (some (.Call (.Name a p1) [] [] p2)) p3] [.ExceptHandler (some (.Name e' p4)) none [.Return (some (.Constant (.str ret) j p5)) p6] p7] [] [] p8] sg dV kV doc pm an cdv ct), osl⟩) (hcg : PySem.W.codeIn X.K cdv x = true)
    (hb : L2.Binds X.K (PySem.W.fnOf x x pg [.Try [.Return (some (.Call (.Name a p1) [] [] p2)) p3] [.ExceptHandler (some (.Name e' p4)) none [.Return (some (.Constant (.str ret) j p5)) p6] p7] [] [] p8] sg dV kV doc pm an cdv ct) [a] []) (Sg : FnScope Ng [a] sg) (hNg : Ng[0]? = some a) (hva : Vis sg a)
    (TB : LamX.TabB X.base X.mg c P) (hcode : X.env.code = .ref c) (hmT : (P, X.env.qual ++ "<lambda>") ∈ g.T) (hu : ∀ p ∈ g.T, p.1 = P → p.2 = X.env.qual ++ "<lambda>") (hr : Room (k + 2) X.A) (L : LamX.LamS X.env.scope scope) (hdef : defaultsOf params X.env = ([], []))
    (hbind : ∀ (q : Str) (cl : List (Str × Addr)) (pm cv ctv : Value), bindArgs (PySem.W.kla_fn "<lambda>" q params body scope cl pm cv ctv) ⟨[], []⟩ = pure [])
    (hbody : ∀ (A : Around) (outer : List Env) (s : Shared) (H : Hp) (E : XK) (f c' : Addr), Room k (A.deeper (LamX.lamEnv X scope s.heap.objs.size f c')) → PE (LamX.lamCx X A outer s H E scope f c') body (tE g (fun cls d _ H => E cls d H) mb))
    (hdb : (x == ("__debug__" : Str)) = false := by decide) (hd : (a == ("__debug__" : Str)) = false := by decide) (hcd : (a == ("__classdict__" : Str)) = false := by decide) :
    PE X (.Call (.Name x p) [.Lambda params body scope lpos] [] pos) (tE g W (toldM ci ret mb)) := by
  refine PE.imp (LamX.pe_lamcall (t := fun E => tE g (fun cls d _ H => E cls d H) mb) hg hm hk lk hcg hb Sg hNg hva (LamX.told_gives hge hme hde h0) TB hcode hmT hu hr L hdef hbind hbody hdb hd hcd) fun σ H Q q => ?_
  obtain ⟨α, h, τ, R, s, q⟩ := q
  refine ⟨R.tabs, fun H1 e T1 => ?_⟩
  refine ⟨α, h, τ, R.extN e T1, s.ext (Ext.ofN e), ?_⟩
  have q := PostE.mono q (Ext.ofN (α := α) e)
  unfold toldM at q
  cases em : mb τ h with
  | ok d h' => rw [em] at q; exact q
  | exc i h' =>
    rw [em] at q
    simp only at q
    split at q
    · rename_i hc
      intro α' H' e' R'
      exact ⟨true, hcl i true hc, fun _ => q α' H' _ e' R' (.str _), fun z => by cases z⟩
    · exact q.elim
  | bad => rw [em] at q; exact q.elim
end
end DD
end

section
set_option Elab.async false
set_option linter.all false
set_option maxRecDepth 100000
set_option maxHeartbeats 2000000
namespace DD
open PySem L2
/-! ### short words -/
def negF : D → AH → EO
  | .int i, h => .ok (.int (-i)) h
  | _, _ => .bad
section
variable {X : Cx} {g : G} {W : WX} {a b c e o elt : Expr} {es : List Expr} {ma mb mo me : EM} {mc : Option EM} {m : LM} {pos p apos cpos : Pos} {σ : L2.St} {H H' : Hp} {Q : VK} {Dn : Ends} {α α' : List Addr} {τ : SL} {sa sb : SM} {st : Stmt} {rest : List Stmt} {body : List Stmt} {tg iter : Expr}
theorem rs_neg : RS1 g W (rU fun i => .int (-i)) negF := by
  intro α h H σ x dx Q R hx p
  cases hx <;> try exact False.elim p
  exact ⟨_, rfl, p α H _ .refl R (.int _)⟩
theorem dk_int {i : Int} {j : Nat} : PE X (.Constant (.int i) j pos) (tE g W (cM (.int i))) := de_c (fun _ _ => .int _) pe_int
theorem dk_str {i : Str} {j : Nat} : PE X (.Constant (.str i) j pos) (tE g W (cM (.str i))) := de_c (fun _ _ => .str _) pe_str
theorem dk_bl {i : Bool} {j : Nat} : PE X (.Constant (.bool i) j pos) (tE g W (cM (.bl i))) := de_c (fun _ _ => .bl _) pe_bl
theorem dk_non {j : Nat} : PE X (.Constant .none j pos) (tE g W (cM .non)) := de_c (fun _ _ => .non) pe_non
theorem dg_int {x : Str} {i : Int} (hm : ∃ t, X.mg x = some (.int i t)) (hg : Gl X x := by rfl) (hd : (x == ("__debug__" : Str)) = false := by decide) : PE X (.Name x pos) (tE g W (cM (.int i))) := by
  obtain ⟨t, hm⟩ := hm
  exact de_c (fun _ _ => .int _) (pe_glob hg hm ⟨t, rfl⟩ hd)
theorem dg_str {x : Str} {i : Str} (hm : ∃ t, X.mg x = some (.str i t)) (hg : Gl X x := by rfl) (hd : (x == ("__debug__" : Str)) = false := by decide) : PE X (.Name x pos) (tE g W (cM (.str i))) := by
  obtain ⟨t, hm⟩ := hm
  exact de_c (fun _ _ => .str _) (pe_glob hg hm ⟨t, rfl⟩ hd)
theorem dv (i : Nat) {x : Str} (hN : X.N[i]? = some x := by rfl) (hv : Vis X.env.scope x := by first | exact Or.inl rfl | exact Or.inr (Or.inl rfl) | exact Or.inr (Or.inr rfl)) (hd : (x == ("__debug__" : Str)) = false := by decide)
    (hcd : (x == ("__classdict__" : Str)) = false := by decide) : PE X (.Name x pos) (tE g W (varM i)) := de_var (pe_var hN hv hd hcd)
/-- xs.append(e) -/
theorem d_append (ho : PE X o (tE g W mo)) (ha : PA X [e] (tL g W m))
    (hbase : attributeBase o "append" X.env (eval o X.env) = eval o X.env := by rfl)
    (hfew : ((backTo cpos (starEach [e] X.env)).all (fun x => !x.1) && (backToKw cpos (keywordEach [] X.env)).all (fun x => x.1.isSome)
      && decide (([e] : List Expr).length + ([] : List Keyword).length + (if ([] : List Keyword).isEmpty then 0 else 1) < 30)) = true := by rfl)
    (hline : (apos.endLine == cpos.line) = true := by rfl) (hs : starEach [e] X.env = (false, eval e X.env) :: starEach [] X.env := by rfl) (hplain : (backTo cpos (starEach [] X.env)).any (·.1) = false := by rfl) :
    PE X (.Call (.Attribute o "append" apos) [e] [] cpos) (tE g W (bmM mo m appendF)) :=
  de_bm PySem.F.plainAttrs_list PySem.F.slot_list_append PySem.F.type_list_append mt_append rs_append ho ha hbase hfew hline hs hplain
theorem d_extend (hK : g.K = X.K) (ho : PE X o (tE g W mo)) (ha : PA X [e] (tL g W m))
    (hbase : attributeBase o "extend" X.env (eval o X.env) = eval o X.env := by rfl)
    (hfew : ((backTo cpos (starEach [e] X.env)).all (fun x => !x.1) && (backToKw cpos (keywordEach [] X.env)).all (fun x => x.1.isSome)
      && decide (([e] : List Expr).length + ([] : List Keyword).length + (if ([] : List Keyword).isEmpty then 0 else 1) < 30)) = true := by rfl)
    (hline : (apos.endLine == cpos.line) = true := by rfl) (hs : starEach [e] X.env = (false, eval e X.env) :: starEach [] X.env := by rfl) (hplain : (backTo cpos (starEach [] X.env)).any (·.1) = false := by rfl) :
    PE X (.Call (.Attribute o "extend" apos) [e] [] cpos) (tE g W (bmM mo m extendF)) :=
  de_bm PySem.F.plainAttrs_list PySem.F.slot_list_extend PySem.F.type_list_extend mt_extAny (by rw [← hK]; exact rs_extend) ho ha hbase hfew hline hs hplain
theorem d_find (ho : PE X o (tE g W mo)) (he : PE X e (tE g W ma))
    (hs : starEach [e] X.env = [(false, eval e X.env)] := by rfl) (hbase : attributeBase o "find" X.env (eval o X.env) = eval o X.env := by rfl) (hline : (apos.endLine == pos.line) = true := by rfl) :
    PE X (.Call (.Attribute o "find" apos) [e] [] pos) (tE g W (smM mo ma findS)) :=
  de_sm PySem.F.slot_str_find PySem.F.type_str_find mt_find rs_find ho he hs hbase hline
theorem d_join (hK : g.K = X.K) (ho : PE X o (tE g W mo)) (he : PE X e (tE g W ma))
    (hs : starEach [e] X.env = [(false, eval e X.env)] := by rfl) (hbase : attributeBase o "join" X.env (eval o X.env) = eval o X.env := by rfl) (hline : (apos.endLine == pos.line) = true := by rfl) :
    PE X (.Call (.Attribute o "join" apos) [e] [] pos) (tE g W (smM mo ma joinS)) :=
  de_sm PySem.F.slot_str_join PySem.F.type_str_join mt_join (by rw [← hK]; exact rs_join) ho he hs hbase hline
theorem d_len (hK : g.K = X.K) (hm : X.mg "len" = none) (ha : PE X e (tE g W ma)) (hg : Gl X "len" := by rfl) (hs : starEach [e] X.env = (false, eval e X.env) :: starEach [] X.env := by rfl) (hpl : (backTo pos (starEach [] X.env)).any (·.1) = false := by rfl) :
    PE X (.Call (.Name "len" p) [e] [] pos) (tE g W (callM (consM ma nilM) lenF)) :=
  de_callB call_lenAny (by rw [← hK]; exact rs_len) hg hm PySem.boot_len (dl_cons ha dl_nil hs) (by decide) (by decide) hs hpl
/-! ### a def of the head -/
theorem fn_okD2 {P : Program} {w : World} {K : PySem.W.Frag} {mg : Str → Option Value} {base : Heap} {x qual : Str} {st : Stmt} {N ps : List Str} {m : SM} {dvs : List V} {kws : List (Str × V)} {k : Nat} {f : Addr} {fd : FuncData} (F : FunD K x qual (defArgs st) (defBody st) (defScope st) dvs kws f fd) (S : FnScope N ps (defScope st))
    (hb : ∀ (A : Around) (outer : List Env) (s : Shared) (H : Hp) (E : XK), Room k (A.deeper (PyProof.Rows.envOfC qual (defScope st) s.heap.objs.size f fd.code)) →
      PSs (cxOf (L2.CX P w) P w K mg base N qual (defScope st) f fd.code A outer s H E) (defBody st) (tS g (fun cls d _ H => E cls d H) m)) :
    FnOk P w K mg base (L2.CX P w) (k + 1) f fd ps (spD g ps.length fun ds h => retOf (m (startD N.length ds) h)) := by
  have hb' := hb
  obtain ⟨oc, od, dV, kV, doc, pm, an, cdv, ct, osl, e, lk, hcd, _, _⟩ := F.ex
  have ec : fd.code = cdv := by rw [e] <;> rfl
  rw [ec] at hb'
  subst e
  refine fn_of lk hcd S (fun vs H Q E q => ?_) fun A outer s H vs Q E hr q => ?_
  · obtain ⟨α, h, ds, _, dl, hn, _⟩ := q
    rw [← dl.length, hn]
  · obtain ⟨α, h, ds, R, dl, hn, q⟩ := q
    have q : PostE g (fun cls d _ H => E cls d H) α H [] Q (retOf (m (startD N.length ds) h)) := q
    refine ⟨_, hb' A outer s H E hr, α, h, startD N.length ds, R, den_start dl, ?_⟩
    cases e : m (startD N.length ds) h with
    | nx τ' h' => rw [e] at q; exact fun α' H' σ' E' R' s' => q α' H' .non E' R' .non
    | rt d h' => rw [e] at q; exact q
    | bk τ' h' => rw [e] at q; exact q.elim
    | ct τ' h' => rw [e] at q; exact q.elim
    | exc c τ' h' => rw [e] at q; exact fun α' H' σ' E' R' s' => q α' H' E' R'
    | bad => rw [e] at q; exact q.elim
/-- nothing is promised at the bottom of a recursion -/
theorem fn_bot {P : Program} {w : World} {K : PySem.W.Frag} {mg : Str → Option Value} {base : Heap} {CX : CXT} {k n : Nat} {f : Addr} {fd : FuncData} {ps : List Str} : FnOk P w K mg base CX k f fd ps (spD g n fun _ _ => .bad) :=
  ⟨fun vs H Q E q => by obtain ⟨_, _, _, _, _, _, z⟩ := q; exact z.elim, fun A outer s H args us vs Q E hr he hb hv q => by obtain ⟨_, _, _, _, _, _, z⟩ := q; exact z.elim⟩
end
/-! ### code objects of defs that make lambdas -/
def codeA (K : PySem.W.Frag) (p : Str × Option Str) : Addr := match K.lookup (He.fAd K p) with
  | some ⟨_, _, .func fd, _⟩ => (match fd.code with
    | .ref c => c
    | _ => 0)
  | _ => 0
def tabA (K : PySem.W.Frag) (p : Str × Option Str) : Addr := match K.lookup (codeA K p) with
  | some ⟨_, _, .fields vs, _⟩ => (match (vs[11]? : Option Value) with
    | some (.ref P) => P
    | _ => 0)
  | _ => 0
def lamB (K : PySem.W.Frag) (ts : List Addr) (p : Str × Option Str) : Bool := (match K.lookup (He.fAd K p) with
  | some ⟨_, _, .func fd, _⟩ => decide (fd.code = .ref (codeA K p))
  | _ => false) && PySem.W.codeHdIn K (codeA K p) (tabA K p) && decide (tabA K p ∈ ts) && (K.lookup (tabA K p)).isNone
theorem lamB_ok {K : PySem.W.Frag} {ts : List Addr} {p : Str × Option Str} (h : lamB K ts p = true) : (∀ x y par body sc dvs kws fd, FunD K x y par body sc dvs kws (He.fAd K p) fd → fd.code = .ref (codeA K p)) ∧ PySem.W.codeHdIn K (codeA K p) (tabA K p) = true ∧ tabA K p ∈ ts ∧ K.lookup (tabA K p) = none := by
  unfold lamB at h
  simp only [Bool.and_eq_true, decide_eq_true_eq, Option.isNone_iff_eq_none] at h
  obtain ⟨⟨⟨h1, h2⟩, h3⟩, h4⟩ := h
  refine ⟨fun x y par body sc dvs kws fd F => ?_, h2, h3, h4⟩
  obtain ⟨oc, od, dV, kV, doc, pm, an, cdv, ct, osl, e, lk, hcd, _, _⟩ := F.ex
  rw [lk] at h1
  simpa using h1
/-- the def's data at a place -/
def fdA (K : PySem.W.Frag) (p : Str × Option Str) : FuncData := match K.lookup (He.fAd K p) with
  | some ⟨_, _, .func fd, _⟩ => fd
  | _ => PySem.W.fnOf "" "" ⟨[], [], none, [], [], none, []⟩ [] { kind := .function, names := [], isGenerator := false, isCoroutine := false, more := [] } .none .none .none .none none .none .none
theorem fdA_ok {K : PySem.W.Frag} {p : Str × Option Str} {x q : Str} {par : Arguments} {body : List Stmt} {sc : Scope} {dvs : List V} {kws : List (Str × V)} (h : ∃ fd, FunD K x q par body sc dvs kws (He.fAd K p) fd) : FunD K x q par body sc dvs kws (He.fAd K p) (fdA K p) := by
  obtain ⟨fd, F⟩ := h
  obtain ⟨oc, od, dV, kV, doc, pm, an, cdv, ct, osl, e, lk, hcd, _, _⟩ := F.ex
  have : fdA K p = fd := by
    unfold fdA
    rw [lk] <;> rfl
  rw [this]
  exact F
theorem binds_allD {K : PySem.W.Frag} {x qual : Str} {params : Arguments} {body : List Stmt} {scope : Scope} {dvs : List V} {kws : List (Str × V)} {f : Addr} {fd : FuncData} {ps : List Str} (F : FunD K x qual params body scope dvs kws f fd)
    (h : ∀ (dV kV doc pm : Value) (an : Option Addr) (cdv ct : Value) (us : List Value), us.length = ps.length → bindArgs (PySem.W.fnOf x qual params body scope dV kV doc pm an cdv ct) ⟨us, []⟩ = pure (ps.zip us)) : Binds K fd ps [] := by
  obtain ⟨oc, od, dV, kV, doc, pm, an, cdv, ct, osl, rfl, lk, hcd, hD, hK⟩ := F.ex
  exact .all (h dV kV doc pm an cdv ct)
theorem fn_okD3 {P : Program} {w : World} {K : PySem.W.Frag} {mg : Str → Option Value} {base : Heap} {g : G} {x qual : Str} {st : Stmt} {N ps : List Str} {m : SM} {dvs : List V} {kws : List (Str × V)} {k n : Nat} {f : Addr} {fd : FuncData} {F : List D → AH → EO} (Fd : FunD K x qual (defArgs st) (defBody st) (defScope st) dvs kws f fd) (S : FnScope N ps (defScope st)) (hn : ps.length = n) (hF : F = fun ds h => retOf (m (startD N.length ds) h))
    (hb : ∀ (A : Around) (outer : List Env) (s : Shared) (H : Hp) (E : XK), Room k (A.deeper (PyProof.Rows.envOfC qual (defScope st) s.heap.objs.size f fd.code)) →
      PSs (cxOf (L2.CX P w) P w K mg base N qual (defScope st) f fd.code A outer s H E) (defBody st) (tS g (fun cls d _ H => E cls d H) m)) :
    FnOk P w K mg base (L2.CX P w) (k + 1) f fd ps (spD g n F) := by
  subst hn hF
  exact fn_okD2 Fd S hb
end DD
end

section
set_option Elab.async false
set_option linter.all false
set_option maxRecDepth 100000
set_option maxHeartbeats 2000000
/-! dicts, texts by a number, list(..) -/
namespace DD
open PySem L2
theorem u1 {n : Nat} (h : n + 64 < cLine) : n + 1 < cLine := Nat.lt_of_le_of_lt (Nat.add_le_add_left (by decide : 1 ≤ 64) _) h
/-! ### keys and entries -/
def keyD : D → Option Key
  | .int i => some (.inl i)
  | .str x => some (.inr x)
  | _ => none
def valK (kvs : List (Key × D)) (k : Key) : Option D := (kvs.find? fun kv => decide (kv.1 = k)).map (·.2)
def putKD (kvs : List (Key × D)) (k : Key) (d : D) : List (Key × D) :=
  if (kvs.any fun kv => decide (kv.1 = k)) = true then kvs.map fun kv => if kv.1 = k then (kv.1, d) else kv else kvs ++ [(k, d)]
def dropKD (kvs : List (Key × D)) (k : Key) : List (Key × D) := kvs.filter fun kv => decide (kv.1 ≠ k)
section
variable {g : G} {α : List Addr} {H : Hp} {d : D} {v : V} {k : Key} {kvs : List (Key × D)} {ws : List (Key × V)}
theorem keyD_den (e : keyD d = some k) (h : Den g α H d v) : v = kV k := by
  cases h <;> simp only [keyD, Option.some.injEq, reduceCtorEq] at e <;> subst e <;> rfl
/-- entries stand for entries -/
inductive DenK (g : G) (α : List Addr) (H : Hp) : List (Key × D) → List (Key × V) → Prop
  | nil : DenK g α H [] []
  | cons {k : Key} {d : D} {v : V} {kvs : List (Key × D)} {ws : List (Key × V)} : Den g α H d v → DenK g α H kvs ws → DenK g α H ((k, d) :: kvs) ((k, v) :: ws)
theorem DenK.of : ∀ {kvs : List (Key × D)} {ws : List (Key × V)}, ws.map (·.1) = kvs.map (·.1) → DenL g α H (kvs.map (·.2)) (ws.map (·.2)) → DenK g α H kvs ws
  | [], [], _, _ => .nil
  | [], _ :: _, e, _ => by simp at e
  | _ :: _, [], e, _ => by simp at e
  | (k, d) :: kvs, (j, v) :: ws, e, h => by
    simp only [List.map_cons, List.cons.injEq] at e
    obtain ⟨rfl, e⟩ := e
    cases h with
    | cons h1 h2 => exact .cons h1 (DenK.of e h2)
theorem DenK.to (h : DenK g α H kvs ws) : ws.map (·.1) = kvs.map (·.1) ∧ DenL g α H (kvs.map (·.2)) (ws.map (·.2)) := by
  induction h with
  | nil => exact ⟨rfl, .nil⟩
  | cons h1 h2 ih => exact ⟨by simp [ih.1], .cons h1 ih.2⟩
theorem DenK.len (h : DenK g α H kvs ws) : ws.length = kvs.length := by
  induction h with
  | nil => rfl
  | cons h1 h2 ih => simp [ih]
theorem DenK.val_some (h : DenK g α H kvs ws) (e : valK kvs k = some d) : ∃ v, valV ws k = some v ∧ Den g α H d v := by
  induction h with
  | nil => cases e
  | @cons j d' v' kvs ws h1 h2 ih =>
    by_cases q : j = k
    · unfold valK at e
      rw [List.find?_cons_of_pos (by simpa using q)] at e
      simp only [Option.map_some, Option.some.injEq] at e
      subst e
      exact ⟨v', valV_pos q, h1⟩
    · unfold valK at e
      rw [List.find?_cons_of_neg (by simpa using q)] at e
      obtain ⟨v, a, b⟩ := ih e
      exact ⟨v, by rw [valV_neg q]; exact a, b⟩
theorem DenK.val_none (h : DenK g α H kvs ws) (e : valK kvs k = none) : valV ws k = none := by
  induction h with
  | nil => rfl
  | @cons j d' v' kvs ws h1 h2 ih =>
    by_cases q : j = k
    · unfold valK at e
      rw [List.find?_cons_of_pos (by simpa using q)] at e
      cases e
    · unfold valK at e
      rw [List.find?_cons_of_neg (by simpa using q)] at e
      rw [valV_neg q]
      exact ih e
theorem DenK.any (h : DenK g α H kvs ws) : (ws.any fun kv => decide (kv.1 = k)) = (kvs.any fun kv => decide (kv.1 = k)) := by
  induction h with
  | nil => rfl
  | cons h1 h2 ih => simp only [List.any_cons, ih]
theorem DenK.snoc (h : DenK g α H kvs ws) (hd : Den g α H d v) : DenK g α H (kvs ++ [(k, d)]) (ws ++ [(k, v)]) := by
  induction h with
  | nil => exact .cons hd .nil
  | cons h1 h2 ih => exact .cons h1 ih
theorem DenK.upd (h : DenK g α H kvs ws) (hd : Den g α H d v) : DenK g α H (kvs.map fun kv => if kv.1 = k then (kv.1, d) else kv) (ws.map fun kv => if kv.1 = k then (kv.1, v) else kv) := by
  induction h with
  | nil => exact .nil
  | @cons j d' v' kvs ws h1 h2 ih =>
    simp only [List.map_cons]
    by_cases q : j = k
    · rw [if_pos q, if_pos q]; exact .cons hd ih
    · rw [if_neg q, if_neg q]; exact .cons h1 ih
theorem DenK.put (h : DenK g α H kvs ws) (hd : Den g α H d v) : DenK g α H (putKD kvs k d) (putK ws k v) := by
  unfold putKD putK
  rw [h.any]
  split
  · exact h.upd hd
  · exact h.snoc hd
theorem DenK.drop (h : DenK g α H kvs ws) : DenK g α H (dropKD kvs k) (dropK ws k) := by
  unfold dropKD dropK
  induction h with
  | nil => exact .nil
  | @cons j d' v' kvs ws h1 h2 ih =>
    by_cases q : j = k
    · rw [List.filter_cons_of_neg (by simpa using q), List.filter_cons_of_neg (by simpa using q)]; exact ih
    · rw [List.filter_cons_of_pos (by simpa using q), List.filter_cons_of_pos (by simpa using q)]; exact .cons h1 ih
end
section
variable {X : Cx} {g : G} {W : WX} {a b c e o : Expr} {ma mb mc me mo mk : EM} {pos apos cpos : Pos} {σ : St} {H : Hp} {Q : VK} {α : List Addr} {h : AH} {l : Nat} {x : V}
theorem Rep.dct {p : Addr} {kvs : List (Key × D)} (R : Rep g α h H) (hl : α[l]? = some p) (e : h[l]? = some (.dct kvs)) : ∃ ws, H p = some (.dK ws) ∧ DenK g α H kvs ws := by
  obtain ⟨ws, a1, a2, a3⟩ := R.ob _ _ _ e hl
  exact ⟨ws, a1, DenK.of a2 a3⟩
/-! ### {} -/
def dnewM : EM := fun _ h => .ok (.ref h.length) (h ++ [.dct []])
theorem de_dnew : PE X (.Dict [] [] pos) (tE g W dnewM) := by
  refine PE.imp pe_dnewK fun σ H Q p => ?_
  obtain ⟨α, h, τ, R, s, p⟩ := p
  intro z hz
  obtain ⟨a1, a2⟩ := R.push (o := .dct []) hz (u := .dK []) ⟨[], upd_same, rfl, .nil⟩
  refine p _ _ _ a2 a1 (.ref ?_)
  rw [← R.len]
  simp
/-! ### d[k] -/
def dgetM (x y : D) (h : AH) : EO := match x with
  | .ref l => match h[l]? with
    | some (.dct kvs) => match keyD y with
      | some k => match valK kvs k with
        | some d => .ok d h
        | none => .bad
      | none => .bad
    | _ => .bad
  | _ => .bad
theorem rs_dget : RS2 g W (fun x y H Q => ∃ a v, x = .ref a ∧ DGet H a y (some v) ∧ Q v H) dgetM := by
  intro α h H σ x y dx dy Q R hx hy p
  cases hx <;> try exact False.elim p
  rename_i l a hl
  simp only [dgetM] at p
  split at p
  · rename_i kvs e
    split at p
    · rename_i k ek
      split at p
      · rename_i d ed
        obtain ⟨ws, b1, b2⟩ := R.dct hl e
        obtain ⟨v, c1, c2⟩ := b2.val_some ed
        refine ⟨a, v, rfl, .inl ⟨ws, k, .inl b1, keyD_den ek hy, c1.symm⟩, p α H v .refl R c2⟩
      · exact p.elim
    · exact p.elim
  · exact p.elim
theorem de_dget (hu : X.A.units + 1 < cLine) (ho : PE X o (tE g W mo)) (hi : PE X e (tE g W me)) (hs : NoSl e) : PE X (.Subscript o e pos) (tE g W (binM mo me dgetM)) :=
  PE.imp (pe_dget hu ho hi hs) fun _ _ _ p => tE_bin rs_dget p
/-! ### k in d -/
def dinM (y x : D) (h : AH) : EO := match x with
  | .ref l => match h[l]? with
    | some (.dct kvs) => match keyD y with
      | some k => .ok (.bl (valK kvs k).isSome) h
      | none => .bad
    | _ => .bad
  | _ => .bad
def dninM (y x : D) (h : AH) : EO := match x with
  | .ref l => match h[l]? with
    | some (.dct kvs) => match keyD y with
      | some k => .ok (.bl (!(valK kvs k).isSome)) h
      | none => .bad
    | _ => .bad
  | _ => .bad
theorem dget_opt {p : Addr} {kvs : List (Key × D)} {k : Key} {dy : D} {y : V} (R : Rep g α h H) (hl : α[l]? = some p) (e : h[l]? = some (.dct kvs)) (ek : keyD dy = some k) (hy : Den g α H dy y) : ∃ o, DGet H p y o ∧ o.isSome = (valK kvs k).isSome ∧ ∀ d, valK kvs k = some d → ∃ v, o = some v ∧ Den g α H d v := by
  obtain ⟨ws, b1, b2⟩ := R.dct hl e
  refine ⟨valV ws k, .inl ⟨ws, k, .inl b1, keyD_den ek hy, rfl⟩, ?_, fun d ed => b2.val_some ed⟩
  cases ev : valK kvs k with
  | none => rw [b2.val_none ev]; rfl
  | some d => obtain ⟨v, c1, c2⟩ := b2.val_some ev; rw [c1]; rfl
theorem rs_din : RS2 g W (fun y x H Q => ∃ a o, x = .ref a ∧ DGet H a y o ∧ Q (.bl o.isSome) H) dinM := by
  intro α h H σ y x dy dx Q R hy hx p
  cases hx <;> try exact False.elim p
  rename_i l a hl
  simp only [dinM] at p
  split at p
  · rename_i kvs e
    split at p
    · rename_i k ek
      obtain ⟨o, c1, c2, _⟩ := dget_opt R hl e ek hy
      exact ⟨a, o, rfl, c1, by rw [c2]; exact p α H _ .refl R (.bl _)⟩
    · exact p.elim
  · exact p.elim
theorem rs_dnin : RS2 g W (fun y x H Q => ∃ a o, x = .ref a ∧ DGet H a y o ∧ Q (.bl (!o.isSome)) H) dninM := by
  intro α h H σ y x dy dx Q R hy hx p
  cases hx <;> try exact False.elim p
  rename_i l a hl
  simp only [dninM] at p
  split at p
  · rename_i kvs e
    split at p
    · rename_i k ek
      obtain ⟨o, c1, c2, _⟩ := dget_opt R hl e ek hy
      exact ⟨a, o, rfl, c1, by rw [c2]; exact p α H _ .refl R (.bl _)⟩
    · exact p.elim
  · exact p.elim
theorem de_din (hu : X.A.units + 1 < cLine) (hi : PE X e (tE g W me)) (ho : PE X o (tE g W mo)) (hm : behindInMarks .In o = false) : PE X (.Compare e [.In] [o] pos) (tE g W (binM me mo dinM)) :=
  PE.imp (pe_cmp (pc_din hu hi ho) hm) fun _ _ _ p => tE_bin rs_din p
theorem de_dnin (hu : X.A.units + 1 < cLine) (hi : PE X e (tE g W me)) (ho : PE X o (tE g W mo)) (hm : behindInMarks .NotIn o = false) : PE X (.Compare e [.NotIn] [o] pos) (tE g W (binM me mo dninM)) :=
  PE.imp (pe_cmp (pc_dnotin hu hi ho) hm) fun _ _ _ p => tE_bin rs_dnin p
theorem dt_din (hu : X.A.units + 1 < cLine) (hi : PE X e (tE g W me)) (ho : PE X o (tE g W mo)) (hm : behindInMarks .In o = false) : PT X (.Compare e [.In] [o] pos) (tT g W (binM me mo dinM)) :=
  PT.imp (pt_cmp (pc_din hu hi ho) hm) fun _ _ _ p => tE_bin rs_din p
theorem dt_dnin (hu : X.A.units + 1 < cLine) (hi : PE X e (tE g W me)) (ho : PE X o (tE g W mo)) (hm : behindInMarks .NotIn o = false) : PT X (.Compare e [.NotIn] [o] pos) (tT g W (binM me mo dninM)) :=
  PT.imp (pt_cmp (pc_dnotin hu hi ho) hm) fun _ _ _ p => tE_bin rs_dnin p
/-! ### d.get(k) -/
def dg1M (mo mk : EM) : EM := fun τ h => (mo τ h).bind fun d h1 => match d with
  | .ref l => (match h1[l]? with
    | some (.dct _) => (mk τ h1).bind fun y h2 => match h2[l]? with
      | some (.dct kvs) => (match keyD y with
        | some k => .ok ((valK kvs k).getD .non) h2
        | none => .bad)
      | _ => .bad
    | _ => .bad)
  | _ => .bad
theorem de_dget1 (hu : X.A.units + 1 < cLine) (ho : PE X o (tE g W mo)) (hk : PE X e (tE g W mk)) (m : M1 X o "get" apos e cpos) : PE X (.Call (.Attribute o "get" apos) [e] [] cpos) (tE g W (dg1M mo mk)) := by
  refine PE.imp (pe_dget1 hu ho hk m) fun σ H Q p => ?_
  obtain ⟨α, h, τ, R, s, p⟩ := p
  refine ⟨α, h, τ, R, s, PostE.imp (PostE.bind p) ?_⟩
  rintro v H1 ⟨α1, d, h1, E1, R1, D1, p1⟩
  cases D1 <;> try exact False.elim p1
  rename_i l a hl
  simp only [] at p1
  split at p1
  · rename_i kv0 e0
    obtain ⟨ws0, b1, b2⟩ := R1.dct hl e0
    refine ⟨a, rfl, .inl ⟨ws0, .inl b1⟩, α1, h1, τ, R1, s.ext E1, PostE.imp (PostE.bind p1) ?_⟩
    rintro y H2 ⟨α2, dy, h2, E2, R2, D2, p2⟩
    split at p2
    · rename_i kvs e2
      split at p2
      · rename_i k ek
        obtain ⟨ob, c1, c2, c3⟩ := dget_opt R2 (E2.pre _ _ hl) e2 ek D2
        refine ⟨ob, c1, ?_⟩
        cases ev : valK kvs k with
        | none =>
          rw [ev] at p2 c2
          have : ob = none := by cases ob with | none => rfl | some _ => cases c2
          subst this
          exact p2 α2 H2 _ .refl R2 .non
        | some d =>
          rw [ev] at p2
          obtain ⟨v, rfl, dv⟩ := c3 d ev
          exact p2 α2 H2 _ .refl R2 dv
      · exact p2.elim
    · exact p2.elim
  · exact p1.elim
/-! ### d[k] = v -/
def setDF (d k v : D) (h : AH) : Option AH := match d with
  | .ref l => match h[l]?, keyD k with
    | some (.dct kvs), some j => if kvs.length < sizeLine then some (h.set l (.dct (putKD kvs j v))) else none
    | _, _ => none
  | _ => none
theorem put_dct {p : Addr} {kvs kvs' : List (Key × D)} {ws' : List (Key × V)} (R : Rep g α h H) (hl : α[l]? = some p) (e : h[l]? = some (.dct kvs)) (k : DenK g α H kvs' ws') : Rep g α (h.set l (.dct kvs')) (upd H p (.dK ws')) ∧ Ext α H α (upd H p (.dK ws')) := by
  obtain ⟨ws, b1, _⟩ := R.dct hl e
  have E : Ext α H α (upd H p (.dK ws')) := Ext.put b1 True.intro
  obtain ⟨q1, q2⟩ := k.to
  exact R.write hl b1 True.intro (u' := .dK ws') (o := .dct kvs') ⟨ws', upd_same, q1, DenL.ext E _ _ q2⟩
theorem rset_dict : RSet g rSetD setDF := by
  intro α h h' H o i v d k w Q R hd hk hw e q
  cases hd <;> simp only [setDF, reduceCtorEq] at e
  rename_i l a hl
  split at e
  · rename_i kvs j ex ej
    split at e
    · rename_i hz
      cases e
      obtain ⟨ws, b1, b2⟩ := R.dct hl ex
      obtain ⟨c1, c2⟩ := put_dct R hl ex (b2.put (k := j) hw)
      exact ⟨a, _, rfl, .inl ⟨ws, j, b1, keyD_den ej hk, by rw [b2.len]; exact hz, rfl⟩, q _ c2 c1⟩
    · cases e
  · cases e
/-! ### a text by a number -/
def repS (z : Str) (n : Nat) : Str := if n = 0 then Str.empty else if n = 1 ∨ z.length = 0 then z else ⟨(List.replicate n z.cps).foldl (· ++ ·) #[]⟩
def repM (x y : D) (h : AH) : EO := match x, y with
  | .str z, .int k => if 0 ≤ k ∧ k ≤ 1000 ∧ z.length ≤ 1000 then .ok (.str (repS z k.toNat)) h else .bad
  | _, _ => .bad
def rRepS : R2 := fun x y H Q => ∃ z k, x = .str z ∧ y = .int k ∧ 0 ≤ k ∧ k ≤ 1000 ∧ z.length ≤ 1000 ∧ Q (.str (repS z k.toNat)) H
theorem rep_size (a : Array Nat) : ∀ (n : Nat) (acc : Array Nat), ((List.replicate n a).foldl (· ++ ·) acc).size = acc.size + n * a.size
  | 0, acc => by simp
  | n + 1, acc => by
    rw [List.replicate_succ, List.foldl_cons, rep_size a n, Array.size_append, Nat.succ_mul]
    omega
theorem rep_len (z : Str) (n : Nat) : Str.length ⟨(List.replicate n z.cps).foldl (· ++ ·) #[]⟩ = n * z.length := by
  show Array.size _ = _
  rw [rep_size]
  show 0 + n * z.cps.size = n * z.cps.size
  omega
theorem op_repS : OpR X (binaryOp .Mult) rRepS := by
  intro pins s σ H x y v u Q I rx ry h
  obtain ⟨z, k, rfl, rfl, k0, k1, hz, q⟩ := h
  obtain ⟨t, rfl⟩ := rx
  obtain ⟨t', rfl⟩ := ry
  refine P.mul_str (by
    have h1 : ¬ k < -(2 ^ 63 : Int) := by omega
    have h2 : ¬ k ≥ 2 ^ 63 := by omega
    rw [decide_eq_false h1, decide_eq_false h2]; rfl) (fun h1 _ => ?_) (fun h1 _ => ?_) ?_
  · have : (1000 : Int) ≤ (2 ^ 63 - 1) / k := by
      apply Int.le_ediv_of_mul_le (by omega)
      omega
    omega
  · have h4 : z.length * k.toNat ≤ 1000 * 1000 := Nat.mul_le_mul hz (by omega)
    show decide (_ > sizeLine) = false
    rw [sizeLine_eq]
    exact decide_eq_false (by omega)
  · unfold repS at q
    by_cases h1 : k < 1
    · rw [if_pos h1]
      have : k.toNat = 0 := by omega
      rw [this, if_pos rfl] at q
      exact ⟨by decide, ⟨.str Str.empty, H, I.tok _, ⟨_, rfl⟩, q⟩⟩
    · rw [if_neg h1]
      have : ¬ k.toNat = 0 := by omega
      rw [if_neg this] at q
      by_cases h2 : (k == 1 || z.length == 0) = true
      · rw [if_pos h2]
        have h3 : k.toNat = 1 ∨ z.length = 0 := by
          simp only [Bool.or_eq_true, beq_iff_eq] at h2
          omega
        rw [if_pos h3] at q
        exact ⟨.str z, H, I, ⟨_, rfl⟩, q⟩
      · rw [if_neg h2]
        have h3 : ¬ (k.toNat = 1 ∨ z.length = 0) := by
          simp only [Bool.or_eq_true, beq_iff_eq] at h2
          omega
        rw [if_neg h3] at q
        exact ⟨by rw [sizeLine_eq, rep_len]; have : k.toNat * z.length ≤ 1000 * 1000 := Nat.mul_le_mul (by omega) hz; omega, ⟨.str _, H, I.tok _, ⟨_, rfl⟩, q⟩⟩
theorem rs_rep : RS2 g W rRepS repM := by
  intro α h H σ x y dx dy Q R hx hy p
  cases hx <;> try exact False.elim p
  cases hy <;> try exact False.elim p
  rename_i z k
  simp only [repM] at p
  split at p
  · rename_i hc
    exact ⟨z, k, rfl, rfl, hc.1, hc.2.1, hc.2.2, p α H _ .refl R (.str _)⟩
  · exact p.elim
end
end DD
end

section
set_option Elab.async false
set_option linter.all false
set_option maxRecDepth 100000
set_option maxHeartbeats 0
namespace K15
open PySem L2 DD
def top (i : Nat) : Stmt := PySem.Challenge.pw_shardstack_k15_disks_that_go_down.main.body.getD i (.Pass ⟨0, 0, 0, 0⟩)
abbrev s_natural : Stmt := top 15
abbrev s_sign_number : Stmt := top 16
abbrev s_pack : Stmt := top 17
abbrev s_add_value : Stmt := top 18
abbrev s_add_number : Stmt := top 19
abbrev s_Unpacker_init : Stmt := inClass (top 20) 0
abbrev s_Unpacker_read_byte : Stmt := inClass (top 20) 1
abbrev s_Unpacker_read_number : Stmt := inClass (top 20) 2
abbrev s_Unpacker_read_length : Stmt := inClass (top 20) 3
abbrev s_Unpacker_read_text : Stmt := inClass (top 20) 4
abbrev s_Unpacker_read_value : Stmt := inClass (top 20) 5
abbrev s_unpack : Stmt := top 21
abbrev s_sum_of_bytes : Stmt := top 22
abbrev s_four : Stmt := top 23
abbrev s_number_of_four : Stmt := top 24
abbrev s_frame : Stmt := top 25
abbrev s_read_frames : Stmt := top 26
abbrev s_record_end : Stmt := top 27
abbrev s_Disk_init : Stmt := inClass (top 29) 0
abbrev s_Disk_arm : Stmt := inClass (top 29) 1
abbrev s_Disk_step : Stmt := inClass (top 29) 2
abbrev s_Disk_append : Stmt := inClass (top 29) 3
abbrev s_Disk_append_bytes : Stmt := inClass (top 29) 4
abbrev s_Disk_sync : Stmt := inClass (top 29) 5
abbrev s_Disk_records : Stmt := inClass (top 29) 6
abbrev s_Disk_replace : Stmt := inClass (top 29) 7
abbrev s_Disk_read_file : Stmt := inClass (top 29) 8
abbrev s_Disk_crash : Stmt := inClass (top 29) 9
abbrev s_Disk_restart : Stmt := inClass (top 29) 10
abbrev s__law_dice : Stmt := top 31
abbrev s__law_roll : Stmt := top 32
abbrev s__law_rounds : Stmt := top 33
abbrev s__law_told : Stmt := top 34
abbrev s__law_bytes : Stmt := top 35
abbrev s_law : Stmt := top 36
abbrev g_SIGNS : Str := "\n !\"#$&'()*+,-./0123456789:;<=>?@ABCDEFGHIJKLMNOPQRSTUVWXYZ[\\]^_`abcdefghijklmnopqrstuvwxyz{|}~"
def dd_natural : He.DefD := ⟨("natural", none), "natural", "natural", defArgs s_natural, defBody s_natural, defScope s_natural, [], []⟩
def dd_sign_number : He.DefD := ⟨("sign_number", none), "sign_number", "sign_number", defArgs s_sign_number, defBody s_sign_number, defScope s_sign_number, [], []⟩
def dd_pack : He.DefD := ⟨("pack", none), "pack", "pack", defArgs s_pack, defBody s_pack, defScope s_pack, [.int 0], []⟩
def dd_add_value : He.DefD := ⟨("add_value", none), "add_value", "add_value", defArgs s_add_value, defBody s_add_value, defScope s_add_value, [], []⟩
def dd_add_number : He.DefD := ⟨("add_number", none), "add_number", "add_number", defArgs s_add_number, defBody s_add_number, defScope s_add_number, [], []⟩
def dd_Unpacker_init : He.DefD := ⟨("Unpacker", some "__init__"), "__init__", "Unpacker.__init__", defArgs s_Unpacker_init, defBody s_Unpacker_init, defScope s_Unpacker_init, [], []⟩
def dd_Unpacker_read_byte : He.DefD := ⟨("Unpacker", some "read_byte"), "read_byte", "Unpacker.read_byte", defArgs s_Unpacker_read_byte, defBody s_Unpacker_read_byte, defScope s_Unpacker_read_byte, [], []⟩
def dd_Unpacker_read_number : He.DefD := ⟨("Unpacker", some "read_number"), "read_number", "Unpacker.read_number", defArgs s_Unpacker_read_number, defBody s_Unpacker_read_number, defScope s_Unpacker_read_number, [], []⟩
def dd_Unpacker_read_length : He.DefD := ⟨("Unpacker", some "read_length"), "read_length", "Unpacker.read_length", defArgs s_Unpacker_read_length, defBody s_Unpacker_read_length, defScope s_Unpacker_read_length, [], []⟩
def dd_Unpacker_read_text : He.DefD := ⟨("Unpacker", some "read_text"), "read_text", "Unpacker.read_text", defArgs s_Unpacker_read_text, defBody s_Unpacker_read_text, defScope s_Unpacker_read_text, [], []⟩
def dd_Unpacker_read_value : He.DefD := ⟨("Unpacker", some "read_value"), "read_value", "Unpacker.read_value", defArgs s_Unpacker_read_value, defBody s_Unpacker_read_value, defScope s_Unpacker_read_value, [], []⟩
def dd_unpack : He.DefD := ⟨("unpack", none), "unpack", "unpack", defArgs s_unpack, defBody s_unpack, defScope s_unpack, [], []⟩
def dd_sum_of_bytes : He.DefD := ⟨("sum_of_bytes", none), "sum_of_bytes", "sum_of_bytes", defArgs s_sum_of_bytes, defBody s_sum_of_bytes, defScope s_sum_of_bytes, [], []⟩
def dd_four : He.DefD := ⟨("four", none), "four", "four", defArgs s_four, defBody s_four, defScope s_four, [], []⟩
def dd_number_of_four : He.DefD := ⟨("number_of_four", none), "number_of_four", "number_of_four", defArgs s_number_of_four, defBody s_number_of_four, defScope s_number_of_four, [], []⟩
def dd_frame : He.DefD := ⟨("frame", none), "frame", "frame", defArgs s_frame, defBody s_frame, defScope s_frame, [], []⟩
def dd_read_frames : He.DefD := ⟨("read_frames", none), "read_frames", "read_frames", defArgs s_read_frames, defBody s_read_frames, defScope s_read_frames, [], []⟩
def dd_record_end : He.DefD := ⟨("record_end", none), "record_end", "record_end", defArgs s_record_end, defBody s_record_end, defScope s_record_end, [], []⟩
def dd_Disk_init : He.DefD := ⟨("Disk", some "__init__"), "__init__", "Disk.__init__", defArgs s_Disk_init, defBody s_Disk_init, defScope s_Disk_init, [], []⟩
def dd_Disk_arm : He.DefD := ⟨("Disk", some "arm"), "arm", "Disk.arm", defArgs s_Disk_arm, defBody s_Disk_arm, defScope s_Disk_arm, [], []⟩
def dd_Disk_step : He.DefD := ⟨("Disk", some "step"), "step", "Disk.step", defArgs s_Disk_step, defBody s_Disk_step, defScope s_Disk_step, [], []⟩
def dd_Disk_append : He.DefD := ⟨("Disk", some "append"), "append", "Disk.append", defArgs s_Disk_append, defBody s_Disk_append, defScope s_Disk_append, [], []⟩
def dd_Disk_append_bytes : He.DefD := ⟨("Disk", some "append_bytes"), "append_bytes", "Disk.append_bytes", defArgs s_Disk_append_bytes, defBody s_Disk_append_bytes, defScope s_Disk_append_bytes, [], []⟩
def dd_Disk_sync : He.DefD := ⟨("Disk", some "sync"), "sync", "Disk.sync", defArgs s_Disk_sync, defBody s_Disk_sync, defScope s_Disk_sync, [], []⟩
def dd_Disk_records : He.DefD := ⟨("Disk", some "records"), "records", "Disk.records", defArgs s_Disk_records, defBody s_Disk_records, defScope s_Disk_records, [], []⟩
def dd_Disk_replace : He.DefD := ⟨("Disk", some "replace"), "replace", "Disk.replace", defArgs s_Disk_replace, defBody s_Disk_replace, defScope s_Disk_replace, [], []⟩
def dd_Disk_read_file : He.DefD := ⟨("Disk", some "read_file"), "read_file", "Disk.read_file", defArgs s_Disk_read_file, defBody s_Disk_read_file, defScope s_Disk_read_file, [], []⟩
def dd_Disk_crash : He.DefD := ⟨("Disk", some "crash"), "crash", "Disk.crash", defArgs s_Disk_crash, defBody s_Disk_crash, defScope s_Disk_crash, [], []⟩
def dd_Disk_restart : He.DefD := ⟨("Disk", some "restart"), "restart", "Disk.restart", defArgs s_Disk_restart, defBody s_Disk_restart, defScope s_Disk_restart, [], []⟩
def dd__law_dice : He.DefD := ⟨("_law_dice", none), "_law_dice", "_law_dice", defArgs s__law_dice, defBody s__law_dice, defScope s__law_dice, [], []⟩
def dd__law_roll : He.DefD := ⟨("_law_roll", none), "_law_roll", "_law_roll", defArgs s__law_roll, defBody s__law_roll, defScope s__law_roll, [], []⟩
def dd__law_rounds : He.DefD := ⟨("_law_rounds", none), "_law_rounds", "_law_rounds", defArgs s__law_rounds, defBody s__law_rounds, defScope s__law_rounds, [], []⟩
def dd__law_told : He.DefD := ⟨("_law_told", none), "_law_told", "_law_told", defArgs s__law_told, defBody s__law_told, defScope s__law_told, [], []⟩
def dd__law_bytes : He.DefD := ⟨("_law_bytes", none), "_law_bytes", "_law_bytes", defArgs s__law_bytes, defBody s__law_bytes, defScope s__law_bytes, [], []⟩
def dd_law : He.DefD := ⟨("law", none), "law", "law", defArgs s_law, defBody s_law, defScope s_law, [], []⟩
def ci_WireError : Nat → Option Bool
  | 0 => some true
  | 2 => some false
  | _ => none
def ci_StoreError : Nat → Option Bool
  | 0 => some false
  | 2 => some true
  | _ => none
def cs_data : List Nat := [1]
def cs_down : List Nat := [3]
def cs_files : List Nat := [3]
def cs_fuse : List Nat := [3]
def cs_kept : List Nat := [3]
def cs_place : List Nat := [1]
def cs_syncs : List Nat := [3]
def cs_waiting : List Nat := [3]
def fn : List He.DefD := [dd_natural, dd_sign_number, dd_pack, dd_add_value, dd_add_number, dd_Unpacker_init, dd_Unpacker_read_byte, dd_Unpacker_read_number, dd_Unpacker_read_length, dd_Unpacker_read_text, dd_Unpacker_read_value, dd_unpack, dd_sum_of_bytes, dd_four, dd_number_of_four, dd_frame, dd_read_frames, dd_record_end, dd_Disk_init, dd_Disk_arm, dd_Disk_step, dd_Disk_append, dd_Disk_append_bytes, dd_Disk_sync, dd_Disk_records, dd_Disk_replace, dd_Disk_read_file, dd_Disk_crash, dd_Disk_restart, dd__law_dice, dd__law_roll, dd__law_rounds, dd__law_told, dd__law_bytes, dd_law]
def fa : List He.Fa := [.glo "natural",
  .glo "sign_number",
  .glo "pack",
  .glo "add_value",
  .glo "add_number",
  .mkr "Unpacker",
  .meth "Unpacker" "read_byte",
  .meth "Unpacker" "read_number",
  .meth "Unpacker" "read_length",
  .meth "Unpacker" "read_text",
  .meth "Unpacker" "read_value",
  .glo "unpack",
  .glo "sum_of_bytes",
  .glo "four",
  .glo "number_of_four",
  .glo "frame",
  .glo "read_frames",
  .glo "record_end",
  .mkr "Disk",
  .meth "Disk" "arm",
  .meth "Disk" "step",
  .meth "Disk" "append",
  .meth "Disk" "append_bytes",
  .meth "Disk" "sync",
  .meth "Disk" "records",
  .meth "Disk" "replace",
  .meth "Disk" "read_file",
  .meth "Disk" "crash",
  .meth "Disk" "restart",
  .glo "_law_dice",
  .glo "_law_roll",
  .glo "_law_rounds",
  .glo "_law_told",
  .glo "_law_bytes",
  .glo "law",
  .int "MOST_DEEP" 30,
  .int "SUM_LIMIT" 65521,
  .int "NOTHING" 1,
  .int "TRUTH" 2,
  .int "FALSEHOOD" 3,
  .int "NUMBER" 4,
  .int "BELOW" 5,
  .int "TEXT" 6,
  .int "ROW" 7,
  .str "SIGNS" g_SIGNS,
  .free "abs",
  .free "any",
  .free "int",
  .free "isinstance",
  .free "len",
  .free "list",
  .free "max",
  .free "range",
  .free "str",
  .free "tuple",
  .glo "WireError",
  .exc "WireError",
  .exm "WireError" "WireError" true,
  .exm "StoreError" "WireError" false,
  .glo "Unpacker",
  .cls "Unpacker",
  .glo "StoreError",
  .exc "StoreError",
  .exm "WireError" "StoreError" false,
  .exm "StoreError" "StoreError" true,
  .glo "Disk",
  .cls "Disk",
  .noat "Unpacker" "data",
  .noat "Disk" "down",
  .noat "Disk" "files",
  .noat "Disk" "fuse",
  .noat "Disk" "kept",
  .noat "Unpacker" "place",
  .noat "Disk" "syncs",
  .noat "Disk" "waiting"]
def lams : List (Str × Option Str) := [("law", none)]
def gg (K : PySem.W.Frag) : G := ⟨K, fun i => match i with
  | 0 => He.ga K "WireError"
  | 1 => He.ga K "Unpacker"
  | 2 => He.ga K "StoreError"
  | 3 => He.ga K "Disk"
  | _ => 0, [(tabA K ("law", none), ("law" : Str) ++ ".<locals>." ++ "<lambda>")]⟩
/-- what the head has written -/
structure Cnd (K : PySem.W.Frag) (mg : Str → Option Value) (base : Heap) : Prop where
  c : He.SaysD fa fn K
  X : K.In base
  G : base.Ns mainGlobals mg
  tb : ∀ p ∈ lams, LamX.TabB base mg (codeA K p) (tabA K p)
  cd : ∀ p ∈ lams, ∀ x y par body sc dvs kws fd, FunD K x y par body sc dvs kws (He.fAd K p) fd → fd.code = .ref (codeA K p)
  nd : (lams.map (tabA K)).Nodup
section
variable {P : Program} {w : World} {K : PySem.W.Frag} {mg : Str → Option Value} {base : Heap}
theorem Cnd.def_natural (C : Cnd K mg base) : FunD K "natural" "natural" (defArgs s_natural) (defBody s_natural) (defScope s_natural) [] [] (He.fAd K ("natural", none)) (fdA K ("natural", none)) := fdA_ok (C.c.def_ 0 (d := dd_natural) rfl)
theorem Cnd.b_natural (C : Cnd K mg base) : Binds K (fdA K ("natural", none)) ["number"] [] := C.def_natural.bindsN fun _ _ _ _ _ _ us hl => match us, hl with | [_], _ => rfl
theorem Cnd.kp_natural (C : Cnd K mg base) : PySem.W.keepIn K (.ref (He.fAd K ("natural", none))) = true := C.def_natural.kp
theorem Cnd.gl_natural (C : Cnd K mg base) : mg "natural" = some (.ref (He.fAd K ("natural", none))) := He.glo_ok C.X C.G (C.c.fact 0 (f := .glo "natural") rfl)
theorem Cnd.def_sign_number (C : Cnd K mg base) : FunD K "sign_number" "sign_number" (defArgs s_sign_number) (defBody s_sign_number) (defScope s_sign_number) [] [] (He.fAd K ("sign_number", none)) (fdA K ("sign_number", none)) := fdA_ok (C.c.def_ 1 (d := dd_sign_number) rfl)
theorem Cnd.b_sign_number (C : Cnd K mg base) : Binds K (fdA K ("sign_number", none)) ["sign"] [] := C.def_sign_number.bindsN fun _ _ _ _ _ _ us hl => match us, hl with | [_], _ => rfl
theorem Cnd.kp_sign_number (C : Cnd K mg base) : PySem.W.keepIn K (.ref (He.fAd K ("sign_number", none))) = true := C.def_sign_number.kp
theorem Cnd.gl_sign_number (C : Cnd K mg base) : mg "sign_number" = some (.ref (He.fAd K ("sign_number", none))) := He.glo_ok C.X C.G (C.c.fact 1 (f := .glo "sign_number") rfl)
theorem Cnd.def_pack (C : Cnd K mg base) : FunD K "pack" "pack" (defArgs s_pack) (defBody s_pack) (defScope s_pack) [.int 0] [] (He.fAd K ("pack", none)) (fdA K ("pack", none)) := fdA_ok (C.c.def_ 2 (d := dd_pack) rfl)
theorem Cnd.bd_pack (C : Cnd K mg base) : ∃ ds, Vals [.int 0] ds ∧ Binds K (fdA K ("pack", none)) ["value", "depth"] ds := C.def_pack.binds1 1 0 (by decide) rfl fun _ _ _ _ _ _ _ us its hl hi => match us, its, hl, hi with | [_], [_], _, _ => ⟨_, rfl, rfl⟩
theorem Cnd.kp_pack (C : Cnd K mg base) : PySem.W.keepIn K (.ref (He.fAd K ("pack", none))) = true := C.def_pack.kp
theorem Cnd.gl_pack (C : Cnd K mg base) : mg "pack" = some (.ref (He.fAd K ("pack", none))) := He.glo_ok C.X C.G (C.c.fact 2 (f := .glo "pack") rfl)
theorem Cnd.def_add_value (C : Cnd K mg base) : FunD K "add_value" "add_value" (defArgs s_add_value) (defBody s_add_value) (defScope s_add_value) [] [] (He.fAd K ("add_value", none)) (fdA K ("add_value", none)) := fdA_ok (C.c.def_ 3 (d := dd_add_value) rfl)
theorem Cnd.b_add_value (C : Cnd K mg base) : Binds K (fdA K ("add_value", none)) ["found", "value", "depth"] [] := C.def_add_value.bindsN fun _ _ _ _ _ _ us hl => match us, hl with | [_, _, _], _ => rfl
theorem Cnd.kp_add_value (C : Cnd K mg base) : PySem.W.keepIn K (.ref (He.fAd K ("add_value", none))) = true := C.def_add_value.kp
theorem Cnd.gl_add_value (C : Cnd K mg base) : mg "add_value" = some (.ref (He.fAd K ("add_value", none))) := He.glo_ok C.X C.G (C.c.fact 3 (f := .glo "add_value") rfl)
theorem Cnd.def_add_number (C : Cnd K mg base) : FunD K "add_number" "add_number" (defArgs s_add_number) (defBody s_add_number) (defScope s_add_number) [] [] (He.fAd K ("add_number", none)) (fdA K ("add_number", none)) := fdA_ok (C.c.def_ 4 (d := dd_add_number) rfl)
theorem Cnd.b_add_number (C : Cnd K mg base) : Binds K (fdA K ("add_number", none)) ["found", "number"] [] := C.def_add_number.bindsN fun _ _ _ _ _ _ us hl => match us, hl with | [_, _], _ => rfl
theorem Cnd.kp_add_number (C : Cnd K mg base) : PySem.W.keepIn K (.ref (He.fAd K ("add_number", none))) = true := C.def_add_number.kp
theorem Cnd.gl_add_number (C : Cnd K mg base) : mg "add_number" = some (.ref (He.fAd K ("add_number", none))) := He.glo_ok C.X C.G (C.c.fact 4 (f := .glo "add_number") rfl)
theorem Cnd.def_Unpacker_init (C : Cnd K mg base) : FunD K "__init__" "Unpacker.__init__" (defArgs s_Unpacker_init) (defBody s_Unpacker_init) (defScope s_Unpacker_init) [] [] (He.fAd K ("Unpacker", some "__init__")) (fdA K ("Unpacker", some "__init__")) := fdA_ok (C.c.def_ 5 (d := dd_Unpacker_init) rfl)
theorem Cnd.b_Unpacker_init (C : Cnd K mg base) : Binds K (fdA K ("Unpacker", some "__init__")) ["self", "data"] [] := C.def_Unpacker_init.bindsN fun _ _ _ _ _ _ us hl => match us, hl with | [_, _], _ => rfl
theorem Cnd.kp_Unpacker_init (C : Cnd K mg base) : PySem.W.keepIn K (.ref (He.fAd K ("Unpacker", some "__init__"))) = true := C.def_Unpacker_init.kp
theorem Cnd.mk_Unpacker (C : Cnd K mg base) : Mk K ((gg K).cl 1) (He.fAd K ("Unpacker", some "__init__")) := He.mkr_ok (C.c.fact 5 (f := .mkr "Unpacker") rfl)
theorem Cnd.def_Unpacker_read_byte (C : Cnd K mg base) : FunD K "read_byte" "Unpacker.read_byte" (defArgs s_Unpacker_read_byte) (defBody s_Unpacker_read_byte) (defScope s_Unpacker_read_byte) [] [] (He.fAd K ("Unpacker", some "read_byte")) (fdA K ("Unpacker", some "read_byte")) := fdA_ok (C.c.def_ 6 (d := dd_Unpacker_read_byte) rfl)
theorem Cnd.b_Unpacker_read_byte (C : Cnd K mg base) : Binds K (fdA K ("Unpacker", some "read_byte")) ["self"] [] := C.def_Unpacker_read_byte.bindsN fun _ _ _ _ _ _ us hl => match us, hl with | [_], _ => rfl
theorem Cnd.kp_Unpacker_read_byte (C : Cnd K mg base) : PySem.W.keepIn K (.ref (He.fAd K ("Unpacker", some "read_byte"))) = true := C.def_Unpacker_read_byte.kp
theorem Cnd.me_Unpacker_read_byte (C : Cnd K mg base) : Meth K ((gg K).cl 1) "read_byte" (He.fAd K ("Unpacker", some "read_byte")) := He.meth_ok (C.c.fact 6 (f := .meth "Unpacker" "read_byte") rfl)
theorem Cnd.def_Unpacker_read_number (C : Cnd K mg base) : FunD K "read_number" "Unpacker.read_number" (defArgs s_Unpacker_read_number) (defBody s_Unpacker_read_number) (defScope s_Unpacker_read_number) [] [] (He.fAd K ("Unpacker", some "read_number")) (fdA K ("Unpacker", some "read_number")) := fdA_ok (C.c.def_ 7 (d := dd_Unpacker_read_number) rfl)
theorem Cnd.b_Unpacker_read_number (C : Cnd K mg base) : Binds K (fdA K ("Unpacker", some "read_number")) ["self"] [] := C.def_Unpacker_read_number.bindsN fun _ _ _ _ _ _ us hl => match us, hl with | [_], _ => rfl
theorem Cnd.kp_Unpacker_read_number (C : Cnd K mg base) : PySem.W.keepIn K (.ref (He.fAd K ("Unpacker", some "read_number"))) = true := C.def_Unpacker_read_number.kp
theorem Cnd.me_Unpacker_read_number (C : Cnd K mg base) : Meth K ((gg K).cl 1) "read_number" (He.fAd K ("Unpacker", some "read_number")) := He.meth_ok (C.c.fact 7 (f := .meth "Unpacker" "read_number") rfl)
theorem Cnd.def_Unpacker_read_length (C : Cnd K mg base) : FunD K "read_length" "Unpacker.read_length" (defArgs s_Unpacker_read_length) (defBody s_Unpacker_read_length) (defScope s_Unpacker_read_length) [] [] (He.fAd K ("Unpacker", some "read_length")) (fdA K ("Unpacker", some "read_length")) := fdA_ok (C.c.def_ 8 (d := dd_Unpacker_read_length) rfl)
theorem Cnd.b_Unpacker_read_length (C : Cnd K mg base) : Binds K (fdA K ("Unpacker", some "read_length")) ["self"] [] := C.def_Unpacker_read_length.bindsN fun _ _ _ _ _ _ us hl => match us, hl with | [_], _ => rfl
theorem Cnd.kp_Unpacker_read_length (C : Cnd K mg base) : PySem.W.keepIn K (.ref (He.fAd K ("Unpacker", some "read_length"))) = true := C.def_Unpacker_read_length.kp
theorem Cnd.me_Unpacker_read_length (C : Cnd K mg base) : Meth K ((gg K).cl 1) "read_length" (He.fAd K ("Unpacker", some "read_length")) := He.meth_ok (C.c.fact 8 (f := .meth "Unpacker" "read_length") rfl)
theorem Cnd.def_Unpacker_read_text (C : Cnd K mg base) : FunD K "read_text" "Unpacker.read_text" (defArgs s_Unpacker_read_text) (defBody s_Unpacker_read_text) (defScope s_Unpacker_read_text) [] [] (He.fAd K ("Unpacker", some "read_text")) (fdA K ("Unpacker", some "read_text")) := fdA_ok (C.c.def_ 9 (d := dd_Unpacker_read_text) rfl)
theorem Cnd.b_Unpacker_read_text (C : Cnd K mg base) : Binds K (fdA K ("Unpacker", some "read_text")) ["self"] [] := C.def_Unpacker_read_text.bindsN fun _ _ _ _ _ _ us hl => match us, hl with | [_], _ => rfl
theorem Cnd.kp_Unpacker_read_text (C : Cnd K mg base) : PySem.W.keepIn K (.ref (He.fAd K ("Unpacker", some "read_text"))) = true := C.def_Unpacker_read_text.kp
theorem Cnd.me_Unpacker_read_text (C : Cnd K mg base) : Meth K ((gg K).cl 1) "read_text" (He.fAd K ("Unpacker", some "read_text")) := He.meth_ok (C.c.fact 9 (f := .meth "Unpacker" "read_text") rfl)
theorem Cnd.def_Unpacker_read_value (C : Cnd K mg base) : FunD K "read_value" "Unpacker.read_value" (defArgs s_Unpacker_read_value) (defBody s_Unpacker_read_value) (defScope s_Unpacker_read_value) [] [] (He.fAd K ("Unpacker", some "read_value")) (fdA K ("Unpacker", some "read_value")) := fdA_ok (C.c.def_ 10 (d := dd_Unpacker_read_value) rfl)
theorem Cnd.b_Unpacker_read_value (C : Cnd K mg base) : Binds K (fdA K ("Unpacker", some "read_value")) ["self", "depth"] [] := C.def_Unpacker_read_value.bindsN fun _ _ _ _ _ _ us hl => match us, hl with | [_, _], _ => rfl
theorem Cnd.kp_Unpacker_read_value (C : Cnd K mg base) : PySem.W.keepIn K (.ref (He.fAd K ("Unpacker", some "read_value"))) = true := C.def_Unpacker_read_value.kp
theorem Cnd.me_Unpacker_read_value (C : Cnd K mg base) : Meth K ((gg K).cl 1) "read_value" (He.fAd K ("Unpacker", some "read_value")) := He.meth_ok (C.c.fact 10 (f := .meth "Unpacker" "read_value") rfl)
theorem Cnd.def_unpack (C : Cnd K mg base) : FunD K "unpack" "unpack" (defArgs s_unpack) (defBody s_unpack) (defScope s_unpack) [] [] (He.fAd K ("unpack", none)) (fdA K ("unpack", none)) := fdA_ok (C.c.def_ 11 (d := dd_unpack) rfl)
theorem Cnd.b_unpack (C : Cnd K mg base) : Binds K (fdA K ("unpack", none)) ["data"] [] := C.def_unpack.bindsN fun _ _ _ _ _ _ us hl => match us, hl with | [_], _ => rfl
theorem Cnd.kp_unpack (C : Cnd K mg base) : PySem.W.keepIn K (.ref (He.fAd K ("unpack", none))) = true := C.def_unpack.kp
theorem Cnd.gl_unpack (C : Cnd K mg base) : mg "unpack" = some (.ref (He.fAd K ("unpack", none))) := He.glo_ok C.X C.G (C.c.fact 11 (f := .glo "unpack") rfl)
theorem Cnd.def_sum_of_bytes (C : Cnd K mg base) : FunD K "sum_of_bytes" "sum_of_bytes" (defArgs s_sum_of_bytes) (defBody s_sum_of_bytes) (defScope s_sum_of_bytes) [] [] (He.fAd K ("sum_of_bytes", none)) (fdA K ("sum_of_bytes", none)) := fdA_ok (C.c.def_ 12 (d := dd_sum_of_bytes) rfl)
theorem Cnd.b_sum_of_bytes (C : Cnd K mg base) : Binds K (fdA K ("sum_of_bytes", none)) ["data"] [] := C.def_sum_of_bytes.bindsN fun _ _ _ _ _ _ us hl => match us, hl with | [_], _ => rfl
theorem Cnd.kp_sum_of_bytes (C : Cnd K mg base) : PySem.W.keepIn K (.ref (He.fAd K ("sum_of_bytes", none))) = true := C.def_sum_of_bytes.kp
theorem Cnd.gl_sum_of_bytes (C : Cnd K mg base) : mg "sum_of_bytes" = some (.ref (He.fAd K ("sum_of_bytes", none))) := He.glo_ok C.X C.G (C.c.fact 12 (f := .glo "sum_of_bytes") rfl)
theorem Cnd.def_four (C : Cnd K mg base) : FunD K "four" "four" (defArgs s_four) (defBody s_four) (defScope s_four) [] [] (He.fAd K ("four", none)) (fdA K ("four", none)) := fdA_ok (C.c.def_ 13 (d := dd_four) rfl)
theorem Cnd.b_four (C : Cnd K mg base) : Binds K (fdA K ("four", none)) ["number"] [] := C.def_four.bindsN fun _ _ _ _ _ _ us hl => match us, hl with | [_], _ => rfl
theorem Cnd.kp_four (C : Cnd K mg base) : PySem.W.keepIn K (.ref (He.fAd K ("four", none))) = true := C.def_four.kp
theorem Cnd.gl_four (C : Cnd K mg base) : mg "four" = some (.ref (He.fAd K ("four", none))) := He.glo_ok C.X C.G (C.c.fact 13 (f := .glo "four") rfl)
theorem Cnd.def_number_of_four (C : Cnd K mg base) : FunD K "number_of_four" "number_of_four" (defArgs s_number_of_four) (defBody s_number_of_four) (defScope s_number_of_four) [] [] (He.fAd K ("number_of_four", none)) (fdA K ("number_of_four", none)) := fdA_ok (C.c.def_ 14 (d := dd_number_of_four) rfl)
theorem Cnd.b_number_of_four (C : Cnd K mg base) : Binds K (fdA K ("number_of_four", none)) ["data"] [] := C.def_number_of_four.bindsN fun _ _ _ _ _ _ us hl => match us, hl with | [_], _ => rfl
theorem Cnd.kp_number_of_four (C : Cnd K mg base) : PySem.W.keepIn K (.ref (He.fAd K ("number_of_four", none))) = true := C.def_number_of_four.kp
theorem Cnd.gl_number_of_four (C : Cnd K mg base) : mg "number_of_four" = some (.ref (He.fAd K ("number_of_four", none))) := He.glo_ok C.X C.G (C.c.fact 14 (f := .glo "number_of_four") rfl)
theorem Cnd.def_frame (C : Cnd K mg base) : FunD K "frame" "frame" (defArgs s_frame) (defBody s_frame) (defScope s_frame) [] [] (He.fAd K ("frame", none)) (fdA K ("frame", none)) := fdA_ok (C.c.def_ 15 (d := dd_frame) rfl)
theorem Cnd.b_frame (C : Cnd K mg base) : Binds K (fdA K ("frame", none)) ["value"] [] := C.def_frame.bindsN fun _ _ _ _ _ _ us hl => match us, hl with | [_], _ => rfl
theorem Cnd.kp_frame (C : Cnd K mg base) : PySem.W.keepIn K (.ref (He.fAd K ("frame", none))) = true := C.def_frame.kp
theorem Cnd.gl_frame (C : Cnd K mg base) : mg "frame" = some (.ref (He.fAd K ("frame", none))) := He.glo_ok C.X C.G (C.c.fact 15 (f := .glo "frame") rfl)
theorem Cnd.def_read_frames (C : Cnd K mg base) : FunD K "read_frames" "read_frames" (defArgs s_read_frames) (defBody s_read_frames) (defScope s_read_frames) [] [] (He.fAd K ("read_frames", none)) (fdA K ("read_frames", none)) := fdA_ok (C.c.def_ 16 (d := dd_read_frames) rfl)
theorem Cnd.b_read_frames (C : Cnd K mg base) : Binds K (fdA K ("read_frames", none)) ["data"] [] := C.def_read_frames.bindsN fun _ _ _ _ _ _ us hl => match us, hl with | [_], _ => rfl
theorem Cnd.kp_read_frames (C : Cnd K mg base) : PySem.W.keepIn K (.ref (He.fAd K ("read_frames", none))) = true := C.def_read_frames.kp
theorem Cnd.gl_read_frames (C : Cnd K mg base) : mg "read_frames" = some (.ref (He.fAd K ("read_frames", none))) := He.glo_ok C.X C.G (C.c.fact 16 (f := .glo "read_frames") rfl)
theorem Cnd.def_record_end (C : Cnd K mg base) : FunD K "record_end" "record_end" (defArgs s_record_end) (defBody s_record_end) (defScope s_record_end) [] [] (He.fAd K ("record_end", none)) (fdA K ("record_end", none)) := fdA_ok (C.c.def_ 17 (d := dd_record_end) rfl)
theorem Cnd.b_record_end (C : Cnd K mg base) : Binds K (fdA K ("record_end", none)) ["data", "place"] [] := C.def_record_end.bindsN fun _ _ _ _ _ _ us hl => match us, hl with | [_, _], _ => rfl
theorem Cnd.kp_record_end (C : Cnd K mg base) : PySem.W.keepIn K (.ref (He.fAd K ("record_end", none))) = true := C.def_record_end.kp
theorem Cnd.gl_record_end (C : Cnd K mg base) : mg "record_end" = some (.ref (He.fAd K ("record_end", none))) := He.glo_ok C.X C.G (C.c.fact 17 (f := .glo "record_end") rfl)
theorem Cnd.def_Disk_init (C : Cnd K mg base) : FunD K "__init__" "Disk.__init__" (defArgs s_Disk_init) (defBody s_Disk_init) (defScope s_Disk_init) [] [] (He.fAd K ("Disk", some "__init__")) (fdA K ("Disk", some "__init__")) := fdA_ok (C.c.def_ 18 (d := dd_Disk_init) rfl)
theorem Cnd.b_Disk_init (C : Cnd K mg base) : Binds K (fdA K ("Disk", some "__init__")) ["self"] [] := C.def_Disk_init.bindsN fun _ _ _ _ _ _ us hl => match us, hl with | [_], _ => rfl
theorem Cnd.kp_Disk_init (C : Cnd K mg base) : PySem.W.keepIn K (.ref (He.fAd K ("Disk", some "__init__"))) = true := C.def_Disk_init.kp
theorem Cnd.mk_Disk (C : Cnd K mg base) : Mk K ((gg K).cl 3) (He.fAd K ("Disk", some "__init__")) := He.mkr_ok (C.c.fact 18 (f := .mkr "Disk") rfl)
theorem Cnd.def_Disk_arm (C : Cnd K mg base) : FunD K "arm" "Disk.arm" (defArgs s_Disk_arm) (defBody s_Disk_arm) (defScope s_Disk_arm) [] [] (He.fAd K ("Disk", some "arm")) (fdA K ("Disk", some "arm")) := fdA_ok (C.c.def_ 19 (d := dd_Disk_arm) rfl)
theorem Cnd.b_Disk_arm (C : Cnd K mg base) : Binds K (fdA K ("Disk", some "arm")) ["self", "steps"] [] := C.def_Disk_arm.bindsN fun _ _ _ _ _ _ us hl => match us, hl with | [_, _], _ => rfl
theorem Cnd.kp_Disk_arm (C : Cnd K mg base) : PySem.W.keepIn K (.ref (He.fAd K ("Disk", some "arm"))) = true := C.def_Disk_arm.kp
theorem Cnd.me_Disk_arm (C : Cnd K mg base) : Meth K ((gg K).cl 3) "arm" (He.fAd K ("Disk", some "arm")) := He.meth_ok (C.c.fact 19 (f := .meth "Disk" "arm") rfl)
theorem Cnd.def_Disk_step (C : Cnd K mg base) : FunD K "step" "Disk.step" (defArgs s_Disk_step) (defBody s_Disk_step) (defScope s_Disk_step) [] [] (He.fAd K ("Disk", some "step")) (fdA K ("Disk", some "step")) := fdA_ok (C.c.def_ 20 (d := dd_Disk_step) rfl)
theorem Cnd.b_Disk_step (C : Cnd K mg base) : Binds K (fdA K ("Disk", some "step")) ["self"] [] := C.def_Disk_step.bindsN fun _ _ _ _ _ _ us hl => match us, hl with | [_], _ => rfl
theorem Cnd.kp_Disk_step (C : Cnd K mg base) : PySem.W.keepIn K (.ref (He.fAd K ("Disk", some "step"))) = true := C.def_Disk_step.kp
theorem Cnd.me_Disk_step (C : Cnd K mg base) : Meth K ((gg K).cl 3) "step" (He.fAd K ("Disk", some "step")) := He.meth_ok (C.c.fact 20 (f := .meth "Disk" "step") rfl)
theorem Cnd.def_Disk_append (C : Cnd K mg base) : FunD K "append" "Disk.append" (defArgs s_Disk_append) (defBody s_Disk_append) (defScope s_Disk_append) [] [] (He.fAd K ("Disk", some "append")) (fdA K ("Disk", some "append")) := fdA_ok (C.c.def_ 21 (d := dd_Disk_append) rfl)
theorem Cnd.b_Disk_append (C : Cnd K mg base) : Binds K (fdA K ("Disk", some "append")) ["self", "value"] [] := C.def_Disk_append.bindsN fun _ _ _ _ _ _ us hl => match us, hl with | [_, _], _ => rfl
theorem Cnd.kp_Disk_append (C : Cnd K mg base) : PySem.W.keepIn K (.ref (He.fAd K ("Disk", some "append"))) = true := C.def_Disk_append.kp
theorem Cnd.me_Disk_append (C : Cnd K mg base) : Meth K ((gg K).cl 3) "append" (He.fAd K ("Disk", some "append")) := He.meth_ok (C.c.fact 21 (f := .meth "Disk" "append") rfl)
theorem Cnd.def_Disk_append_bytes (C : Cnd K mg base) : FunD K "append_bytes" "Disk.append_bytes" (defArgs s_Disk_append_bytes) (defBody s_Disk_append_bytes) (defScope s_Disk_append_bytes) [] [] (He.fAd K ("Disk", some "append_bytes")) (fdA K ("Disk", some "append_bytes")) := fdA_ok (C.c.def_ 22 (d := dd_Disk_append_bytes) rfl)
theorem Cnd.b_Disk_append_bytes (C : Cnd K mg base) : Binds K (fdA K ("Disk", some "append_bytes")) ["self", "data"] [] := C.def_Disk_append_bytes.bindsN fun _ _ _ _ _ _ us hl => match us, hl with | [_, _], _ => rfl
theorem Cnd.kp_Disk_append_bytes (C : Cnd K mg base) : PySem.W.keepIn K (.ref (He.fAd K ("Disk", some "append_bytes"))) = true := C.def_Disk_append_bytes.kp
theorem Cnd.me_Disk_append_bytes (C : Cnd K mg base) : Meth K ((gg K).cl 3) "append_bytes" (He.fAd K ("Disk", some "append_bytes")) := He.meth_ok (C.c.fact 22 (f := .meth "Disk" "append_bytes") rfl)
theorem Cnd.def_Disk_sync (C : Cnd K mg base) : FunD K "sync" "Disk.sync" (defArgs s_Disk_sync) (defBody s_Disk_sync) (defScope s_Disk_sync) [] [] (He.fAd K ("Disk", some "sync")) (fdA K ("Disk", some "sync")) := fdA_ok (C.c.def_ 23 (d := dd_Disk_sync) rfl)
theorem Cnd.b_Disk_sync (C : Cnd K mg base) : Binds K (fdA K ("Disk", some "sync")) ["self"] [] := C.def_Disk_sync.bindsN fun _ _ _ _ _ _ us hl => match us, hl with | [_], _ => rfl
theorem Cnd.kp_Disk_sync (C : Cnd K mg base) : PySem.W.keepIn K (.ref (He.fAd K ("Disk", some "sync"))) = true := C.def_Disk_sync.kp
theorem Cnd.me_Disk_sync (C : Cnd K mg base) : Meth K ((gg K).cl 3) "sync" (He.fAd K ("Disk", some "sync")) := He.meth_ok (C.c.fact 23 (f := .meth "Disk" "sync") rfl)
theorem Cnd.def_Disk_records (C : Cnd K mg base) : FunD K "records" "Disk.records" (defArgs s_Disk_records) (defBody s_Disk_records) (defScope s_Disk_records) [] [] (He.fAd K ("Disk", some "records")) (fdA K ("Disk", some "records")) := fdA_ok (C.c.def_ 24 (d := dd_Disk_records) rfl)
theorem Cnd.b_Disk_records (C : Cnd K mg base) : Binds K (fdA K ("Disk", some "records")) ["self"] [] := C.def_Disk_records.bindsN fun _ _ _ _ _ _ us hl => match us, hl with | [_], _ => rfl
theorem Cnd.kp_Disk_records (C : Cnd K mg base) : PySem.W.keepIn K (.ref (He.fAd K ("Disk", some "records"))) = true := C.def_Disk_records.kp
theorem Cnd.me_Disk_records (C : Cnd K mg base) : Meth K ((gg K).cl 3) "records" (He.fAd K ("Disk", some "records")) := He.meth_ok (C.c.fact 24 (f := .meth "Disk" "records") rfl)
theorem Cnd.def_Disk_replace (C : Cnd K mg base) : FunD K "replace" "Disk.replace" (defArgs s_Disk_replace) (defBody s_Disk_replace) (defScope s_Disk_replace) [] [] (He.fAd K ("Disk", some "replace")) (fdA K ("Disk", some "replace")) := fdA_ok (C.c.def_ 25 (d := dd_Disk_replace) rfl)
theorem Cnd.b_Disk_replace (C : Cnd K mg base) : Binds K (fdA K ("Disk", some "replace")) ["self", "name", "value", "records"] [] := C.def_Disk_replace.bindsN fun _ _ _ _ _ _ us hl => match us, hl with | [_, _, _, _], _ => rfl
theorem Cnd.kp_Disk_replace (C : Cnd K mg base) : PySem.W.keepIn K (.ref (He.fAd K ("Disk", some "replace"))) = true := C.def_Disk_replace.kp
theorem Cnd.me_Disk_replace (C : Cnd K mg base) : Meth K ((gg K).cl 3) "replace" (He.fAd K ("Disk", some "replace")) := He.meth_ok (C.c.fact 25 (f := .meth "Disk" "replace") rfl)
theorem Cnd.def_Disk_read_file (C : Cnd K mg base) : FunD K "read_file" "Disk.read_file" (defArgs s_Disk_read_file) (defBody s_Disk_read_file) (defScope s_Disk_read_file) [] [] (He.fAd K ("Disk", some "read_file")) (fdA K ("Disk", some "read_file")) := fdA_ok (C.c.def_ 26 (d := dd_Disk_read_file) rfl)
theorem Cnd.b_Disk_read_file (C : Cnd K mg base) : Binds K (fdA K ("Disk", some "read_file")) ["self", "name"] [] := C.def_Disk_read_file.bindsN fun _ _ _ _ _ _ us hl => match us, hl with | [_, _], _ => rfl
theorem Cnd.kp_Disk_read_file (C : Cnd K mg base) : PySem.W.keepIn K (.ref (He.fAd K ("Disk", some "read_file"))) = true := C.def_Disk_read_file.kp
theorem Cnd.me_Disk_read_file (C : Cnd K mg base) : Meth K ((gg K).cl 3) "read_file" (He.fAd K ("Disk", some "read_file")) := He.meth_ok (C.c.fact 26 (f := .meth "Disk" "read_file") rfl)
theorem Cnd.def_Disk_crash (C : Cnd K mg base) : FunD K "crash" "Disk.crash" (defArgs s_Disk_crash) (defBody s_Disk_crash) (defScope s_Disk_crash) [] [] (He.fAd K ("Disk", some "crash")) (fdA K ("Disk", some "crash")) := fdA_ok (C.c.def_ 27 (d := dd_Disk_crash) rfl)
theorem Cnd.b_Disk_crash (C : Cnd K mg base) : Binds K (fdA K ("Disk", some "crash")) ["self", "many"] [] := C.def_Disk_crash.bindsN fun _ _ _ _ _ _ us hl => match us, hl with | [_, _], _ => rfl
theorem Cnd.kp_Disk_crash (C : Cnd K mg base) : PySem.W.keepIn K (.ref (He.fAd K ("Disk", some "crash"))) = true := C.def_Disk_crash.kp
theorem Cnd.me_Disk_crash (C : Cnd K mg base) : Meth K ((gg K).cl 3) "crash" (He.fAd K ("Disk", some "crash")) := He.meth_ok (C.c.fact 27 (f := .meth "Disk" "crash") rfl)
theorem Cnd.def_Disk_restart (C : Cnd K mg base) : FunD K "restart" "Disk.restart" (defArgs s_Disk_restart) (defBody s_Disk_restart) (defScope s_Disk_restart) [] [] (He.fAd K ("Disk", some "restart")) (fdA K ("Disk", some "restart")) := fdA_ok (C.c.def_ 28 (d := dd_Disk_restart) rfl)
theorem Cnd.b_Disk_restart (C : Cnd K mg base) : Binds K (fdA K ("Disk", some "restart")) ["self"] [] := C.def_Disk_restart.bindsN fun _ _ _ _ _ _ us hl => match us, hl with | [_], _ => rfl
theorem Cnd.kp_Disk_restart (C : Cnd K mg base) : PySem.W.keepIn K (.ref (He.fAd K ("Disk", some "restart"))) = true := C.def_Disk_restart.kp
theorem Cnd.me_Disk_restart (C : Cnd K mg base) : Meth K ((gg K).cl 3) "restart" (He.fAd K ("Disk", some "restart")) := He.meth_ok (C.c.fact 28 (f := .meth "Disk" "restart") rfl)
theorem Cnd.def__law_dice (C : Cnd K mg base) : FunD K "_law_dice" "_law_dice" (defArgs s__law_dice) (defBody s__law_dice) (defScope s__law_dice) [] [] (He.fAd K ("_law_dice", none)) (fdA K ("_law_dice", none)) := fdA_ok (C.c.def_ 29 (d := dd__law_dice) rfl)
theorem Cnd.b__law_dice (C : Cnd K mg base) : Binds K (fdA K ("_law_dice", none)) ["cell"] [] := C.def__law_dice.bindsN fun _ _ _ _ _ _ us hl => match us, hl with | [_], _ => rfl
theorem Cnd.kp__law_dice (C : Cnd K mg base) : PySem.W.keepIn K (.ref (He.fAd K ("_law_dice", none))) = true := C.def__law_dice.kp
theorem Cnd.gl__law_dice (C : Cnd K mg base) : mg "_law_dice" = some (.ref (He.fAd K ("_law_dice", none))) := He.glo_ok C.X C.G (C.c.fact 29 (f := .glo "_law_dice") rfl)
theorem Cnd.def__law_roll (C : Cnd K mg base) : FunD K "_law_roll" "_law_roll" (defArgs s__law_roll) (defBody s__law_roll) (defScope s__law_roll) [] [] (He.fAd K ("_law_roll", none)) (fdA K ("_law_roll", none)) := fdA_ok (C.c.def_ 30 (d := dd__law_roll) rfl)
theorem Cnd.b__law_roll (C : Cnd K mg base) : Binds K (fdA K ("_law_roll", none)) ["dice", "many"] [] := C.def__law_roll.bindsN fun _ _ _ _ _ _ us hl => match us, hl with | [_, _], _ => rfl
theorem Cnd.kp__law_roll (C : Cnd K mg base) : PySem.W.keepIn K (.ref (He.fAd K ("_law_roll", none))) = true := C.def__law_roll.kp
theorem Cnd.gl__law_roll (C : Cnd K mg base) : mg "_law_roll" = some (.ref (He.fAd K ("_law_roll", none))) := He.glo_ok C.X C.G (C.c.fact 30 (f := .glo "_law_roll") rfl)
theorem Cnd.def__law_rounds (C : Cnd K mg base) : FunD K "_law_rounds" "_law_rounds" (defArgs s__law_rounds) (defBody s__law_rounds) (defScope s__law_rounds) [] [] (He.fAd K ("_law_rounds", none)) (fdA K ("_law_rounds", none)) := fdA_ok (C.c.def_ 31 (d := dd__law_rounds) rfl)
theorem Cnd.b__law_rounds (C : Cnd K mg base) : Binds K (fdA K ("_law_rounds", none)) ["script", "most"] [] := C.def__law_rounds.bindsN fun _ _ _ _ _ _ us hl => match us, hl with | [_, _], _ => rfl
theorem Cnd.kp__law_rounds (C : Cnd K mg base) : PySem.W.keepIn K (.ref (He.fAd K ("_law_rounds", none))) = true := C.def__law_rounds.kp
theorem Cnd.gl__law_rounds (C : Cnd K mg base) : mg "_law_rounds" = some (.ref (He.fAd K ("_law_rounds", none))) := He.glo_ok C.X C.G (C.c.fact 31 (f := .glo "_law_rounds") rfl)
theorem Cnd.def__law_told (C : Cnd K mg base) : FunD K "_law_told" "_law_told" (defArgs s__law_told) (defBody s__law_told) (defScope s__law_told) [] [] (He.fAd K ("_law_told", none)) (fdA K ("_law_told", none)) := fdA_ok (C.c.def_ 32 (d := dd__law_told) rfl)
theorem Cnd.b__law_told (C : Cnd K mg base) : Binds K (fdA K ("_law_told", none)) ["what"] [] := C.def__law_told.bindsN fun _ _ _ _ _ _ us hl => match us, hl with | [_], _ => rfl
theorem Cnd.kp__law_told (C : Cnd K mg base) : PySem.W.keepIn K (.ref (He.fAd K ("_law_told", none))) = true := C.def__law_told.kp
theorem Cnd.gl__law_told (C : Cnd K mg base) : mg "_law_told" = some (.ref (He.fAd K ("_law_told", none))) := He.glo_ok C.X C.G (C.c.fact 32 (f := .glo "_law_told") rfl)
theorem Cnd.def__law_bytes (C : Cnd K mg base) : FunD K "_law_bytes" "_law_bytes" (defArgs s__law_bytes) (defBody s__law_bytes) (defScope s__law_bytes) [] [] (He.fAd K ("_law_bytes", none)) (fdA K ("_law_bytes", none)) := fdA_ok (C.c.def_ 33 (d := dd__law_bytes) rfl)
theorem Cnd.b__law_bytes (C : Cnd K mg base) : Binds K (fdA K ("_law_bytes", none)) ["rows"] [] := C.def__law_bytes.bindsN fun _ _ _ _ _ _ us hl => match us, hl with | [_], _ => rfl
theorem Cnd.kp__law_bytes (C : Cnd K mg base) : PySem.W.keepIn K (.ref (He.fAd K ("_law_bytes", none))) = true := C.def__law_bytes.kp
theorem Cnd.gl__law_bytes (C : Cnd K mg base) : mg "_law_bytes" = some (.ref (He.fAd K ("_law_bytes", none))) := He.glo_ok C.X C.G (C.c.fact 33 (f := .glo "_law_bytes") rfl)
theorem Cnd.def_law (C : Cnd K mg base) : FunD K "law" "law" (defArgs s_law) (defBody s_law) (defScope s_law) [] [] (He.fAd K ("law", none)) (fdA K ("law", none)) := fdA_ok (C.c.def_ 34 (d := dd_law) rfl)
theorem Cnd.b_law (C : Cnd K mg base) : Binds K (fdA K ("law", none)) ["script"] [] := C.def_law.bindsN fun _ _ _ _ _ _ us hl => match us, hl with | [_], _ => rfl
theorem Cnd.kp_law (C : Cnd K mg base) : PySem.W.keepIn K (.ref (He.fAd K ("law", none))) = true := C.def_law.kp
theorem Cnd.gl_law (C : Cnd K mg base) : mg "law" = some (.ref (He.fAd K ("law", none))) := He.glo_ok C.X C.G (C.c.fact 34 (f := .glo "law") rfl)
theorem Cnd.gi_MOST_DEEP (C : Cnd K mg base) : ∃ t, mg "MOST_DEEP" = some (.int 30 t) := He.int_ok C.X C.G (C.c.fact 35 (f := .int "MOST_DEEP" 30) rfl)
theorem Cnd.gi_SUM_LIMIT (C : Cnd K mg base) : ∃ t, mg "SUM_LIMIT" = some (.int 65521 t) := He.int_ok C.X C.G (C.c.fact 36 (f := .int "SUM_LIMIT" 65521) rfl)
theorem Cnd.gi_NOTHING (C : Cnd K mg base) : ∃ t, mg "NOTHING" = some (.int 1 t) := He.int_ok C.X C.G (C.c.fact 37 (f := .int "NOTHING" 1) rfl)
theorem Cnd.gi_TRUTH (C : Cnd K mg base) : ∃ t, mg "TRUTH" = some (.int 2 t) := He.int_ok C.X C.G (C.c.fact 38 (f := .int "TRUTH" 2) rfl)
theorem Cnd.gi_FALSEHOOD (C : Cnd K mg base) : ∃ t, mg "FALSEHOOD" = some (.int 3 t) := He.int_ok C.X C.G (C.c.fact 39 (f := .int "FALSEHOOD" 3) rfl)
theorem Cnd.gi_NUMBER (C : Cnd K mg base) : ∃ t, mg "NUMBER" = some (.int 4 t) := He.int_ok C.X C.G (C.c.fact 40 (f := .int "NUMBER" 4) rfl)
theorem Cnd.gi_BELOW (C : Cnd K mg base) : ∃ t, mg "BELOW" = some (.int 5 t) := He.int_ok C.X C.G (C.c.fact 41 (f := .int "BELOW" 5) rfl)
theorem Cnd.gi_TEXT (C : Cnd K mg base) : ∃ t, mg "TEXT" = some (.int 6 t) := He.int_ok C.X C.G (C.c.fact 42 (f := .int "TEXT" 6) rfl)
theorem Cnd.gi_ROW (C : Cnd K mg base) : ∃ t, mg "ROW" = some (.int 7 t) := He.int_ok C.X C.G (C.c.fact 43 (f := .int "ROW" 7) rfl)
theorem Cnd.gs_SIGNS (C : Cnd K mg base) : ∃ t, mg "SIGNS" = some (.str g_SIGNS t) := He.str_ok C.X C.G (C.c.fact 44 (f := .str "SIGNS" g_SIGNS) rfl)
theorem Cnd.fr_abs (C : Cnd K mg base) : mg "abs" = none := He.free_ok C.X C.G (C.c.fact 45 (f := .free "abs") rfl)
theorem Cnd.fr_any (C : Cnd K mg base) : mg "any" = none := He.free_ok C.X C.G (C.c.fact 46 (f := .free "any") rfl)
theorem Cnd.fr_int (C : Cnd K mg base) : mg "int" = none := He.free_ok C.X C.G (C.c.fact 47 (f := .free "int") rfl)
theorem Cnd.fr_isinstance (C : Cnd K mg base) : mg "isinstance" = none := He.free_ok C.X C.G (C.c.fact 48 (f := .free "isinstance") rfl)
theorem Cnd.fr_len (C : Cnd K mg base) : mg "len" = none := He.free_ok C.X C.G (C.c.fact 49 (f := .free "len") rfl)
theorem Cnd.fr_list (C : Cnd K mg base) : mg "list" = none := He.free_ok C.X C.G (C.c.fact 50 (f := .free "list") rfl)
theorem Cnd.fr_max (C : Cnd K mg base) : mg "max" = none := He.free_ok C.X C.G (C.c.fact 51 (f := .free "max") rfl)
theorem Cnd.fr_range (C : Cnd K mg base) : mg "range" = none := He.free_ok C.X C.G (C.c.fact 52 (f := .free "range") rfl)
theorem Cnd.fr_str (C : Cnd K mg base) : mg "str" = none := He.free_ok C.X C.G (C.c.fact 53 (f := .free "str") rfl)
theorem Cnd.fr_tuple (C : Cnd K mg base) : mg "tuple" = none := He.free_ok C.X C.G (C.c.fact 54 (f := .free "tuple") rfl)
theorem Cnd.gl_WireError (C : Cnd K mg base) : mg "WireError" = some (.ref ((gg K).cl 0)) := He.glo_ok C.X C.G (C.c.fact 55 (f := .glo "WireError") rfl)
theorem Cnd.pm_WireError (C : Cnd K mg base) {X : Cx} (hK : X.K = K) (hm : X.mg = mg) {m : Str} {j : Nat} {p p2 pos : Pos} (hg : Gl X "WireError" := by rfl) : PMk X (.Call (.Name "WireError" p) [.Constant (.str m) j p2] [] pos) (fun _ H Q => Q (.ref ((gg K).cl 0)) none H) := by
  subst hK hm
  obtain ⟨q1, q2, q3, q4⟩ := He.exc_ok (C.c.fact 56 (f := .exc "WireError") rfl)
  exact pmk_own PySem.F.excBase_ValueError q1 C.gl_WireError q2 (raises_own q3 q4) hg
theorem Cnd.nm_WireError (C : Cnd K mg base) {X : Cx} (hm : X.mg = mg) (hg : Gl X "WireError" := by rfl) : Names X "WireError" (.ref ((gg K).cl 0)) := ⟨hg, by decide, .inl (by rw [hm]; exact C.gl_WireError)⟩
theorem Cnd.ex_WireError (C : Cnd K mg base) : ∀ i b, ci_WireError i = some b → PySem.W.exmOne K (.ref ((gg K).cl i)) (.ref ((gg K).cl 0)) = some b := by
  intro i b h
  unfold ci_WireError at h
  split at h
  · cases h; exact He.exm_ok (C.c.fact 57 (f := .exm "WireError" "WireError" true) rfl)
  · cases h; exact He.exm_ok (C.c.fact 58 (f := .exm "StoreError" "WireError" false) rfl)
  · cases h
theorem Cnd.gl_Unpacker (C : Cnd K mg base) : mg "Unpacker" = some (.ref ((gg K).cl 1)) := He.glo_ok C.X C.G (C.c.fact 59 (f := .glo "Unpacker") rfl)
theorem Cnd.cl_Unpacker (C : Cnd K mg base) : Cls K ((gg K).cl 1) := He.cls_ok (C.c.fact 60 (f := .cls "Unpacker") rfl)
theorem Cnd.gl_StoreError (C : Cnd K mg base) : mg "StoreError" = some (.ref ((gg K).cl 2)) := He.glo_ok C.X C.G (C.c.fact 61 (f := .glo "StoreError") rfl)
theorem Cnd.pm_StoreError (C : Cnd K mg base) {X : Cx} (hK : X.K = K) (hm : X.mg = mg) {m : Str} {j : Nat} {p p2 pos : Pos} (hg : Gl X "StoreError" := by rfl) : PMk X (.Call (.Name "StoreError" p) [.Constant (.str m) j p2] [] pos) (fun _ H Q => Q (.ref ((gg K).cl 2)) none H) := by
  subst hK hm
  obtain ⟨q1, q2, q3, q4⟩ := He.exc_ok (C.c.fact 62 (f := .exc "StoreError") rfl)
  exact pmk_own PySem.F.excBase_ValueError q1 C.gl_StoreError q2 (raises_own q3 q4) hg
theorem Cnd.nm_StoreError (C : Cnd K mg base) {X : Cx} (hm : X.mg = mg) (hg : Gl X "StoreError" := by rfl) : Names X "StoreError" (.ref ((gg K).cl 2)) := ⟨hg, by decide, .inl (by rw [hm]; exact C.gl_StoreError)⟩
theorem Cnd.ex_StoreError (C : Cnd K mg base) : ∀ i b, ci_StoreError i = some b → PySem.W.exmOne K (.ref ((gg K).cl i)) (.ref ((gg K).cl 2)) = some b := by
  intro i b h
  unfold ci_StoreError at h
  split at h
  · cases h; exact He.exm_ok (C.c.fact 63 (f := .exm "WireError" "StoreError" false) rfl)
  · cases h; exact He.exm_ok (C.c.fact 64 (f := .exm "StoreError" "StoreError" true) rfl)
  · cases h
theorem Cnd.gl_Disk (C : Cnd K mg base) : mg "Disk" = some (.ref ((gg K).cl 3)) := He.glo_ok C.X C.G (C.c.fact 65 (f := .glo "Disk") rfl)
theorem Cnd.cl_Disk (C : Cnd K mg base) : Cls K ((gg K).cl 3) := He.cls_ok (C.c.fact 66 (f := .cls "Disk") rfl)
theorem Cnd.no_data (C : Cnd K mg base) : ∀ c ∈ cs_data, Cls K ((gg K).cl c) ∧ NoAttr K ((gg K).cl c) "data" := by
  intro c hc
  unfold cs_data at hc
  simp only [List.mem_cons, List.mem_nil_iff, or_false] at hc
  subst hc
  · exact ⟨C.cl_Unpacker, He.noat_ok (C.c.fact 67 (f := .noat "Unpacker" "data") rfl)⟩
theorem Cnd.no_down (C : Cnd K mg base) : ∀ c ∈ cs_down, Cls K ((gg K).cl c) ∧ NoAttr K ((gg K).cl c) "down" := by
  intro c hc
  unfold cs_down at hc
  simp only [List.mem_cons, List.mem_nil_iff, or_false] at hc
  subst hc
  · exact ⟨C.cl_Disk, He.noat_ok (C.c.fact 68 (f := .noat "Disk" "down") rfl)⟩
theorem Cnd.no_files (C : Cnd K mg base) : ∀ c ∈ cs_files, Cls K ((gg K).cl c) ∧ NoAttr K ((gg K).cl c) "files" := by
  intro c hc
  unfold cs_files at hc
  simp only [List.mem_cons, List.mem_nil_iff, or_false] at hc
  subst hc
  · exact ⟨C.cl_Disk, He.noat_ok (C.c.fact 69 (f := .noat "Disk" "files") rfl)⟩
theorem Cnd.no_fuse (C : Cnd K mg base) : ∀ c ∈ cs_fuse, Cls K ((gg K).cl c) ∧ NoAttr K ((gg K).cl c) "fuse" := by
  intro c hc
  unfold cs_fuse at hc
  simp only [List.mem_cons, List.mem_nil_iff, or_false] at hc
  subst hc
  · exact ⟨C.cl_Disk, He.noat_ok (C.c.fact 70 (f := .noat "Disk" "fuse") rfl)⟩
theorem Cnd.no_kept (C : Cnd K mg base) : ∀ c ∈ cs_kept, Cls K ((gg K).cl c) ∧ NoAttr K ((gg K).cl c) "kept" := by
  intro c hc
  unfold cs_kept at hc
  simp only [List.mem_cons, List.mem_nil_iff, or_false] at hc
  subst hc
  · exact ⟨C.cl_Disk, He.noat_ok (C.c.fact 71 (f := .noat "Disk" "kept") rfl)⟩
theorem Cnd.no_place (C : Cnd K mg base) : ∀ c ∈ cs_place, Cls K ((gg K).cl c) ∧ NoAttr K ((gg K).cl c) "place" := by
  intro c hc
  unfold cs_place at hc
  simp only [List.mem_cons, List.mem_nil_iff, or_false] at hc
  subst hc
  · exact ⟨C.cl_Unpacker, He.noat_ok (C.c.fact 72 (f := .noat "Unpacker" "place") rfl)⟩
theorem Cnd.no_syncs (C : Cnd K mg base) : ∀ c ∈ cs_syncs, Cls K ((gg K).cl c) ∧ NoAttr K ((gg K).cl c) "syncs" := by
  intro c hc
  unfold cs_syncs at hc
  simp only [List.mem_cons, List.mem_nil_iff, or_false] at hc
  subst hc
  · exact ⟨C.cl_Disk, He.noat_ok (C.c.fact 73 (f := .noat "Disk" "syncs") rfl)⟩
theorem Cnd.no_waiting (C : Cnd K mg base) : ∀ c ∈ cs_waiting, Cls K ((gg K).cl c) ∧ NoAttr K ((gg K).cl c) "waiting" := by
  intro c hc
  unfold cs_waiting at hc
  simp only [List.mem_cons, List.mem_nil_iff, or_false] at hc
  subst hc
  · exact ⟨C.cl_Disk, He.noat_ok (C.c.fact 74 (f := .noat "Disk" "waiting") rfl)⟩
theorem Cnd.tb_law (C : Cnd K mg base) : LamX.TabB base mg (codeA K ("law", none)) (tabA K ("law", none)) := C.tb _ (by unfold lams; simp)
theorem Cnd.hc_law (C : Cnd K mg base) : (fdA K ("law", none)).code = .ref (codeA K ("law", none)) := C.cd _ (by unfold lams; simp) _ _ _ _ _ _ _ _ C.def_law
theorem Cnd.hT_law (C : Cnd K mg base) : (tabA K ("law", none), ("law" : Str) ++ ".<locals>." ++ "<lambda>") ∈ (gg K).T := by unfold gg; simp
theorem Cnd.hu_law (C : Cnd K mg base) : ∀ p ∈ (gg K).T, p.1 = tabA K ("law", none) → p.2 = ("law" : Str) ++ ".<locals>." ++ "<lambda>" := by
  intro p hp _
  unfold gg at hp
  simp only [List.mem_cons, List.mem_nil_iff, or_false] at hp
  subst hp
  rfl
def N__law_told : List Str := ["what"]
theorem sc__law_told : FnScope N__law_told ["what"] (defScope s__law_told) := ⟨rfl, rfl, rfl, by decide +kernel, rfl, by decide +kernel, by decide +kernel⟩
theorem tolds__law_told (C : Cnd K mg base) {X : Cx} {W : WX} {k : Nat} {c P : Addr} {params : Arguments} {body : Expr} {scope : Scope} {p lpos pos : Pos} {mb : EM} (hr : Room (k + 2) X.A) (hX : X.K = K ∧ X.mg = mg ∧ X.base = base) (TB : LamX.TabB base mg c P) (hcode : X.env.code = .ref c) (hmT : (P, X.env.qual ++ "<lambda>") ∈ (gg K).T) (hu : ∀ p ∈ (gg K).T, p.1 = P → p.2 = X.env.qual ++ "<lambda>") (L : LamX.LamS X.env.scope scope) (hdef : defaultsOf params X.env = ([], []))
    (hbind : ∀ (q : Str) (cl : List (Str × Addr)) (pm cv ctv : Value), bindArgs (PySem.W.kla_fn "<lambda>" q params body scope cl pm cv ctv) ⟨[], []⟩ = pure [])
    (hbody : ∀ (A : Around) (outer : List Env) (s : Shared) (H : Hp) (E : XK) (f c' : Addr), Room k (A.deeper (LamX.lamEnv X scope s.heap.objs.size f c')) → PE (LamX.lamCx X A outer s H E scope f c') body (tE (gg K) (fun cls d _ H => E cls d H) mb)) (hg : Gl X "_law_told" := by rfl) :
    PE X (.Call (.Name "_law_told" p) [.Lambda params body scope lpos] [] pos) (tE (gg K) W (toldM ci_StoreError "StoreError" mb)) := by
  obtain ⟨hK, hm, hb⟩ := hX
  subst hK hm hb
  have F := C.def__law_told
  have b := C.b__law_told
  obtain ⟨oc, od, dV, kV, doc, pm, an, cdv, ct, osl, e, lk, hcd, _, _⟩ := F.ex
  rw [e] at lk b
  exact de_told (ci := ci_StoreError) (x := "_law_told") (Ng := N__law_told) C.ex_StoreError (by rfl) C.gl_StoreError (by decide) (fun f => rfl) hg C.gl__law_told F.kp lk hcd b sc__law_told (by rfl) (by first | exact Or.inl rfl | exact Or.inr (Or.inl rfl)) TB hcode hmT hu hr L hdef hbind hbody
end
end K15
end

section
set_option Elab.async false
set_option linter.all false
set_option maxRecDepth 100000
set_option maxHeartbeats 0
namespace K15
open PySem L2 DD
noncomputable section
def N_natural : List Str := ["number", "found"]
def natural_w0c : EM := (binM (varM 0) (cM (.int 127)) gtM)
def natural_w0b : SM := (seqM (exprM (bmM (varM 1) (consM (binM (binM (varM 0) (cM (.int 128)) modM) (cM (.int 128)) addM) nilM) appendF))
  (setM 0 (binM (varM 0) (cM (.int 128)) fdivM)))
def m_natural : SM := (seqM (setM 1 (lstM nilM))
  (seqM (whileM (natural_w0c) (natural_w0b))
  (seqM (exprM (bmM (varM 1) (consM (varM 0) nilM) appendF))
  (retM (unM (varM 1) tupF)))))
def F_natural : List D → AH → EO := fun ds h => retOf (m_natural (startD N_natural.length ds) h)
def N_sign_number : List Str := ["sign", "place"]
def m_sign_number : SM := (seqM (setM 1 (ifM (binM (callM (consM (varM 0) nilM) lenF) (cM (.int 1)) eqM) (smM (cM (.str g_SIGNS)) (varM 0) findS) (unM (cM (.int 1)) negF)))
  (seqM (ifSM (binM (varM 1) (cM (.int 0)) ltM)
  (raiseM 0)
  passM)
  (retM (varM 1))))
def F_sign_number : List D → AH → EO := fun ds h => retOf (m_sign_number (startD N_sign_number.length ds) h)
def N_add_number : List Str := ["found", "number"]
def m_add_number : SM := (ifSM (binM (varM 1) (cM (.int 0)) geM)
  (seqM (exprM (bmM (varM 0) (consM (cM (.int 4)) nilM) appendF))
  (exprM (bmM (varM 0) (consM (callM (consM (varM 1) nilM) (callF 1 [] F_natural)) nilM) extendF)))
  (seqM (exprM (bmM (varM 0) (consM (cM (.int 5)) nilM) appendF))
  (exprM (bmM (varM 0) (consM (callM (consM (binM (binM (cM (.int 0)) (varM 1) subM) (cM (.int 1)) subM) nilM) (callF 1 [] F_natural)) nilM) extendF))))
def F_add_number : List D → AH → EO := fun ds h => retOf (m_add_number (startD N_add_number.length ds) h)
def N_add_value : List Str := ["found", "value", "depth", "item", "sign"]
def add_value_f0b (R : List D → AH → EO) : SM := (exprM (callM (consM (varM 0) (consM (varM 3) (consM (binM (varM 2) (cM (.int 1)) addM) nilM))) (callF 3 [] R)))
def m_add_value (R : List D → AH → EO) : SM := (seqM (ifSM (binM (varM 2) (cM (.int 30)) gtM)
  (raiseM 0)
  passM)
  (ifSM (binM (varM 1) (cM .non) isM)
  (exprM (bmM (varM 0) (consM (cM (.int 1)) nilM) appendF))
  (ifSM (binM (varM 1) (cM (.bl true)) isM)
  (exprM (bmM (varM 0) (consM (cM (.int 2)) nilM) appendF))
  (ifSM (binM (varM 1) (cM (.bl false)) isM)
  (exprM (bmM (varM 0) (consM (cM (.int 3)) nilM) appendF))
  (ifSM (unM (varM 1) (isiM "int"))
  (exprM (callM (consM (varM 0) (consM (varM 1) nilM)) (callF 2 [] F_add_number)))
  (ifSM (unM (varM 1) (isiM "str"))
  (seqM (exprM (bmM (varM 0) (consM (cM (.int 6)) nilM) appendF))
  (seqM (exprM (bmM (varM 0) (consM (callM (consM (callM (consM (varM 1) nilM) lenF) nilM) (callF 1 [] F_natural)) nilM) extendF))
  (exprM (bmM (varM 0) (consM (lcM (varM 1) strIt (nameG 4) none (callM (consM (varM 4) nilM) (callF 1 [] F_sign_number)) [4]) nilM) extendF))))
  (ifSM (unM (varM 1) (isiM "tuple"))
  (seqM (exprM (bmM (varM 0) (consM (cM (.int 7)) nilM) appendF))
  (seqM (exprM (bmM (varM 0) (consM (callM (consM (callM (consM (varM 1) nilM) lenF) nilM) (callF 1 [] F_natural)) nilM) extendF))
  (DD.forM (varM 1) tupIt (nameG 3) (add_value_f0b R))))
  (raiseM 0))))))))
def R_add_value : Nat → List D → AH → EO
  | 0 => fun _ _ => .bad
  | n + 1 => fun ds h => retOf (m_add_value (R_add_value n) (startD N_add_value.length ds) h)
def N_pack : List Str := ["value", "depth", "found"]
def m_pack : SM := (seqM (setM 2 (lstM nilM))
  (seqM (exprM (callM (consM (varM 2) (consM (varM 0) (consM (varM 1) nilM))) (callF 3 [] (R_add_value 40))))
  (retM (unM (varM 2) tupF))))
def F_pack : List D → AH → EO := fun ds h => retOf (m_pack (startD N_pack.length ds) h)
def N_Unpacker_init : List Str := ["self", "data"]
def m_Unpacker_init : SM := (seqM (fldSetM "data" cs_data (varM 0) (varM 1))
  (fldSetM "place" cs_place (varM 0) (cM (.int 0))))
def F_Unpacker_init : List D → AH → EO := fun ds h => retOf (m_Unpacker_init (startD N_Unpacker_init.length ds) h)
def N_Unpacker_read_byte : List Str := ["self", "found"]
def m_Unpacker_read_byte : SM := (seqM (ifSM (binM (unM (varM 0) (fldM "place" cs_place)) (callM (consM (unM (varM 0) (fldM "data" cs_data)) nilM) lenF) geM)
  (raiseM 0)
  passM)
  (seqM (setM 1 (binM (unM (varM 0) (fldM "data" cs_data)) (unM (varM 0) (fldM "place" cs_place)) itM))
  (seqM (fldSetM "place" cs_place (varM 0) (binM (unM (varM 0) (fldM "place" cs_place)) (cM (.int 1)) addM))
  (retM (varM 1)))))
def F_Unpacker_read_byte : List D → AH → EO := fun ds h => retOf (m_Unpacker_read_byte (startD N_Unpacker_read_byte.length ds) h)
def N_Unpacker_read_number : List Str := ["self", "number", "weight", "byte"]
def Unpacker_read_number_w0c : EM := (binM (varM 3) (cM (.int 127)) gtM)
def Unpacker_read_number_w0b : SM := (seqM (setM 1 (binM (varM 1) (binM (binM (varM 3) (cM (.int 128)) subM) (varM 2) mulM) addM))
  (seqM (setM 2 (binM (varM 2) (cM (.int 128)) mulM))
  (setM 3 (methF "read_byte" 1 1 [] F_Unpacker_read_byte (varM 0) nilM))))
def m_Unpacker_read_number : SM := (seqM (setM 1 (cM (.int 0)))
  (seqM (setM 2 (cM (.int 1)))
  (seqM (setM 3 (methF "read_byte" 1 1 [] F_Unpacker_read_byte (varM 0) nilM))
  (seqM (whileM (Unpacker_read_number_w0c) (Unpacker_read_number_w0b))
  (seqM (ifSM (andM (binM (varM 3) (cM (.int 0)) eqM) (binM (varM 2) (cM (.int 1)) gtM))
  (raiseM 0)
  passM)
  (retM (binM (varM 1) (binM (varM 3) (varM 2) mulM) addM)))))))
def F_Unpacker_read_number : List D → AH → EO := fun ds h => retOf (m_Unpacker_read_number (startD N_Unpacker_read_number.length ds) h)
def N_Unpacker_read_length : List Str := ["self", "many"]
def m_Unpacker_read_length : SM := (seqM (setM 1 (methF "read_number" 1 1 [] F_Unpacker_read_number (varM 0) nilM))
  (seqM (ifSM (binM (varM 1) (binM (callM (consM (unM (varM 0) (fldM "data" cs_data)) nilM) lenF) (unM (varM 0) (fldM "place" cs_place)) subM) gtM)
  (raiseM 0)
  passM)
  (retM (varM 1))))
def F_Unpacker_read_length : List D → AH → EO := fun ds h => retOf (m_Unpacker_read_length (startD N_Unpacker_read_length.length ds) h)
def N_Unpacker_read_text : List Str := ["self", "end", "places", "place"]
def m_Unpacker_read_text : SM := (seqM (setM 1 (binM (methF "read_length" 1 1 [] F_Unpacker_read_length (varM 0) nilM) (unM (varM 0) (fldM "place" cs_place)) addM))
  (seqM (setM 2 (slM (unM (varM 0) (fldM "data" cs_data)) (.some (unM (varM 0) (fldM "place" cs_place))) (.some (varM 1))))
  (seqM (ifSM (callM (consM (lcQ (varM 2) tupIt (nameG 3) none (binM (varM 3) (callM (consM (cM (.str g_SIGNS)) nilM) lenF) geM) [3]) nilM) anyF)
  (raiseM 0)
  passM)
  (seqM (fldSetM "place" cs_place (varM 0) (varM 1))
  (retM (smM (cM (.str "")) (lcQ (varM 2) tupIt (nameG 3) none (binM (cM (.str g_SIGNS)) (varM 3) itM) [3]) joinS))))))
def F_Unpacker_read_text : List D → AH → EO := fun ds h => retOf (m_Unpacker_read_text (startD N_Unpacker_read_text.length ds) h)
def N_Unpacker_read_value : List Str := ["self", "depth", "mark", "_"]
def m_Unpacker_read_value (R : List D → AH → EO) : SM := (seqM (ifSM (binM (varM 1) (cM (.int 30)) gtM)
  (raiseM 0)
  passM)
  (seqM (setM 2 (methF "read_byte" 1 1 [] F_Unpacker_read_byte (varM 0) nilM))
  (seqM (ifSM (binM (varM 2) (cM (.int 1)) eqM)
  (retM (cM .non))
  passM)
  (seqM (ifSM (orM (binM (varM 2) (cM (.int 2)) eqM) (binM (varM 2) (cM (.int 3)) eqM))
  (retM (binM (varM 2) (cM (.int 2)) eqM))
  passM)
  (seqM (ifSM (binM (varM 2) (cM (.int 4)) eqM)
  (retM (methF "read_number" 1 1 [] F_Unpacker_read_number (varM 0) nilM))
  passM)
  (seqM (ifSM (binM (varM 2) (cM (.int 5)) eqM)
  (retM (binM (binM (cM (.int 0)) (methF "read_number" 1 1 [] F_Unpacker_read_number (varM 0) nilM) subM) (cM (.int 1)) subM))
  passM)
  (seqM (ifSM (binM (varM 2) (cM (.int 6)) eqM)
  (retM (methF "read_text" 1 1 [] F_Unpacker_read_text (varM 0) nilM))
  passM)
  (seqM (ifSM (binM (varM 2) (cM (.int 7)) eqM)
  (retM (unM (lcM (methF "read_length" 1 1 [] F_Unpacker_read_length (varM 0) nilM) rngIt1 (nameG 3) none (methF "read_value" 1 2 [] R (varM 0) (consM (binM (varM 1) (cM (.int 1)) addM) nilM)) [3]) tupF))
  passM)
  (raiseM 0)))))))))
def R_Unpacker_read_value : Nat → List D → AH → EO
  | 0 => fun _ _ => .bad
  | n + 1 => fun ds h => retOf (m_Unpacker_read_value (R_Unpacker_read_value n) (startD N_Unpacker_read_value.length ds) h)
def N_unpack : List Str := ["data", "unpacker", "value"]
def m_unpack : SM := (seqM (setM 1 (callM (consM (varM 0) nilM) (makeF 1 2 [] F_Unpacker_init)))
  (seqM (setM 2 (methF "read_value" 1 2 [] (R_Unpacker_read_value 40) (varM 1) (consM (cM (.int 0)) nilM)))
  (seqM (ifSM (binM (unM (varM 1) (fldM "place" cs_place)) (callM (consM (unM (varM 1) (fldM "data" cs_data)) nilM) lenF) neM)
  (raiseM 0)
  passM)
  (retM (varM 2)))))
def F_unpack : List D → AH → EO := fun ds h => retOf (m_unpack (startD N_unpack.length ds) h)
def N_four : List Str := ["number"]
def m_four : SM := (retM (tupM (consM (binM (binM (varM 0) (cM (.int 16777216)) fdivM) (cM (.int 256)) modM) (consM (binM (binM (varM 0) (cM (.int 65536)) fdivM) (cM (.int 256)) modM) (consM (binM (binM (varM 0) (cM (.int 256)) fdivM) (cM (.int 256)) modM) (consM (binM (varM 0) (cM (.int 256)) modM) nilM))))))
def F_four : List D → AH → EO := fun ds h => retOf (m_four (startD N_four.length ds) h)
def N_sum_of_bytes : List Str := ["data", "first", "second", "byte"]
def sum_of_bytes_f0b : SM := (seqM (setM 1 (binM (varM 1) (varM 3) addM))
  (setM 2 (binM (varM 2) (varM 1) addM)))
def m_sum_of_bytes : SM := (seqM (setM 1 (cM (.int 1)))
  (seqM (setM 2 (cM (.int 0)))
  (seqM (DD.forM (varM 0) tupIt (nameG 3) (sum_of_bytes_f0b))
  (retM (callM (consM (binM (binM (binM (varM 2) (cM (.int 65521)) modM) (cM (.int 65536)) mulM) (binM (varM 1) (cM (.int 65521)) modM) addM) nilM) (callF 1 [] F_four))))))
def F_sum_of_bytes : List D → AH → EO := fun ds h => retOf (m_sum_of_bytes (startD N_sum_of_bytes.length ds) h)
def N_number_of_four : List Str := ["data"]
def m_number_of_four : SM := (retM (binM (binM (binM (binM (binM (varM 0) (cM (.int 0)) itM) (cM (.int 16777216)) mulM) (binM (binM (varM 0) (cM (.int 1)) itM) (cM (.int 65536)) mulM) addM) (binM (binM (varM 0) (cM (.int 2)) itM) (cM (.int 256)) mulM) addM) (binM (varM 0) (cM (.int 3)) itM) addM))
def F_number_of_four : List D → AH → EO := fun ds h => retOf (m_number_of_four (startD N_number_of_four.length ds) h)
def N_frame : List Str := ["value", "data"]
def m_frame : SM := (seqM (setM 1 (callM (consM (varM 0) nilM) (callF 2 [(.int 0)] F_pack)))
  (retM (binM (binM (callM (consM (callM (consM (varM 1) nilM) lenF) nilM) (callF 1 [] F_four)) (varM 1) addM) (callM (consM (varM 1) nilM) (callF 1 [] F_sum_of_bytes)) addM)))
def F_frame : List D → AH → EO := fun ds h => retOf (m_frame (startD N_frame.length ds) h)
def N_record_end : List Str := ["data", "place", "end"]
def m_record_end : SM := (seqM (ifSM (binM (binM (varM 1) (cM (.int 8)) addM) (callM (consM (varM 0) nilM) lenF) gtM)
  (retM (cM .non))
  passM)
  (seqM (setM 2 (binM (binM (varM 1) (cM (.int 8)) addM) (callM (consM (slM (varM 0) (.some (varM 1)) (.some (binM (varM 1) (cM (.int 4)) addM))) nilM) (callF 1 [] F_number_of_four)) addM))
  (seqM (ifSM (orM (binM (varM 2) (callM (consM (varM 0) nilM) lenF) gtM) (binM (callM (consM (slM (varM 0) (.some (binM (varM 1) (cM (.int 4)) addM)) (.some (binM (varM 2) (cM (.int 4)) subM))) nilM) (callF 1 [] F_sum_of_bytes)) (slM (varM 0) (.some (binM (varM 2) (cM (.int 4)) subM)) (.some (varM 2))) neM))
  (retM (cM .non))
  passM)
  (retM (varM 2)))))
def F_record_end : List D → AH → EO := fun ds h => retOf (m_record_end (startD N_record_end.length ds) h)
def N_read_frames : List Str := ["data", "values", "place", "end"]
def read_frames_w0c : EM := (binM (varM 3) (cM .non) isnotM)
def read_frames_w0b : SM := (seqM (tryQ (exprM (bmM (varM 1) (consM (callM (consM (slM (varM 0) (.some (binM (varM 2) (cM (.int 4)) addM)) (.some (binM (varM 3) (cM (.int 4)) subM))) nilM) (callF 1 [] F_unpack)) nilM) appendF)) [(ci_WireError, brkM)])
  (seqM (setM 2 (varM 3))
  (setM 3 (callM (consM (varM 0) (consM (varM 2) nilM)) (callF 2 [] F_record_end)))))
def m_read_frames : SM := (seqM (setM 1 (lstM nilM))
  (seqM (setM 2 (cM (.int 0)))
  (seqM (setM 3 (callM (consM (varM 0) (consM (varM 2) nilM)) (callF 2 [] F_record_end)))
  (seqM (whileM (read_frames_w0c) (read_frames_w0b))
  (retM (tupM (consM (varM 1) (consM (varM 2) nilM))))))))
def F_read_frames : List D → AH → EO := fun ds h => retOf (m_read_frames (startD N_read_frames.length ds) h)
def N_Disk_init : List Str := ["self"]
def m_Disk_init : SM := (seqM (fldSetM "kept" cs_kept (varM 0) (tupM nilM))
  (seqM (fldSetM "waiting" cs_waiting (varM 0) (tupM nilM))
  (seqM (fldSetM "files" cs_files (varM 0) dnewM)
  (seqM (fldSetM "syncs" cs_syncs (varM 0) (cM (.int 0)))
  (seqM (fldSetM "fuse" cs_fuse (varM 0) (cM .non))
  (fldSetM "down" cs_down (varM 0) (cM (.bl false))))))))
def F_Disk_init : List D → AH → EO := fun ds h => retOf (m_Disk_init (startD N_Disk_init.length ds) h)
def N_Disk_arm : List Str := ["self", "steps"]
def m_Disk_arm : SM := (fldSetM "fuse" cs_fuse (varM 0) (varM 1))
def F_Disk_arm : List D → AH → EO := fun ds h => retOf (m_Disk_arm (startD N_Disk_arm.length ds) h)
def N_Disk_step : List Str := ["self"]
def m_Disk_step : SM := (seqM (ifSM (andM (binM (unM (varM 0) (fldM "fuse" cs_fuse)) (cM .non) isnotM) (binM (unM (varM 0) (fldM "fuse" cs_fuse)) (cM (.int 0)) leM))
  (fldSetM "down" cs_down (varM 0) (cM (.bl true)))
  passM)
  (seqM (ifSM (unM (unM (varM 0) (fldM "down" cs_down)) truM)
  (raiseM 2)
  passM)
  (ifSM (binM (unM (varM 0) (fldM "fuse" cs_fuse)) (cM .non) isnotM)
  (fldSetM "fuse" cs_fuse (varM 0) (binM (unM (varM 0) (fldM "fuse" cs_fuse)) (cM (.int 1)) subM))
  passM)))
def F_Disk_step : List D → AH → EO := fun ds h => retOf (m_Disk_step (startD N_Disk_step.length ds) h)
def N_Disk_append_bytes : List Str := ["self", "data"]
def m_Disk_append_bytes : SM := (seqM (exprM (methF "step" 3 1 [] F_Disk_step (varM 0) nilM))
  (fldSetM "waiting" cs_waiting (varM 0) (binM (unM (varM 0) (fldM "waiting" cs_waiting)) (varM 1) addM)))
def F_Disk_append_bytes : List D → AH → EO := fun ds h => retOf (m_Disk_append_bytes (startD N_Disk_append_bytes.length ds) h)
def N_Disk_append : List Str := ["self", "value"]
def m_Disk_append : SM := (exprM (methF "append_bytes" 3 2 [] F_Disk_append_bytes (varM 0) (consM (callM (consM (varM 1) nilM) (callF 1 [] F_frame)) nilM)))
def F_Disk_append : List D → AH → EO := fun ds h => retOf (m_Disk_append (startD N_Disk_append.length ds) h)
def N_Disk_sync : List Str := ["self"]
def m_Disk_sync : SM := (seqM (exprM (methF "step" 3 1 [] F_Disk_step (varM 0) nilM))
  (seqM (fldSetM "kept" cs_kept (varM 0) (binM (unM (varM 0) (fldM "kept" cs_kept)) (unM (varM 0) (fldM "waiting" cs_waiting)) addM))
  (seqM (fldSetM "waiting" cs_waiting (varM 0) (tupM nilM))
  (fldSetM "syncs" cs_syncs (varM 0) (binM (unM (varM 0) (fldM "syncs" cs_syncs)) (cM (.int 1)) addM)))))
def F_Disk_sync : List D → AH → EO := fun ds h => retOf (m_Disk_sync (startD N_Disk_sync.length ds) h)
def N_Disk_records : List Str := ["self", "found", "_"]
def m_Disk_records : SM := (seqM (asgM (callM (consM (binM (unM (varM 0) (fldM "kept" cs_kept)) (unM (varM 0) (fldM "waiting" cs_waiting)) addM) nilM) (callF 1 [] F_read_frames)) (tupG ([1, 2].map nameG)))
  (retM (varM 1)))
def F_Disk_records : List D → AH → EO := fun ds h => retOf (m_Disk_records (startD N_Disk_records.length ds) h)
def N_Disk_replace : List Str := ["self", "name", "value", "records", "data", "kept", "record"]
def Disk_replace_f0b : SM := (exprM (bmM (varM 5) (consM (callM (consM (varM 6) nilM) (callF 1 [] F_frame)) nilM) extendF))
def m_Disk_replace : SM := (seqM (setM 4 (callM (consM (varM 2) nilM) (callF 1 [] F_frame)))
  (seqM (setM 5 (lstM nilM))
  (seqM (DD.forM (varM 3) lstIt (nameG 6) (Disk_replace_f0b))
  (seqM (exprM (methF "step" 3 1 [] F_Disk_step (varM 0) nilM))
  (seqM (asgM (varM 4) (subG (unM (varM 0) (fldM "files" cs_files)) (varM 1) setDF))
  (seqM (fldSetM "kept" cs_kept (varM 0) (unM (varM 5) tupF))
  (seqM (fldSetM "waiting" cs_waiting (varM 0) (tupM nilM))
  (fldSetM "syncs" cs_syncs (varM 0) (binM (unM (varM 0) (fldM "syncs" cs_syncs)) (cM (.int 1)) addM)))))))))
def F_Disk_replace : List D → AH → EO := fun ds h => retOf (m_Disk_replace (startD N_Disk_replace.length ds) h)
def N_Disk_read_file : List Str := ["self", "name", "found", "many"]
def m_Disk_read_file : SM := (seqM (ifSM (binM (varM 1) (unM (varM 0) (fldM "files" cs_files)) dninM)
  (retM (cM .non))
  passM)
  (seqM (asgM (callM (consM (binM (unM (varM 0) (fldM "files" cs_files)) (varM 1) dgetM) nilM) (callF 1 [] F_read_frames)) (tupG ([2, 3].map nameG)))
  (seqM (ifSM (orM (binM (callM (consM (varM 2) nilM) lenF) (cM (.int 1)) neM) (binM (varM 3) (callM (consM (binM (unM (varM 0) (fldM "files" cs_files)) (varM 1) dgetM) nilM) lenF) neM))
  (raiseM 2)
  passM)
  (retM (binM (varM 2) (cM (.int 0)) itM)))))
def F_Disk_read_file : List D → AH → EO := fun ds h => retOf (m_Disk_read_file (startD N_Disk_read_file.length ds) h)
def N_Disk_crash : List Str := ["self", "many"]
def m_Disk_crash : SM := (seqM (fldSetM "kept" cs_kept (varM 0) (binM (unM (varM 0) (fldM "kept" cs_kept)) (slM (unM (varM 0) (fldM "waiting" cs_waiting)) .none (.some (callM (consM (cM (.int 0)) (consM (varM 1) nilM)) maxF))) addM))
  (seqM (fldSetM "waiting" cs_waiting (varM 0) (tupM nilM))
  (fldSetM "down" cs_down (varM 0) (cM (.bl true)))))
def F_Disk_crash : List D → AH → EO := fun ds h => retOf (m_Disk_crash (startD N_Disk_crash.length ds) h)
def N_Disk_restart : List Str := ["self", "_", "many"]
def m_Disk_restart : SM := (seqM (asgM (callM (consM (unM (varM 0) (fldM "kept" cs_kept)) nilM) (callF 1 [] F_read_frames)) (tupG ([1, 2].map nameG)))
  (seqM (fldSetM "kept" cs_kept (varM 0) (slM (unM (varM 0) (fldM "kept" cs_kept)) .none (.some (varM 2))))
  (seqM (fldSetM "fuse" cs_fuse (varM 0) (cM .non))
  (fldSetM "down" cs_down (varM 0) (cM (.bl false))))))
def F_Disk_restart : List D → AH → EO := fun ds h => retOf (m_Disk_restart (startD N_Disk_restart.length ds) h)
def N__law_dice : List Str := ["cell"]
def m__law_dice : SM := (seqM (ifSM (chainM (binM (cM (.int 0)) (cM (.int 10)) subM) (varM 0) (cM (.int 10)) ltM ltM)
  (retM (lstM (consM (callM (consM (varM 0) nilM) absF) (consM (cM (.int 0)) (consM (cM (.int 2)) nilM)))))
  passM)
  (retM (lstM (consM (varM 0) (consM (binM (cM (.int 1)) (binM (callM (consM (varM 0) nilM) intF) (cM (.int 1009)) modM) addM) (consM (callM (consM (binM (varM 0) (binM (cM (.int 10)) (cM (.int 18)) powM) geM) nilM) intF) nilM))))))
def F__law_dice : List D → AH → EO := fun ds h => retOf (m__law_dice (startD N__law_dice.length ds) h)
def N__law_roll : List Str := ["dice", "many", "found"]
def m__law_roll (R : List D → AH → EO) : SM := (seqM (ifSM (orM (binM (binM (varM 0) (cM (.int 2)) itM) (cM (.int 2)) eqM) (andM (binM (binM (varM 0) (cM (.int 2)) itM) (cM (.int 1)) eqM) (binM (binM (varM 0) (cM (.int 0)) itM) (cM (.int 0)) gtM)))
  (seqM (setM 2 (binM (callM (consM (binM (varM 0) (cM (.int 0)) itM) nilM) intF) (varM 1) modM))
  (seqM (asgM (binM (binM (varM 0) (cM (.int 0)) itM) (varM 1) fdivM) (subG (varM 0) (cM (.int 0)) setLF))
  (retM (varM 2))))
  passM)
  (seqM (asgM (cM (.int 0)) (subG (varM 0) (cM (.int 2)) setLF))
  (seqM (ifSM (binM (varM 1) (cM (.int 100000000)) gtM)
  (retM (binM (callM (consM (binM (binM (callM (consM (varM 0) (consM (binM (binM (varM 1) (cM (.int 100000000)) fdivM) (cM (.int 1)) addM) nilM)) (callF 2 [] R)) (cM (.int 100000000)) mulM) (callM (consM (varM 0) (consM (cM (.int 100000000)) nilM)) (callF 2 [] R)) addM) nilM) intF) (varM 1) modM))
  passM)
  (seqM (asgM (binM (callM (consM (binM (binM (binM (binM (varM 0) (cM (.int 0)) itM) (cM (.int 48271)) mulM) (binM (binM (varM 0) (cM (.int 1)) itM) (cM (.int 69621)) mulM) addM) (cM (.int 11)) addM) nilM) intF) (cM (.int 2147483647)) modM) (subG (varM 0) (cM (.int 0)) setLF))
  (seqM (asgM (binM (binM (varM 0) (cM (.int 1)) itM) (cM (.int 1)) addM) (subG (varM 0) (cM (.int 1)) setLF))
  (retM (binM (callM (consM (binM (binM (varM 0) (cM (.int 0)) itM) (cM (.int 7)) fdivM) nilM) intF) (varM 1) modM)))))))
def R__law_roll : Nat → List D → AH → EO
  | 0 => fun _ _ => .bad
  | n + 1 => fun ds h => retOf (m__law_roll (R__law_roll n) (startD N__law_roll.length ds) h)
def N__law_rounds : List Str := ["script", "most", "cells", "cell"]
def m__law_rounds : SM := (seqM (setM 2 (slM (varM 0) .none (.some (varM 1))))
  (seqM (ifSM (binM (varM 2) (lstM nilM) eqM)
  (setM 2 (lstM (consM (cM (.int 0)) nilM)))
  passM)
  (retM (lcQ (varM 2) lstIt (nameG 3) none (callM (consM (varM 3) nilM) (callF 1 [] F__law_dice)) [3]))))
def F__law_rounds : List D → AH → EO := fun ds h => retOf (m__law_rounds (startD N__law_rounds.length ds) h)
def N__law_bytes : List Str := ["rows", "found", "row"]
def _law_bytes_f0b : SM := (setM 1 (binM (varM 1) (callM (consM (varM 2) nilM) (callF 1 [] F_frame)) addM))
def m__law_bytes : SM := (seqM (setM 1 (tupM nilM))
  (seqM (DD.forM (varM 0) lstIt (nameG 2) (_law_bytes_f0b))
  (retM (varM 1))))
def F__law_bytes : List D → AH → EO := fun ds h => retOf (m__law_bytes (startD N__law_bytes.length ds) h)
def N_law : List Str := ["script", "dice", "step", "disk", "kept", "waiting", "files", "fuse", "down", "syncs", "sort", "value", "name", "told_now", "data", "many", "rows", "k"]
def law_f0b : SM := (seqM (asgM (tupM (consM (callM (consM (varM 1) (consM (cM (.int 9)) nilM)) (callF 2 [] (R__law_roll 5))) (consM (tupM (consM (cM (.str "r")) (consM (callM (consM (varM 1) (consM (cM (.int 999)) nilM)) (callF 2 [] (R__law_roll 5))) (consM (binM (cM (.str "x")) (callM (consM (varM 1) (consM (cM (.int 4)) nilM)) (callF 2 [] (R__law_roll 5))) repM) nilM)))) nilM))) (tupG ([10, 11].map nameG)))
  (seqM (ifSM (binM (varM 10) (cM (.int 0)) eqM)
  (seqM (setM 7 (callM (consM (varM 1) (consM (cM (.int 9)) nilM)) (callF 2 [] (R__law_roll 5))))
  (exprM (methF "arm" 3 2 [] F_Disk_arm (varM 3) (consM (varM 7) nilM))))
  (ifSM (binM (varM 10) (cM (.int 7)) ltM)
  (seqM (setM 8 (orM (varM 8) (binM (varM 7) (cM (.int 0)) eqM)))
  (seqM (setM 7 (ifM (orM (binM (varM 7) (cM .non) isM) (varM 8)) (varM 7) (binM (varM 7) (cM (.int 1)) subM)))
  (seqM (setM 12 (binM (cM (.str "ab")) (callM (consM (varM 1) (consM (cM (.int 2)) nilM)) (callF 2 [] (R__law_roll 5))) itM))
  (seqM (setM 13 (toldM ci_StoreError "StoreError" (ifM (binM (varM 10) (cM (.int 4)) ltM) (methF "append" 3 2 [] F_Disk_append (varM 3) (consM (varM 11) nilM)) (ifM (binM (varM 10) (cM (.int 6)) ltM) (methF "sync" 3 1 [] F_Disk_sync (varM 3) nilM) (methF "replace" 3 4 [] F_Disk_replace (varM 3) (consM (varM 12) (consM (varM 11) (consM (slM (varM 4) .none (.some (cM (.int 1)))) nilM))))))))
  (seqM (ifSM (binM (binM (varM 13) (cM (.str "StoreError")) eqM) (varM 8) neM)
  (retM (cM (.bl false)))
  passM)
  (ifSM (notM (varM 8))
  (seqM (setM 9 (binM (varM 9) (callM (consM (binM (varM 10) (cM (.int 3)) gtM) nilM) intF) addM))
  (seqM (asgM (ifM (binM (varM 10) (cM (.int 6)) eqM) (varM 11) (dg1M (varM 6) (varM 12))) (subG (varM 6) (varM 12) setDF))
  (asgM (ifM (binM (varM 10) (cM (.int 4)) ltM) (tupM (consM (varM 4) (consM (binM (varM 5) (lstM (consM (varM 11) nilM)) addM) nilM))) (ifM (binM (varM 10) (cM (.int 6)) ltM) (tupM (consM (binM (varM 4) (varM 5) addM) (consM (lstM nilM) nilM))) (tupM (consM (slM (varM 4) .none (.some (cM (.int 1)))) (consM (lstM nilM) nilM))))) (tupG ([4, 5].map nameG)))))
  passM))))))
  (ifSM (binM (varM 10) (cM (.int 7)) eqM)
  (seqM (setM 14 (callM (consM (varM 5) nilM) (callF 1 [] F__law_bytes)))
  (seqM (setM 15 (callM (consM (varM 1) (consM (binM (callM (consM (varM 14) nilM) lenF) (cM (.int 3)) addM) nilM)) (callF 2 [] (R__law_roll 5))))
  (seqM (exprM (methF "crash" 3 2 [] F_Disk_crash (varM 3) (consM (varM 15) nilM)))
  (seqM (ifSM (orM (binM (unM (varM 3) (fldM "kept" cs_kept)) (binM (callM (consM (varM 4) nilM) (callF 1 [] F__law_bytes)) (slM (varM 14) .none (.some (varM 15))) addM) neM) (orM (binM (unM (varM 3) (fldM "waiting" cs_waiting)) (tupM nilM) neM) (notM (unM (unM (varM 3) (fldM "down" cs_down)) truM))))
  (retM (cM (.bl false)))
  passM)
  (seqM (exprM (methF "restart" 3 1 [] F_Disk_restart (varM 3) nilM))
  (seqM (setM 16 (lcQ (binM (callM (consM (varM 5) nilM) lenF) (cM (.int 1)) addM) rngIt1 (nameG 17) (some (binM (callM (consM (callM (consM (slM (varM 5) .none (.some (varM 17))) nilM) (callF 1 [] F__law_bytes)) nilM) lenF) (varM 15) leM)) (varM 17) [17]))
  (asgM (tupM (consM (binM (varM 4) (slM (varM 5) .none (.some (binM (varM 16) (binM (callM (consM (varM 16) nilM) lenF) (cM (.int 1)) subM) itM))) addM) (consM (lstM nilM) (consM (cM .non) (consM (cM (.bl false)) nilM))))) (tupG ([4, 5, 7, 8].map nameG)))))))))
  passM)))
  (seqM (ifSM (andM (binM (varM 10) (cM (.int 7)) eqM) (orM (binM (unM (varM 3) (fldM "kept" cs_kept)) (callM (consM (varM 4) nilM) (callF 1 [] F__law_bytes)) neM) (unM (unM (varM 3) (fldM "down" cs_down)) truM)))
  (retM (cM (.bl false)))
  passM)
  (seqM (ifSM (orM (binM (callM (consM (methF "records" 3 1 [] F_Disk_records (varM 3) nilM) nilM) listF) (binM (varM 4) (varM 5) addM) neM) (binM (tupM (consM (unM (varM 3) (fldM "down" cs_down)) (consM (unM (varM 3) (fldM "syncs" cs_syncs)) nilM))) (tupM (consM (varM 8) (consM (varM 9) nilM))) neM))
  (retM (cM (.bl false)))
  passM)
  (ifSM (binM (lcQ (lstM (consM (cM (.str "a")) (consM (cM (.str "b")) nilM))) lstIt (nameG 12) (some (binM (methF "read_file" 3 2 [] F_Disk_read_file (varM 3) (consM (varM 12) nilM)) (dg1M (varM 6) (varM 12)) neM)) (varM 12) [12]) (lstM nilM) neM)
  (retM (cM (.bl false)))
  passM)))))
def law_f1b : SM := (seqM (asgM (tupM (consM (callM nilM (makeF 3 1 [] F_Disk_init)) (consM (lstM nilM) (consM (lstM nilM) (consM dnewM (consM (cM .non) (consM (cM (.bl false)) (consM (cM (.int 0)) nilM)))))))) (tupG ([3, 4, 5, 6, 7, 8, 9].map nameG)))
  (DD.forM (callM (consM (varM 1) (consM (cM (.int 41)) nilM)) (callF 2 [] (R__law_roll 5))) rngIt1 (nameG 2) (law_f0b)))
def m_law : SM := (seqM (DD.forM (callM (consM (varM 0) (consM (cM (.int 1)) nilM)) (callF 2 [] F__law_rounds)) lstIt (nameG 1) (law_f1b))
  (retM (cM (.bl true))))
def F_law : List D → AH → EO := fun ds h => retOf (m_law (startD N_law.length ds) h)
end
end K15
end

section
set_option Elab.async false
set_option linter.all false
set_option maxRecDepth 100000
set_option maxHeartbeats 0
namespace K15
open PySem L2 DD
section
variable {P : Program} {w : World} {K : PySem.W.Frag} {mg : Str → Option Value} {base : Heap}
theorem sc_natural : FnScope N_natural ["number"] (defScope s_natural) := ⟨rfl, rfl, rfl, by decide +kernel, rfl, by decide +kernel, by decide +kernel⟩
theorem ok_natural (C : Cnd K mg base) : FnOk P w K mg base (L2.CX P w) 1 (He.fAd K ("natural", none)) (fdA K ("natural", none)) ["number"] (spD (gg K) 1 F_natural) := by
    refine fn_okD3 (m := m_natural) C.def_natural sc_natural rfl rfl fun A outer s H E hr => ?_
    have tk : Takes (cxOf (L2.CX P w) P w K mg base N_natural "natural" (defScope s_natural) (He.fAd K ("natural", none)) (fdA K ("natural", none)).code A outer s H E) (fun cls d _ H => E cls d H) := takes_of rfl rfl rfl rfl
    have po : PassesOwn (model P w) (A.deeper (PyProof.Rows.envOfC "natural" (defScope s_natural) s.heap.objs.size (He.fAd K ("natural", none)) (fdA K ("natural", none)).code)) (PyProof.Rows.envOfC "natural" (defScope s_natural) s.heap.objs.size (He.fAd K ("natural", none)) (fdA K ("natural", none)).code) (cxOf (L2.CX P w) P w K mg base N_natural "natural" (defScope s_natural) (He.fAd K ("natural", none)) (fdA K ("natural", none)).code A outer s H E).xe := passes_of rfl
    exact (dss_cons (ds_set (i := 1) sc_natural.nd rfl (Or.inl rfl) (de_lst dl_nil))
  (dss_cons (ds_while po (dt_cmp op_gt rs_gt (dv 0) dk_int (nomark _))
  (dss_cons (ds_expr (d_append (dv 1) (dl_cons (de_op op_addAny rs_add (de_op op_mod rs_mod (dv 0) dk_int) dk_int) dl_nil)))
  (dss_one (ds_set (i := 0) sc_natural.nd rfl (Or.inl rfl) (de_op op_fdivW rs_fdiv (dv 0) dk_int)))))
  (dss_cons (ds_expr (d_append (dv 1) (dl_cons (dv 0) dl_nil)))
  (dss_one (ds_ret (de_tuple rfl rfl (C.fr_tuple) (dv 1)))))))
theorem sc_sign_number : FnScope N_sign_number ["sign"] (defScope s_sign_number) := ⟨rfl, rfl, rfl, by decide +kernel, rfl, by decide +kernel, by decide +kernel⟩
theorem ok_sign_number (C : Cnd K mg base) : FnOk P w K mg base (L2.CX P w) 1 (He.fAd K ("sign_number", none)) (fdA K ("sign_number", none)) ["sign"] (spD (gg K) 1 F_sign_number) := by
    refine fn_okD3 (m := m_sign_number) C.def_sign_number sc_sign_number rfl rfl fun A outer s H E hr => ?_
    have tk : Takes (cxOf (L2.CX P w) P w K mg base N_sign_number "sign_number" (defScope s_sign_number) (He.fAd K ("sign_number", none)) (fdA K ("sign_number", none)).code A outer s H E) (fun cls d _ H => E cls d H) := takes_of rfl rfl rfl rfl
    have po : PassesOwn (model P w) (A.deeper (PyProof.Rows.envOfC "sign_number" (defScope s_sign_number) s.heap.objs.size (He.fAd K ("sign_number", none)) (fdA K ("sign_number", none)).code)) (PyProof.Rows.envOfC "sign_number" (defScope s_sign_number) s.heap.objs.size (He.fAd K ("sign_number", none)) (fdA K ("sign_number", none)).code) (cxOf (L2.CX P w) P w K mg base N_sign_number "sign_number" (defScope s_sign_number) (He.fAd K ("sign_number", none)) (fdA K ("sign_number", none)).code A outer s H E).xe := passes_of rfl
    exact (dss_cons (ds_set (i := 1) sc_sign_number.nd rfl (Or.inl rfl) (de_if (dt_cmp (op_eqAny hr.units) rs_eq (d_len rfl (C.fr_len) (dv 0)) dk_int (nomark _)) (d_find (dg_str C.gs_SIGNS) (dv 0)) (de_un un_neg rs_neg dk_int)))
  (dss_cons (ds_if (dt_cmp op_lt rs_lt (dv 1) dk_int (nomark _))
  (dss_one (ds_raise (c := 0) rfl tk (C.pm_WireError rfl rfl) (fun _ _ _ z => z)))
  dss_nil)
  (dss_one (ds_ret (dv 1)))))
theorem sc_add_number : FnScope N_add_number ["found", "number"] (defScope s_add_number) := ⟨rfl, rfl, rfl, by decide +kernel, rfl, by decide +kernel, by decide +kernel⟩
theorem ok_add_number (C : Cnd K mg base) : FnOk P w K mg base (L2.CX P w) 2 (He.fAd K ("add_number", none)) (fdA K ("add_number", none)) ["found", "number"] (spD (gg K) 2 F_add_number) := by
    refine fn_okD3 (m := m_add_number) C.def_add_number sc_add_number rfl rfl fun A outer s H E hr => ?_
    have tk : Takes (cxOf (L2.CX P w) P w K mg base N_add_number "add_number" (defScope s_add_number) (He.fAd K ("add_number", none)) (fdA K ("add_number", none)).code A outer s H E) (fun cls d _ H => E cls d H) := takes_of rfl rfl rfl rfl
    have po : PassesOwn (model P w) (A.deeper (PyProof.Rows.envOfC "add_number" (defScope s_add_number) s.heap.objs.size (He.fAd K ("add_number", none)) (fdA K ("add_number", none)).code)) (PyProof.Rows.envOfC "add_number" (defScope s_add_number) s.heap.objs.size (He.fAd K ("add_number", none)) (fdA K ("add_number", none)).code) (cxOf (L2.CX P w) P w K mg base N_add_number "add_number" (defScope s_add_number) (He.fAd K ("add_number", none)) (fdA K ("add_number", none)).code A outer s H E).xe := passes_of rfl
    exact (dss_one (ds_if (dt_cmp op_ge rs_ge (dv 1) dk_int (nomark _))
  (dss_cons (ds_expr (d_append (dv 0) (dl_cons (dg_int C.gi_NUMBER) dl_nil)))
  (dss_one (ds_expr (d_extend rfl (dv 0) (dl_cons (de_call (dfl := []) (ok_natural C) (Pas.of tk) (hr.mono (by first | omega | decide)) rfl C.gl_natural C.kp_natural C.b_natural .nil (fun _ _ => .nil) (dl_cons (dv 1) dl_nil)) dl_nil)))))
  (dss_cons (ds_expr (d_append (dv 0) (dl_cons (dg_int C.gi_BELOW) dl_nil)))
  (dss_one (ds_expr (d_extend rfl (dv 0) (dl_cons (de_call (dfl := []) (ok_natural C) (Pas.of tk) (hr.mono (by first | omega | decide)) rfl C.gl_natural C.kp_natural C.b_natural .nil (fun _ _ => .nil) (dl_cons (de_op op_sub rs_sub (de_op op_sub rs_sub dk_int (dv 1)) dk_int) dl_nil)) dl_nil)))))))
theorem sc_add_value : FnScope N_add_value ["found", "value", "depth"] (defScope s_add_value) := ⟨rfl, rfl, rfl, by decide +kernel, rfl, by decide +kernel, by decide +kernel⟩
theorem ok_add_value (C : Cnd K mg base) : ∀ n, FnOk P w K mg base (L2.CX P w) (2 + n) (He.fAd K ("add_value", none)) (fdA K ("add_value", none)) ["found", "value", "depth"] (spD (gg K) 3 (R_add_value n))
  | 0 => fn_bot
  | n + 1 => by
    have ih_add_value := fun (_ : Cnd K mg base) => ok_add_value C n
    refine fn_okD3 (m := m_add_value (R_add_value n)) C.def_add_value sc_add_value rfl rfl fun A outer s H E hr => ?_
    have hr : Room (2 + n) _ := hr
    have tk : Takes (cxOf (L2.CX P w) P w K mg base N_add_value "add_value" (defScope s_add_value) (He.fAd K ("add_value", none)) (fdA K ("add_value", none)).code A outer s H E) (fun cls d _ H => E cls d H) := takes_of rfl rfl rfl rfl
    have po : PassesOwn (model P w) (A.deeper (PyProof.Rows.envOfC "add_value" (defScope s_add_value) s.heap.objs.size (He.fAd K ("add_value", none)) (fdA K ("add_value", none)).code)) (PyProof.Rows.envOfC "add_value" (defScope s_add_value) s.heap.objs.size (He.fAd K ("add_value", none)) (fdA K ("add_value", none)).code) (cxOf (L2.CX P w) P w K mg base N_add_value "add_value" (defScope s_add_value) (He.fAd K ("add_value", none)) (fdA K ("add_value", none)).code A outer s H E).xe := passes_of rfl
    exact (dss_cons (ds_if (dt_cmp op_gt rs_gt (dv 2) (dg_int C.gi_MOST_DEEP) (nomark _))
  (dss_one (ds_raise (c := 0) rfl tk (C.pm_WireError rfl rfl) (fun _ _ _ z => z)))
  dss_nil)
  (dss_one (ds_if (dt_cmp op_isAny rs_is (dv 1) dk_non (nomark _))
  (dss_one (ds_expr (d_append (dv 0) (dl_cons (dg_int C.gi_NOTHING) dl_nil))))
  (dss_one (ds_if (dt_cmp op_isAny rs_is (dv 1) dk_bl (nomark _))
  (dss_one (ds_expr (d_append (dv 0) (dl_cons (dg_int C.gi_TRUTH) dl_nil))))
  (dss_one (ds_if (dt_cmp op_isAny rs_is (dv 1) dk_bl (nomark _))
  (dss_one (ds_expr (d_append (dv 0) (dl_cons (dg_int C.gi_FALSEHOOD) dl_nil))))
  (dss_one (ds_if (dt_val (de_isi (T := "int") rfl rfl (C.fr_isinstance) rfl (C.fr_int) (by decide +kernel) (dv 1)))
  (dss_one (ds_expr (de_call (dfl := []) (ok_add_number C) (Pas.of tk) (hr.mono (by first | omega | decide)) rfl C.gl_add_number C.kp_add_number C.b_add_number .nil (fun _ _ => .nil) (dl_cons (dv 0) (dl_cons (dv 1) dl_nil)))))
  (dss_one (ds_if (dt_val (de_isi (T := "str") rfl rfl (C.fr_isinstance) rfl (C.fr_str) (by decide +kernel) (dv 1)))
  (dss_cons (ds_expr (d_append (dv 0) (dl_cons (dg_int C.gi_TEXT) dl_nil)))
  (dss_cons (ds_expr (d_extend rfl (dv 0) (dl_cons (de_call (dfl := []) (ok_natural C) (Pas.of tk) (hr.mono (by first | omega | decide)) rfl C.gl_natural C.kp_natural C.b_natural .nil (fun _ _ => .nil) (dl_cons (d_len rfl (C.fr_len) (dv 1)) dl_nil)) dl_nil)))
  (dss_one (ds_expr (d_extend rfl (dv 0) (dl_cons (de_lcX (own := [("sign", 4)]) rfl sc_add_value.nd rfl rfl tk (pi_str (dv 1)) it_str (blkOk_by (N := N_add_value) (sc := (defScope s_add_value)) (own := [("sign", 4)]) (by decide +kernel)) (fun _ => (rg_name)) (goes_name) (own_name (by decide)) (fun _ _ _ _ _ _ => (pg_name (i := 4) sc_add_value.nd rfl (Or.inl rfl))) (fun _ _ _ _ _ _ _ pas => pts_nil) (fun _ _ _ _ _ _ _ pas => (de_call (dfl := []) (ok_sign_number C) pas (hr.mono (by first | omega | decide)) rfl C.gl_sign_number C.kp_sign_number C.b_sign_number .nil (fun _ _ => .nil) (dl_cons (dv 4) dl_nil)))) dl_nil))))))
  (dss_one (ds_if (dt_val (de_isi (T := "tuple") rfl rfl (C.fr_isinstance) rfl (C.fr_tuple) (by decide +kernel) (dv 1)))
  (dss_cons (ds_expr (d_append (dv 0) (dl_cons (dg_int C.gi_ROW) dl_nil)))
  (dss_cons (ds_expr (d_extend rfl (dv 0) (dl_cons (de_call (dfl := []) (ok_natural C) (Pas.of tk) (hr.mono (by first | omega | decide)) rfl C.gl_natural C.kp_natural C.b_natural .nil (fun _ _ => .nil) (dl_cons (d_len rfl (C.fr_len) (dv 1)) dl_nil)) dl_nil)))
  (dss_one (ds_for (it_tup rfl) (pi_tup (dv 1)) po rfl (pg_name (i := 3) sc_add_value.nd rfl (Or.inl rfl)) (rg_name) (goes_name)
  (dss_one (ds_expr (de_call (dfl := []) (ih_add_value C) (Pas.of tk) (hr.mono (by first | omega | decide)) rfl C.gl_add_value C.kp_add_value C.b_add_value .nil (fun _ _ => .nil) (dl_cons (dv 0) (dl_cons (dv 3) (dl_cons (de_op op_addAny rs_add (dv 2) dk_int) dl_nil))))))))))
  (dss_one (ds_raise (c := 0) rfl tk (C.pm_WireError rfl rfl) (fun _ _ _ z => z))))))))))))))))
theorem sc_pack : FnScope N_pack ["value", "depth"] (defScope s_pack) := ⟨rfl, rfl, rfl, by decide +kernel, rfl, by decide +kernel, by decide +kernel⟩
theorem ok_pack (C : Cnd K mg base) : FnOk P w K mg base (L2.CX P w) 43 (He.fAd K ("pack", none)) (fdA K ("pack", none)) ["value", "depth"] (spD (gg K) 2 F_pack) := by
    refine fn_okD3 (m := m_pack) C.def_pack sc_pack rfl rfl fun A outer s H E hr => ?_
    have tk : Takes (cxOf (L2.CX P w) P w K mg base N_pack "pack" (defScope s_pack) (He.fAd K ("pack", none)) (fdA K ("pack", none)).code A outer s H E) (fun cls d _ H => E cls d H) := takes_of rfl rfl rfl rfl
    have po : PassesOwn (model P w) (A.deeper (PyProof.Rows.envOfC "pack" (defScope s_pack) s.heap.objs.size (He.fAd K ("pack", none)) (fdA K ("pack", none)).code)) (PyProof.Rows.envOfC "pack" (defScope s_pack) s.heap.objs.size (He.fAd K ("pack", none)) (fdA K ("pack", none)).code) (cxOf (L2.CX P w) P w K mg base N_pack "pack" (defScope s_pack) (He.fAd K ("pack", none)) (fdA K ("pack", none)).code A outer s H E).xe := passes_of rfl
    exact (dss_cons (ds_set (i := 2) sc_pack.nd rfl (Or.inl rfl) (de_lst dl_nil))
  (dss_cons (ds_expr (de_call (dfl := []) (ok_add_value C 40) (Pas.of tk) (hr.mono (by first | omega | decide)) rfl C.gl_add_value C.kp_add_value C.b_add_value .nil (fun _ _ => .nil) (dl_cons (dv 2) (dl_cons (dv 0) (dl_cons (dv 1) dl_nil)))))
  (dss_one (ds_ret (de_tuple rfl rfl (C.fr_tuple) (dv 2))))))
theorem sc_Unpacker_init : FnScope N_Unpacker_init ["self", "data"] (defScope s_Unpacker_init) := ⟨rfl, rfl, rfl, by decide +kernel, rfl, by decide +kernel, by decide +kernel⟩
theorem ok_Unpacker_init (C : Cnd K mg base) : FnOk P w K mg base (L2.CX P w) 1 (He.fAd K ("Unpacker", some "__init__")) (fdA K ("Unpacker", some "__init__")) ["self", "data"] (spD (gg K) 2 F_Unpacker_init) := by
    refine fn_okD3 (m := m_Unpacker_init) C.def_Unpacker_init sc_Unpacker_init rfl rfl fun A outer s H E hr => ?_
    have tk : Takes (cxOf (L2.CX P w) P w K mg base N_Unpacker_init "Unpacker.__init__" (defScope s_Unpacker_init) (He.fAd K ("Unpacker", some "__init__")) (fdA K ("Unpacker", some "__init__")).code A outer s H E) (fun cls d _ H => E cls d H) := takes_of rfl rfl rfl rfl
    have po : PassesOwn (model P w) (A.deeper (PyProof.Rows.envOfC "Unpacker.__init__" (defScope s_Unpacker_init) s.heap.objs.size (He.fAd K ("Unpacker", some "__init__")) (fdA K ("Unpacker", some "__init__")).code)) (PyProof.Rows.envOfC "Unpacker.__init__" (defScope s_Unpacker_init) s.heap.objs.size (He.fAd K ("Unpacker", some "__init__")) (fdA K ("Unpacker", some "__init__")).code) (cxOf (L2.CX P w) P w K mg base N_Unpacker_init "Unpacker.__init__" (defScope s_Unpacker_init) (He.fAd K ("Unpacker", some "__init__")) (fdA K ("Unpacker", some "__init__")).code A outer s H E).xe := passes_of rfl
    exact (dss_cons (ds_fld C.no_data (dv 0) (dv 1))
  (dss_one (ds_fld C.no_place (dv 0) dk_int)))
theorem sc_Unpacker_read_byte : FnScope N_Unpacker_read_byte ["self"] (defScope s_Unpacker_read_byte) := ⟨rfl, rfl, rfl, by decide +kernel, rfl, by decide +kernel, by decide +kernel⟩
theorem ok_Unpacker_read_byte (C : Cnd K mg base) : FnOk P w K mg base (L2.CX P w) 1 (He.fAd K ("Unpacker", some "read_byte")) (fdA K ("Unpacker", some "read_byte")) ["self"] (spD (gg K) 1 F_Unpacker_read_byte) := by
    refine fn_okD3 (m := m_Unpacker_read_byte) C.def_Unpacker_read_byte sc_Unpacker_read_byte rfl rfl fun A outer s H E hr => ?_
    have tk : Takes (cxOf (L2.CX P w) P w K mg base N_Unpacker_read_byte "Unpacker.read_byte" (defScope s_Unpacker_read_byte) (He.fAd K ("Unpacker", some "read_byte")) (fdA K ("Unpacker", some "read_byte")).code A outer s H E) (fun cls d _ H => E cls d H) := takes_of rfl rfl rfl rfl
    have po : PassesOwn (model P w) (A.deeper (PyProof.Rows.envOfC "Unpacker.read_byte" (defScope s_Unpacker_read_byte) s.heap.objs.size (He.fAd K ("Unpacker", some "read_byte")) (fdA K ("Unpacker", some "read_byte")).code)) (PyProof.Rows.envOfC "Unpacker.read_byte" (defScope s_Unpacker_read_byte) s.heap.objs.size (He.fAd K ("Unpacker", some "read_byte")) (fdA K ("Unpacker", some "read_byte")).code) (cxOf (L2.CX P w) P w K mg base N_Unpacker_read_byte "Unpacker.read_byte" (defScope s_Unpacker_read_byte) (He.fAd K ("Unpacker", some "read_byte")) (fdA K ("Unpacker", some "read_byte")).code A outer s H E).xe := passes_of rfl
    exact (dss_cons (ds_if (dt_cmp op_ge rs_ge (de_fld rfl C.no_place (dv 0)) (d_len rfl (C.fr_len) (de_fld rfl C.no_data (dv 0))) (nomark _))
  (dss_one (ds_raise (c := 0) rfl tk (C.pm_WireError rfl rfl) (fun _ _ _ z => z)))
  dss_nil)
  (dss_cons (ds_set (i := 1) sc_Unpacker_read_byte.nd rfl (Or.inl rfl) (de_ix ix_seq rs_it (de_fld rfl C.no_data (dv 0)) (de_fld rfl C.no_place (dv 0)) (fun _ _ => rfl)))
  (dss_cons (ds_fld C.no_place (dv 0) (de_op op_addAny rs_add (de_fld rfl C.no_place (dv 0)) dk_int))
  (dss_one (ds_ret (dv 1))))))
theorem sc_Unpacker_read_number : FnScope N_Unpacker_read_number ["self"] (defScope s_Unpacker_read_number) := ⟨rfl, rfl, rfl, by decide +kernel, rfl, by decide +kernel, by decide +kernel⟩
theorem ok_Unpacker_read_number (C : Cnd K mg base) : FnOk P w K mg base (L2.CX P w) 2 (He.fAd K ("Unpacker", some "read_number")) (fdA K ("Unpacker", some "read_number")) ["self"] (spD (gg K) 1 F_Unpacker_read_number) := by
    refine fn_okD3 (m := m_Unpacker_read_number) C.def_Unpacker_read_number sc_Unpacker_read_number rfl rfl fun A outer s H E hr => ?_
    have tk : Takes (cxOf (L2.CX P w) P w K mg base N_Unpacker_read_number "Unpacker.read_number" (defScope s_Unpacker_read_number) (He.fAd K ("Unpacker", some "read_number")) (fdA K ("Unpacker", some "read_number")).code A outer s H E) (fun cls d _ H => E cls d H) := takes_of rfl rfl rfl rfl
    have po : PassesOwn (model P w) (A.deeper (PyProof.Rows.envOfC "Unpacker.read_number" (defScope s_Unpacker_read_number) s.heap.objs.size (He.fAd K ("Unpacker", some "read_number")) (fdA K ("Unpacker", some "read_number")).code)) (PyProof.Rows.envOfC "Unpacker.read_number" (defScope s_Unpacker_read_number) s.heap.objs.size (He.fAd K ("Unpacker", some "read_number")) (fdA K ("Unpacker", some "read_number")).code) (cxOf (L2.CX P w) P w K mg base N_Unpacker_read_number "Unpacker.read_number" (defScope s_Unpacker_read_number) (He.fAd K ("Unpacker", some "read_number")) (fdA K ("Unpacker", some "read_number")).code A outer s H E).xe := passes_of rfl
    exact (dss_cons (ds_set (i := 1) sc_Unpacker_read_number.nd rfl (Or.inl rfl) dk_int)
  (dss_cons (ds_set (i := 2) sc_Unpacker_read_number.nd rfl (Or.inl rfl) dk_int)
  (dss_cons (ds_set (i := 3) sc_Unpacker_read_number.nd rfl (Or.inl rfl) (de_meth0 (ci := 1) (dv 0) C.cl_Unpacker C.me_Unpacker_read_byte (ok_Unpacker_read_byte C) (Pas.of tk) (hr.mono (by first | omega | decide)) C.b_Unpacker_read_byte .nil (fun _ _ => .nil)))
  (dss_cons (ds_while po (dt_cmp op_gt rs_gt (dv 3) dk_int (nomark _))
  (dss_cons (ds_set (i := 1) sc_Unpacker_read_number.nd rfl (Or.inl rfl) (de_op op_addAny rs_add (dv 1) (de_op op_mulAny rs_mul (de_op op_sub rs_sub (dv 3) dk_int) (dv 2))))
  (dss_cons (ds_set (i := 2) sc_Unpacker_read_number.nd rfl (Or.inl rfl) (de_op op_mulAny rs_mul (dv 2) dk_int))
  (dss_one (ds_set (i := 3) sc_Unpacker_read_number.nd rfl (Or.inl rfl) (de_meth0 (ci := 1) (dv 0) C.cl_Unpacker C.me_Unpacker_read_byte (ok_Unpacker_read_byte C) (Pas.of tk) (hr.mono (by first | omega | decide)) C.b_Unpacker_read_byte .nil (fun _ _ => .nil)))))))
  (dss_cons (ds_if (PW.pt (dw_and (dt_cmp (op_eqAny hr.units) rs_eq (dv 3) dk_int (nomark _)) (pw_and1 (dt_cmp op_gt rs_gt (dv 2) dk_int (nomark _)))))
  (dss_one (ds_raise (c := 0) rfl tk (C.pm_WireError rfl rfl) (fun _ _ _ z => z)))
  dss_nil)
  (dss_one (ds_ret (de_op op_addAny rs_add (dv 1) (de_op op_mulAny rs_mul (dv 3) (dv 2))))))))))
theorem sc_Unpacker_read_length : FnScope N_Unpacker_read_length ["self"] (defScope s_Unpacker_read_length) := ⟨rfl, rfl, rfl, by decide +kernel, rfl, by decide +kernel, by decide +kernel⟩
theorem ok_Unpacker_read_length (C : Cnd K mg base) : FnOk P w K mg base (L2.CX P w) 3 (He.fAd K ("Unpacker", some "read_length")) (fdA K ("Unpacker", some "read_length")) ["self"] (spD (gg K) 1 F_Unpacker_read_length) := by
    refine fn_okD3 (m := m_Unpacker_read_length) C.def_Unpacker_read_length sc_Unpacker_read_length rfl rfl fun A outer s H E hr => ?_
    have tk : Takes (cxOf (L2.CX P w) P w K mg base N_Unpacker_read_length "Unpacker.read_length" (defScope s_Unpacker_read_length) (He.fAd K ("Unpacker", some "read_length")) (fdA K ("Unpacker", some "read_length")).code A outer s H E) (fun cls d _ H => E cls d H) := takes_of rfl rfl rfl rfl
    have po : PassesOwn (model P w) (A.deeper (PyProof.Rows.envOfC "Unpacker.read_length" (defScope s_Unpacker_read_length) s.heap.objs.size (He.fAd K ("Unpacker", some "read_length")) (fdA K ("Unpacker", some "read_length")).code)) (PyProof.Rows.envOfC "Unpacker.read_length" (defScope s_Unpacker_read_length) s.heap.objs.size (He.fAd K ("Unpacker", some "read_length")) (fdA K ("Unpacker", some "read_length")).code) (cxOf (L2.CX P w) P w K mg base N_Unpacker_read_length "Unpacker.read_length" (defScope s_Unpacker_read_length) (He.fAd K ("Unpacker", some "read_length")) (fdA K ("Unpacker", some "read_length")).code A outer s H E).xe := passes_of rfl
    exact (dss_cons (ds_set (i := 1) sc_Unpacker_read_length.nd rfl (Or.inl rfl) (de_meth0 (ci := 1) (dv 0) C.cl_Unpacker C.me_Unpacker_read_number (ok_Unpacker_read_number C) (Pas.of tk) (hr.mono (by first | omega | decide)) C.b_Unpacker_read_number .nil (fun _ _ => .nil)))
  (dss_cons (ds_if (dt_cmp op_gt rs_gt (dv 1) (de_op op_sub rs_sub (d_len rfl (C.fr_len) (de_fld rfl C.no_data (dv 0))) (de_fld rfl C.no_place (dv 0))) (nomark _))
  (dss_one (ds_raise (c := 0) rfl tk (C.pm_WireError rfl rfl) (fun _ _ _ z => z)))
  dss_nil)
  (dss_one (ds_ret (dv 1)))))
theorem sc_Unpacker_read_text : FnScope N_Unpacker_read_text ["self"] (defScope s_Unpacker_read_text) := ⟨rfl, rfl, rfl, by decide +kernel, rfl, by decide +kernel, by decide +kernel⟩
theorem ok_Unpacker_read_text (C : Cnd K mg base) : FnOk P w K mg base (L2.CX P w) 4 (He.fAd K ("Unpacker", some "read_text")) (fdA K ("Unpacker", some "read_text")) ["self"] (spD (gg K) 1 F_Unpacker_read_text) := by
    refine fn_okD3 (m := m_Unpacker_read_text) C.def_Unpacker_read_text sc_Unpacker_read_text rfl rfl fun A outer s H E hr => ?_
    have tk : Takes (cxOf (L2.CX P w) P w K mg base N_Unpacker_read_text "Unpacker.read_text" (defScope s_Unpacker_read_text) (He.fAd K ("Unpacker", some "read_text")) (fdA K ("Unpacker", some "read_text")).code A outer s H E) (fun cls d _ H => E cls d H) := takes_of rfl rfl rfl rfl
    have po : PassesOwn (model P w) (A.deeper (PyProof.Rows.envOfC "Unpacker.read_text" (defScope s_Unpacker_read_text) s.heap.objs.size (He.fAd K ("Unpacker", some "read_text")) (fdA K ("Unpacker", some "read_text")).code)) (PyProof.Rows.envOfC "Unpacker.read_text" (defScope s_Unpacker_read_text) s.heap.objs.size (He.fAd K ("Unpacker", some "read_text")) (fdA K ("Unpacker", some "read_text")).code) (cxOf (L2.CX P w) P w K mg base N_Unpacker_read_text "Unpacker.read_text" (defScope s_Unpacker_read_text) (He.fAd K ("Unpacker", some "read_text")) (fdA K ("Unpacker", some "read_text")).code A outer s H E).xe := passes_of rfl
    exact (dss_cons (ds_set (i := 1) sc_Unpacker_read_text.nd rfl (Or.inl rfl) (de_op op_addAny rs_add (de_meth0 (ci := 1) (dv 0) C.cl_Unpacker C.me_Unpacker_read_length (ok_Unpacker_read_length C) (Pas.of tk) (hr.mono (by first | omega | decide)) C.b_Unpacker_read_length .nil (fun _ _ => .nil)) (de_fld rfl C.no_place (dv 0))))
  (dss_cons (ds_set (i := 2) sc_Unpacker_read_text.nd rfl (Or.inl rfl) (de_slice rfl (de_fld rfl C.no_data (dv 0)) (do_some (de_fld rfl C.no_place (dv 0))) (do_some (dv 1))))
  (dss_cons (ds_if (dt_val (de_callB (cr_any rfl) rs_any rfl (C.fr_any) (by decide +kernel) (dl_cons (de_lcQ (own := [("place", 3)]) rfl sc_Unpacker_read_text.nd (pi_tup (dv 2)) (it_tup rfl) (blkOk_by (N := N_Unpacker_read_text) (sc := (defScope s_Unpacker_read_text)) (own := [("place", 3)]) (by decide +kernel)) (fun _ => (rg_name)) (goes_name) (own_name (by decide)) (fun _ _ _ _ _ => (pg_name (i := 3) sc_Unpacker_read_text.nd rfl (Or.inl rfl))) (fun _ _ _ _ _ => pts_nil) (fun _ _ _ _ _ => (de_cmp op_ge rs_ge (dv 3) (d_len rfl (C.fr_len) (dg_str C.gs_SIGNS)) (nomark _)))) dl_nil)))
  (dss_one (ds_raise (c := 0) rfl tk (C.pm_WireError rfl rfl) (fun _ _ _ z => z)))
  dss_nil)
  (dss_cons (ds_fld C.no_place (dv 0) (dv 1))
  (dss_one (ds_ret (d_join rfl dk_str (de_lcQ (own := [("place", 3)]) rfl sc_Unpacker_read_text.nd (pi_tup (dv 2)) (it_tup rfl) (blkOk_by (N := N_Unpacker_read_text) (sc := (defScope s_Unpacker_read_text)) (own := [("place", 3)]) (by decide +kernel)) (fun _ => (rg_name)) (goes_name) (own_name (by decide)) (fun _ _ _ _ _ => (pg_name (i := 3) sc_Unpacker_read_text.nd rfl (Or.inl rfl))) (fun _ _ _ _ _ => pts_nil) (fun _ _ _ _ _ => (de_ix ix_seq rs_it (dg_str C.gs_SIGNS) (dv 3) (fun _ _ => rfl)))))))))))
theorem sc_Unpacker_read_value : FnScope N_Unpacker_read_value ["self", "depth"] (defScope s_Unpacker_read_value) := ⟨rfl, rfl, rfl, by decide +kernel, rfl, by decide +kernel, by decide +kernel⟩
theorem ok_Unpacker_read_value (C : Cnd K mg base) : ∀ n, FnOk P w K mg base (L2.CX P w) (4 + n) (He.fAd K ("Unpacker", some "read_value")) (fdA K ("Unpacker", some "read_value")) ["self", "depth"] (spD (gg K) 2 (R_Unpacker_read_value n))
  | 0 => fn_bot
  | n + 1 => by
    have ih_Unpacker_read_value := fun (_ : Cnd K mg base) => ok_Unpacker_read_value C n
    refine fn_okD3 (m := m_Unpacker_read_value (R_Unpacker_read_value n)) C.def_Unpacker_read_value sc_Unpacker_read_value rfl rfl fun A outer s H E hr => ?_
    have hr : Room (4 + n) _ := hr
    have tk : Takes (cxOf (L2.CX P w) P w K mg base N_Unpacker_read_value "Unpacker.read_value" (defScope s_Unpacker_read_value) (He.fAd K ("Unpacker", some "read_value")) (fdA K ("Unpacker", some "read_value")).code A outer s H E) (fun cls d _ H => E cls d H) := takes_of rfl rfl rfl rfl
    have po : PassesOwn (model P w) (A.deeper (PyProof.Rows.envOfC "Unpacker.read_value" (defScope s_Unpacker_read_value) s.heap.objs.size (He.fAd K ("Unpacker", some "read_value")) (fdA K ("Unpacker", some "read_value")).code)) (PyProof.Rows.envOfC "Unpacker.read_value" (defScope s_Unpacker_read_value) s.heap.objs.size (He.fAd K ("Unpacker", some "read_value")) (fdA K ("Unpacker", some "read_value")).code) (cxOf (L2.CX P w) P w K mg base N_Unpacker_read_value "Unpacker.read_value" (defScope s_Unpacker_read_value) (He.fAd K ("Unpacker", some "read_value")) (fdA K ("Unpacker", some "read_value")).code A outer s H E).xe := passes_of rfl
    exact (dss_cons (ds_if (dt_cmp op_gt rs_gt (dv 1) (dg_int C.gi_MOST_DEEP) (nomark _))
  (dss_one (ds_raise (c := 0) rfl tk (C.pm_WireError rfl rfl) (fun _ _ _ z => z)))
  dss_nil)
  (dss_cons (ds_set (i := 2) sc_Unpacker_read_value.nd rfl (Or.inl rfl) (de_meth0 (ci := 1) (dv 0) C.cl_Unpacker C.me_Unpacker_read_byte (ok_Unpacker_read_byte C) (Pas.of tk) (hr.mono (by first | omega | decide)) C.b_Unpacker_read_byte .nil (fun _ _ => .nil)))
  (dss_cons (ds_if (dt_cmp (op_eqAny hr.units) rs_eq (dv 2) (dg_int C.gi_NOTHING) (nomark _))
  (dss_one (ds_ret dk_non))
  dss_nil)
  (dss_cons (ds_if (PW.pt (dw_or (dt_cmp (op_eqAny hr.units) rs_eq (dv 2) (dg_int C.gi_TRUTH) (nomark _)) (pw_or1 (dt_cmp (op_eqAny hr.units) rs_eq (dv 2) (dg_int C.gi_FALSEHOOD) (nomark _)))))
  (dss_one (ds_ret (de_cmp (op_eqAny hr.units) rs_eq (dv 2) (dg_int C.gi_TRUTH) (nomark _))))
  dss_nil)
  (dss_cons (ds_if (dt_cmp (op_eqAny hr.units) rs_eq (dv 2) (dg_int C.gi_NUMBER) (nomark _))
  (dss_one (ds_ret (de_meth0 (ci := 1) (dv 0) C.cl_Unpacker C.me_Unpacker_read_number (ok_Unpacker_read_number C) (Pas.of tk) (hr.mono (by first | omega | decide)) C.b_Unpacker_read_number .nil (fun _ _ => .nil))))
  dss_nil)
  (dss_cons (ds_if (dt_cmp (op_eqAny hr.units) rs_eq (dv 2) (dg_int C.gi_BELOW) (nomark _))
  (dss_one (ds_ret (de_op op_sub rs_sub (de_op op_sub rs_sub dk_int (de_meth0 (ci := 1) (dv 0) C.cl_Unpacker C.me_Unpacker_read_number (ok_Unpacker_read_number C) (Pas.of tk) (hr.mono (by first | omega | decide)) C.b_Unpacker_read_number .nil (fun _ _ => .nil))) dk_int)))
  dss_nil)
  (dss_cons (ds_if (dt_cmp (op_eqAny hr.units) rs_eq (dv 2) (dg_int C.gi_TEXT) (nomark _))
  (dss_one (ds_ret (de_meth0 (ci := 1) (dv 0) C.cl_Unpacker C.me_Unpacker_read_text (ok_Unpacker_read_text C) (Pas.of tk) (hr.mono (by first | omega | decide)) C.b_Unpacker_read_text .nil (fun _ _ => .nil))))
  dss_nil)
  (dss_cons (ds_if (dt_cmp (op_eqAny hr.units) rs_eq (dv 2) (dg_int C.gi_ROW) (nomark _))
  (dss_one (ds_ret (de_tuple rfl rfl (C.fr_tuple) (de_lcX (own := [("_", 3)]) rfl sc_Unpacker_read_value.nd rfl rfl tk (pi_range1 rfl (C.fr_range) (pa_cons (de_meth0 (ci := 1) (dv 0) C.cl_Unpacker C.me_Unpacker_read_length (ok_Unpacker_read_length C) (Pas.of tk) (hr.mono (by first | omega | decide)) C.b_Unpacker_read_length .nil (fun _ _ => .nil)) pa_nil)) it_rng1 (blkOk_by (N := N_Unpacker_read_value) (sc := (defScope s_Unpacker_read_value)) (own := [("_", 3)]) (by decide +kernel)) (fun _ => (rg_name)) (goes_name) (own_name (by decide)) (fun _ _ _ _ _ _ => (pg_name (i := 3) sc_Unpacker_read_value.nd rfl (Or.inl rfl))) (fun _ _ _ _ _ _ _ pas => pts_nil) (fun _ _ _ _ _ _ _ pas => (de_meth (ci := 1) (dv 0) C.cl_Unpacker C.me_Unpacker_read_value (ih_Unpacker_read_value C) pas (hr.mono (by first | omega | decide)) C.b_Unpacker_read_value .nil (fun _ _ => .nil) (dl_cons (de_op op_addAny rs_add (dv 1) dk_int) dl_nil)))))))
  dss_nil)
  (dss_one (ds_raise (c := 0) rfl tk (C.pm_WireError rfl rfl) (fun _ _ _ z => z)))))))))))
theorem sc_unpack : FnScope N_unpack ["data"] (defScope s_unpack) := ⟨rfl, rfl, rfl, by decide +kernel, rfl, by decide +kernel, by decide +kernel⟩
theorem ok_unpack (C : Cnd K mg base) : FnOk P w K mg base (L2.CX P w) 45 (He.fAd K ("unpack", none)) (fdA K ("unpack", none)) ["data"] (spD (gg K) 1 F_unpack) := by
    refine fn_okD3 (m := m_unpack) C.def_unpack sc_unpack rfl rfl fun A outer s H E hr => ?_
    have tk : Takes (cxOf (L2.CX P w) P w K mg base N_unpack "unpack" (defScope s_unpack) (He.fAd K ("unpack", none)) (fdA K ("unpack", none)).code A outer s H E) (fun cls d _ H => E cls d H) := takes_of rfl rfl rfl rfl
    have po : PassesOwn (model P w) (A.deeper (PyProof.Rows.envOfC "unpack" (defScope s_unpack) s.heap.objs.size (He.fAd K ("unpack", none)) (fdA K ("unpack", none)).code)) (PyProof.Rows.envOfC "unpack" (defScope s_unpack) s.heap.objs.size (He.fAd K ("unpack", none)) (fdA K ("unpack", none)).code) (cxOf (L2.CX P w) P w K mg base N_unpack "unpack" (defScope s_unpack) (He.fAd K ("unpack", none)) (fdA K ("unpack", none)).code A outer s H E).xe := passes_of rfl
    exact (dss_cons (ds_set (i := 1) sc_unpack.nd rfl (Or.inl rfl) (de_make (ci := 1) C.mk_Unpacker (ok_Unpacker_init C) (Pas.of tk) (hr.mono (by first | omega | decide)) rfl C.gl_Unpacker C.b_Unpacker_init .nil (fun _ _ => .nil) (dl_cons (dv 0) dl_nil)))
  (dss_cons (ds_set (i := 2) sc_unpack.nd rfl (Or.inl rfl) (de_meth (ci := 1) (dv 1) C.cl_Unpacker C.me_Unpacker_read_value (ok_Unpacker_read_value C 40) (Pas.of tk) (hr.mono (by first | omega | decide)) C.b_Unpacker_read_value .nil (fun _ _ => .nil) (dl_cons dk_int dl_nil)))
  (dss_cons (ds_if (dt_cmp (op_neAny hr.units) rs_ne (de_fld rfl C.no_place (dv 1)) (d_len rfl (C.fr_len) (de_fld rfl C.no_data (dv 1))) (nomark _))
  (dss_one (ds_raise (c := 0) rfl tk (C.pm_WireError rfl rfl) (fun _ _ _ z => z)))
  dss_nil)
  (dss_one (ds_ret (dv 2))))))
theorem sc_four : FnScope N_four ["number"] (defScope s_four) := ⟨rfl, rfl, rfl, by decide +kernel, rfl, by decide +kernel, by decide +kernel⟩
theorem ok_four (C : Cnd K mg base) : FnOk P w K mg base (L2.CX P w) 1 (He.fAd K ("four", none)) (fdA K ("four", none)) ["number"] (spD (gg K) 1 F_four) := by
    refine fn_okD3 (m := m_four) C.def_four sc_four rfl rfl fun A outer s H E hr => ?_
    have tk : Takes (cxOf (L2.CX P w) P w K mg base N_four "four" (defScope s_four) (He.fAd K ("four", none)) (fdA K ("four", none)).code A outer s H E) (fun cls d _ H => E cls d H) := takes_of rfl rfl rfl rfl
    have po : PassesOwn (model P w) (A.deeper (PyProof.Rows.envOfC "four" (defScope s_four) s.heap.objs.size (He.fAd K ("four", none)) (fdA K ("four", none)).code)) (PyProof.Rows.envOfC "four" (defScope s_four) s.heap.objs.size (He.fAd K ("four", none)) (fdA K ("four", none)).code) (cxOf (L2.CX P w) P w K mg base N_four "four" (defScope s_four) (He.fAd K ("four", none)) (fdA K ("four", none)).code A outer s H E).xe := passes_of rfl
    exact (dss_one (ds_ret (de_tup (dl_cons (de_op op_mod rs_mod (de_op op_fdivW rs_fdiv (dv 0) dk_int) dk_int) (dl_cons (de_op op_mod rs_mod (de_op op_fdivW rs_fdiv (dv 0) dk_int) dk_int) (dl_cons (de_op op_mod rs_mod (de_op op_fdivW rs_fdiv (dv 0) dk_int) dk_int) (dl_cons (de_op op_mod rs_mod (dv 0) dk_int) dl_nil)))))))
theorem sc_sum_of_bytes : FnScope N_sum_of_bytes ["data"] (defScope s_sum_of_bytes) := ⟨rfl, rfl, rfl, by decide +kernel, rfl, by decide +kernel, by decide +kernel⟩
theorem ok_sum_of_bytes (C : Cnd K mg base) : FnOk P w K mg base (L2.CX P w) 2 (He.fAd K ("sum_of_bytes", none)) (fdA K ("sum_of_bytes", none)) ["data"] (spD (gg K) 1 F_sum_of_bytes) := by
    refine fn_okD3 (m := m_sum_of_bytes) C.def_sum_of_bytes sc_sum_of_bytes rfl rfl fun A outer s H E hr => ?_
    have tk : Takes (cxOf (L2.CX P w) P w K mg base N_sum_of_bytes "sum_of_bytes" (defScope s_sum_of_bytes) (He.fAd K ("sum_of_bytes", none)) (fdA K ("sum_of_bytes", none)).code A outer s H E) (fun cls d _ H => E cls d H) := takes_of rfl rfl rfl rfl
    have po : PassesOwn (model P w) (A.deeper (PyProof.Rows.envOfC "sum_of_bytes" (defScope s_sum_of_bytes) s.heap.objs.size (He.fAd K ("sum_of_bytes", none)) (fdA K ("sum_of_bytes", none)).code)) (PyProof.Rows.envOfC "sum_of_bytes" (defScope s_sum_of_bytes) s.heap.objs.size (He.fAd K ("sum_of_bytes", none)) (fdA K ("sum_of_bytes", none)).code) (cxOf (L2.CX P w) P w K mg base N_sum_of_bytes "sum_of_bytes" (defScope s_sum_of_bytes) (He.fAd K ("sum_of_bytes", none)) (fdA K ("sum_of_bytes", none)).code A outer s H E).xe := passes_of rfl
    exact (dss_cons (ds_set (i := 1) sc_sum_of_bytes.nd rfl (Or.inl rfl) dk_int)
  (dss_cons (ds_set (i := 2) sc_sum_of_bytes.nd rfl (Or.inl rfl) dk_int)
  (dss_cons (ds_for (it_tup rfl) (pi_tup (dv 0)) po rfl (pg_name (i := 3) sc_sum_of_bytes.nd rfl (Or.inl rfl)) (rg_name) (goes_name)
  (dss_cons (ds_set (i := 1) sc_sum_of_bytes.nd rfl (Or.inl rfl) (de_op op_addAny rs_add (dv 1) (dv 3)))
  (dss_one (ds_set (i := 2) sc_sum_of_bytes.nd rfl (Or.inl rfl) (de_op op_addAny rs_add (dv 2) (dv 1))))))
  (dss_one (ds_ret (de_call (dfl := []) (ok_four C) (Pas.of tk) (hr.mono (by first | omega | decide)) rfl C.gl_four C.kp_four C.b_four .nil (fun _ _ => .nil) (dl_cons (de_op op_addAny rs_add (de_op op_mulAny rs_mul (de_op op_mod rs_mod (dv 2) (dg_int C.gi_SUM_LIMIT)) dk_int) (de_op op_mod rs_mod (dv 1) (dg_int C.gi_SUM_LIMIT))) dl_nil)))))))
theorem sc_number_of_four : FnScope N_number_of_four ["data"] (defScope s_number_of_four) := ⟨rfl, rfl, rfl, by decide +kernel, rfl, by decide +kernel, by decide +kernel⟩
theorem ok_number_of_four (C : Cnd K mg base) : FnOk P w K mg base (L2.CX P w) 1 (He.fAd K ("number_of_four", none)) (fdA K ("number_of_four", none)) ["data"] (spD (gg K) 1 F_number_of_four) := by
    refine fn_okD3 (m := m_number_of_four) C.def_number_of_four sc_number_of_four rfl rfl fun A outer s H E hr => ?_
    have tk : Takes (cxOf (L2.CX P w) P w K mg base N_number_of_four "number_of_four" (defScope s_number_of_four) (He.fAd K ("number_of_four", none)) (fdA K ("number_of_four", none)).code A outer s H E) (fun cls d _ H => E cls d H) := takes_of rfl rfl rfl rfl
    have po : PassesOwn (model P w) (A.deeper (PyProof.Rows.envOfC "number_of_four" (defScope s_number_of_four) s.heap.objs.size (He.fAd K ("number_of_four", none)) (fdA K ("number_of_four", none)).code)) (PyProof.Rows.envOfC "number_of_four" (defScope s_number_of_four) s.heap.objs.size (He.fAd K ("number_of_four", none)) (fdA K ("number_of_four", none)).code) (cxOf (L2.CX P w) P w K mg base N_number_of_four "number_of_four" (defScope s_number_of_four) (He.fAd K ("number_of_four", none)) (fdA K ("number_of_four", none)).code A outer s H E).xe := passes_of rfl
    exact (dss_one (ds_ret (de_op op_addAny rs_add (de_op op_addAny rs_add (de_op op_addAny rs_add (de_op op_mulAny rs_mul (de_ix ix_seq rs_it (dv 0) dk_int (fun _ _ => rfl)) dk_int) (de_op op_mulAny rs_mul (de_ix ix_seq rs_it (dv 0) dk_int (fun _ _ => rfl)) dk_int)) (de_op op_mulAny rs_mul (de_ix ix_seq rs_it (dv 0) dk_int (fun _ _ => rfl)) dk_int)) (de_ix ix_seq rs_it (dv 0) dk_int (fun _ _ => rfl)))))
theorem sc_frame : FnScope N_frame ["value"] (defScope s_frame) := ⟨rfl, rfl, rfl, by decide +kernel, rfl, by decide +kernel, by decide +kernel⟩
theorem ok_frame (C : Cnd K mg base) : FnOk P w K mg base (L2.CX P w) 44 (He.fAd K ("frame", none)) (fdA K ("frame", none)) ["value"] (spD (gg K) 1 F_frame) := by
    refine fn_okD3 (m := m_frame) C.def_frame sc_frame rfl rfl fun A outer s H E hr => ?_
    have tk : Takes (cxOf (L2.CX P w) P w K mg base N_frame "frame" (defScope s_frame) (He.fAd K ("frame", none)) (fdA K ("frame", none)).code A outer s H E) (fun cls d _ H => E cls d H) := takes_of rfl rfl rfl rfl
    have po : PassesOwn (model P w) (A.deeper (PyProof.Rows.envOfC "frame" (defScope s_frame) s.heap.objs.size (He.fAd K ("frame", none)) (fdA K ("frame", none)).code)) (PyProof.Rows.envOfC "frame" (defScope s_frame) s.heap.objs.size (He.fAd K ("frame", none)) (fdA K ("frame", none)).code) (cxOf (L2.CX P w) P w K mg base N_frame "frame" (defScope s_frame) (He.fAd K ("frame", none)) (fdA K ("frame", none)).code A outer s H E).xe := passes_of rfl
    exact (dss_cons (ds_set (i := 1) sc_frame.nd rfl (Or.inl rfl) (de_call (dfl := [(.int 0)]) (ok_pack C) (Pas.of tk) (hr.mono (by first | omega | decide)) rfl C.gl_pack C.kp_pack C.bd_pack.choose_spec.2 C.bd_pack.choose_spec.1 (fun _ _ => (.cons (.int _) .nil)) (dl_cons (dv 0) dl_nil)))
  (dss_one (ds_ret (de_op op_addAny rs_add (de_op op_addAny rs_add (de_call (dfl := []) (ok_four C) (Pas.of tk) (hr.mono (by first | omega | decide)) rfl C.gl_four C.kp_four C.b_four .nil (fun _ _ => .nil) (dl_cons (d_len rfl (C.fr_len) (dv 1)) dl_nil)) (dv 1)) (de_call (dfl := []) (ok_sum_of_bytes C) (Pas.of tk) (hr.mono (by first | omega | decide)) rfl C.gl_sum_of_bytes C.kp_sum_of_bytes C.b_sum_of_bytes .nil (fun _ _ => .nil) (dl_cons (dv 1) dl_nil))))))
theorem sc_record_end : FnScope N_record_end ["data", "place"] (defScope s_record_end) := ⟨rfl, rfl, rfl, by decide +kernel, rfl, by decide +kernel, by decide +kernel⟩
theorem ok_record_end (C : Cnd K mg base) : FnOk P w K mg base (L2.CX P w) 3 (He.fAd K ("record_end", none)) (fdA K ("record_end", none)) ["data", "place"] (spD (gg K) 2 F_record_end) := by
    refine fn_okD3 (m := m_record_end) C.def_record_end sc_record_end rfl rfl fun A outer s H E hr => ?_
    have tk : Takes (cxOf (L2.CX P w) P w K mg base N_record_end "record_end" (defScope s_record_end) (He.fAd K ("record_end", none)) (fdA K ("record_end", none)).code A outer s H E) (fun cls d _ H => E cls d H) := takes_of rfl rfl rfl rfl
    have po : PassesOwn (model P w) (A.deeper (PyProof.Rows.envOfC "record_end" (defScope s_record_end) s.heap.objs.size (He.fAd K ("record_end", none)) (fdA K ("record_end", none)).code)) (PyProof.Rows.envOfC "record_end" (defScope s_record_end) s.heap.objs.size (He.fAd K ("record_end", none)) (fdA K ("record_end", none)).code) (cxOf (L2.CX P w) P w K mg base N_record_end "record_end" (defScope s_record_end) (He.fAd K ("record_end", none)) (fdA K ("record_end", none)).code A outer s H E).xe := passes_of rfl
    exact (dss_cons (ds_if (dt_cmp op_gt rs_gt (de_op op_addAny rs_add (dv 1) dk_int) (d_len rfl (C.fr_len) (dv 0)) (nomark _))
  (dss_one (ds_ret dk_non))
  dss_nil)
  (dss_cons (ds_set (i := 2) sc_record_end.nd rfl (Or.inl rfl) (de_op op_addAny rs_add (de_op op_addAny rs_add (dv 1) dk_int) (de_call (dfl := []) (ok_number_of_four C) (Pas.of tk) (hr.mono (by first | omega | decide)) rfl C.gl_number_of_four C.kp_number_of_four C.b_number_of_four .nil (fun _ _ => .nil) (dl_cons (de_slice rfl (dv 0) (do_some (dv 1)) (do_some (de_op op_addAny rs_add (dv 1) dk_int))) dl_nil))))
  (dss_cons (ds_if (PW.pt (dw_or (dt_cmp op_gt rs_gt (dv 2) (d_len rfl (C.fr_len) (dv 0)) (nomark _)) (pw_or1 (dt_cmp (op_neAny hr.units) rs_ne (de_call (dfl := []) (ok_sum_of_bytes C) (Pas.of tk) (hr.mono (by first | omega | decide)) rfl C.gl_sum_of_bytes C.kp_sum_of_bytes C.b_sum_of_bytes .nil (fun _ _ => .nil) (dl_cons (de_slice rfl (dv 0) (do_some (de_op op_addAny rs_add (dv 1) dk_int)) (do_some (de_op op_sub rs_sub (dv 2) dk_int))) dl_nil)) (de_slice rfl (dv 0) (do_some (de_op op_sub rs_sub (dv 2) dk_int)) (do_some (dv 2))) (nomark _)))))
  (dss_one (ds_ret dk_non))
  dss_nil)
  (dss_one (ds_ret (dv 2))))))
theorem sc_read_frames : FnScope N_read_frames ["data"] (defScope s_read_frames) := ⟨rfl, rfl, rfl, by decide +kernel, rfl, by decide +kernel, by decide +kernel⟩
theorem ok_read_frames (C : Cnd K mg base) : FnOk P w K mg base (L2.CX P w) 46 (He.fAd K ("read_frames", none)) (fdA K ("read_frames", none)) ["data"] (spD (gg K) 1 F_read_frames) := by
    refine fn_okD3 (m := m_read_frames) C.def_read_frames sc_read_frames rfl rfl fun A outer s H E hr => ?_
    have tk : Takes (cxOf (L2.CX P w) P w K mg base N_read_frames "read_frames" (defScope s_read_frames) (He.fAd K ("read_frames", none)) (fdA K ("read_frames", none)).code A outer s H E) (fun cls d _ H => E cls d H) := takes_of rfl rfl rfl rfl
    have po : PassesOwn (model P w) (A.deeper (PyProof.Rows.envOfC "read_frames" (defScope s_read_frames) s.heap.objs.size (He.fAd K ("read_frames", none)) (fdA K ("read_frames", none)).code)) (PyProof.Rows.envOfC "read_frames" (defScope s_read_frames) s.heap.objs.size (He.fAd K ("read_frames", none)) (fdA K ("read_frames", none)).code) (cxOf (L2.CX P w) P w K mg base N_read_frames "read_frames" (defScope s_read_frames) (He.fAd K ("read_frames", none)) (fdA K ("read_frames", none)).code A outer s H E).xe := passes_of rfl
    exact (dss_cons (ds_set (i := 1) sc_read_frames.nd rfl (Or.inl rfl) (de_lst dl_nil))
  (dss_cons (ds_set (i := 2) sc_read_frames.nd rfl (Or.inl rfl) dk_int)
  (dss_cons (ds_set (i := 3) sc_read_frames.nd rfl (Or.inl rfl) (de_call (dfl := []) (ok_record_end C) (Pas.of tk) (hr.mono (by first | omega | decide)) rfl C.gl_record_end C.kp_record_end C.b_record_end .nil (fun _ _ => .nil) (dl_cons (dv 0) (dl_cons (dv 2) dl_nil))))
  (dss_cons (ds_while po (dt_cmp op_isnAny rs_isn (dv 3) dk_non (nomark _))
  (dss_cons (ds_try rfl rfl tk (fun _ _ _ tkB poB => (dss_one (ds_expr (d_append (dv 1) (dl_cons (de_call (dfl := []) (ok_unpack C) (Pas.of tkB) (hr.mono (by first | omega | decide)) rfl C.gl_unpack C.kp_unpack C.b_unpack .nil (fun _ _ => .nil) (dl_cons (de_slice rfl (dv 0) (do_some (de_op op_addAny rs_add (dv 2) dk_int)) (do_some (de_op op_sub rs_sub (dv 3) dk_int))) dl_nil)) dl_nil)))))
  (Hds.cons (C.nm_WireError rfl) C.ex_WireError (fun _ _ => (dss_one ds_break)) .nil))
  (dss_cons (ds_set (i := 2) sc_read_frames.nd rfl (Or.inl rfl) (dv 3))
  (dss_one (ds_set (i := 3) sc_read_frames.nd rfl (Or.inl rfl) (de_call (dfl := []) (ok_record_end C) (Pas.of tk) (hr.mono (by first | omega | decide)) rfl C.gl_record_end C.kp_record_end C.b_record_end .nil (fun _ _ => .nil) (dl_cons (dv 0) (dl_cons (dv 2) dl_nil))))))))
  (dss_one (ds_ret (de_tup (dl_cons (dv 1) (dl_cons (dv 2) dl_nil)))))))))
theorem sc_Disk_init : FnScope N_Disk_init ["self"] (defScope s_Disk_init) := ⟨rfl, rfl, rfl, by decide +kernel, rfl, by decide +kernel, by decide +kernel⟩
theorem ok_Disk_init (C : Cnd K mg base) : FnOk P w K mg base (L2.CX P w) 1 (He.fAd K ("Disk", some "__init__")) (fdA K ("Disk", some "__init__")) ["self"] (spD (gg K) 1 F_Disk_init) := by
    refine fn_okD3 (m := m_Disk_init) C.def_Disk_init sc_Disk_init rfl rfl fun A outer s H E hr => ?_
    have tk : Takes (cxOf (L2.CX P w) P w K mg base N_Disk_init "Disk.__init__" (defScope s_Disk_init) (He.fAd K ("Disk", some "__init__")) (fdA K ("Disk", some "__init__")).code A outer s H E) (fun cls d _ H => E cls d H) := takes_of rfl rfl rfl rfl
    have po : PassesOwn (model P w) (A.deeper (PyProof.Rows.envOfC "Disk.__init__" (defScope s_Disk_init) s.heap.objs.size (He.fAd K ("Disk", some "__init__")) (fdA K ("Disk", some "__init__")).code)) (PyProof.Rows.envOfC "Disk.__init__" (defScope s_Disk_init) s.heap.objs.size (He.fAd K ("Disk", some "__init__")) (fdA K ("Disk", some "__init__")).code) (cxOf (L2.CX P w) P w K mg base N_Disk_init "Disk.__init__" (defScope s_Disk_init) (He.fAd K ("Disk", some "__init__")) (fdA K ("Disk", some "__init__")).code A outer s H E).xe := passes_of rfl
    exact (dss_cons (ds_fld C.no_kept (dv 0) (de_tup dl_nil))
  (dss_cons (ds_fld C.no_waiting (dv 0) (de_tup dl_nil))
  (dss_cons (ds_fld C.no_files (dv 0) de_dnew)
  (dss_cons (ds_fld C.no_syncs (dv 0) dk_int)
  (dss_cons (ds_fld C.no_fuse (dv 0) dk_non)
  (dss_one (ds_fld C.no_down (dv 0) dk_bl)))))))
theorem sc_Disk_arm : FnScope N_Disk_arm ["self", "steps"] (defScope s_Disk_arm) := ⟨rfl, rfl, rfl, by decide +kernel, rfl, by decide +kernel, by decide +kernel⟩
theorem ok_Disk_arm (C : Cnd K mg base) : FnOk P w K mg base (L2.CX P w) 1 (He.fAd K ("Disk", some "arm")) (fdA K ("Disk", some "arm")) ["self", "steps"] (spD (gg K) 2 F_Disk_arm) := by
    refine fn_okD3 (m := m_Disk_arm) C.def_Disk_arm sc_Disk_arm rfl rfl fun A outer s H E hr => ?_
    have tk : Takes (cxOf (L2.CX P w) P w K mg base N_Disk_arm "Disk.arm" (defScope s_Disk_arm) (He.fAd K ("Disk", some "arm")) (fdA K ("Disk", some "arm")).code A outer s H E) (fun cls d _ H => E cls d H) := takes_of rfl rfl rfl rfl
    have po : PassesOwn (model P w) (A.deeper (PyProof.Rows.envOfC "Disk.arm" (defScope s_Disk_arm) s.heap.objs.size (He.fAd K ("Disk", some "arm")) (fdA K ("Disk", some "arm")).code)) (PyProof.Rows.envOfC "Disk.arm" (defScope s_Disk_arm) s.heap.objs.size (He.fAd K ("Disk", some "arm")) (fdA K ("Disk", some "arm")).code) (cxOf (L2.CX P w) P w K mg base N_Disk_arm "Disk.arm" (defScope s_Disk_arm) (He.fAd K ("Disk", some "arm")) (fdA K ("Disk", some "arm")).code A outer s H E).xe := passes_of rfl
    exact (dss_one (ds_fld C.no_fuse (dv 0) (dv 1)))
theorem sc_Disk_step : FnScope N_Disk_step ["self"] (defScope s_Disk_step) := ⟨rfl, rfl, rfl, by decide +kernel, rfl, by decide +kernel, by decide +kernel⟩
theorem ok_Disk_step (C : Cnd K mg base) : FnOk P w K mg base (L2.CX P w) 1 (He.fAd K ("Disk", some "step")) (fdA K ("Disk", some "step")) ["self"] (spD (gg K) 1 F_Disk_step) := by
    refine fn_okD3 (m := m_Disk_step) C.def_Disk_step sc_Disk_step rfl rfl fun A outer s H E hr => ?_
    have tk : Takes (cxOf (L2.CX P w) P w K mg base N_Disk_step "Disk.step" (defScope s_Disk_step) (He.fAd K ("Disk", some "step")) (fdA K ("Disk", some "step")).code A outer s H E) (fun cls d _ H => E cls d H) := takes_of rfl rfl rfl rfl
    have po : PassesOwn (model P w) (A.deeper (PyProof.Rows.envOfC "Disk.step" (defScope s_Disk_step) s.heap.objs.size (He.fAd K ("Disk", some "step")) (fdA K ("Disk", some "step")).code)) (PyProof.Rows.envOfC "Disk.step" (defScope s_Disk_step) s.heap.objs.size (He.fAd K ("Disk", some "step")) (fdA K ("Disk", some "step")).code) (cxOf (L2.CX P w) P w K mg base N_Disk_step "Disk.step" (defScope s_Disk_step) (He.fAd K ("Disk", some "step")) (fdA K ("Disk", some "step")).code A outer s H E).xe := passes_of rfl
    exact (dss_cons (ds_if (PW.pt (dw_and (dt_cmp op_isnAny rs_isn (de_fld rfl C.no_fuse (dv 0)) dk_non (nomark _)) (pw_and1 (dt_cmp op_le rs_le (de_fld rfl C.no_fuse (dv 0)) dk_int (nomark _)))))
  (dss_one (ds_fld C.no_down (dv 0) dk_bl))
  dss_nil)
  (dss_cons (ds_if (dt_tru (de_fld rfl C.no_down (dv 0)) rfl)
  (dss_one (ds_raise (c := 2) rfl tk (C.pm_StoreError rfl rfl) (fun _ _ _ z => z)))
  dss_nil)
  (dss_one (ds_if (dt_cmp op_isnAny rs_isn (de_fld rfl C.no_fuse (dv 0)) dk_non (nomark _))
  (dss_one (ds_fld C.no_fuse (dv 0) (de_op op_sub rs_sub (de_fld rfl C.no_fuse (dv 0)) dk_int)))
  dss_nil))))
theorem sc_Disk_append_bytes : FnScope N_Disk_append_bytes ["self", "data"] (defScope s_Disk_append_bytes) := ⟨rfl, rfl, rfl, by decide +kernel, rfl, by decide +kernel, by decide +kernel⟩
theorem ok_Disk_append_bytes (C : Cnd K mg base) : FnOk P w K mg base (L2.CX P w) 2 (He.fAd K ("Disk", some "append_bytes")) (fdA K ("Disk", some "append_bytes")) ["self", "data"] (spD (gg K) 2 F_Disk_append_bytes) := by
    refine fn_okD3 (m := m_Disk_append_bytes) C.def_Disk_append_bytes sc_Disk_append_bytes rfl rfl fun A outer s H E hr => ?_
    have tk : Takes (cxOf (L2.CX P w) P w K mg base N_Disk_append_bytes "Disk.append_bytes" (defScope s_Disk_append_bytes) (He.fAd K ("Disk", some "append_bytes")) (fdA K ("Disk", some "append_bytes")).code A outer s H E) (fun cls d _ H => E cls d H) := takes_of rfl rfl rfl rfl
    have po : PassesOwn (model P w) (A.deeper (PyProof.Rows.envOfC "Disk.append_bytes" (defScope s_Disk_append_bytes) s.heap.objs.size (He.fAd K ("Disk", some "append_bytes")) (fdA K ("Disk", some "append_bytes")).code)) (PyProof.Rows.envOfC "Disk.append_bytes" (defScope s_Disk_append_bytes) s.heap.objs.size (He.fAd K ("Disk", some "append_bytes")) (fdA K ("Disk", some "append_bytes")).code) (cxOf (L2.CX P w) P w K mg base N_Disk_append_bytes "Disk.append_bytes" (defScope s_Disk_append_bytes) (He.fAd K ("Disk", some "append_bytes")) (fdA K ("Disk", some "append_bytes")).code A outer s H E).xe := passes_of rfl
    exact (dss_cons (ds_expr (de_meth0 (ci := 3) (dv 0) C.cl_Disk C.me_Disk_step (ok_Disk_step C) (Pas.of tk) (hr.mono (by first | omega | decide)) C.b_Disk_step .nil (fun _ _ => .nil)))
  (dss_one (ds_fld C.no_waiting (dv 0) (de_op op_addAny rs_add (de_fld rfl C.no_waiting (dv 0)) (dv 1)))))
theorem sc_Disk_append : FnScope N_Disk_append ["self", "value"] (defScope s_Disk_append) := ⟨rfl, rfl, rfl, by decide +kernel, rfl, by decide +kernel, by decide +kernel⟩
theorem ok_Disk_append (C : Cnd K mg base) : FnOk P w K mg base (L2.CX P w) 45 (He.fAd K ("Disk", some "append")) (fdA K ("Disk", some "append")) ["self", "value"] (spD (gg K) 2 F_Disk_append) := by
    refine fn_okD3 (m := m_Disk_append) C.def_Disk_append sc_Disk_append rfl rfl fun A outer s H E hr => ?_
    have tk : Takes (cxOf (L2.CX P w) P w K mg base N_Disk_append "Disk.append" (defScope s_Disk_append) (He.fAd K ("Disk", some "append")) (fdA K ("Disk", some "append")).code A outer s H E) (fun cls d _ H => E cls d H) := takes_of rfl rfl rfl rfl
    have po : PassesOwn (model P w) (A.deeper (PyProof.Rows.envOfC "Disk.append" (defScope s_Disk_append) s.heap.objs.size (He.fAd K ("Disk", some "append")) (fdA K ("Disk", some "append")).code)) (PyProof.Rows.envOfC "Disk.append" (defScope s_Disk_append) s.heap.objs.size (He.fAd K ("Disk", some "append")) (fdA K ("Disk", some "append")).code) (cxOf (L2.CX P w) P w K mg base N_Disk_append "Disk.append" (defScope s_Disk_append) (He.fAd K ("Disk", some "append")) (fdA K ("Disk", some "append")).code A outer s H E).xe := passes_of rfl
    exact (dss_one (ds_expr (de_meth (ci := 3) (dv 0) C.cl_Disk C.me_Disk_append_bytes (ok_Disk_append_bytes C) (Pas.of tk) (hr.mono (by first | omega | decide)) C.b_Disk_append_bytes .nil (fun _ _ => .nil) (dl_cons (de_call (dfl := []) (ok_frame C) (Pas.of tk) (hr.mono (by first | omega | decide)) rfl C.gl_frame C.kp_frame C.b_frame .nil (fun _ _ => .nil) (dl_cons (dv 1) dl_nil)) dl_nil))))
theorem sc_Disk_sync : FnScope N_Disk_sync ["self"] (defScope s_Disk_sync) := ⟨rfl, rfl, rfl, by decide +kernel, rfl, by decide +kernel, by decide +kernel⟩
theorem ok_Disk_sync (C : Cnd K mg base) : FnOk P w K mg base (L2.CX P w) 2 (He.fAd K ("Disk", some "sync")) (fdA K ("Disk", some "sync")) ["self"] (spD (gg K) 1 F_Disk_sync) := by
    refine fn_okD3 (m := m_Disk_sync) C.def_Disk_sync sc_Disk_sync rfl rfl fun A outer s H E hr => ?_
    have tk : Takes (cxOf (L2.CX P w) P w K mg base N_Disk_sync "Disk.sync" (defScope s_Disk_sync) (He.fAd K ("Disk", some "sync")) (fdA K ("Disk", some "sync")).code A outer s H E) (fun cls d _ H => E cls d H) := takes_of rfl rfl rfl rfl
    have po : PassesOwn (model P w) (A.deeper (PyProof.Rows.envOfC "Disk.sync" (defScope s_Disk_sync) s.heap.objs.size (He.fAd K ("Disk", some "sync")) (fdA K ("Disk", some "sync")).code)) (PyProof.Rows.envOfC "Disk.sync" (defScope s_Disk_sync) s.heap.objs.size (He.fAd K ("Disk", some "sync")) (fdA K ("Disk", some "sync")).code) (cxOf (L2.CX P w) P w K mg base N_Disk_sync "Disk.sync" (defScope s_Disk_sync) (He.fAd K ("Disk", some "sync")) (fdA K ("Disk", some "sync")).code A outer s H E).xe := passes_of rfl
    exact (dss_cons (ds_expr (de_meth0 (ci := 3) (dv 0) C.cl_Disk C.me_Disk_step (ok_Disk_step C) (Pas.of tk) (hr.mono (by first | omega | decide)) C.b_Disk_step .nil (fun _ _ => .nil)))
  (dss_cons (ds_fld C.no_kept (dv 0) (de_op op_addAny rs_add (de_fld rfl C.no_kept (dv 0)) (de_fld rfl C.no_waiting (dv 0))))
  (dss_cons (ds_fld C.no_waiting (dv 0) (de_tup dl_nil))
  (dss_one (ds_fld C.no_syncs (dv 0) (de_op op_addAny rs_add (de_fld rfl C.no_syncs (dv 0)) dk_int))))))
theorem sc_Disk_records : FnScope N_Disk_records ["self"] (defScope s_Disk_records) := ⟨rfl, rfl, rfl, by decide +kernel, rfl, by decide +kernel, by decide +kernel⟩
theorem ok_Disk_records (C : Cnd K mg base) : FnOk P w K mg base (L2.CX P w) 47 (He.fAd K ("Disk", some "records")) (fdA K ("Disk", some "records")) ["self"] (spD (gg K) 1 F_Disk_records) := by
    refine fn_okD3 (m := m_Disk_records) C.def_Disk_records sc_Disk_records rfl rfl fun A outer s H E hr => ?_
    have tk : Takes (cxOf (L2.CX P w) P w K mg base N_Disk_records "Disk.records" (defScope s_Disk_records) (He.fAd K ("Disk", some "records")) (fdA K ("Disk", some "records")).code A outer s H E) (fun cls d _ H => E cls d H) := takes_of rfl rfl rfl rfl
    have po : PassesOwn (model P w) (A.deeper (PyProof.Rows.envOfC "Disk.records" (defScope s_Disk_records) s.heap.objs.size (He.fAd K ("Disk", some "records")) (fdA K ("Disk", some "records")).code)) (PyProof.Rows.envOfC "Disk.records" (defScope s_Disk_records) s.heap.objs.size (He.fAd K ("Disk", some "records")) (fdA K ("Disk", some "records")).code) (cxOf (L2.CX P w) P w K mg base N_Disk_records "Disk.records" (defScope s_Disk_records) (He.fAd K ("Disk", some "records")) (fdA K ("Disk", some "records")).code A outer s H E).xe := passes_of rfl
    exact (dss_cons (ds_asgG (de_call (dfl := []) (ok_read_frames C) (Pas.of tk) (hr.mono (by first | omega | decide)) rfl C.gl_read_frames C.kp_read_frames C.b_read_frames .nil (fun _ _ => .nil) (dl_cons (de_op op_addAny rs_add (de_fld rfl C.no_kept (dv 0)) (de_fld rfl C.no_waiting (dv 0))) dl_nil)) (pg_tup rfl (pgs_cons (pg_name (i := 1) sc_Disk_records.nd rfl (Or.inl rfl)) (pgs_cons (pg_name (i := 2) sc_Disk_records.nd rfl (Or.inl rfl)) pgs_nil))) (rg_names (is := [1, 2]) (rgs_cons rg_name (rgs_cons rg_name rgs_nil))) (goes_names))
  (dss_one (ds_ret (dv 1))))
theorem sc_Disk_replace : FnScope N_Disk_replace ["self", "name", "value", "records"] (defScope s_Disk_replace) := ⟨rfl, rfl, rfl, by decide +kernel, rfl, by decide +kernel, by decide +kernel⟩
theorem ok_Disk_replace (C : Cnd K mg base) : FnOk P w K mg base (L2.CX P w) 45 (He.fAd K ("Disk", some "replace")) (fdA K ("Disk", some "replace")) ["self", "name", "value", "records"] (spD (gg K) 4 F_Disk_replace) := by
    refine fn_okD3 (m := m_Disk_replace) C.def_Disk_replace sc_Disk_replace rfl rfl fun A outer s H E hr => ?_
    have tk : Takes (cxOf (L2.CX P w) P w K mg base N_Disk_replace "Disk.replace" (defScope s_Disk_replace) (He.fAd K ("Disk", some "replace")) (fdA K ("Disk", some "replace")).code A outer s H E) (fun cls d _ H => E cls d H) := takes_of rfl rfl rfl rfl
    have po : PassesOwn (model P w) (A.deeper (PyProof.Rows.envOfC "Disk.replace" (defScope s_Disk_replace) s.heap.objs.size (He.fAd K ("Disk", some "replace")) (fdA K ("Disk", some "replace")).code)) (PyProof.Rows.envOfC "Disk.replace" (defScope s_Disk_replace) s.heap.objs.size (He.fAd K ("Disk", some "replace")) (fdA K ("Disk", some "replace")).code) (cxOf (L2.CX P w) P w K mg base N_Disk_replace "Disk.replace" (defScope s_Disk_replace) (He.fAd K ("Disk", some "replace")) (fdA K ("Disk", some "replace")).code A outer s H E).xe := passes_of rfl
    exact (dss_cons (ds_set (i := 4) sc_Disk_replace.nd rfl (Or.inl rfl) (de_call (dfl := []) (ok_frame C) (Pas.of tk) (hr.mono (by first | omega | decide)) rfl C.gl_frame C.kp_frame C.b_frame .nil (fun _ _ => .nil) (dl_cons (dv 2) dl_nil)))
  (dss_cons (ds_set (i := 5) sc_Disk_replace.nd rfl (Or.inl rfl) (de_lst dl_nil))
  (dss_cons (ds_for (it_lst rfl) (pi_list (dv 3)) po rfl (pg_name (i := 6) sc_Disk_replace.nd rfl (Or.inl rfl)) (rg_name) (goes_name)
  (dss_one (ds_expr (d_extend rfl (dv 5) (dl_cons (de_call (dfl := []) (ok_frame C) (Pas.of tk) (hr.mono (by first | omega | decide)) rfl C.gl_frame C.kp_frame C.b_frame .nil (fun _ _ => .nil) (dl_cons (dv 6) dl_nil)) dl_nil)))))
  (dss_cons (ds_expr (de_meth0 (ci := 3) (dv 0) C.cl_Disk C.me_Disk_step (ok_Disk_step C) (Pas.of tk) (hr.mono (by first | omega | decide)) C.b_Disk_step .nil (fun _ _ => .nil)))
  (dss_cons (ds_asgG (dv 4) (pg_sub (de_fld rfl C.no_files (dv 0)) (dv 1) (set_dict (u1 hr.units)) (fun _ => rfl)) (rg_sub rset_dict) goes_sub)
  (dss_cons (ds_fld C.no_kept (dv 0) (de_tuple rfl rfl (C.fr_tuple) (dv 5)))
  (dss_cons (ds_fld C.no_waiting (dv 0) (de_tup dl_nil))
  (dss_one (ds_fld C.no_syncs (dv 0) (de_op op_addAny rs_add (de_fld rfl C.no_syncs (dv 0)) dk_int))))))))))
theorem sc_Disk_read_file : FnScope N_Disk_read_file ["self", "name"] (defScope s_Disk_read_file) := ⟨rfl, rfl, rfl, by decide +kernel, rfl, by decide +kernel, by decide +kernel⟩
theorem ok_Disk_read_file (C : Cnd K mg base) : FnOk P w K mg base (L2.CX P w) 47 (He.fAd K ("Disk", some "read_file")) (fdA K ("Disk", some "read_file")) ["self", "name"] (spD (gg K) 2 F_Disk_read_file) := by
    refine fn_okD3 (m := m_Disk_read_file) C.def_Disk_read_file sc_Disk_read_file rfl rfl fun A outer s H E hr => ?_
    have tk : Takes (cxOf (L2.CX P w) P w K mg base N_Disk_read_file "Disk.read_file" (defScope s_Disk_read_file) (He.fAd K ("Disk", some "read_file")) (fdA K ("Disk", some "read_file")).code A outer s H E) (fun cls d _ H => E cls d H) := takes_of rfl rfl rfl rfl
    have po : PassesOwn (model P w) (A.deeper (PyProof.Rows.envOfC "Disk.read_file" (defScope s_Disk_read_file) s.heap.objs.size (He.fAd K ("Disk", some "read_file")) (fdA K ("Disk", some "read_file")).code)) (PyProof.Rows.envOfC "Disk.read_file" (defScope s_Disk_read_file) s.heap.objs.size (He.fAd K ("Disk", some "read_file")) (fdA K ("Disk", some "read_file")).code) (cxOf (L2.CX P w) P w K mg base N_Disk_read_file "Disk.read_file" (defScope s_Disk_read_file) (He.fAd K ("Disk", some "read_file")) (fdA K ("Disk", some "read_file")).code A outer s H E).xe := passes_of rfl
    exact (dss_cons (ds_if (dt_dnin (u1 hr.units) (dv 1) (de_fld rfl C.no_files (dv 0)) rfl)
  (dss_one (ds_ret dk_non))
  dss_nil)
  (dss_cons (ds_asgG (de_call (dfl := []) (ok_read_frames C) (Pas.of tk) (hr.mono (by first | omega | decide)) rfl C.gl_read_frames C.kp_read_frames C.b_read_frames .nil (fun _ _ => .nil) (dl_cons (de_dget (u1 hr.units) (de_fld rfl C.no_files (dv 0)) (dv 1) (fun _ _ => rfl)) dl_nil)) (pg_tup rfl (pgs_cons (pg_name (i := 2) sc_Disk_read_file.nd rfl (Or.inl rfl)) (pgs_cons (pg_name (i := 3) sc_Disk_read_file.nd rfl (Or.inl rfl)) pgs_nil))) (rg_names (is := [2, 3]) (rgs_cons rg_name (rgs_cons rg_name rgs_nil))) (goes_names))
  (dss_cons (ds_if (PW.pt (dw_or (dt_cmp (op_neAny hr.units) rs_ne (d_len rfl (C.fr_len) (dv 2)) dk_int (nomark _)) (pw_or1 (dt_cmp (op_neAny hr.units) rs_ne (dv 3) (d_len rfl (C.fr_len) (de_dget (u1 hr.units) (de_fld rfl C.no_files (dv 0)) (dv 1) (fun _ _ => rfl))) (nomark _)))))
  (dss_one (ds_raise (c := 2) rfl tk (C.pm_StoreError rfl rfl) (fun _ _ _ z => z)))
  dss_nil)
  (dss_one (ds_ret (de_ix ix_seq rs_it (dv 2) dk_int (fun _ _ => rfl)))))))
theorem sc_Disk_crash : FnScope N_Disk_crash ["self", "many"] (defScope s_Disk_crash) := ⟨rfl, rfl, rfl, by decide +kernel, rfl, by decide +kernel, by decide +kernel⟩
theorem ok_Disk_crash (C : Cnd K mg base) : FnOk P w K mg base (L2.CX P w) 1 (He.fAd K ("Disk", some "crash")) (fdA K ("Disk", some "crash")) ["self", "many"] (spD (gg K) 2 F_Disk_crash) := by
    refine fn_okD3 (m := m_Disk_crash) C.def_Disk_crash sc_Disk_crash rfl rfl fun A outer s H E hr => ?_
    have tk : Takes (cxOf (L2.CX P w) P w K mg base N_Disk_crash "Disk.crash" (defScope s_Disk_crash) (He.fAd K ("Disk", some "crash")) (fdA K ("Disk", some "crash")).code A outer s H E) (fun cls d _ H => E cls d H) := takes_of rfl rfl rfl rfl
    have po : PassesOwn (model P w) (A.deeper (PyProof.Rows.envOfC "Disk.crash" (defScope s_Disk_crash) s.heap.objs.size (He.fAd K ("Disk", some "crash")) (fdA K ("Disk", some "crash")).code)) (PyProof.Rows.envOfC "Disk.crash" (defScope s_Disk_crash) s.heap.objs.size (He.fAd K ("Disk", some "crash")) (fdA K ("Disk", some "crash")).code) (cxOf (L2.CX P w) P w K mg base N_Disk_crash "Disk.crash" (defScope s_Disk_crash) (He.fAd K ("Disk", some "crash")) (fdA K ("Disk", some "crash")).code A outer s H E).xe := passes_of rfl
    exact (dss_cons (ds_fld C.no_kept (dv 0) (de_op op_addAny rs_add (de_fld rfl C.no_kept (dv 0)) (de_slice rfl (de_fld rfl C.no_waiting (dv 0)) do_none (do_some (de_callB (call_max2 rfl) rs_max2 rfl (C.fr_max) (by decide +kernel) (dl_cons dk_int (dl_cons (dv 1) dl_nil)))))))
  (dss_cons (ds_fld C.no_waiting (dv 0) (de_tup dl_nil))
  (dss_one (ds_fld C.no_down (dv 0) dk_bl))))
theorem sc_Disk_restart : FnScope N_Disk_restart ["self"] (defScope s_Disk_restart) := ⟨rfl, rfl, rfl, by decide +kernel, rfl, by decide +kernel, by decide +kernel⟩
theorem ok_Disk_restart (C : Cnd K mg base) : FnOk P w K mg base (L2.CX P w) 47 (He.fAd K ("Disk", some "restart")) (fdA K ("Disk", some "restart")) ["self"] (spD (gg K) 1 F_Disk_restart) := by
    refine fn_okD3 (m := m_Disk_restart) C.def_Disk_restart sc_Disk_restart rfl rfl fun A outer s H E hr => ?_
    have tk : Takes (cxOf (L2.CX P w) P w K mg base N_Disk_restart "Disk.restart" (defScope s_Disk_restart) (He.fAd K ("Disk", some "restart")) (fdA K ("Disk", some "restart")).code A outer s H E) (fun cls d _ H => E cls d H) := takes_of rfl rfl rfl rfl
    have po : PassesOwn (model P w) (A.deeper (PyProof.Rows.envOfC "Disk.restart" (defScope s_Disk_restart) s.heap.objs.size (He.fAd K ("Disk", some "restart")) (fdA K ("Disk", some "restart")).code)) (PyProof.Rows.envOfC "Disk.restart" (defScope s_Disk_restart) s.heap.objs.size (He.fAd K ("Disk", some "restart")) (fdA K ("Disk", some "restart")).code) (cxOf (L2.CX P w) P w K mg base N_Disk_restart "Disk.restart" (defScope s_Disk_restart) (He.fAd K ("Disk", some "restart")) (fdA K ("Disk", some "restart")).code A outer s H E).xe := passes_of rfl
    exact (dss_cons (ds_asgG (de_call (dfl := []) (ok_read_frames C) (Pas.of tk) (hr.mono (by first | omega | decide)) rfl C.gl_read_frames C.kp_read_frames C.b_read_frames .nil (fun _ _ => .nil) (dl_cons (de_fld rfl C.no_kept (dv 0)) dl_nil)) (pg_tup rfl (pgs_cons (pg_name (i := 1) sc_Disk_restart.nd rfl (Or.inl rfl)) (pgs_cons (pg_name (i := 2) sc_Disk_restart.nd rfl (Or.inl rfl)) pgs_nil))) (rg_names (is := [1, 2]) (rgs_cons rg_name (rgs_cons rg_name rgs_nil))) (goes_names))
  (dss_cons (ds_fld C.no_kept (dv 0) (de_slice rfl (de_fld rfl C.no_kept (dv 0)) do_none (do_some (dv 2))))
  (dss_cons (ds_fld C.no_fuse (dv 0) dk_non)
  (dss_one (ds_fld C.no_down (dv 0) dk_bl)))))
theorem sc__law_dice : FnScope N__law_dice ["cell"] (defScope s__law_dice) := ⟨rfl, rfl, rfl, by decide +kernel, rfl, by decide +kernel, by decide +kernel⟩
theorem ok__law_dice (C : Cnd K mg base) : FnOk P w K mg base (L2.CX P w) 1 (He.fAd K ("_law_dice", none)) (fdA K ("_law_dice", none)) ["cell"] (spD (gg K) 1 F__law_dice) := by
    refine fn_okD3 (m := m__law_dice) C.def__law_dice sc__law_dice rfl rfl fun A outer s H E hr => ?_
    have tk : Takes (cxOf (L2.CX P w) P w K mg base N__law_dice "_law_dice" (defScope s__law_dice) (He.fAd K ("_law_dice", none)) (fdA K ("_law_dice", none)).code A outer s H E) (fun cls d _ H => E cls d H) := takes_of rfl rfl rfl rfl
    have po : PassesOwn (model P w) (A.deeper (PyProof.Rows.envOfC "_law_dice" (defScope s__law_dice) s.heap.objs.size (He.fAd K ("_law_dice", none)) (fdA K ("_law_dice", none)).code)) (PyProof.Rows.envOfC "_law_dice" (defScope s__law_dice) s.heap.objs.size (He.fAd K ("_law_dice", none)) (fdA K ("_law_dice", none)).code) (cxOf (L2.CX P w) P w K mg base N__law_dice "_law_dice" (defScope s__law_dice) (He.fAd K ("_law_dice", none)) (fdA K ("_law_dice", none)).code A outer s H E).xe := passes_of rfl
    exact (dss_cons (ds_if (dt_chain op_lt op_lt rs_lt rs_lt (de_op op_sub rs_sub dk_int dk_int) (dv 0) dk_int)
  (dss_one (ds_ret (de_lst (dl_cons (de_callB call_abs rs_abs rfl (C.fr_abs) (by decide +kernel) (dl_cons (dv 0) dl_nil)) (dl_cons dk_int (dl_cons dk_int dl_nil))))))
  dss_nil)
  (dss_one (ds_ret (de_lst (dl_cons (dv 0) (dl_cons (de_op op_addAny rs_add dk_int (de_op op_mod rs_mod (de_callTy call_int1 rs_int rfl (C.fr_int) (by decide +kernel) (dl_cons (dv 0) dl_nil)) dk_int)) (dl_cons (de_callTy call_int1 rs_int rfl (C.fr_int) (by decide +kernel) (dl_cons (de_cmp op_ge rs_ge (dv 0) (de_op op_pow rs_pow dk_int dk_int) (nomark _)) dl_nil)) dl_nil)))))))
theorem sc__law_roll : FnScope N__law_roll ["dice", "many"] (defScope s__law_roll) := ⟨rfl, rfl, rfl, by decide +kernel, rfl, by decide +kernel, by decide +kernel⟩
theorem ok__law_roll (C : Cnd K mg base) : ∀ n, FnOk P w K mg base (L2.CX P w) (0 + n) (He.fAd K ("_law_roll", none)) (fdA K ("_law_roll", none)) ["dice", "many"] (spD (gg K) 2 (R__law_roll n))
  | 0 => fn_bot
  | n + 1 => by
    have ih__law_roll := fun (_ : Cnd K mg base) => ok__law_roll C n
    refine fn_okD3 (m := m__law_roll (R__law_roll n)) C.def__law_roll sc__law_roll rfl rfl fun A outer s H E hr => ?_
    have hr : Room (0 + n) _ := hr
    have tk : Takes (cxOf (L2.CX P w) P w K mg base N__law_roll "_law_roll" (defScope s__law_roll) (He.fAd K ("_law_roll", none)) (fdA K ("_law_roll", none)).code A outer s H E) (fun cls d _ H => E cls d H) := takes_of rfl rfl rfl rfl
    have po : PassesOwn (model P w) (A.deeper (PyProof.Rows.envOfC "_law_roll" (defScope s__law_roll) s.heap.objs.size (He.fAd K ("_law_roll", none)) (fdA K ("_law_roll", none)).code)) (PyProof.Rows.envOfC "_law_roll" (defScope s__law_roll) s.heap.objs.size (He.fAd K ("_law_roll", none)) (fdA K ("_law_roll", none)).code) (cxOf (L2.CX P w) P w K mg base N__law_roll "_law_roll" (defScope s__law_roll) (He.fAd K ("_law_roll", none)) (fdA K ("_law_roll", none)).code A outer s H E).xe := passes_of rfl
    exact (dss_cons (ds_if (PW.pt (dw_or (dt_cmp (op_eqAny hr.units) rs_eq (de_ix ix_seq rs_it (dv 0) dk_int (fun _ _ => rfl)) dk_int (nomark _)) (pw_or1 (PW.pt (dw_and (dt_cmp (op_eqAny hr.units) rs_eq (de_ix ix_seq rs_it (dv 0) dk_int (fun _ _ => rfl)) dk_int (nomark _)) (pw_and1 (dt_cmp op_gt rs_gt (de_ix ix_seq rs_it (dv 0) dk_int (fun _ _ => rfl)) dk_int (nomark _))))))))
  (dss_cons (ds_set (i := 2) sc__law_roll.nd rfl (Or.inl rfl) (de_op op_mod rs_mod (de_callTy call_int1 rs_int rfl (C.fr_int) (by decide +kernel) (dl_cons (de_ix ix_seq rs_it (dv 0) dk_int (fun _ _ => rfl)) dl_nil)) (dv 1)))
  (dss_cons (ds_asgG (de_op op_fdivW rs_fdiv (de_ix ix_seq rs_it (dv 0) dk_int (fun _ _ => rfl)) (dv 1)) (pg_sub (dv 0) dk_int set_list (fun _ => rfl)) (rg_sub rset_list) goes_sub)
  (dss_one (ds_ret (dv 2)))))
  dss_nil)
  (dss_cons (ds_asgG dk_int (pg_sub (dv 0) dk_int set_list (fun _ => rfl)) (rg_sub rset_list) goes_sub)
  (dss_cons (ds_if (dt_cmp op_gt rs_gt (dv 1) dk_int (nomark _))
  (dss_one (ds_ret (de_op op_mod rs_mod (de_callTy call_int1 rs_int rfl (C.fr_int) (by decide +kernel) (dl_cons (de_op op_addAny rs_add (de_op op_mulAny rs_mul (de_call (dfl := []) (ih__law_roll C) (Pas.of tk) (hr.mono (by first | omega | decide)) rfl C.gl__law_roll C.kp__law_roll C.b__law_roll .nil (fun _ _ => .nil) (dl_cons (dv 0) (dl_cons (de_op op_addAny rs_add (de_op op_fdivW rs_fdiv (dv 1) dk_int) dk_int) dl_nil))) dk_int) (de_call (dfl := []) (ih__law_roll C) (Pas.of tk) (hr.mono (by first | omega | decide)) rfl C.gl__law_roll C.kp__law_roll C.b__law_roll .nil (fun _ _ => .nil) (dl_cons (dv 0) (dl_cons dk_int dl_nil)))) dl_nil)) (dv 1))))
  dss_nil)
  (dss_cons (ds_asgG (de_op op_mod rs_mod (de_callTy call_int1 rs_int rfl (C.fr_int) (by decide +kernel) (dl_cons (de_op op_addAny rs_add (de_op op_addAny rs_add (de_op op_mulAny rs_mul (de_ix ix_seq rs_it (dv 0) dk_int (fun _ _ => rfl)) dk_int) (de_op op_mulAny rs_mul (de_ix ix_seq rs_it (dv 0) dk_int (fun _ _ => rfl)) dk_int)) dk_int) dl_nil)) dk_int) (pg_sub (dv 0) dk_int set_list (fun _ => rfl)) (rg_sub rset_list) goes_sub)
  (dss_cons (ds_asgG (de_op op_addAny rs_add (de_ix ix_seq rs_it (dv 0) dk_int (fun _ _ => rfl)) dk_int) (pg_sub (dv 0) dk_int set_list (fun _ => rfl)) (rg_sub rset_list) goes_sub)
  (dss_one (ds_ret (de_op op_mod rs_mod (de_callTy call_int1 rs_int rfl (C.fr_int) (by decide +kernel) (dl_cons (de_op op_fdivW rs_fdiv (de_ix ix_seq rs_it (dv 0) dk_int (fun _ _ => rfl)) dk_int) dl_nil)) (dv 1)))))))))
theorem sc__law_rounds : FnScope N__law_rounds ["script", "most"] (defScope s__law_rounds) := ⟨rfl, rfl, rfl, by decide +kernel, rfl, by decide +kernel, by decide +kernel⟩
theorem ok__law_rounds (C : Cnd K mg base) : FnOk P w K mg base (L2.CX P w) 2 (He.fAd K ("_law_rounds", none)) (fdA K ("_law_rounds", none)) ["script", "most"] (spD (gg K) 2 F__law_rounds) := by
    refine fn_okD3 (m := m__law_rounds) C.def__law_rounds sc__law_rounds rfl rfl fun A outer s H E hr => ?_
    have tk : Takes (cxOf (L2.CX P w) P w K mg base N__law_rounds "_law_rounds" (defScope s__law_rounds) (He.fAd K ("_law_rounds", none)) (fdA K ("_law_rounds", none)).code A outer s H E) (fun cls d _ H => E cls d H) := takes_of rfl rfl rfl rfl
    have po : PassesOwn (model P w) (A.deeper (PyProof.Rows.envOfC "_law_rounds" (defScope s__law_rounds) s.heap.objs.size (He.fAd K ("_law_rounds", none)) (fdA K ("_law_rounds", none)).code)) (PyProof.Rows.envOfC "_law_rounds" (defScope s__law_rounds) s.heap.objs.size (He.fAd K ("_law_rounds", none)) (fdA K ("_law_rounds", none)).code) (cxOf (L2.CX P w) P w K mg base N__law_rounds "_law_rounds" (defScope s__law_rounds) (He.fAd K ("_law_rounds", none)) (fdA K ("_law_rounds", none)).code A outer s H E).xe := passes_of rfl
    exact (dss_cons (ds_set (i := 2) sc__law_rounds.nd rfl (Or.inl rfl) (de_slice rfl (dv 0) do_none (do_some (dv 1))))
  (dss_cons (ds_if (dt_cmp (op_eqAny hr.units) rs_eq (dv 2) (de_lst dl_nil) (nomark _))
  (dss_one (ds_set (i := 2) sc__law_rounds.nd rfl (Or.inl rfl) (de_lst (dl_cons dk_int dl_nil))))
  dss_nil)
  (dss_one (ds_ret (de_lcQ (own := [("cell", 3)]) rfl sc__law_rounds.nd (pi_list (dv 2)) (it_lst rfl) (blkOk_by (N := N__law_rounds) (sc := (defScope s__law_rounds)) (own := [("cell", 3)]) (by decide +kernel)) (fun _ => (rg_name)) (goes_name) (own_name (by decide)) (fun _ _ _ _ _ => (pg_name (i := 3) sc__law_rounds.nd rfl (Or.inl rfl))) (fun _ _ _ _ _ => pts_nil) (fun _ _ _ _ _ => (de_call (dfl := []) (ok__law_dice C) (Pas.of LamX.takes0) (hr.mono (by first | omega | decide)) rfl C.gl__law_dice C.kp__law_dice C.b__law_dice .nil (fun _ _ => .nil) (dl_cons (dv 3) dl_nil))))))))
theorem sc__law_bytes : FnScope N__law_bytes ["rows"] (defScope s__law_bytes) := ⟨rfl, rfl, rfl, by decide +kernel, rfl, by decide +kernel, by decide +kernel⟩
theorem ok__law_bytes (C : Cnd K mg base) : FnOk P w K mg base (L2.CX P w) 45 (He.fAd K ("_law_bytes", none)) (fdA K ("_law_bytes", none)) ["rows"] (spD (gg K) 1 F__law_bytes) := by
    refine fn_okD3 (m := m__law_bytes) C.def__law_bytes sc__law_bytes rfl rfl fun A outer s H E hr => ?_
    have tk : Takes (cxOf (L2.CX P w) P w K mg base N__law_bytes "_law_bytes" (defScope s__law_bytes) (He.fAd K ("_law_bytes", none)) (fdA K ("_law_bytes", none)).code A outer s H E) (fun cls d _ H => E cls d H) := takes_of rfl rfl rfl rfl
    have po : PassesOwn (model P w) (A.deeper (PyProof.Rows.envOfC "_law_bytes" (defScope s__law_bytes) s.heap.objs.size (He.fAd K ("_law_bytes", none)) (fdA K ("_law_bytes", none)).code)) (PyProof.Rows.envOfC "_law_bytes" (defScope s__law_bytes) s.heap.objs.size (He.fAd K ("_law_bytes", none)) (fdA K ("_law_bytes", none)).code) (cxOf (L2.CX P w) P w K mg base N__law_bytes "_law_bytes" (defScope s__law_bytes) (He.fAd K ("_law_bytes", none)) (fdA K ("_law_bytes", none)).code A outer s H E).xe := passes_of rfl
    exact (dss_cons (ds_set (i := 1) sc__law_bytes.nd rfl (Or.inl rfl) (de_tup dl_nil))
  (dss_cons (ds_for (it_lst rfl) (pi_list (dv 0)) po rfl (pg_name (i := 2) sc__law_bytes.nd rfl (Or.inl rfl)) (rg_name) (goes_name)
  (dss_one (ds_set (i := 1) sc__law_bytes.nd rfl (Or.inl rfl) (de_op op_addAny rs_add (dv 1) (de_call (dfl := []) (ok_frame C) (Pas.of tk) (hr.mono (by first | omega | decide)) rfl C.gl_frame C.kp_frame C.b_frame .nil (fun _ _ => .nil) (dl_cons (dv 2) dl_nil))))))
  (dss_one (ds_ret (dv 1)))))
theorem sc_law : FnScope N_law ["script"] (defScope s_law) := ⟨rfl, rfl, rfl, by decide +kernel, rfl, by decide +kernel, by decide +kernel⟩
theorem ok_law (C : Cnd K mg base) : FnOk P w K mg base (L2.CX P w) 48 (He.fAd K ("law", none)) (fdA K ("law", none)) ["script"] (spD (gg K) 1 F_law) := by
    refine fn_okD3 (m := m_law) C.def_law sc_law rfl rfl fun A outer s H E hr => ?_
    have tk : Takes (cxOf (L2.CX P w) P w K mg base N_law "law" (defScope s_law) (He.fAd K ("law", none)) (fdA K ("law", none)).code A outer s H E) (fun cls d _ H => E cls d H) := takes_of rfl rfl rfl rfl
    have po : PassesOwn (model P w) (A.deeper (PyProof.Rows.envOfC "law" (defScope s_law) s.heap.objs.size (He.fAd K ("law", none)) (fdA K ("law", none)).code)) (PyProof.Rows.envOfC "law" (defScope s_law) s.heap.objs.size (He.fAd K ("law", none)) (fdA K ("law", none)).code) (cxOf (L2.CX P w) P w K mg base N_law "law" (defScope s_law) (He.fAd K ("law", none)) (fdA K ("law", none)).code A outer s H E).xe := passes_of rfl
    exact (dss_cons (ds_for (it_lst rfl) (pi_list (de_call (dfl := []) (ok__law_rounds C) (Pas.of tk) (hr.mono (by first | omega | decide)) rfl C.gl__law_rounds C.kp__law_rounds C.b__law_rounds .nil (fun _ _ => .nil) (dl_cons (dv 0) (dl_cons dk_int dl_nil)))) po rfl (pg_name (i := 1) sc_law.nd rfl (Or.inl rfl)) (rg_name) (goes_name)
  (dss_cons (ds_asgG (de_tup (dl_cons (de_make0 (ci := 3) C.mk_Disk (ok_Disk_init C) (Pas.of tk) (hr.mono (by first | omega | decide)) rfl C.gl_Disk C.b_Disk_init .nil (fun _ _ => .nil)) (dl_cons (de_lst dl_nil) (dl_cons (de_lst dl_nil) (dl_cons de_dnew (dl_cons dk_non (dl_cons dk_bl (dl_cons dk_int dl_nil)))))))) (pg_tup rfl (pgs_cons (pg_name (i := 3) sc_law.nd rfl (Or.inr rfl)) (pgs_cons (pg_name (i := 4) sc_law.nd rfl (Or.inr rfl)) (pgs_cons (pg_name (i := 5) sc_law.nd rfl (Or.inr rfl)) (pgs_cons (pg_name (i := 6) sc_law.nd rfl (Or.inr rfl)) (pgs_cons (pg_name (i := 7) sc_law.nd rfl (Or.inl rfl)) (pgs_cons (pg_name (i := 8) sc_law.nd rfl (Or.inl rfl)) (pgs_cons (pg_name (i := 9) sc_law.nd rfl (Or.inl rfl)) pgs_nil)))))))) (rg_names (is := [3, 4, 5, 6, 7, 8, 9]) (rgs_cons rg_name (rgs_cons rg_name (rgs_cons rg_name (rgs_cons rg_name (rgs_cons rg_name (rgs_cons rg_name (rgs_cons rg_name rgs_nil)))))))) (goes_names))
  (dss_one (ds_for it_rng1 (pi_range1 rfl (C.fr_range) (pa_cons (de_call (dfl := []) (ok__law_roll C 5) (Pas.of tk) (hr.mono (by first | omega | decide)) rfl C.gl__law_roll C.kp__law_roll C.b__law_roll .nil (fun _ _ => .nil) (dl_cons (dv 1) (dl_cons dk_int dl_nil))) pa_nil)) po rfl (pg_name (i := 2) sc_law.nd rfl (Or.inl rfl)) (rg_name) (goes_name)
  (dss_cons (ds_asgG (de_tup (dl_cons (de_call (dfl := []) (ok__law_roll C 5) (Pas.of tk) (hr.mono (by first | omega | decide)) rfl C.gl__law_roll C.kp__law_roll C.b__law_roll .nil (fun _ _ => .nil) (dl_cons (dv 1) (dl_cons dk_int dl_nil))) (dl_cons (de_tup (dl_cons dk_str (dl_cons (de_call (dfl := []) (ok__law_roll C 5) (Pas.of tk) (hr.mono (by first | omega | decide)) rfl C.gl__law_roll C.kp__law_roll C.b__law_roll .nil (fun _ _ => .nil) (dl_cons (dv 1) (dl_cons dk_int dl_nil))) (dl_cons (de_op op_repS rs_rep dk_str (de_call (dfl := []) (ok__law_roll C 5) (Pas.of tk) (hr.mono (by first | omega | decide)) rfl C.gl__law_roll C.kp__law_roll C.b__law_roll .nil (fun _ _ => .nil) (dl_cons (dv 1) (dl_cons dk_int dl_nil)))) dl_nil)))) dl_nil))) (pg_tup rfl (pgs_cons (pg_name (i := 10) sc_law.nd rfl (Or.inr rfl)) (pgs_cons (pg_name (i := 11) sc_law.nd rfl (Or.inr rfl)) pgs_nil))) (rg_names (is := [10, 11]) (rgs_cons rg_name (rgs_cons rg_name rgs_nil))) (goes_names))
  (dss_cons (ds_if (dt_cmp (op_eqAny hr.units) rs_eq (dv 10) dk_int (nomark _))
  (dss_cons (ds_set (i := 7) sc_law.nd rfl (Or.inl rfl) (de_call (dfl := []) (ok__law_roll C 5) (Pas.of tk) (hr.mono (by first | omega | decide)) rfl C.gl__law_roll C.kp__law_roll C.b__law_roll .nil (fun _ _ => .nil) (dl_cons (dv 1) (dl_cons dk_int dl_nil))))
  (dss_one (ds_expr (de_meth (ci := 3) (dv 3) C.cl_Disk C.me_Disk_arm (ok_Disk_arm C) (Pas.of tk) (hr.mono (by first | omega | decide)) C.b_Disk_arm .nil (fun _ _ => .nil) (dl_cons (dv 7) dl_nil)))))
  (dss_one (ds_if (dt_cmp op_lt rs_lt (dv 10) dk_int (nomark _))
  (dss_cons (ds_set (i := 8) sc_law.nd rfl (Or.inl rfl) (de_or (dv 8) (pe_one (de_cmp (op_eqAny hr.units) rs_eq (dv 7) dk_int (nomark _)))))
  (dss_cons (ds_set (i := 7) sc_law.nd rfl (Or.inl rfl) (de_if (PW.pt (dw_or (dt_cmp op_isAny rs_is (dv 7) dk_non (nomark _)) (pw_or1 (dt_val (dv 8))))) (dv 7) (de_op op_sub rs_sub (dv 7) dk_int)))
  (dss_cons (ds_set (i := 12) sc_law.nd rfl (Or.inr rfl) (de_ix ix_seq rs_it dk_str (de_call (dfl := []) (ok__law_roll C 5) (Pas.of tk) (hr.mono (by first | omega | decide)) rfl C.gl__law_roll C.kp__law_roll C.b__law_roll .nil (fun _ _ => .nil) (dl_cons (dv 1) (dl_cons dk_int dl_nil))) (fun _ _ => rfl)))
  (dss_cons (ds_set (i := 13) sc_law.nd rfl (Or.inl rfl) (tolds__law_told C hr ⟨rfl, rfl, rfl⟩ C.tb_law C.hc_law C.hT_law C.hu_law (LamX.lamS_by (by rfl)) rfl (fun _ _ _ _ _ => rfl) (fun A1 outer1 s1 H1 E1 f1 c1 hrl => (de_if (dt_cmp op_lt rs_lt (dv 10) dk_int (nomark _)) (de_meth (ci := 3) (dv 3) C.cl_Disk C.me_Disk_append (ok_Disk_append C) (Pas.of lam_takes) (hrl.mono (by first | omega | decide)) C.b_Disk_append .nil (fun _ _ => .nil) (dl_cons (dv 11) dl_nil)) (de_if (dt_cmp op_lt rs_lt (dv 10) dk_int (nomark _)) (de_meth0 (ci := 3) (dv 3) C.cl_Disk C.me_Disk_sync (ok_Disk_sync C) (Pas.of lam_takes) (hrl.mono (by first | omega | decide)) C.b_Disk_sync .nil (fun _ _ => .nil)) (de_meth (ci := 3) (dv 3) C.cl_Disk C.me_Disk_replace (ok_Disk_replace C) (Pas.of lam_takes) (hrl.mono (by first | omega | decide)) C.b_Disk_replace .nil (fun _ _ => .nil) (dl_cons (dv 12) (dl_cons (dv 11) (dl_cons (de_slice rfl (dv 4) do_none (do_some dk_int)) dl_nil)))))))))
  (dss_cons (ds_if (dt_cmp (op_neAny hr.units) rs_ne (de_cmp (op_eqAny hr.units) rs_eq (dv 13) dk_str (nomark _)) (dv 8) (nomark _))
  (dss_one (ds_ret dk_bl))
  dss_nil)
  (dss_one (ds_if (dt_not (dt_val (dv 8)))
  (dss_cons (ds_set (i := 9) sc_law.nd rfl (Or.inl rfl) (de_op op_addAny rs_add (dv 9) (de_callTy call_int1 rs_int rfl (C.fr_int) (by decide +kernel) (dl_cons (de_cmp op_gt rs_gt (dv 10) dk_int (nomark _)) dl_nil))))
  (dss_cons (ds_asgG (de_if (dt_cmp (op_eqAny hr.units) rs_eq (dv 10) dk_int (nomark _)) (dv 11) (de_dget1 (u1 hr.units) (dv 6) (dv 12) ⟨rfl, rfl, rfl, rfl⟩)) (pg_sub (dv 6) (dv 12) (set_dict (u1 hr.units)) (fun _ => rfl)) (rg_sub rset_dict) goes_sub)
  (dss_one (ds_asgG (de_if (dt_cmp op_lt rs_lt (dv 10) dk_int (nomark _)) (de_tup (dl_cons (dv 4) (dl_cons (de_op op_addAny rs_add (dv 5) (de_lst (dl_cons (dv 11) dl_nil))) dl_nil))) (de_if (dt_cmp op_lt rs_lt (dv 10) dk_int (nomark _)) (de_tup (dl_cons (de_op op_addAny rs_add (dv 4) (dv 5)) (dl_cons (de_lst dl_nil) dl_nil))) (de_tup (dl_cons (de_slice rfl (dv 4) do_none (do_some dk_int)) (dl_cons (de_lst dl_nil) dl_nil))))) (pg_tup rfl (pgs_cons (pg_name (i := 4) sc_law.nd rfl (Or.inr rfl)) (pgs_cons (pg_name (i := 5) sc_law.nd rfl (Or.inr rfl)) pgs_nil))) (rg_names (is := [4, 5]) (rgs_cons rg_name (rgs_cons rg_name rgs_nil))) (goes_names)))))
  dss_nil)))))))
  (dss_one (ds_if (dt_cmp (op_eqAny hr.units) rs_eq (dv 10) dk_int (nomark _))
  (dss_cons (ds_set (i := 14) sc_law.nd rfl (Or.inl rfl) (de_call (dfl := []) (ok__law_bytes C) (Pas.of tk) (hr.mono (by first | omega | decide)) rfl C.gl__law_bytes C.kp__law_bytes C.b__law_bytes .nil (fun _ _ => .nil) (dl_cons (dv 5) dl_nil)))
  (dss_cons (ds_set (i := 15) sc_law.nd rfl (Or.inr rfl) (de_call (dfl := []) (ok__law_roll C 5) (Pas.of tk) (hr.mono (by first | omega | decide)) rfl C.gl__law_roll C.kp__law_roll C.b__law_roll .nil (fun _ _ => .nil) (dl_cons (dv 1) (dl_cons (de_op op_addAny rs_add (d_len rfl (C.fr_len) (dv 14)) dk_int) dl_nil))))
  (dss_cons (ds_expr (de_meth (ci := 3) (dv 3) C.cl_Disk C.me_Disk_crash (ok_Disk_crash C) (Pas.of tk) (hr.mono (by first | omega | decide)) C.b_Disk_crash .nil (fun _ _ => .nil) (dl_cons (dv 15) dl_nil)))
  (dss_cons (ds_if (PW.pt (dw_or (dt_cmp (op_neAny hr.units) rs_ne (de_fld rfl C.no_kept (dv 3)) (de_op op_addAny rs_add (de_call (dfl := []) (ok__law_bytes C) (Pas.of tk) (hr.mono (by first | omega | decide)) rfl C.gl__law_bytes C.kp__law_bytes C.b__law_bytes .nil (fun _ _ => .nil) (dl_cons (dv 4) dl_nil)) (de_slice rfl (dv 14) do_none (do_some (dv 15)))) (nomark _)) (dw_or (dt_cmp (op_neAny hr.units) rs_ne (de_fld rfl C.no_waiting (dv 3)) (de_tup dl_nil) (nomark _)) (pw_or1 (dt_not (dt_tru (de_fld rfl C.no_down (dv 3)) rfl))))))
  (dss_one (ds_ret dk_bl))
  dss_nil)
  (dss_cons (ds_expr (de_meth0 (ci := 3) (dv 3) C.cl_Disk C.me_Disk_restart (ok_Disk_restart C) (Pas.of tk) (hr.mono (by first | omega | decide)) C.b_Disk_restart .nil (fun _ _ => .nil)))
  (dss_cons (ds_setLcQ (i := 16) (own := [("k", 17)]) rfl sc_law.nd rfl rfl (sw_true rfl rfl rfl (by decide +kernel)) (pi_range1 rfl (C.fr_range) (pa_cons (de_op op_addAny rs_add (d_len rfl (C.fr_len) (dv 5)) dk_int) pa_nil)) it_rng1 (blkOk_by (N := N_law) (sc := (defScope s_law)) (own := [("k", 17)]) (by decide +kernel)) (fun _ => (rg_name)) (goes_name) (own_name (by decide)) (fun _ _ _ _ _ => (pg_name (i := 17) sc_law.nd rfl (Or.inl rfl))) (fun _ _ _ _ _ => (pts_one (dt_cmp op_le rs_le (d_len rfl (C.fr_len) (de_call (dfl := []) (ok__law_bytes C) (Pas.of LamX.takes0) (hr.mono (by first | omega | decide)) rfl C.gl__law_bytes C.kp__law_bytes C.b__law_bytes .nil (fun _ _ => .nil) (dl_cons (de_slice rfl (dv 5) do_none (do_some (dv 17))) dl_nil))) (dv 15) (nomark _)))) (fun _ _ _ _ _ => (dv 17)))
  (dss_one (ds_asgG (de_tup (dl_cons (de_op op_addAny rs_add (dv 4) (de_slice rfl (dv 5) do_none (do_some (de_ix ix_seq rs_it (dv 16) (de_op op_sub rs_sub (d_len rfl (C.fr_len) (dv 16)) dk_int) (fun _ _ => rfl))))) (dl_cons (de_lst dl_nil) (dl_cons dk_non (dl_cons dk_bl dl_nil))))) (pg_tup rfl (pgs_cons (pg_name (i := 4) sc_law.nd rfl (Or.inr rfl)) (pgs_cons (pg_name (i := 5) sc_law.nd rfl (Or.inr rfl)) (pgs_cons (pg_name (i := 7) sc_law.nd rfl (Or.inl rfl)) (pgs_cons (pg_name (i := 8) sc_law.nd rfl (Or.inl rfl)) pgs_nil))))) (rg_names (is := [4, 5, 7, 8]) (rgs_cons rg_name (rgs_cons rg_name (rgs_cons rg_name (rgs_cons rg_name rgs_nil))))) (goes_names)))))))))
  dss_nil)))))
  (dss_cons (ds_if (PW.pt (dw_and (dt_cmp (op_eqAny hr.units) rs_eq (dv 10) dk_int (nomark _)) (pw_and1 (PW.pt (dw_or (dt_cmp (op_neAny hr.units) rs_ne (de_fld rfl C.no_kept (dv 3)) (de_call (dfl := []) (ok__law_bytes C) (Pas.of tk) (hr.mono (by first | omega | decide)) rfl C.gl__law_bytes C.kp__law_bytes C.b__law_bytes .nil (fun _ _ => .nil) (dl_cons (dv 4) dl_nil)) (nomark _)) (pw_or1 (dt_tru (de_fld rfl C.no_down (dv 3)) rfl)))))))
  (dss_one (ds_ret dk_bl))
  dss_nil)
  (dss_cons (ds_if (PW.pt (dw_or (dt_cmp (op_neAny hr.units) rs_ne (de_callTy call_list_of rs_list rfl (C.fr_list) (by decide +kernel) (dl_cons (de_meth0 (ci := 3) (dv 3) C.cl_Disk C.me_Disk_records (ok_Disk_records C) (Pas.of tk) (hr.mono (by first | omega | decide)) C.b_Disk_records .nil (fun _ _ => .nil)) dl_nil)) (de_op op_addAny rs_add (dv 4) (dv 5)) (nomark _)) (pw_or1 (dt_cmp (op_neAny hr.units) rs_ne (de_tup (dl_cons (de_fld rfl C.no_down (dv 3)) (dl_cons (de_fld rfl C.no_syncs (dv 3)) dl_nil))) (de_tup (dl_cons (dv 8) (dl_cons (dv 9) dl_nil))) (nomark _)))))
  (dss_one (ds_ret dk_bl))
  dss_nil)
  (dss_one (ds_if (dt_cmp (op_neAny hr.units) rs_ne (de_lcQ (own := [("name", 12)]) rfl sc_law.nd (pi_list (de_lst (dl_cons dk_str (dl_cons dk_str dl_nil)))) (it_lst rfl) (blkOk_by (N := N_law) (sc := (defScope s_law)) (own := [("name", 12)]) (by decide +kernel)) (fun _ => (rg_name)) (goes_name) (own_name (by decide)) (fun _ _ _ _ _ => (pg_name (i := 12) sc_law.nd rfl (Or.inl rfl))) (fun _ _ _ _ _ => (pts_one (dt_cmp (op_neAny hr.units) rs_ne (de_meth (ci := 3) (dv 3) C.cl_Disk C.me_Disk_read_file (ok_Disk_read_file C) (Pas.of LamX.takes0) (hr.mono (by first | omega | decide)) C.b_Disk_read_file .nil (fun _ _ => .nil) (dl_cons (dv 12) dl_nil)) (de_dget1 (u1 hr.units) (dv 6) (dv 12) ⟨rfl, rfl, rfl, rfl⟩) (nomark _)))) (fun _ _ _ _ _ => (dv 12))) (de_lst dl_nil) (nomark _))
  (dss_one (ds_ret dk_bl))
  dss_nil))))))))))
  (dss_one (ds_ret dk_bl)))
end
end K15
end

section
set_option Elab.async false
set_option linter.all false
set_option maxRecDepth 100000
set_option maxHeartbeats 0
namespace DD
open PySem L2
/-- a list of ints, as the mirror has it -/
theorem den_ints {g : G} {α : List Addr} {H : Hp} : ∀ ns : List Int, DenL g α H (ns.map D.int) (ns.map V.int)
  | [] => .nil
  | n :: ns => .cons (.int n) (den_ints ns)
/-- the script, as it is handed in: two ways in which it may stand -/
def Scr (ns : List Int) (d : D) (h : AH) : Prop := (d = .ref 0 ∧ h = [.lst (ns.map D.int)]) ∨ (d = .fls (ns.map D.int) ∧ h = [])
theorem sp_scr {g : G} {F : List D → AH → EO} {H : Hp} {a : Addr} {ns : List Int} (hT : LamX.Tabs g.T H) (hS : SqL g.K H a (ns.map V.int)) (hF : ∀ d h, Scr ns d h → ∃ h', F [d] h = .ok (.bl true) h') :
    spD g 1 F [.ref a] H (fun v _ => v = .bl true) (fun _ _ _ => False) := by
  have fin : ∀ {α : List Addr} {h : AH} {d : D}, Rep g α h H → Den g α H d (.ref a) → (∃ h', F [d] h = .ok (.bl true) h') → spD g 1 F [.ref a] H (fun v _ => v = .bl true) (fun _ _ _ => False) := fun {α h d} R D1 ⟨h', e⟩ => by
    refine ⟨α, h, [d], R, .cons D1 .nil, rfl, ?_⟩
    rw [e]
    intro α' H' v _ _ Dv
    cases Dv
    rfl
  rcases hS with (hS | ⟨o, hS⟩) | hS
  · refine fin (α := [a]) (h := [.lst (ns.map D.int)]) (d := .ref 0) ⟨rfl, by simp, hT, fun l o b h1 h2 => ?_⟩ (.ref rfl) (hF _ _ (.inl ⟨rfl, rfl⟩))
    have hl : l = 0 := by
      have := (List.getElem?_eq_some_iff.mp h1).1
      simp at this
      exact this
    subst hl
    simp at h1 h2
    subst h1 h2
    exact ⟨_, hS, den_ints ns⟩
  · exact fin (α := []) (h := []) (d := .fls (ns.map D.int)) ⟨rfl, .nil, hT, fun l o b h1 h2 => by simp at h1⟩ (.fls (.inl ⟨o, hS⟩) (den_ints ns)) (hF _ _ (.inr ⟨rfl, rfl⟩))
  · exact fin (α := []) (h := []) (d := .fls (ns.map D.int)) ⟨rfl, .nil, hT, fun l o b h1 h2 => by simp at h1⟩ (.fls (.inr hS) (den_ints ns)) (hF _ _ (.inr ⟨rfl, rfl⟩))
end DD
end

section
set_option Elab.async false
set_option linter.all false
set_option maxRecDepth 100000
set_option maxHeartbeats 0
namespace K15
open PySem L2 DD
theorem lawAt {l : PySem.W.OpenLaw} {w : World} {K : PySem.W.Frag} {mg : Str → Option Value} {f : Addr} {h : Heap} {ts : List Addr} (KX : K.In h) (T : ∀ P ∈ ts, h.get? P = some (PySem.W.tabObj #[])) (G : h.Ns mainGlobals mg) (hf : mg "law" = some (.ref f))
    (c : He.SaysD fa fn K) (lb : lams.all (lamB K ts) = true) (nd : (lams.map (tabA K)).Nodup)
    (math : ∀ ns : List Int, ns.length ≤ 63 → (∀ z ∈ ns, Builtin.Int.intBits z ≤ 1048576) → ∀ d h, Scr ns d h → ∃ h', F_law [d] h = .ok (.bl true) h') :
    LamX.LawAtS l w K (L2.CX l.prog w) 48 63 "script" mg f h := by
  have lb' : ∀ p ∈ lams, lamB K ts p = true := List.all_eq_true.mp lb
  have hT : (gg K).T = lams.map fun p => (tabA K p, ("law" : Str) ++ ".<locals>." ++ "<lambda>") := rfl
  have F0 := fdA_ok (c.def_ (fn.length - 1) (d := dd_law) rfl)
  have e := hf.symm.trans (He.glo_ok KX G (c.fact 34 (f := .glo "law") rfl))
  cases e
  refine ⟨fdA K ("law", none), lams.map fun p => (codeA K p, tabA K p), spD (gg K) 1 F_law, fun p hp => ?_, fun p hp => ?_, fun p hp => ?_, fun s u => ?_, fun H a ns hl hb hH hS => ?_, fun base KB GB TB => ?_⟩
  · obtain ⟨q, hq, rfl⟩ := List.mem_map.mp hp
    exact T _ (lamB_ok (lb' q hq)).2.2.1
  · obtain ⟨q, hq, rfl⟩ := List.mem_map.mp hp
    exact (lamB_ok (lb' q hq)).2.2.2
  · obtain ⟨q, hq, rfl⟩ := List.mem_map.mp hp
    exact PySem.W.codeHd_of_K KX (lamB_ok (lb' q hq)).2.1
  · exact FunD.bindsA (ps := ["script"]) F0 (fun _ _ _ _ _ _ us hl => match us, hl with | [_], _ => rfl) s [u] rfl
  · refine sp_scr ?_ hS (math ns hl hb)
    intro p hp
    rw [hT] at hp
    obtain ⟨q, hq, rfl⟩ := List.mem_map.mp hp
    exact LamX.TabS.nil (hH (codeA K q, tabA K q) (List.mem_map.mpr ⟨q, hq, rfl⟩))
  · have C : Cnd K mg base := ⟨c, KB, GB, fun p hp => TB _ (List.mem_map.mpr ⟨p, hp, rfl⟩), fun p hp => (lamB_ok (lb' p hp)).1, nd⟩
    exact ok_law C
end K15
end

section
set_option Elab.async false
set_option linter.all false
set_option maxRecDepth 100000
set_option maxHeartbeats 1000000
/-! Running the mirrors: each by its equation where it is applied to all of its arguments. -/
namespace DD
open PySem L2
section
variable {d : D} {h : AH} {c : Nat} {f : D → AH → EO} {τ : SL} {fs : D → AH → SO} {fl : D → AH → LO} {ds : List D} {fe : List D → AH → EO} {g : SL → AH → SO} {gl : List D → AH → LO}
theorem bind_ok : (EO.ok d h).bind f = f d h := Eq.trans rfl rfl
theorem bind_exc : (EO.exc c h).bind f = .exc c h := Eq.trans rfl rfl
theorem toS_ok : (EO.ok d h).toS τ fs = fs d h := Eq.trans rfl rfl
theorem toS_exc : (EO.exc c h).toS τ fs = .exc c τ h := Eq.trans rfl rfl
theorem bindL_ok : (EO.ok d h).bindL fl = fl d h := Eq.trans rfl rfl
theorem bindL_exc : (EO.exc c h).bindL fl = .exc c h := Eq.trans rfl rfl
theorem lbind_ok : (LO.ok ds h).bind gl = gl ds h := Eq.trans rfl rfl
theorem lbind_exc : (LO.exc c h).bind gl = .exc c h := Eq.trans rfl rfl
theorem bindE_ok : (LO.ok ds h).bindE fe = fe ds h := Eq.trans rfl rfl
theorem bindE_exc : (LO.exc c h).bindE fe = .exc c h := Eq.trans rfl rfl
theorem sbind_nx : (SO.nx τ h).bind g = g τ h := Eq.trans rfl rfl
theorem sbind_rt : (SO.rt d h).bind g = .rt d h := Eq.trans rfl rfl
theorem sbind_exc : (SO.exc c τ h).bind g = .exc c τ h := Eq.trans rfl rfl
theorem sbind_bk : (SO.bk τ h).bind g = .bk τ h := Eq.trans rfl rfl
theorem sbind_ct : (SO.ct τ h).bind g = .ct τ h := Eq.trans rfl rfl
theorem ret_nx : retOf (.nx τ h) = .ok .non h := Eq.trans rfl rfl
theorem ret_rt : retOf (.rt d h) = .ok d h := Eq.trans rfl rfl
theorem ret_exc : retOf (.exc c τ h) = .exc c h := Eq.trans rfl rfl
end
section
variable {τ : SL} {h : AH} {a b e : EM} {i : Nat} {d : D} {f : D → D → AH → EO} {u : D → AH → EO} {m : LM} {sa sb : SM} {F : List D → AH → EO} {dfl : List D} {n : Nat} {mt : Str}
theorem varM_e : varM i τ h = match τ[i]? with | some (some d) => .ok d h | _ => .bad := Eq.trans rfl rfl
theorem varM_0 {t : SL} : varM 0 (some d :: t) h = .ok d h := Eq.trans rfl rfl
theorem varM_1 {a0 : Option D} {t : SL} : varM 1 (a0 :: some d :: t) h = .ok d h := Eq.trans rfl rfl
theorem varM_2 {a0 a1 : Option D} {t : SL} : varM 2 (a0 :: a1 :: some d :: t) h = .ok d h := Eq.trans rfl rfl
theorem varM_3 {a0 a1 a2 : Option D} {t : SL} : varM 3 (a0 :: a1 :: a2 :: some d :: t) h = .ok d h := Eq.trans rfl rfl
theorem varM_4 {a0 a1 a2 a3 : Option D} {t : SL} : varM 4 (a0 :: a1 :: a2 :: a3 :: some d :: t) h = .ok d h := Eq.trans rfl rfl
theorem varM_5 {a0 a1 a2 a3 a4 : Option D} {t : SL} : varM 5 (a0 :: a1 :: a2 :: a3 :: a4 :: some d :: t) h = .ok d h := Eq.trans rfl rfl
theorem cM_e : cM d τ h = .ok d h := Eq.trans rfl rfl
theorem binM_e : binM a b f τ h = (a τ h).bind fun x h1 => (b τ h1).bind fun y h2 => f x y h2 := Eq.trans rfl rfl
theorem unM_e : unM a u τ h = (a τ h).bind fun x h1 => u x h1 := Eq.trans rfl rfl
theorem seqM_e : seqM sa sb τ h = (sa τ h).bind sb := Eq.trans rfl rfl
theorem setM_e : setM i e τ h = (e τ h).toS τ fun d h1 => .nx (τ.set i (some d)) h1 := Eq.trans rfl rfl
theorem exprM_e : exprM e τ h = (e τ h).toS τ fun _ h1 => .nx τ h1 := Eq.trans rfl rfl
theorem retM_e : retM e τ h = (e τ h).toS τ fun d h1 => .rt d h1 := Eq.trans rfl rfl
theorem raiseM_e : raiseM i τ h = .exc i τ h := Eq.trans rfl rfl
theorem passM_e : passM τ h = .nx τ h := Eq.trans rfl rfl
theorem brkM_e : brkM τ h = .bk τ h := Eq.trans rfl rfl
theorem ifSM_e : ifSM e sa sb τ h = (e τ h).toS τ fun d h1 => match d with | .bl true => sa τ h1 | .bl false => sb τ h1 | _ => .bad := Eq.trans rfl rfl
theorem ifM_e {c : EM} : ifM c a b τ h = (c τ h).bind fun d h1 => match d with | .bl true => a τ h1 | .bl false => b τ h1 | _ => .bad := Eq.trans rfl rfl
theorem andM_e : andM a b τ h = (a τ h).bind fun d h1 => match d with | .bl true => b τ h1 | .bl false => .ok (.bl false) h1 | _ => .bad := Eq.trans rfl rfl
theorem orM_e : orM a b τ h = (a τ h).bind fun d h1 => match d with | .bl false => b τ h1 | .bl true => .ok (.bl true) h1 | _ => .bad := Eq.trans rfl rfl
theorem notM_e : notM a τ h = (a τ h).bind fun d h1 => match d with | .bl b => .ok (.bl (!b)) h1 | _ => .bad := Eq.trans rfl rfl
theorem nilM_e : nilM τ h = .ok [] h := Eq.trans rfl rfl
theorem consM_e : consM a m τ h = (a τ h).bindL fun d h1 => (m τ h1).bind fun ds h2 => .ok (d :: ds) h2 := Eq.trans rfl rfl
theorem callM_e : callM m F τ h = (m τ h).bindE F := Eq.trans rfl rfl
theorem tupM_e : tupM m τ h = (m τ h).bindE fun ds h1 => if ds.length ≤ sizeLine then .ok (.tup ds) h1 else .bad := Eq.trans rfl rfl
theorem lstM_e : lstM m τ h = (m τ h).bindE fun ds h1 => if ds.length ≤ sizeLine then .ok (.ref h1.length) (h1 ++ [.lst ds]) else .bad := Eq.trans rfl rfl
theorem bmM_e {fm : D → List D → AH → EO} : bmM a m fm τ h = (a τ h).bind fun d h1 => match d with | .ref l => (match h1[l]? with | some (.lst _) => (m τ h1).bindE fun ds h2 => fm d ds h2 | _ => .bad) | _ => .bad := Eq.trans rfl rfl
theorem smM_e {fm : Str → D → AH → EO} : smM a b fm τ h = (a τ h).bind fun d h1 => match d with | .str x => (b τ h1).bind fun y h2 => fm x y h2 | _ => .bad := Eq.trans rfl rfl
theorem methF_e {ci : Nat} : methF mt ci n dfl F a m τ h = (a τ h).bind fun d h1 => match d with | .ref l => (match h1[l]? with | some (.ins c' fs) => if c' = ci ∧ fs.lookup mt = none then (m τ h1).bindE fun ds h2 => callF n dfl F (d :: ds) h2 else .bad | _ => .bad) | _ => .bad := Eq.trans rfl rfl
theorem asgM_e {t : TM} : asgM e t τ h = (e τ h).toS τ fun d h1 => t d τ h1 := Eq.trans rfl rfl
theorem subG_e {v : D} {fz : D → D → D → AH → Option AH} : subG a b fz v τ h = (a τ h).toS τ fun d h1 => (b τ h1).toS τ fun k h2 => match fz d k v h2 with | some h3 => .nx τ h3 | none => .bad := Eq.trans rfl rfl
theorem nameG_e {v : D} : nameG i v τ h = .nx (τ.set i (some v)) h := Eq.trans rfl rfl
theorem slM_e {lo hi : OM} : slM a lo hi τ h = (a τ h).bind fun x h1 => lo.run τ h1 fun l h2 => hi.run τ h2 fun u h3 => sliceM x l u h3 := Eq.trans rfl rfl
theorem om_none {k : Option Int → AH → EO} : OM.none.run τ h k = k none h := Eq.trans rfl rfl
theorem om_some {k : Option Int → AH → EO} : (OM.some e).run τ h k = (e τ h).bind fun d h1 => match d with | .int i => k (some i) h1 | _ => .bad := Eq.trans rfl rfl
theorem fldSetM_e {cs : List Nat} {fl : Str} : fldSetM fl cs a b τ h = (b τ h).toS τ fun y h1 => (a τ h1).toS τ fun d h2 => match d with | .ref l => (match h2[l]? with | some (.ins c fs) => if c ∈ cs ∧ fs.length < 1000 then .nx τ (h2.set l (.ins c (putD fl y fs))) else .bad | _ => .bad) | _ => .bad := Eq.trans rfl rfl
theorem toldM_e {c : Nat → Option Bool} {r : Str} : toldM c r e τ h = match e τ h with | .ok d h' => .ok d h' | .exc i h' => (match c i with | some true => .ok (.str r) h' | _ => .bad) | .bad => .bad := Eq.trans rfl rfl
/-! values -/
theorem add_ii {i j : Int} : addM (.int i) (.int j) h = .ok (.int (i + j)) h := Eq.trans rfl rfl
theorem add_tt {x y : List D} : addM (.tup x) (.tup y) h = if x.length + y.length ≤ sizeLine then .ok (.tup (x ++ y)) h else .bad := Eq.trans rfl rfl
theorem sub_ii {i j : Int} : subM (.int i) (.int j) h = .ok (.int (i - j)) h := Eq.trans rfl rfl
theorem mul_ii {i j : Int} : mulM (.int i) (.int j) h = if CMb' i j = true then .ok (.int (i * j)) h else .bad := Eq.trans rfl rfl
theorem lt_ii {i j : Int} : ltM (.int i) (.int j) h = .ok (.bl (decide (i < j))) h := Eq.trans rfl rfl
theorem le_ii {i j : Int} : leM (.int i) (.int j) h = .ok (.bl (decide (i ≤ j))) h := Eq.trans rfl rfl
theorem gt_ii {i j : Int} : gtM (.int i) (.int j) h = .ok (.bl (decide (j < i))) h := Eq.trans rfl rfl
theorem ge_ii {i j : Int} : geM (.int i) (.int j) h = .ok (.bl (decide (j ≤ i))) h := Eq.trans rfl rfl
theorem fdiv_ii {i j : Int} : fdivM (.int i) (.int j) h = if CDb i j = true then .ok (.int (i / j)) h else .bad := Eq.trans rfl rfl
theorem mod_ii {i j : Int} : modM (.int i) (.int j) h = if decide (0 < j) = true then .ok (.int (i % j)) h else .bad := Eq.trans rfl rfl
theorem eq_ii {i j : Int} : eqM (.int i) (.int j) h = .ok (.bl (i == j)) h := by
  simp [eqM, eqB, plD, depD, eqD]
theorem ne_ii {i j : Int} : neM (.int i) (.int j) h = .ok (.bl (!(i == j))) h := by
  simp [neM, eqB, plD, depD, eqD]
theorem eq_ss {i j : Str} : eqM (.str i) (.str j) h = .ok (.bl (i == j)) h := by
  simp [eqM, eqB, plD, depD, eqD]
theorem ne_ss {i j : Str} : neM (.str i) (.str j) h = .ok (.bl (!(i == j))) h := by
  simp [neM, eqB, plD, depD, eqD]
theorem fld_e {fl : Str} {cs : List Nat} {l : Nat} : fldM fl cs (.ref l) h = match h[l]? with
    | some (.ins c fs) => if c ∈ cs then match fs.lookup fl with
      | some v => .ok v h
      | none => .bad else .bad
    | _ => .bad := Eq.trans rfl rfl
theorem len_t {x : List D} : lenF [.tup x] h = .ok (.int x.length) h := Eq.trans rfl rfl
theorem len_s {x : Str} : lenF [.str x] h = if x.length ≤ sizeLine then .ok (.int x.length) h else .bad := Eq.trans rfl rfl
theorem append_e {l : Nat} {y : D} : appendF (.ref l) [y] h = match h[l]? with
    | some (.lst xs) => if xs.length < sizeLine then .ok .non (h.set l (.lst (xs ++ [y]))) else .bad
    | _ => .bad := Eq.trans rfl rfl
theorem extend_t {l : Nat} {zs : List D} : extendF (.ref l) [.tup zs] h = match h[l]? with
    | some (.lst xs) => if xs.length + zs.length ≤ sizeLine then .ok .non (h.set l (.lst (xs ++ zs))) else .bad
    | _ => .bad := Eq.trans rfl rfl
theorem extend_r {l b : Nat} : extendF (.ref l) [.ref b] h = match h[l]?, h[b]? with
    | some (.lst xs), some (.lst zs) => if xs.length + zs.length ≤ sizeLine then .ok .non (h.set l (.lst (xs ++ zs))) else .bad
    | _, _ => .bad := Eq.trans rfl rfl
theorem tup_r {l : Nat} : tupF (.ref l) h = match h[l]? with
    | some (.lst xs) => .ok (.tup xs) h
    | _ => .bad := Eq.trans rfl rfl
theorem it_t {x : List D} {i : Int} : itM (.tup x) (.int i) h = match atI x i with
    | some d => .ok d h
    | none => .bad := Eq.trans rfl rfl
theorem sl_t {x : List D} {lo hi : Option Int} : sliceM (.tup x) lo hi h = .ok (.tup (cutL x lo hi)) h := Eq.trans rfl rfl
end
/-! loops -/
section
variable {c : EM} {b : SM} {τ τ' : SL} {h h1 h' : AH}
theorem while_go (hc : c τ h = .ok (.bl true) h1) (hb : b τ h1 = .nx τ' h') : whileM c b τ h = whileM c b τ' h' := by
  rw [whileM_eq]; simp only [turnM, hc, toS_ok, hb]
theorem while_stop (hc : c τ h = .ok (.bl false) h1) : whileM c b τ h = .nx τ h1 := by
  rw [whileM_eq]; simp only [turnM, hc, toS_ok]
theorem while_exc {i : Nat} (hc : c τ h = .ok (.bl true) h1) (hb : b τ h1 = .exc i τ' h') : whileM c b τ h = .exc i τ' h' := by
  rw [whileM_eq]; simp only [turnM, hc, toS_ok, hb]
theorem while_brk (hc : c τ h = .ok (.bl true) h1) (hb : b τ h1 = .bk τ' h') : whileM c b τ h = .nx τ' h' := by
  rw [whileM_eq]; simp only [turnM, hc, toS_ok, hb]
end
/-! heaps -/
theorem get_app {h gb : AH} {l : Nat} {o : O} (e : h[l]? = some o) : (h ++ gb)[l]? = some o := by
  rw [List.getElem?_append_left (List.getElem?_eq_some_iff.mp e).1]; exact e
theorem get_new {h gb : AH} {o : O} : (h ++ o :: gb)[h.length]? = some o := by simp
theorem set_new {h gb : AH} {o o' : O} : (h ++ o :: gb).set h.length o' = h ++ o' :: gb := by simp
theorem set_app {h gb : AH} {l : Nat} {o : O} (e : l < h.length) : (h ++ gb).set l o = h.set l o ++ gb := by rw [List.set_append_left _ _ e]
theorem get_set {h : AH} {l : Nat} {o : O} (e : l < h.length) : (h.set l o)[l]? = some o := by simp [e]
theorem get_set_ne {h : AH} {l k : Nat} {o : O} (e : l ≠ k) : (h.set l o)[k]? = h[k]? := by simp [e]
theorem set_set {h : AH} {l : Nat} {o o' : O} : (h.set l o).set l o' = h.set l o' := by simp
theorem set_same {h : AH} {l : Nat} {o : O} (e : h[l]? = some o) : h.set l o = h := by
  apply List.ext_getElem?
  intro i
  by_cases hi : l = i
  · subst hi; rw [get_set (List.getElem?_eq_some_iff.mp e).1, e]
  · rw [get_set_ne hi]
theorem lt_of_get {h : AH} {l : Nat} {o : O} (e : h[l]? = some o) : l < h.length := (List.getElem?_eq_some_iff.mp e).1
abbrev B (bs : List Nat) : List D := bs.map fun (b : Nat) => D.int (b : Int)
theorem B_app (a b : List Nat) : B (a ++ b) = B a ++ B b := by simp [B]
theorem B_len (a : List Nat) : (B a).length = a.length := by simp [B]
theorem B_snoc (a : List Nat) (n : Nat) : B a ++ [D.int (n : Int)] = B (a ++ [n]) := by simp [B]
end DD
end

section
set_option Elab.async false
set_option linter.all false
set_option maxRecDepth 100000
set_option maxHeartbeats 1000000
namespace K15
open PySem L2 DD
/-! ### numbers -/
def nb (n : Nat) : List Nat := if h : n > 127 then (n % 128 + 128) :: nb (n / 128) else [n]
termination_by n
decreasing_by omega
theorem nb_small {n : Nat} (h : n ≤ 127) : nb n = [n] := by rw [nb]; simp; omega
theorem nb_big {n : Nat} (h : n > 127) : nb n = (n % 128 + 128) :: nb (n / 128) := by rw [nb]; simp; omega
theorem nb_ne (n : Nat) : nb n ≠ [] := by rw [nb]; split <;> simp
theorem nb_len (n : Nat) : ∀ k, n < 128 ^ (k + 1) → (nb n).length ≤ k + 1 := by
  intro k
  induction k generalizing n with
  | zero => intro h; rw [nb_small (by omega)]; simp
  | succ k ih =>
    intro h
    by_cases hn : n > 127
    · rw [nb_big hn]
      have : n / 128 < 128 ^ (k + 1) := by
        rw [Nat.div_lt_iff_lt_mul (by decide)]
        rw [Nat.pow_succ] at h
        exact h
      have := ih _ this
      simp only [List.length_cons]
      omega
    · rw [nb_small (by omega)]; simp
theorem cdb_pos {i : Int} {n : Nat} (h : 0 < n) (h2 : n < 2 ^ 128) : CDb i (n : Int) = true := by
  unfold CDb
  simp only [Bool.and_eq_true, decide_eq_true_eq]
  omega
theorem cdb128 {i : Int} : CDb i 128 = true := by unfold CDb; decide
/-- the loop of natural -/
theorem nat_loop : ∀ (n : Nat) (h : AH) (l : Nat) (xs : List Nat), h[l]? = some (.lst (B xs)) → xs.length + (nb n).length ≤ 16777216 →
    ∃ (m : Nat) (ys : List Nat), m ≤ 127 ∧ nb n = ys ++ [m] ∧ whileM natural_w0c natural_w0b [some (.int n), some (.ref l)] h = .nx [some (.int m), some (.ref l)] (h.set l (.lst (B (xs ++ ys)))) := by
  intro n
  induction n using Nat.strongRecOn with
  | ind n ih =>
    intro h l xs e hz
    by_cases hn : n > 127
    · have hb := nb_big hn
      rw [hb] at hz
      simp only [List.length_cons] at hz
      have hne := List.length_pos_iff.mpr (nb_ne (n / 128))
      have hs : sizeLine = 16777216 := sizeLine_eq
      have e1 : (B xs).length < sizeLine := by simp [B]; omega
      have hd : decide ((127 : Int) < (n : Int)) = true := by simp; omega
      have e2 : ((n : Int) % 128 + 128) = ((n % 128 + 128 : Nat) : Int) := by omega
      have e3 : ((n : Int) / 128) = ((n / 128 : Nat) : Int) := by omega
      have hl := lt_of_get e
      obtain ⟨m, ys, h1, h2, h3⟩ := ih (n / 128) (by omega) (h.set l (.lst (B (xs ++ [n % 128 + 128])))) l (xs ++ [n % 128 + 128]) (get_set hl) (by simp; omega)
      refine ⟨m, (n % 128 + 128) :: ys, h1, by rw [hb, h2]; rfl, ?_⟩
      have hc : natural_w0c [some (.int n), some (.ref l)] h = .ok (.bl true) h := by unfold natural_w0c; simp only [hd, DD.bind_ok, DD.bind_exc, DD.toS_ok, DD.toS_exc, DD.bindL_ok, DD.bindL_exc, DD.lbind_ok, DD.lbind_exc, DD.bindE_ok, DD.bindE_exc, DD.sbind_nx, DD.sbind_rt, DD.sbind_exc, DD.sbind_bk, DD.sbind_ct, DD.ret_nx, DD.ret_rt, DD.ret_exc, DD.varM_0, DD.varM_1, DD.varM_2, DD.varM_3, DD.varM_4, DD.varM_5, DD.cM_e, DD.binM_e, DD.unM_e, DD.seqM_e, DD.setM_e, DD.exprM_e, DD.retM_e, DD.raiseM_e, DD.passM_e, DD.brkM_e, DD.ifSM_e, DD.ifM_e, DD.andM_e, DD.orM_e, DD.notM_e, DD.nilM_e, DD.consM_e, DD.callM_e, DD.tupM_e, DD.lstM_e, DD.bmM_e, DD.smM_e, DD.asgM_e, DD.subG_e, DD.nameG_e, DD.slM_e, DD.om_none, DD.om_some, DD.fldSetM_e, DD.toldM_e, DD.add_ii, DD.add_tt, DD.sub_ii, DD.mul_ii, DD.lt_ii, DD.le_ii, DD.gt_ii, DD.ge_ii, DD.fdiv_ii, DD.mod_ii, DD.eq_ii, DD.ne_ii, DD.eq_ss, DD.ne_ss, DD.fld_e, DD.len_t, DD.len_s, DD.append_e, DD.extend_t, DD.extend_r, DD.tup_r, DD.it_t, DD.sl_t, DD.callF, List.length_append, List.length_cons, List.length_nil, List.append_nil, Nat.reduceAdd, List.set_cons_zero, List.set_cons_succ, ↓reduceIte, Bool.not_true, Bool.not_false, Nat.zero_le]
      have hbd : natural_w0b [some (.int n), some (.ref l)] h = .nx [some (.int (n / 128 : Nat)), some (.ref l)] (h.set l (.lst (B (xs ++ [n % 128 + 128])))) := by
        unfold natural_w0b
        simp only [e, e1, cdb128, e2, e3, B_snoc, show decide ((0 : Int) < 128) = true from rfl, DD.bind_ok, DD.bind_exc, DD.toS_ok, DD.toS_exc, DD.bindL_ok, DD.bindL_exc, DD.lbind_ok, DD.lbind_exc, DD.bindE_ok, DD.bindE_exc, DD.sbind_nx, DD.sbind_rt, DD.sbind_exc, DD.sbind_bk, DD.sbind_ct, DD.ret_nx, DD.ret_rt, DD.ret_exc, DD.varM_0, DD.varM_1, DD.varM_2, DD.varM_3, DD.varM_4, DD.varM_5, DD.cM_e, DD.binM_e, DD.unM_e, DD.seqM_e, DD.setM_e, DD.exprM_e, DD.retM_e, DD.raiseM_e, DD.passM_e, DD.brkM_e, DD.ifSM_e, DD.ifM_e, DD.andM_e, DD.orM_e, DD.notM_e, DD.nilM_e, DD.consM_e, DD.callM_e, DD.tupM_e, DD.lstM_e, DD.bmM_e, DD.smM_e, DD.asgM_e, DD.subG_e, DD.nameG_e, DD.slM_e, DD.om_none, DD.om_some, DD.fldSetM_e, DD.toldM_e, DD.add_ii, DD.add_tt, DD.sub_ii, DD.mul_ii, DD.lt_ii, DD.le_ii, DD.gt_ii, DD.ge_ii, DD.fdiv_ii, DD.mod_ii, DD.eq_ii, DD.ne_ii, DD.eq_ss, DD.ne_ss, DD.fld_e, DD.len_t, DD.len_s, DD.append_e, DD.extend_t, DD.extend_r, DD.tup_r, DD.it_t, DD.sl_t, DD.callF, List.length_append, List.length_cons, List.length_nil, List.append_nil, Nat.reduceAdd, List.set_cons_zero, List.set_cons_succ, ↓reduceIte, Bool.not_true, Bool.not_false, Nat.zero_le]
      rw [while_go hc hbd, h3, set_set]
      simp [List.append_assoc]
    · have hd : decide ((127 : Int) < (n : Int)) = false := by simp; omega
      refine ⟨n, [], by omega, by rw [nb_small (by omega)]; rfl, ?_⟩
      have hc : natural_w0c [some (.int n), some (.ref l)] h = .ok (.bl false) h := by unfold natural_w0c; simp only [hd, DD.bind_ok, DD.bind_exc, DD.toS_ok, DD.toS_exc, DD.bindL_ok, DD.bindL_exc, DD.lbind_ok, DD.lbind_exc, DD.bindE_ok, DD.bindE_exc, DD.sbind_nx, DD.sbind_rt, DD.sbind_exc, DD.sbind_bk, DD.sbind_ct, DD.ret_nx, DD.ret_rt, DD.ret_exc, DD.varM_0, DD.varM_1, DD.varM_2, DD.varM_3, DD.varM_4, DD.varM_5, DD.cM_e, DD.binM_e, DD.unM_e, DD.seqM_e, DD.setM_e, DD.exprM_e, DD.retM_e, DD.raiseM_e, DD.passM_e, DD.brkM_e, DD.ifSM_e, DD.ifM_e, DD.andM_e, DD.orM_e, DD.notM_e, DD.nilM_e, DD.consM_e, DD.callM_e, DD.tupM_e, DD.lstM_e, DD.bmM_e, DD.smM_e, DD.asgM_e, DD.subG_e, DD.nameG_e, DD.slM_e, DD.om_none, DD.om_some, DD.fldSetM_e, DD.toldM_e, DD.add_ii, DD.add_tt, DD.sub_ii, DD.mul_ii, DD.lt_ii, DD.le_ii, DD.gt_ii, DD.ge_ii, DD.fdiv_ii, DD.mod_ii, DD.eq_ii, DD.ne_ii, DD.eq_ss, DD.ne_ss, DD.fld_e, DD.len_t, DD.len_s, DD.append_e, DD.extend_t, DD.extend_r, DD.tup_r, DD.it_t, DD.sl_t, DD.callF, List.length_append, List.length_cons, List.length_nil, List.append_nil, Nat.reduceAdd, List.set_cons_zero, List.set_cons_succ, ↓reduceIte, Bool.not_true, Bool.not_false, Nat.zero_le]
      rw [while_stop hc, List.append_nil, set_same e]
/-- natural(n) -/
theorem nat_run (n : Nat) (h : AH) (hz : (nb n).length ≤ 16777216) : ∃ gb, F_natural [.int n] h = .ok (.tup (B (nb n))) (h ++ gb) := by
  obtain ⟨m, ys, h1, h2, h3⟩ := nat_loop n (h ++ [.lst []]) h.length [] get_new (by simpa using hz)
  have hs : sizeLine = 16777216 := sizeLine_eq
  have hy : ys.length < 16777216 := by rw [h2] at hz; simp at hz; omega
  have e4 : B ys ++ [D.int (m : Int)] = B (nb n) := by rw [h2, B_snoc]
  refine ⟨[.lst (B (nb n))], ?_⟩
  rw [List.nil_append, set_new] at h3
  have e6 : (B ys).length < sizeLine := by simp [B, hs]; omega
  unfold F_natural m_natural
  have e0 : startD N_natural.length [D.int (n : Int)] = [some (.int n), none] := rfl
  rw [e0]
  simp only [h3, get_new, set_new, e6, e4, DD.bind_ok, DD.bind_exc, DD.toS_ok, DD.toS_exc, DD.bindL_ok, DD.bindL_exc, DD.lbind_ok, DD.lbind_exc, DD.bindE_ok, DD.bindE_exc, DD.sbind_nx, DD.sbind_rt, DD.sbind_exc, DD.sbind_bk, DD.sbind_ct, DD.ret_nx, DD.ret_rt, DD.ret_exc, DD.varM_0, DD.varM_1, DD.varM_2, DD.varM_3, DD.varM_4, DD.varM_5, DD.cM_e, DD.binM_e, DD.unM_e, DD.seqM_e, DD.setM_e, DD.exprM_e, DD.retM_e, DD.raiseM_e, DD.passM_e, DD.brkM_e, DD.ifSM_e, DD.ifM_e, DD.andM_e, DD.orM_e, DD.notM_e, DD.nilM_e, DD.consM_e, DD.callM_e, DD.tupM_e, DD.lstM_e, DD.bmM_e, DD.smM_e, DD.asgM_e, DD.subG_e, DD.nameG_e, DD.slM_e, DD.om_none, DD.om_some, DD.fldSetM_e, DD.toldM_e, DD.add_ii, DD.add_tt, DD.sub_ii, DD.mul_ii, DD.lt_ii, DD.le_ii, DD.gt_ii, DD.ge_ii, DD.fdiv_ii, DD.mod_ii, DD.eq_ii, DD.ne_ii, DD.eq_ss, DD.ne_ss, DD.fld_e, DD.len_t, DD.len_s, DD.append_e, DD.extend_t, DD.extend_r, DD.tup_r, DD.it_t, DD.sl_t, DD.callF, List.length_append, List.length_cons, List.length_nil, List.append_nil, Nat.reduceAdd, List.set_cons_zero, List.set_cons_succ, ↓reduceIte, Bool.not_true, Bool.not_false, Nat.zero_le]
end K15
end

section
set_option Elab.async false
set_option linter.all false
set_option maxRecDepth 100000
set_option maxHeartbeats 1000000
namespace DD
open PySem L2
theorem forM_e {e : EM} {items : D → AH → Option (List D × (AH → Bool))} {f : TM} {b : SM} {τ : SL} {h : AH} : DD.forM e items f b τ h = (e τ h).toS τ fun d h1 => match items d h1 with | some (ds, live) => loopM live f b ds τ h1 | none => .bad := rfl
theorem loop_nil {f : TM} {b : SM} {τ : SL} {h : AH} : loopM (fun _ => true) f b [] τ h = .nx τ h := rfl
theorem loop_cons {f : TM} {b : SM} {τ : SL} {h : AH} {d : D} {ds : List D} : loopM (fun _ => true) f b (d :: ds) τ h = (f d τ h).bind fun τ1 h1 => nextM (b τ1 h1) (loopM (fun _ => true) f b ds) := rfl
theorem next_nx {τ : SL} {h : AH} {k : SM} : nextM (.nx τ h) k = k τ h := rfl
theorem next_rt {d : D} {h : AH} {k : SM} : nextM (.rt d h) k = .rt d h := rfl
theorem next_exc {τ : SL} {h : AH} {k : SM} {c : Nat} : nextM (.exc c τ h) k = .exc c τ h := rfl
theorem tupIt_e {xs : List D} {h : AH} : tupIt (.tup xs) h = some (xs, fun _ => true) := rfl
theorem strIt_e {x : Str} {h : AH} : strIt (.str x) h = some (signs x, fun _ => true) := rfl
end DD
namespace K15
open PySem L2 DD
theorem cmb_r {i j : Int} (h : j.natAbs < 2 ^ 64) : CMb' i j = true := by
  unfold CMb'
  simp only [Bool.or_eq_true, decide_eq_true_eq]
  exact .inl (.inr h)
theorem cmb_l {i j : Int} (h : i.natAbs < 2 ^ 64) : CMb' i j = true := by
  unfold CMb'
  simp only [Bool.or_eq_true, decide_eq_true_eq]
  exact .inl (.inl h)
/-! ### four bytes -/
def b4 (n : Nat) : List Nat := [n / 16777216 % 256, n / 65536 % 256, n / 256 % 256, n % 256]
theorem four_run (n : Nat) (h : AH) : F_four [.int n] h = .ok (.tup (B (b4 n))) h := by
  unfold F_four m_four
  have e0 : startD N_four.length [D.int (n : Int)] = [some (.int n)] := rfl
  rw [e0]
  simp only [show CDb (n : Int) 16777216 = true from cdb_pos (n := 16777216) (by decide) (by decide), show CDb (n : Int) 65536 = true from cdb_pos (n := 65536) (by decide) (by decide), show CDb (n : Int) 256 = true from cdb_pos (n := 256) (by decide) (by decide), show decide ((0 : Int) < 256) = true from rfl,
    show (0 + 1 + 1 + 1 + 1 ≤ sizeLine) = True from by rw [sizeLine_eq]; decide, DD.bind_ok, DD.bind_exc, DD.toS_ok, DD.toS_exc, DD.bindL_ok, DD.bindL_exc, DD.lbind_ok, DD.lbind_exc, DD.bindE_ok, DD.bindE_exc, DD.sbind_nx, DD.sbind_rt, DD.sbind_exc, DD.sbind_bk, DD.sbind_ct, DD.ret_nx, DD.ret_rt, DD.ret_exc, DD.varM_0, DD.varM_1, DD.varM_2, DD.varM_3, DD.varM_4, DD.varM_5, DD.cM_e, DD.binM_e, DD.unM_e, DD.seqM_e, DD.setM_e, DD.exprM_e, DD.retM_e, DD.raiseM_e, DD.passM_e, DD.brkM_e, DD.ifSM_e, DD.ifM_e, DD.andM_e, DD.orM_e, DD.notM_e, DD.nilM_e, DD.consM_e, DD.callM_e, DD.tupM_e, DD.lstM_e, DD.bmM_e, DD.smM_e, DD.asgM_e, DD.subG_e, DD.nameG_e, DD.slM_e, DD.om_none, DD.om_some, DD.fldSetM_e, DD.toldM_e, DD.add_ii, DD.add_tt, DD.sub_ii, DD.mul_ii, DD.lt_ii, DD.le_ii, DD.gt_ii, DD.ge_ii, DD.fdiv_ii, DD.mod_ii, DD.eq_ii, DD.ne_ii, DD.eq_ss, DD.ne_ss, DD.fld_e, DD.len_t, DD.len_s, DD.append_e, DD.extend_t, DD.extend_r, DD.tup_r, DD.it_t, DD.sl_t, DD.callF, List.length_append, List.length_cons, List.length_nil, List.append_nil, Nat.reduceAdd, List.set_cons_zero, List.set_cons_succ, ↓reduceIte, Bool.not_true, Bool.not_false, Nat.zero_le]
  rfl
theorem nof_run (a b c d : Nat) (h : AH) : F_number_of_four [.tup (B [a, b, c, d])] h = .ok (.int ((a * 16777216 + b * 65536 + c * 256 + d : Nat) : Int)) h := by
  unfold F_number_of_four m_number_of_four
  have e0 : startD N_number_of_four.length [D.tup (B [a, b, c, d])] = [some (.tup (B [a, b, c, d]))] := rfl
  rw [e0]
  simp only [show atI (B [a, b, c, d]) 0 = some (.int a) from rfl, show atI (B [a, b, c, d]) 1 = some (.int b) from rfl, show atI (B [a, b, c, d]) 2 = some (.int c) from rfl, show atI (B [a, b, c, d]) 3 = some (.int d) from rfl,
    show CMb' (a : Int) 16777216 = true from cmb_r (by decide), show CMb' (b : Int) 65536 = true from cmb_r (by decide), show CMb' (c : Int) 256 = true from cmb_r (by decide), DD.bind_ok, DD.bind_exc, DD.toS_ok, DD.toS_exc, DD.bindL_ok, DD.bindL_exc, DD.lbind_ok, DD.lbind_exc, DD.bindE_ok, DD.bindE_exc, DD.sbind_nx, DD.sbind_rt, DD.sbind_exc, DD.sbind_bk, DD.sbind_ct, DD.ret_nx, DD.ret_rt, DD.ret_exc, DD.varM_0, DD.varM_1, DD.varM_2, DD.varM_3, DD.varM_4, DD.varM_5, DD.cM_e, DD.binM_e, DD.unM_e, DD.seqM_e, DD.setM_e, DD.exprM_e, DD.retM_e, DD.raiseM_e, DD.passM_e, DD.brkM_e, DD.ifSM_e, DD.ifM_e, DD.andM_e, DD.orM_e, DD.notM_e, DD.nilM_e, DD.consM_e, DD.callM_e, DD.tupM_e, DD.lstM_e, DD.bmM_e, DD.smM_e, DD.asgM_e, DD.subG_e, DD.nameG_e, DD.slM_e, DD.om_none, DD.om_some, DD.fldSetM_e, DD.toldM_e, DD.add_ii, DD.add_tt, DD.sub_ii, DD.mul_ii, DD.lt_ii, DD.le_ii, DD.gt_ii, DD.ge_ii, DD.fdiv_ii, DD.mod_ii, DD.eq_ii, DD.ne_ii, DD.eq_ss, DD.ne_ss, DD.fld_e, DD.len_t, DD.len_s, DD.append_e, DD.extend_t, DD.extend_r, DD.tup_r, DD.it_t, DD.sl_t, DD.callF, List.length_append, List.length_cons, List.length_nil, List.append_nil, Nat.reduceAdd, List.set_cons_zero, List.set_cons_succ, ↓reduceIte, Bool.not_true, Bool.not_false, Nat.zero_le]
  simp only [Int.natCast_add, Int.natCast_mul]
  rfl
theorem b4_len (n : Nat) : (b4 n).length = 4 := rfl
theorem b4_back (n : Nat) (h : n < 4294967296) : n / 16777216 % 256 * 16777216 + n / 65536 % 256 * 65536 + n / 256 % 256 * 256 + n % 256 = n := by omega
theorem b4_inj {m n : Nat} (hm : m < 4294967296) (hn : n < 4294967296) (e : b4 m = b4 n) : m = n := by
  simp only [b4, List.cons.injEq, and_true] at e
  omega
theorem b4_lt (n : Nat) : ∀ x ∈ b4 n, x < 256 := by
  intro x hx
  simp only [b4, List.mem_cons, List.mem_nil_iff, or_false] at hx
  omega
/-! ### the sums -/
def s1 (a b : Nat) : List Nat → Nat × Nat
  | [] => (a, b)
  | x :: r => s1 (a + x) (b + (a + x)) r
def sm (bs : List Nat) : List Nat := b4 ((s1 1 0 bs).2 % 65521 * 65536 + (s1 1 0 bs).1 % 65521)
theorem sum_loop (d : D) (h : AH) : ∀ (bs : List Nat) (a b : Nat) (x : Option D), ∃ x', loopM (fun _ => true) (nameG 3) sum_of_bytes_f0b (B bs) [some d, some (.int a), some (.int b), x] h =
    .nx [some d, some (.int (s1 a b bs).1), some (.int (s1 a b bs).2), x'] h
  | [], a, b, x => ⟨x, rfl⟩
  | y :: bs, a, b, x => by
    obtain ⟨x', e⟩ := sum_loop d h bs (a + y) (b + (a + y)) (some (.int y))
    refine ⟨x', ?_⟩
    have e1 : sum_of_bytes_f0b [some d, some (.int a), some (.int b), some (.int y)] h = .nx [some d, some (.int (a + y : Nat)), some (.int (b + (a + y) : Nat)), some (.int y)] h := by
      unfold sum_of_bytes_f0b
      simp only [DD.bind_ok, DD.bind_ok, DD.bind_exc, DD.toS_ok, DD.toS_exc, DD.bindL_ok, DD.bindL_exc, DD.lbind_ok, DD.lbind_exc, DD.bindE_ok, DD.bindE_exc, DD.sbind_nx, DD.sbind_rt, DD.sbind_exc, DD.sbind_bk, DD.sbind_ct, DD.ret_nx, DD.ret_rt, DD.ret_exc, DD.varM_0, DD.varM_1, DD.varM_2, DD.varM_3, DD.varM_4, DD.varM_5, DD.cM_e, DD.binM_e, DD.unM_e, DD.seqM_e, DD.setM_e, DD.exprM_e, DD.retM_e, DD.raiseM_e, DD.passM_e, DD.brkM_e, DD.ifSM_e, DD.ifM_e, DD.andM_e, DD.orM_e, DD.notM_e, DD.nilM_e, DD.consM_e, DD.callM_e, DD.tupM_e, DD.lstM_e, DD.bmM_e, DD.smM_e, DD.asgM_e, DD.subG_e, DD.nameG_e, DD.slM_e, DD.om_none, DD.om_some, DD.fldSetM_e, DD.toldM_e, DD.add_ii, DD.add_tt, DD.sub_ii, DD.mul_ii, DD.lt_ii, DD.le_ii, DD.gt_ii, DD.ge_ii, DD.fdiv_ii, DD.mod_ii, DD.eq_ii, DD.ne_ii, DD.eq_ss, DD.ne_ss, DD.fld_e, DD.len_t, DD.len_s, DD.append_e, DD.extend_t, DD.extend_r, DD.tup_r, DD.it_t, DD.sl_t, DD.callF, List.length_append, List.length_cons, List.length_nil, List.append_nil, Nat.reduceAdd, List.set_cons_zero, List.set_cons_succ, ↓reduceIte, Bool.not_true, Bool.not_false, Nat.zero_le]
      simp only [Int.natCast_add]
    show loopM (fun _ => true) (nameG 3) sum_of_bytes_f0b (D.int (y : Int) :: B bs) _ h = _
    simp only [loop_cons, e1, next_nx, e, DD.bind_ok, DD.bind_exc, DD.toS_ok, DD.toS_exc, DD.bindL_ok, DD.bindL_exc, DD.lbind_ok, DD.lbind_exc, DD.bindE_ok, DD.bindE_exc, DD.sbind_nx, DD.sbind_rt, DD.sbind_exc, DD.sbind_bk, DD.sbind_ct, DD.ret_nx, DD.ret_rt, DD.ret_exc, DD.varM_0, DD.varM_1, DD.varM_2, DD.varM_3, DD.varM_4, DD.varM_5, DD.cM_e, DD.binM_e, DD.unM_e, DD.seqM_e, DD.setM_e, DD.exprM_e, DD.retM_e, DD.raiseM_e, DD.passM_e, DD.brkM_e, DD.ifSM_e, DD.ifM_e, DD.andM_e, DD.orM_e, DD.notM_e, DD.nilM_e, DD.consM_e, DD.callM_e, DD.tupM_e, DD.lstM_e, DD.bmM_e, DD.smM_e, DD.asgM_e, DD.subG_e, DD.nameG_e, DD.slM_e, DD.om_none, DD.om_some, DD.fldSetM_e, DD.toldM_e, DD.add_ii, DD.add_tt, DD.sub_ii, DD.mul_ii, DD.lt_ii, DD.le_ii, DD.gt_ii, DD.ge_ii, DD.fdiv_ii, DD.mod_ii, DD.eq_ii, DD.ne_ii, DD.eq_ss, DD.ne_ss, DD.fld_e, DD.len_t, DD.len_s, DD.append_e, DD.extend_t, DD.extend_r, DD.tup_r, DD.it_t, DD.sl_t, DD.callF, List.length_append, List.length_cons, List.length_nil, List.append_nil, Nat.reduceAdd, List.set_cons_zero, List.set_cons_succ, ↓reduceIte, Bool.not_true, Bool.not_false, Nat.zero_le]
    rfl
theorem sum_run (bs : List Nat) (h : AH) : F_sum_of_bytes [.tup (B bs)] h = .ok (.tup (B (sm bs))) h := by
  obtain ⟨x', e⟩ := sum_loop (.tup (B bs)) h bs 1 0 none
  unfold F_sum_of_bytes m_sum_of_bytes
  have e0 : startD N_sum_of_bytes.length [D.tup (B bs)] = [some (.tup (B bs)), none, none, none] := rfl
  rw [e0]
  have e2 : ∀ a b : Nat, ((b : Int) % 65521 * 65536 + (a : Int) % 65521) = ((b % 65521 * 65536 + a % 65521 : Nat) : Int) := fun a b => by omega
  have e' : loopM (fun _ => true) (nameG 3) sum_of_bytes_f0b (B bs) [some (.tup (B bs)), some (.int 1), some (.int 0), none] h =
    .nx [some (.tup (B bs)), some (.int (s1 1 0 bs).1), some (.int (s1 1 0 bs).2), x'] h := e
  simp only [forM_e, tupIt_e, e', show decide ((0 : Int) < 65521) = true from rfl, show CMb' (((s1 1 0 bs).2 : Nat) % 65521 : Int) 65536 = true from cmb_r (by decide), e2, four_run, DD.bind_ok, DD.bind_exc, DD.toS_ok, DD.toS_exc, DD.bindL_ok, DD.bindL_exc, DD.lbind_ok, DD.lbind_exc, DD.bindE_ok, DD.bindE_exc, DD.sbind_nx, DD.sbind_rt, DD.sbind_exc, DD.sbind_bk, DD.sbind_ct, DD.ret_nx, DD.ret_rt, DD.ret_exc, DD.varM_0, DD.varM_1, DD.varM_2, DD.varM_3, DD.varM_4, DD.varM_5, DD.cM_e, DD.binM_e, DD.unM_e, DD.seqM_e, DD.setM_e, DD.exprM_e, DD.retM_e, DD.raiseM_e, DD.passM_e, DD.brkM_e, DD.ifSM_e, DD.ifM_e, DD.andM_e, DD.orM_e, DD.notM_e, DD.nilM_e, DD.consM_e, DD.callM_e, DD.tupM_e, DD.lstM_e, DD.bmM_e, DD.smM_e, DD.asgM_e, DD.subG_e, DD.nameG_e, DD.slM_e, DD.om_none, DD.om_some, DD.fldSetM_e, DD.toldM_e, DD.add_ii, DD.add_tt, DD.sub_ii, DD.mul_ii, DD.lt_ii, DD.le_ii, DD.gt_ii, DD.ge_ii, DD.fdiv_ii, DD.mod_ii, DD.eq_ii, DD.ne_ii, DD.eq_ss, DD.ne_ss, DD.fld_e, DD.len_t, DD.len_s, DD.append_e, DD.extend_t, DD.extend_r, DD.tup_r, DD.it_t, DD.sl_t, DD.callF, List.length_append, List.length_cons, List.length_nil, List.append_nil, Nat.reduceAdd, List.set_cons_zero, List.set_cons_succ, ↓reduceIte, Bool.not_true, Bool.not_false, Nat.zero_le]
  rfl
end K15
end

section
set_option Elab.async false
set_option linter.all false
set_option maxRecDepth 100000
set_option maxHeartbeats 1000000
namespace DD
open PySem L2
/-- what stood in h stands in h', but at u -/
def Fr (u : Option Nat) (h h' : AH) : Prop := h.length ≤ h'.length ∧ ∀ i, i < h.length → some i ≠ u → h'[i]? = h[i]?
section
variable {u : Option Nat} {h h' h'' : AH} {i : Nat} {o : O}
theorem Fr.refl : Fr u h h := ⟨Nat.le_refl _, fun _ _ _ => rfl⟩
theorem Fr.trans (a : Fr u h h') (b : Fr u h' h'') : Fr u h h'' := ⟨Nat.le_trans a.1 b.1, fun i hi hu => (b.2 i (Nat.lt_of_lt_of_le hi a.1) hu).trans (a.2 i hi hu)⟩
theorem Fr.wk (a : Fr none h h') : Fr u h h' := ⟨a.1, fun i hi _ => a.2 i hi (by simp)⟩
theorem Fr.get (a : Fr u h h') (e : h[i]? = some o) (hu : some i ≠ u) : h'[i]? = some o := (a.2 i (lt_of_get e) hu).trans e
theorem Fr.getN (a : Fr none h h') (e : h[i]? = some o) : h'[i]? = some o := a.get e (by simp)
theorem Fr.app {gb : AH} : Fr u h (h ++ gb) := ⟨by simp, fun i hi _ => by rw [List.getElem?_append_left hi]⟩
theorem Fr.set {k : Nat} : Fr (some k) h (h.set k o) := ⟨by simp, fun i hi hu => get_set_ne (fun e => hu (by rw [e]))⟩
/-- a new thing written later -/
theorem Fr.setN {k : Nat} (a : Fr u h h') (hk : h.length ≤ k) : Fr u h (h'.set k o) := ⟨by simp [a.1], fun i hi hu => by rw [get_set_ne (by omega)]; exact a.2 i hi hu⟩
theorem Fr.setU {k : Nat} (a : Fr (some k) h h') : Fr (some k) h (h'.set k o) := a.trans Fr.set
end
theorem find_e {x y : Str} {h : AH} : findS x (.str y) h = .ok (.int (Txt.find x y)) h := rfl
theorem lcM_e {e : EM} {items : D → AH → Option (List D × (AH → Bool))} {f : TM} {mc : Option EM} {me : EM} {own : List Nat} {τ : SL} {h : AH} : lcM e items f mc me own τ h = (e τ h).bind fun d h1 => match items d h1 with
  | some (ds, live) => lcLoop live f mc me own τ h1.length ds (h1 ++ [.lst []])
  | none => .bad := rfl
theorem is_nn {h : AH} : isM .non .non h = .ok (.bl true) h := rfl
def mcM : Option EM → EM
  | none => fun _ h => .ok (.bl true) h
  | some c => c
theorem lc_nil {mc : Option EM} {me : EM} {own : List Nat} {τ : SL} {L j : Nat} {h : AH} : lcLoop (fun _ => true) (nameG j) mc me own τ L [] h = .ok (.ref L) h := rfl
theorem lc_cons {mc : Option EM} {me : EM} {own : List Nat} {τ : SL} {L j : Nat} {d : D} {ds : List D} {h : AH} : lcLoop (fun _ => true) (nameG j) mc me own τ L (d :: ds) h = (mcM mc ((wipeD τ own).set j (some d)) h).bind fun k h2 => match k with
    | .bl true => (me ((wipeD τ own).set j (some d)) h2).bind fun y h3 => match h3[L]? with
      | some (.lst acc) => if acc.length < sizeLine then lcLoop (fun _ => true) (nameG j) mc me own τ L ds (h3.set L (.lst (acc ++ [y]))) else .bad
      | _ => .bad
    | .bl false => lcLoop (fun _ => true) (nameG j) mc me own τ L ds h2
    | _ => .bad := by cases mc <;> rfl
/-- a list comprehension, turn by turn -/
theorem lc_run {mc : Option EM} {me : EM} {own : List Nat} {τ : SL} {L j : Nat} {ds : List D} (P : Nat → List D → AH → Prop)
    (step : ∀ k d acc h, ds[k]? = some d → P k acc h → ∃ b h2, mcM mc ((wipeD τ own).set j (some d)) h = .ok (.bl b) h2 ∧ (b = false → P (k + 1) acc h2) ∧
      (b = true → ∃ y h3, me ((wipeD τ own).set j (some d)) h2 = .ok y h3 ∧ h3[L]? = some (.lst acc) ∧ acc.length < 16777216 ∧ P (k + 1) (acc ++ [y]) (h3.set L (.lst (acc ++ [y]))))) :
    ∀ (rest : List D) (k : Nat) (acc : List D) (h : AH), ds.drop k = rest → k ≤ ds.length → P k acc h → ∃ acc' h', P ds.length acc' h' ∧ lcLoop (fun _ => true) (nameG j) mc me own τ L rest h = .ok (.ref L) h' := by
  intro rest
  induction rest with
  | nil =>
    intro k acc h hd hk p
    have : k = ds.length := by
      have := List.drop_eq_nil_iff.mp hd
      omega
    subst this
    exact ⟨acc, h, p, rfl⟩
  | cons d rest ih =>
    intro k acc h hd hk p
    have hlt : k < ds.length := by
      apply Classical.byContradiction
      intro hn
      rw [List.drop_eq_nil_of_le (by omega)] at hd
      cases hd
    have hg : ds[k]? = some d := by
      have := List.drop_eq_getElem_cons hlt
      rw [hd] at this
      simp only [List.cons.injEq] at this
      rw [List.getElem?_eq_getElem hlt, this.1]
    have hd' : ds.drop (k + 1) = rest := by
      have := List.drop_eq_getElem_cons hlt
      rw [hd] at this
      simp only [List.cons.injEq] at this
      exact this.2.symm
    obtain ⟨b, h2, e1, e2, e3⟩ := step k d acc h hg p
    cases b with
    | false =>
      obtain ⟨acc', h', q1, q2⟩ := ih (k + 1) acc h2 hd' hlt (e2 rfl)
      refine ⟨acc', h', q1, ?_⟩
      rw [lc_cons, e1]
      exact q2
    | true =>
      obtain ⟨y, h3, f1, f2, f3, f4⟩ := e3 rfl
      obtain ⟨acc', h', q1, q2⟩ := ih (k + 1) (acc ++ [y]) _ hd' hlt f4
      refine ⟨acc', h', q1, ?_⟩
      rw [lc_cons, e1]
      simp only [EO.bind, f1, f2]
      rw [if_pos (by rw [sizeLine_eq]; exact f3)]
      exact q2
end DD
namespace K15
open PySem L2 DD
/-! ### the values -/
inductive Va where
  | non | bl (b : Bool) | int (i : Int) | txt (ix : List Nat) | row (vs : List Va)
def sg (i : Nat) : Nat := g_SIGNS.cps.getD i 0
def T (ix : List Nat) : Str := ⟨(ix.map sg).toArray⟩
mutual
def Va.toD : Va → D
  | .non => .non
  | .bl b => .bl b
  | .int i => .int i
  | .txt ix => .str (T ix)
  | .row vs => .tup (toDs vs)
def toDs : List Va → List D
  | [] => []
  | v :: vs => v.toD :: toDs vs
end
def nbI (i : Int) : List Nat := if 0 ≤ i then 4 :: nb i.toNat else 5 :: nb (0 - i - 1).toNat
mutual
def enc : Va → List Nat
  | .non => [1]
  | .bl true => [2]
  | .bl false => [3]
  | .int i => nbI i
  | .txt ix => 6 :: (nb ix.length ++ ix)
  | .row vs => 7 :: (nb vs.length ++ encs vs)
def encs : List Va → List Nat
  | [] => []
  | v :: vs => enc v ++ encs vs
end
mutual
def dep : Va → Nat
  | .row vs => deps vs
  | .non => 0
  | .bl _ => 0
  | .int _ => 0
  | .txt _ => 0
def deps : List Va → Nat
  | [] => 0
  | v :: vs => max (dep v + 1) (deps vs)
end
mutual
/-- the signs are signs -/
def Wf : Va → Prop
  | .txt ix => ∀ i ∈ ix, i < 95
  | .row vs => Wfs vs
  | .non => True
  | .bl _ => True
  | .int _ => True
def Wfs : List Va → Prop
  | [] => True
  | v :: vs => Wf v ∧ Wfs vs
end
theorem toDs_len : ∀ vs : List Va, (toDs vs).length = vs.length
  | [] => by simp [toDs]
  | v :: vs => by simp [toDs, toDs_len vs]
/-! ### signs -/
theorem find_sg : ∀ i < 95, Txt.find g_SIGNS ⟨#[sg i]⟩ = (i : Int) := by decide +kernel
theorem sign_run (i : Nat) (hi : i < 95) (h : AH) : F_sign_number [.str ⟨#[sg i]⟩] h = .ok (.int i) h := by
  unfold F_sign_number m_sign_number
  have e0 : startD N_sign_number.length [D.str ⟨#[sg i]⟩] = [some (.str ⟨#[sg i]⟩), none] := rfl
  rw [e0]
  have el : Str.length ⟨#[sg i]⟩ = 1 := rfl
  simp only [el, find_e, find_sg i hi, show (1 ≤ sizeLine) = True from by rw [sizeLine_eq]; decide, show (((1 : Nat) : Int) == 1) = true from rfl, show decide ((i : Int) < 0) = false from by simp, DD.bind_ok, DD.bind_exc, DD.toS_ok, DD.toS_exc, DD.bindL_ok, DD.bindL_exc, DD.lbind_ok, DD.lbind_exc, DD.bindE_ok, DD.bindE_exc, DD.sbind_nx, DD.sbind_rt, DD.sbind_exc, DD.sbind_bk, DD.sbind_ct, DD.ret_nx, DD.ret_rt, DD.ret_exc, DD.varM_0, DD.varM_1, DD.varM_2, DD.varM_3, DD.varM_4, DD.varM_5, DD.cM_e, DD.binM_e, DD.unM_e, DD.seqM_e, DD.setM_e, DD.exprM_e, DD.retM_e, DD.raiseM_e, DD.passM_e, DD.brkM_e, DD.ifSM_e, DD.ifM_e, DD.andM_e, DD.orM_e, DD.notM_e, DD.nilM_e, DD.consM_e, DD.callM_e, DD.tupM_e, DD.lstM_e, DD.bmM_e, DD.smM_e, DD.asgM_e, DD.subG_e, DD.nameG_e, DD.slM_e, DD.om_none, DD.om_some, DD.fldSetM_e, DD.toldM_e, DD.add_ii, DD.add_tt, DD.sub_ii, DD.mul_ii, DD.lt_ii, DD.le_ii, DD.gt_ii, DD.ge_ii, DD.fdiv_ii, DD.mod_ii, DD.eq_ii, DD.ne_ii, DD.eq_ss, DD.ne_ss, DD.fld_e, DD.len_t, DD.len_s, DD.append_e, DD.extend_t, DD.extend_r, DD.tup_r, DD.it_t, DD.sl_t, DD.callF, List.length_append, List.length_cons, List.length_nil, List.append_nil, Nat.reduceAdd, List.set_cons_zero, List.set_cons_succ, ↓reduceIte, Bool.not_true, Bool.not_false, Nat.zero_le]
theorem signs_T (ix : List Nat) : signs (T ix) = ix.map fun i => D.str ⟨#[sg i]⟩ := by
  simp [signs, T]
theorem T_len (ix : List Nat) : (T ix).length = ix.length := by simp [T, Str.length]
/-! ### add_number -/
theorem addn_run (i : Int) (h : AH) (l : Nat) (xs : List Nat) (e : h[l]? = some (.lst (B xs))) (hz : xs.length + (nbI i).length ≤ 16000000) :
    ∃ h', F_add_number [.ref l, .int i] h = .ok .non h' ∧ Fr (some l) h h' ∧ h'[l]? = some (.lst (B (xs ++ nbI i))) := by
  have hs : sizeLine = 16777216 := sizeLine_eq
  have hl := lt_of_get e
  unfold F_add_number m_add_number
  have e0 : startD N_add_number.length [D.ref l, D.int i] = [some (.ref l), some (.int i)] := rfl
  rw [e0]
  have fin : ∀ (k n : Nat), k < 256 → xs.length + (nb n).length + 1 ≤ 16000000 → ∃ h', F_natural [.int (n : Int)] (h.set l (.lst (B (xs ++ [k])))) = .ok (.tup (B (nb n))) h' ∧ h'[l]? = some (.lst (B (xs ++ [k]))) ∧ Fr (some l) h h' := fun k n hk hz => by
    obtain ⟨gb, eg⟩ := nat_run n (h.set l (.lst (B (xs ++ [k])))) (by omega)
    exact ⟨_, eg, get_app (get_set hl), Fr.set.trans Fr.app⟩
  by_cases hi : 0 ≤ i
  · have en : nbI i = 4 :: nb i.toNat := by simp [nbI, hi]
    rw [en] at hz ⊢
    simp only [List.length_cons] at hz
    obtain ⟨h', e1, e2, e3⟩ := fin 4 i.toNat (by decide) (by omega)
    have ei : ((i.toNat : Nat) : Int) = i := by omega
    rw [ei] at e1
    refine ⟨h'.set l (.lst (B (xs ++ 4 :: nb i.toNat))), ?_, e3.setU, get_set (lt_of_get e2)⟩
    have e5 : B xs ++ [D.int 4] = B (xs ++ [4]) := B_snoc xs 4
    have e6 : B (xs ++ [4]) ++ B (nb i.toNat) = B (xs ++ 4 :: nb i.toNat) := by rw [← B_app]; simp
    simp only [e, show decide ((0 : Int) ≤ i) = true from by simpa using hi, show ((B xs).length < sizeLine) = True from eq_true (by simp only [B_len, List.length_append, List.length_cons, List.length_nil]; omega), e5, get_set hl, e1, e2, show ((B (xs ++ [4])).length + (B (nb i.toNat)).length ≤ sizeLine) = True from eq_true (by simp only [B_len, List.length_append, List.length_cons, List.length_nil]; omega), e6, DD.bind_ok, DD.bind_exc, DD.toS_ok, DD.toS_exc, DD.bindL_ok, DD.bindL_exc, DD.lbind_ok, DD.lbind_exc, DD.bindE_ok, DD.bindE_exc, DD.sbind_nx, DD.sbind_rt, DD.sbind_exc, DD.sbind_bk, DD.sbind_ct, DD.ret_nx, DD.ret_rt, DD.ret_exc, DD.varM_0, DD.varM_1, DD.varM_2, DD.varM_3, DD.varM_4, DD.varM_5, DD.cM_e, DD.binM_e, DD.unM_e, DD.seqM_e, DD.setM_e, DD.exprM_e, DD.retM_e, DD.raiseM_e, DD.passM_e, DD.brkM_e, DD.ifSM_e, DD.ifM_e, DD.andM_e, DD.orM_e, DD.notM_e, DD.nilM_e, DD.consM_e, DD.callM_e, DD.tupM_e, DD.lstM_e, DD.bmM_e, DD.smM_e, DD.asgM_e, DD.subG_e, DD.nameG_e, DD.slM_e, DD.om_none, DD.om_some, DD.fldSetM_e, DD.toldM_e, DD.add_ii, DD.add_tt, DD.sub_ii, DD.mul_ii, DD.lt_ii, DD.le_ii, DD.gt_ii, DD.ge_ii, DD.fdiv_ii, DD.mod_ii, DD.eq_ii, DD.ne_ii, DD.eq_ss, DD.ne_ss, DD.fld_e, DD.len_t, DD.len_s, DD.append_e, DD.extend_t, DD.extend_r, DD.tup_r, DD.it_t, DD.sl_t, DD.callF, List.length_append, List.length_cons, List.length_nil, List.append_nil, Nat.reduceAdd, List.set_cons_zero, List.set_cons_succ, ↓reduceIte, Bool.not_true, Bool.not_false, Nat.zero_le]
  · have en : nbI i = 5 :: nb (0 - i - 1).toNat := by simp [nbI, hi]
    rw [en] at hz ⊢
    simp only [List.length_cons] at hz
    obtain ⟨h', e1, e2, e3⟩ := fin 5 (0 - i - 1).toNat (by decide) (by omega)
    have ei : (((0 - i - 1).toNat : Nat) : Int) = 0 - i - 1 := by omega
    rw [ei] at e1
    refine ⟨h'.set l (.lst (B (xs ++ 5 :: nb (0 - i - 1).toNat))), ?_, e3.setU, get_set (lt_of_get e2)⟩
    have e5 : B xs ++ [D.int 5] = B (xs ++ [5]) := B_snoc xs 5
    have e6 : B (xs ++ [5]) ++ B (nb (0 - i - 1).toNat) = B (xs ++ 5 :: nb (0 - i - 1).toNat) := by rw [← B_app]; simp
    simp only [e, show decide ((0 : Int) ≤ i) = false from by simpa using hi, show ((B xs).length < sizeLine) = True from eq_true (by simp only [B_len, List.length_append, List.length_cons, List.length_nil]; omega), e5, get_set hl, e1, e2, show ((B (xs ++ [5])).length + (B (nb (0 - i - 1).toNat)).length ≤ sizeLine) = True from eq_true (by simp only [B_len, List.length_append, List.length_cons, List.length_nil]; omega), e6, DD.bind_ok, DD.bind_exc, DD.toS_ok, DD.toS_exc, DD.bindL_ok, DD.bindL_exc, DD.lbind_ok, DD.lbind_exc, DD.bindE_ok, DD.bindE_exc, DD.sbind_nx, DD.sbind_rt, DD.sbind_exc, DD.sbind_bk, DD.sbind_ct, DD.ret_nx, DD.ret_rt, DD.ret_exc, DD.varM_0, DD.varM_1, DD.varM_2, DD.varM_3, DD.varM_4, DD.varM_5, DD.cM_e, DD.binM_e, DD.unM_e, DD.seqM_e, DD.setM_e, DD.exprM_e, DD.retM_e, DD.raiseM_e, DD.passM_e, DD.brkM_e, DD.ifSM_e, DD.ifM_e, DD.andM_e, DD.orM_e, DD.notM_e, DD.nilM_e, DD.consM_e, DD.callM_e, DD.tupM_e, DD.lstM_e, DD.bmM_e, DD.smM_e, DD.asgM_e, DD.subG_e, DD.nameG_e, DD.slM_e, DD.om_none, DD.om_some, DD.fldSetM_e, DD.toldM_e, DD.add_ii, DD.add_tt, DD.sub_ii, DD.mul_ii, DD.lt_ii, DD.le_ii, DD.gt_ii, DD.ge_ii, DD.fdiv_ii, DD.mod_ii, DD.eq_ii, DD.ne_ii, DD.eq_ss, DD.ne_ss, DD.fld_e, DD.len_t, DD.len_s, DD.append_e, DD.extend_t, DD.extend_r, DD.tup_r, DD.it_t, DD.sl_t, DD.callF, List.length_append, List.length_cons, List.length_nil, List.append_nil, Nat.reduceAdd, List.set_cons_zero, List.set_cons_succ, ↓reduceIte, Bool.not_true, Bool.not_false, Nat.zero_le]
end K15
end

section
set_option Elab.async false
set_option linter.all false
set_option maxRecDepth 100000
set_option maxHeartbeats 2000000
namespace K15
open PySem L2 DD
/-- the signs of a text -/
theorem signs_run (ix : List Nat) (hx : ∀ i ∈ ix, i < 95) (hn : ix.length ≤ 16000000) (a0 a2 a3 a4 : Option D) (h : AH) :
    ∃ h', lcM (varM 1) strIt (nameG 4) none (callM (consM (varM 4) nilM) (callF 1 [] F_sign_number)) [4] [a0, some (.str (T ix)), a2, a3, a4] h = .ok (.ref h.length) h' ∧ Fr none h h' ∧ h'[h.length]? = some (.lst (B ix)) := by
  have key := lc_run (mc := none) (me := callM (consM (varM 4) nilM) (callF 1 [] F_sign_number)) (own := [4]) (τ := [a0, some (.str (T ix)), a2, a3, a4]) (L := h.length) (j := 4) (ds := signs (T ix))
    (fun k acc h1 => acc = B (ix.take k) ∧ Fr none h h1 ∧ h1[h.length]? = some (.lst acc)) (fun k d acc h1 hk p => by
      obtain ⟨rfl, p2, p3⟩ := p
      rw [signs_T, List.getElem?_map] at hk
      cases e : ix[k]? with
      | none => rw [e] at hk; cases hk
      | some i =>
        rw [e] at hk
        have hd : d = D.str ⟨#[sg i]⟩ := (Option.some.inj hk).symm
        subst hd
        have hi : i < 95 := hx i (List.mem_of_getElem? e)
        have hlt := (List.getElem?_eq_some_iff.mp e).1
        refine ⟨true, h1, rfl, fun z => (by cases z), fun _ => ⟨.int i, h1, ?_, p3, by simp; omega, ?_, p2.setN (Nat.le_refl _), get_set (lt_of_get p3)⟩⟩
        · show callM (consM (varM 4) nilM) (callF 1 [] F_sign_number) [a0, some (.str (T ix)), a2, a3, some (.str ⟨#[sg i]⟩)] h1 = _
          simp only [sign_run i hi, DD.bind_ok, DD.bind_exc, DD.toS_ok, DD.toS_exc, DD.bindL_ok, DD.bindL_exc, DD.lbind_ok, DD.lbind_exc, DD.bindE_ok, DD.bindE_exc, DD.sbind_nx, DD.sbind_rt, DD.sbind_exc, DD.sbind_bk, DD.sbind_ct, DD.ret_nx, DD.ret_rt, DD.ret_exc, DD.varM_0, DD.varM_1, DD.varM_2, DD.varM_3, DD.varM_4, DD.varM_5, DD.cM_e, DD.binM_e, DD.unM_e, DD.seqM_e, DD.setM_e, DD.exprM_e, DD.retM_e, DD.raiseM_e, DD.passM_e, DD.brkM_e, DD.ifSM_e, DD.ifM_e, DD.andM_e, DD.orM_e, DD.notM_e, DD.nilM_e, DD.consM_e, DD.callM_e, DD.tupM_e, DD.lstM_e, DD.bmM_e, DD.smM_e, DD.asgM_e, DD.subG_e, DD.nameG_e, DD.slM_e, DD.om_none, DD.om_some, DD.fldSetM_e, DD.toldM_e, DD.add_ii, DD.add_tt, DD.sub_ii, DD.mul_ii, DD.lt_ii, DD.le_ii, DD.gt_ii, DD.ge_ii, DD.fdiv_ii, DD.mod_ii, DD.eq_ii, DD.ne_ii, DD.eq_ss, DD.ne_ss, DD.fld_e, DD.len_t, DD.len_s, DD.append_e, DD.extend_t, DD.extend_r, DD.tup_r, DD.it_t, DD.sl_t, DD.callF, List.length_append, List.length_cons, List.length_nil, List.append_nil, Nat.reduceAdd, List.set_cons_zero, List.set_cons_succ, ↓reduceIte, Bool.not_true, Bool.not_false, Nat.zero_le]
        · rw [B_snoc]
          congr 1
          rw [List.take_succ, e]
          rfl) (signs (T ix)) 0 [] (h ++ [.lst []]) rfl (Nat.zero_le _) ⟨rfl, Fr.app, get_new⟩
  obtain ⟨acc', h', ⟨q1, q2, q3⟩, q4⟩ := key
  refine ⟨h', ?_, q2, ?_⟩
  · rw [lcM_e]
    simp only [strIt_e, DD.bind_ok, DD.bind_exc, DD.toS_ok, DD.toS_exc, DD.bindL_ok, DD.bindL_exc, DD.lbind_ok, DD.lbind_exc, DD.bindE_ok, DD.bindE_exc, DD.sbind_nx, DD.sbind_rt, DD.sbind_exc, DD.sbind_bk, DD.sbind_ct, DD.ret_nx, DD.ret_rt, DD.ret_exc, DD.varM_0, DD.varM_1, DD.varM_2, DD.varM_3, DD.varM_4, DD.varM_5, DD.cM_e, DD.binM_e, DD.unM_e, DD.seqM_e, DD.setM_e, DD.exprM_e, DD.retM_e, DD.raiseM_e, DD.passM_e, DD.brkM_e, DD.ifSM_e, DD.ifM_e, DD.andM_e, DD.orM_e, DD.notM_e, DD.nilM_e, DD.consM_e, DD.callM_e, DD.tupM_e, DD.lstM_e, DD.bmM_e, DD.smM_e, DD.asgM_e, DD.subG_e, DD.nameG_e, DD.slM_e, DD.om_none, DD.om_some, DD.fldSetM_e, DD.toldM_e, DD.add_ii, DD.add_tt, DD.sub_ii, DD.mul_ii, DD.lt_ii, DD.le_ii, DD.gt_ii, DD.ge_ii, DD.fdiv_ii, DD.mod_ii, DD.eq_ii, DD.ne_ii, DD.eq_ss, DD.ne_ss, DD.fld_e, DD.len_t, DD.len_s, DD.append_e, DD.extend_t, DD.extend_r, DD.tup_r, DD.it_t, DD.sl_t, DD.callF, List.length_append, List.length_cons, List.length_nil, List.append_nil, Nat.reduceAdd, List.set_cons_zero, List.set_cons_succ, ↓reduceIte, Bool.not_true, Bool.not_false, Nat.zero_le]
    exact q4
  · rw [q3, q1]
    have : (signs (T ix)).length = ix.length := by rw [signs_T, List.length_map]
    rw [this, List.take_length]
theorem is_none {v : Va} {h : AH} : isM v.toD .non h = .ok (.bl (match v with | .non => true | _ => false)) h := by
  cases v with
  | bl b => simp [Va.toD, isM, isC]
  | _ => simp [Va.toD, isM, isC]
theorem is_bl {v : Va} {c : Bool} {h : AH} : isM v.toD (.bl c) h = .ok (.bl (match v with | .bl b => decide (b = c) | _ => false)) h := by
  cases v <;> simp [Va.toD, isM, isC]
theorem nb_ne0 {n : Nat} : 0 < (nb n).length := List.length_pos_iff.mpr (nb_ne n)
theorem add_run : ∀ (n : Nat) (v : Va) (d l : Nat) (xs : List Nat) (h : AH), Wf v → dep v < n → d + dep v ≤ 30 → h[l]? = some (.lst (B xs)) → xs.length + (enc v).length ≤ 16000000 →
    ∃ h', R_add_value n [.ref l, v.toD, .int d] h = .ok .non h' ∧ Fr (some l) h h' ∧ h'[l]? = some (.lst (B (xs ++ enc v))) := by
  intro n
  induction n with
  | zero => intro v d l xs h _ hn; omega
  | succ n ih =>
    intro v d l xs h wf hn hd e hz
    have hs : sizeLine = 16777216 := sizeLine_eq
    have hl := lt_of_get e
    have e0 : startD N_add_value.length [D.ref l, v.toD, D.int d] = [some (.ref l), some v.toD, some (.int d), none, none] := rfl
    have hdd : decide ((30 : Int) < (d : Int)) = false := by simp; omega
    unfold R_add_value m_add_value
    rw [e0]
    have put : ∀ k : Nat, xs.length < 16000000 → appendF (.ref l) [.int (k : Int)] h = .ok .non (h.set l (.lst (B (xs ++ [k])))) := fun k hx => by
      simp only [e, B_snoc, show ((B xs).length < sizeLine) = True from eq_true (by simp only [B_len]; omega), DD.bind_ok, DD.bind_exc, DD.toS_ok, DD.toS_exc, DD.bindL_ok, DD.bindL_exc, DD.lbind_ok, DD.lbind_exc, DD.bindE_ok, DD.bindE_exc, DD.sbind_nx, DD.sbind_rt, DD.sbind_exc, DD.sbind_bk, DD.sbind_ct, DD.ret_nx, DD.ret_rt, DD.ret_exc, DD.varM_0, DD.varM_1, DD.varM_2, DD.varM_3, DD.varM_4, DD.varM_5, DD.cM_e, DD.binM_e, DD.unM_e, DD.seqM_e, DD.setM_e, DD.exprM_e, DD.retM_e, DD.raiseM_e, DD.passM_e, DD.brkM_e, DD.ifSM_e, DD.ifM_e, DD.andM_e, DD.orM_e, DD.notM_e, DD.nilM_e, DD.consM_e, DD.callM_e, DD.tupM_e, DD.lstM_e, DD.bmM_e, DD.smM_e, DD.asgM_e, DD.subG_e, DD.nameG_e, DD.slM_e, DD.om_none, DD.om_some, DD.fldSetM_e, DD.toldM_e, DD.add_ii, DD.add_tt, DD.sub_ii, DD.mul_ii, DD.lt_ii, DD.le_ii, DD.gt_ii, DD.ge_ii, DD.fdiv_ii, DD.mod_ii, DD.eq_ii, DD.ne_ii, DD.eq_ss, DD.ne_ss, DD.fld_e, DD.len_t, DD.len_s, DD.append_e, DD.extend_t, DD.extend_r, DD.tup_r, DD.it_t, DD.sl_t, DD.callF, List.length_append, List.length_cons, List.length_nil, List.append_nil, Nat.reduceAdd, List.set_cons_zero, List.set_cons_succ, ↓reduceIte, Bool.not_true, Bool.not_false, Nat.zero_le]
    cases v with
    | non =>
      simp only [enc, List.length_cons, List.length_nil] at hz
      refine ⟨h.set l (.lst (B (xs ++ [1]))), ?_, Fr.set, get_set hl⟩
      simp only [hdd, Va.toD, is_nn, e, show ((B xs).length < sizeLine) = True from eq_true (by simp only [B_len]; omega), show B xs ++ [D.int 1] = B (xs ++ [1]) from B_snoc xs 1, DD.bind_ok, DD.bind_exc, DD.toS_ok, DD.toS_exc, DD.bindL_ok, DD.bindL_exc, DD.lbind_ok, DD.lbind_exc, DD.bindE_ok, DD.bindE_exc, DD.sbind_nx, DD.sbind_rt, DD.sbind_exc, DD.sbind_bk, DD.sbind_ct, DD.ret_nx, DD.ret_rt, DD.ret_exc, DD.varM_0, DD.varM_1, DD.varM_2, DD.varM_3, DD.varM_4, DD.varM_5, DD.cM_e, DD.binM_e, DD.unM_e, DD.seqM_e, DD.setM_e, DD.exprM_e, DD.retM_e, DD.raiseM_e, DD.passM_e, DD.brkM_e, DD.ifSM_e, DD.ifM_e, DD.andM_e, DD.orM_e, DD.notM_e, DD.nilM_e, DD.consM_e, DD.callM_e, DD.tupM_e, DD.lstM_e, DD.bmM_e, DD.smM_e, DD.asgM_e, DD.subG_e, DD.nameG_e, DD.slM_e, DD.om_none, DD.om_some, DD.fldSetM_e, DD.toldM_e, DD.add_ii, DD.add_tt, DD.sub_ii, DD.mul_ii, DD.lt_ii, DD.le_ii, DD.gt_ii, DD.ge_ii, DD.fdiv_ii, DD.mod_ii, DD.eq_ii, DD.ne_ii, DD.eq_ss, DD.ne_ss, DD.fld_e, DD.len_t, DD.len_s, DD.append_e, DD.extend_t, DD.extend_r, DD.tup_r, DD.it_t, DD.sl_t, DD.callF, List.length_append, List.length_cons, List.length_nil, List.append_nil, Nat.reduceAdd, List.set_cons_zero, List.set_cons_succ, ↓reduceIte, Bool.not_true, Bool.not_false, Nat.zero_le]
    | bl b =>
      have hz' : xs.length < 16000000 := by cases b <;> simp only [enc, List.length_cons, List.length_nil] at hz <;> omega
      have q0 : isM (Va.bl b).toD .non h = .ok (.bl false) h := is_none
      have q1 : isM (Va.bl b).toD (.bl true) h = .ok (.bl (decide (b = true))) h := is_bl
      have q2 : isM (Va.bl b).toD (.bl false) h = .ok (.bl (decide (b = false))) h := is_bl
      cases b with
      | true =>
        refine ⟨h.set l (.lst (B (xs ++ [2]))), ?_, Fr.set, by rw [show enc (.bl true) = [2] from by simp [enc]]; exact get_set hl⟩
        simp only [hdd, q0, q1, decide_true, e, show ((B xs).length < sizeLine) = True from eq_true (by simp only [B_len]; omega), show B xs ++ [D.int 2] = B (xs ++ [2]) from B_snoc xs 2, DD.bind_ok, DD.bind_exc, DD.toS_ok, DD.toS_exc, DD.bindL_ok, DD.bindL_exc, DD.lbind_ok, DD.lbind_exc, DD.bindE_ok, DD.bindE_exc, DD.sbind_nx, DD.sbind_rt, DD.sbind_exc, DD.sbind_bk, DD.sbind_ct, DD.ret_nx, DD.ret_rt, DD.ret_exc, DD.varM_0, DD.varM_1, DD.varM_2, DD.varM_3, DD.varM_4, DD.varM_5, DD.cM_e, DD.binM_e, DD.unM_e, DD.seqM_e, DD.setM_e, DD.exprM_e, DD.retM_e, DD.raiseM_e, DD.passM_e, DD.brkM_e, DD.ifSM_e, DD.ifM_e, DD.andM_e, DD.orM_e, DD.notM_e, DD.nilM_e, DD.consM_e, DD.callM_e, DD.tupM_e, DD.lstM_e, DD.bmM_e, DD.smM_e, DD.asgM_e, DD.subG_e, DD.nameG_e, DD.slM_e, DD.om_none, DD.om_some, DD.fldSetM_e, DD.toldM_e, DD.add_ii, DD.add_tt, DD.sub_ii, DD.mul_ii, DD.lt_ii, DD.le_ii, DD.gt_ii, DD.ge_ii, DD.fdiv_ii, DD.mod_ii, DD.eq_ii, DD.ne_ii, DD.eq_ss, DD.ne_ss, DD.fld_e, DD.len_t, DD.len_s, DD.append_e, DD.extend_t, DD.extend_r, DD.tup_r, DD.it_t, DD.sl_t, DD.callF, List.length_append, List.length_cons, List.length_nil, List.append_nil, Nat.reduceAdd, List.set_cons_zero, List.set_cons_succ, ↓reduceIte, Bool.not_true, Bool.not_false, Nat.zero_le]
      | false =>
        refine ⟨h.set l (.lst (B (xs ++ [3]))), ?_, Fr.set, by rw [show enc (.bl false) = [3] from by simp [enc]]; exact get_set hl⟩
        simp only [hdd, q0, q1, q2, show decide (false = true) = false from rfl, decide_true, e, show ((B xs).length < sizeLine) = True from eq_true (by simp only [B_len]; omega), show B xs ++ [D.int 3] = B (xs ++ [3]) from B_snoc xs 3, DD.bind_ok, DD.bind_exc, DD.toS_ok, DD.toS_exc, DD.bindL_ok, DD.bindL_exc, DD.lbind_ok, DD.lbind_exc, DD.bindE_ok, DD.bindE_exc, DD.sbind_nx, DD.sbind_rt, DD.sbind_exc, DD.sbind_bk, DD.sbind_ct, DD.ret_nx, DD.ret_rt, DD.ret_exc, DD.varM_0, DD.varM_1, DD.varM_2, DD.varM_3, DD.varM_4, DD.varM_5, DD.cM_e, DD.binM_e, DD.unM_e, DD.seqM_e, DD.setM_e, DD.exprM_e, DD.retM_e, DD.raiseM_e, DD.passM_e, DD.brkM_e, DD.ifSM_e, DD.ifM_e, DD.andM_e, DD.orM_e, DD.notM_e, DD.nilM_e, DD.consM_e, DD.callM_e, DD.tupM_e, DD.lstM_e, DD.bmM_e, DD.smM_e, DD.asgM_e, DD.subG_e, DD.nameG_e, DD.slM_e, DD.om_none, DD.om_some, DD.fldSetM_e, DD.toldM_e, DD.add_ii, DD.add_tt, DD.sub_ii, DD.mul_ii, DD.lt_ii, DD.le_ii, DD.gt_ii, DD.ge_ii, DD.fdiv_ii, DD.mod_ii, DD.eq_ii, DD.ne_ii, DD.eq_ss, DD.ne_ss, DD.fld_e, DD.len_t, DD.len_s, DD.append_e, DD.extend_t, DD.extend_r, DD.tup_r, DD.it_t, DD.sl_t, DD.callF, List.length_append, List.length_cons, List.length_nil, List.append_nil, Nat.reduceAdd, List.set_cons_zero, List.set_cons_succ, ↓reduceIte, Bool.not_true, Bool.not_false, Nat.zero_le]
    | int i =>
      rw [show enc (.int i) = nbI i from by simp [enc]] at hz ⊢
      obtain ⟨h', r1, r2, r3⟩ := addn_run i h l xs e hz
      refine ⟨h', ?_, r2, r3⟩
      have q0 : isM (.int i) .non h = .ok (.bl false) h := rfl
      have q1 : isM (.int i) (.bl true) h = .ok (.bl false) h := rfl
      have q2 : isM (.int i) (.bl false) h = .ok (.bl false) h := rfl
      have q3 : isiM "int" (.int i) h = .ok (.bl true) h := by simp [isiM, tyName, isTy]
      simp only [hdd, Va.toD, q0, q1, q2, q3, r1, DD.bind_ok, DD.bind_exc, DD.toS_ok, DD.toS_exc, DD.bindL_ok, DD.bindL_exc, DD.lbind_ok, DD.lbind_exc, DD.bindE_ok, DD.bindE_exc, DD.sbind_nx, DD.sbind_rt, DD.sbind_exc, DD.sbind_bk, DD.sbind_ct, DD.ret_nx, DD.ret_rt, DD.ret_exc, DD.varM_0, DD.varM_1, DD.varM_2, DD.varM_3, DD.varM_4, DD.varM_5, DD.cM_e, DD.binM_e, DD.unM_e, DD.seqM_e, DD.setM_e, DD.exprM_e, DD.retM_e, DD.raiseM_e, DD.passM_e, DD.brkM_e, DD.ifSM_e, DD.ifM_e, DD.andM_e, DD.orM_e, DD.notM_e, DD.nilM_e, DD.consM_e, DD.callM_e, DD.tupM_e, DD.lstM_e, DD.bmM_e, DD.smM_e, DD.asgM_e, DD.subG_e, DD.nameG_e, DD.slM_e, DD.om_none, DD.om_some, DD.fldSetM_e, DD.toldM_e, DD.add_ii, DD.add_tt, DD.sub_ii, DD.mul_ii, DD.lt_ii, DD.le_ii, DD.gt_ii, DD.ge_ii, DD.fdiv_ii, DD.mod_ii, DD.eq_ii, DD.ne_ii, DD.eq_ss, DD.ne_ss, DD.fld_e, DD.len_t, DD.len_s, DD.append_e, DD.extend_t, DD.extend_r, DD.tup_r, DD.it_t, DD.sl_t, DD.callF, List.length_append, List.length_cons, List.length_nil, List.append_nil, Nat.reduceAdd, List.set_cons_zero, List.set_cons_succ, ↓reduceIte, Bool.not_true, Bool.not_false, Nat.zero_le]
    | txt ix =>
      rw [show enc (.txt ix) = 6 :: (nb ix.length ++ ix) from by simp [enc]] at hz ⊢
      simp only [List.length_cons, List.length_append] at hz
      have q0 : isM (.str (T ix)) .non h = .ok (.bl false) h := rfl
      have q1 : isM (.str (T ix)) (.bl true) h = .ok (.bl false) h := rfl
      have q2 : isM (.str (T ix)) (.bl false) h = .ok (.bl false) h := rfl
      have q3 : isiM "int" (.str (T ix)) h = .ok (.bl false) h := by simp [isiM, tyName, isTy]
      have q4 : isiM "str" (.str (T ix)) h = .ok (.bl true) h := by simp [isiM, tyName, isTy]
      obtain ⟨gb, r1⟩ := nat_run ix.length (h.set l (.lst (B (xs ++ [6])))) (by omega)
      have g1 : (h.set l (.lst (B (xs ++ [6]))) ++ gb)[l]? = some (.lst (B (xs ++ [6]))) := get_app (get_set hl)
      have F1 : Fr (some l) h (h.set l (.lst (B (xs ++ [6]))) ++ gb) := Fr.set.trans Fr.app
      generalize h.set l (.lst (B (xs ++ [6]))) ++ gb = h2 at r1 g1 F1
      have F2 : Fr (some l) h (h2.set l (.lst (B (xs ++ [6] ++ nb ix.length)))) := F1.setU
      have g2 : (h2.set l (.lst (B (xs ++ [6] ++ nb ix.length))))[l]? = some (.lst (B (xs ++ [6] ++ nb ix.length))) := get_set (lt_of_get g1)
      obtain ⟨h4, s1, s2, s3⟩ := signs_run ix (by simpa [Wf] using wf) (by omega) (some (.ref l)) (some (.int d)) none none (h2.set l (.lst (B (xs ++ [6] ++ nb ix.length))))
      have g3 : h4[l]? = some (.lst (B (xs ++ [6] ++ nb ix.length))) := s2.getN g2
      refine ⟨h4.set l (.lst (B (xs ++ 6 :: (nb ix.length ++ ix)))), ?_, (F2.trans s2.wk).setU, get_set (lt_of_get g3)⟩
      have e6 : B (xs ++ [6]) ++ B (nb ix.length) = B (xs ++ [6] ++ nb ix.length) := by rw [← B_app]
      have e7 : B (xs ++ [6] ++ nb ix.length) ++ B ix = B (xs ++ 6 :: (nb ix.length ++ ix)) := by rw [← B_app]; simp
      simp only [hdd, Va.toD, q0, q1, q2, q3, q4, e, show ((B xs).length < sizeLine) = True from eq_true (by simp only [B_len]; omega), show B xs ++ [D.int 6] = B (xs ++ [6]) from B_snoc xs 6, get_set hl,
        show (ix.length ≤ sizeLine) = True from eq_true (by omega), T_len, r1, g1, show ((B (xs ++ [6])).length + (B (nb ix.length)).length ≤ sizeLine) = True from eq_true (by simp only [B_len, List.length_append, List.length_cons, List.length_nil]; omega), e6, g2, s1, g3, s3,
        show ((B (xs ++ [6] ++ nb ix.length)).length + (B ix).length ≤ sizeLine) = True from eq_true (by simp only [B_len, List.length_append, List.length_cons, List.length_nil]; omega), e7, DD.bind_ok, DD.bind_exc, DD.toS_ok, DD.toS_exc, DD.bindL_ok, DD.bindL_exc, DD.lbind_ok, DD.lbind_exc, DD.bindE_ok, DD.bindE_exc, DD.sbind_nx, DD.sbind_rt, DD.sbind_exc, DD.sbind_bk, DD.sbind_ct, DD.ret_nx, DD.ret_rt, DD.ret_exc, DD.varM_0, DD.varM_1, DD.varM_2, DD.varM_3, DD.varM_4, DD.varM_5, DD.cM_e, DD.binM_e, DD.unM_e, DD.seqM_e, DD.setM_e, DD.exprM_e, DD.retM_e, DD.raiseM_e, DD.passM_e, DD.brkM_e, DD.ifSM_e, DD.ifM_e, DD.andM_e, DD.orM_e, DD.notM_e, DD.nilM_e, DD.consM_e, DD.callM_e, DD.tupM_e, DD.lstM_e, DD.bmM_e, DD.smM_e, DD.asgM_e, DD.subG_e, DD.nameG_e, DD.slM_e, DD.om_none, DD.om_some, DD.fldSetM_e, DD.toldM_e, DD.add_ii, DD.add_tt, DD.sub_ii, DD.mul_ii, DD.lt_ii, DD.le_ii, DD.gt_ii, DD.ge_ii, DD.fdiv_ii, DD.mod_ii, DD.eq_ii, DD.ne_ii, DD.eq_ss, DD.ne_ss, DD.fld_e, DD.len_t, DD.len_s, DD.append_e, DD.extend_t, DD.extend_r, DD.tup_r, DD.it_t, DD.sl_t, DD.callF, List.length_append, List.length_cons, List.length_nil, List.append_nil, Nat.reduceAdd, List.set_cons_zero, List.set_cons_succ, ↓reduceIte, Bool.not_true, Bool.not_false, Nat.zero_le]
    | row vs =>
      rw [show enc (.row vs) = 7 :: (nb vs.length ++ encs vs) from by simp [enc]] at hz ⊢
      simp only [List.length_cons, List.length_append] at hz
      have q0 : isM (.tup (toDs vs)) .non h = .ok (.bl false) h := rfl
      have q1 : isM (.tup (toDs vs)) (.bl true) h = .ok (.bl false) h := rfl
      have q2 : isM (.tup (toDs vs)) (.bl false) h = .ok (.bl false) h := rfl
      have q3 : isiM "int" (.tup (toDs vs)) h = .ok (.bl false) h := by simp [isiM, tyName, isTy]
      have q4 : isiM "str" (.tup (toDs vs)) h = .ok (.bl false) h := by simp [isiM, tyName, isTy]
      have q5 : ∀ h : AH, isiM "tuple" (.tup (toDs vs)) h = .ok (.bl true) h := fun h => by simp [isiM, tyName, isTy]
      obtain ⟨gb, r1⟩ := nat_run vs.length (h.set l (.lst (B (xs ++ [7])))) (by omega)
      have g1 : (h.set l (.lst (B (xs ++ [7]))) ++ gb)[l]? = some (.lst (B (xs ++ [7]))) := get_app (get_set hl)
      have F1 : Fr (some l) h (h.set l (.lst (B (xs ++ [7]))) ++ gb) := Fr.set.trans Fr.app
      generalize h.set l (.lst (B (xs ++ [7]))) ++ gb = h2 at r1 g1 F1
      have F2 : Fr (some l) h (h2.set l (.lst (B (xs ++ [7] ++ nb vs.length)))) := F1.setU
      have g2 : (h2.set l (.lst (B (xs ++ [7] ++ nb vs.length))))[l]? = some (.lst (B (xs ++ [7] ++ nb vs.length))) := get_set (lt_of_get g1)
      -- the items
      have loop : ∀ (ws : List Va) (ys : List Nat) (h : AH) (x : Option D), Wfs ws → deps ws ≤ n → d + deps ws ≤ 30 → h[l]? = some (.lst (B ys)) → ys.length + (encs ws).length ≤ 16000000 →
          ∃ h' x', loopM (fun _ => true) (nameG 3) (add_value_f0b (R_add_value n)) (toDs ws) [some (.ref l), some (.tup (toDs vs)), some (.int d), x, none] h = .nx [some (.ref l), some (.tup (toDs vs)), some (.int d), x', none] h' ∧ Fr (some l) h h' ∧ h'[l]? = some (.lst (B (ys ++ encs ws))) := by
        intro ws
        induction ws with
        | nil => intro ys h x _ _ _ e _; exact ⟨h, x, rfl, Fr.refl, by simpa [encs] using e⟩
        | cons w ws ihw =>
          intro ys h x wfs hn hd e hz
          simp only [encs, List.length_append] at hz
          simp only [deps] at hn hd
          simp only [Wfs] at wfs
          obtain ⟨h1, a1, a2, a3⟩ := ih w (d + 1) l ys h wfs.1 (by omega) (by omega) e (by omega)
          obtain ⟨h2, x2, b1, b2, b3⟩ := ihw (ys ++ enc w) h1 (some w.toD) wfs.2 (by omega) (by omega) a3 (by simp only [List.length_append]; omega)
          refine ⟨h2, x2, ?_, a2.trans b2, by simpa [encs, List.append_assoc] using b3⟩
          have ed : ((d : Int) + 1) = ((d + 1 : Nat) : Int) := by omega
          have eb : add_value_f0b (R_add_value n) [some (.ref l), some (.tup (toDs vs)), some (.int d), some w.toD, none] h = .nx [some (.ref l), some (.tup (toDs vs)), some (.int d), some w.toD, none] h1 := by
            unfold add_value_f0b
            simp only [ed, a1, DD.bind_ok, DD.bind_exc, DD.toS_ok, DD.toS_exc, DD.bindL_ok, DD.bindL_exc, DD.lbind_ok, DD.lbind_exc, DD.bindE_ok, DD.bindE_exc, DD.sbind_nx, DD.sbind_rt, DD.sbind_exc, DD.sbind_bk, DD.sbind_ct, DD.ret_nx, DD.ret_rt, DD.ret_exc, DD.varM_0, DD.varM_1, DD.varM_2, DD.varM_3, DD.varM_4, DD.varM_5, DD.cM_e, DD.binM_e, DD.unM_e, DD.seqM_e, DD.setM_e, DD.exprM_e, DD.retM_e, DD.raiseM_e, DD.passM_e, DD.brkM_e, DD.ifSM_e, DD.ifM_e, DD.andM_e, DD.orM_e, DD.notM_e, DD.nilM_e, DD.consM_e, DD.callM_e, DD.tupM_e, DD.lstM_e, DD.bmM_e, DD.smM_e, DD.asgM_e, DD.subG_e, DD.nameG_e, DD.slM_e, DD.om_none, DD.om_some, DD.fldSetM_e, DD.toldM_e, DD.add_ii, DD.add_tt, DD.sub_ii, DD.mul_ii, DD.lt_ii, DD.le_ii, DD.gt_ii, DD.ge_ii, DD.fdiv_ii, DD.mod_ii, DD.eq_ii, DD.ne_ii, DD.eq_ss, DD.ne_ss, DD.fld_e, DD.len_t, DD.len_s, DD.append_e, DD.extend_t, DD.extend_r, DD.tup_r, DD.it_t, DD.sl_t, DD.callF, List.length_append, List.length_cons, List.length_nil, List.append_nil, Nat.reduceAdd, List.set_cons_zero, List.set_cons_succ, ↓reduceIte, Bool.not_true, Bool.not_false, Nat.zero_le]
          show loopM (fun _ => true) (nameG 3) (add_value_f0b (R_add_value n)) (w.toD :: toDs ws) _ h = _
          simp only [loop_cons, eb, next_nx, b1, DD.bind_ok, DD.bind_exc, DD.toS_ok, DD.toS_exc, DD.bindL_ok, DD.bindL_exc, DD.lbind_ok, DD.lbind_exc, DD.bindE_ok, DD.bindE_exc, DD.sbind_nx, DD.sbind_rt, DD.sbind_exc, DD.sbind_bk, DD.sbind_ct, DD.ret_nx, DD.ret_rt, DD.ret_exc, DD.varM_0, DD.varM_1, DD.varM_2, DD.varM_3, DD.varM_4, DD.varM_5, DD.cM_e, DD.binM_e, DD.unM_e, DD.seqM_e, DD.setM_e, DD.exprM_e, DD.retM_e, DD.raiseM_e, DD.passM_e, DD.brkM_e, DD.ifSM_e, DD.ifM_e, DD.andM_e, DD.orM_e, DD.notM_e, DD.nilM_e, DD.consM_e, DD.callM_e, DD.tupM_e, DD.lstM_e, DD.bmM_e, DD.smM_e, DD.asgM_e, DD.subG_e, DD.nameG_e, DD.slM_e, DD.om_none, DD.om_some, DD.fldSetM_e, DD.toldM_e, DD.add_ii, DD.add_tt, DD.sub_ii, DD.mul_ii, DD.lt_ii, DD.le_ii, DD.gt_ii, DD.ge_ii, DD.fdiv_ii, DD.mod_ii, DD.eq_ii, DD.ne_ii, DD.eq_ss, DD.ne_ss, DD.fld_e, DD.len_t, DD.len_s, DD.append_e, DD.extend_t, DD.extend_r, DD.tup_r, DD.it_t, DD.sl_t, DD.callF, List.length_append, List.length_cons, List.length_nil, List.append_nil, Nat.reduceAdd, List.set_cons_zero, List.set_cons_succ, ↓reduceIte, Bool.not_true, Bool.not_false, Nat.zero_le]
      simp only [Wf] at wf
      simp only [dep] at hn hd
      obtain ⟨h4, x4, s1, s2, s3⟩ := loop vs (xs ++ [7] ++ nb vs.length) (h2.set l (.lst (B (xs ++ [7] ++ nb vs.length)))) none wf (by omega) hd g2 (by simp only [List.length_append, List.length_cons, List.length_nil]; omega)
      refine ⟨h4, ?_, F2.trans s2, by simpa [List.append_assoc] using s3⟩
      have e6 : B (xs ++ [7]) ++ B (nb vs.length) = B (xs ++ [7] ++ nb vs.length) := by rw [← B_app]
      simp only [hdd, Va.toD, q0, q1, q2, q3, q4, q5, e, show ((B xs).length < sizeLine) = True from eq_true (by simp only [B_len]; omega), show B xs ++ [D.int 7] = B (xs ++ [7]) from B_snoc xs 7, get_set hl,
        toDs_len, r1, g1, show ((B (xs ++ [7])).length + (B (nb vs.length)).length ≤ sizeLine) = True from eq_true (by simp only [B_len, List.length_append, List.length_cons, List.length_nil]; omega), e6, forM_e, tupIt_e, s1, DD.bind_ok, DD.bind_exc, DD.toS_ok, DD.toS_exc, DD.bindL_ok, DD.bindL_exc, DD.lbind_ok, DD.lbind_exc, DD.bindE_ok, DD.bindE_exc, DD.sbind_nx, DD.sbind_rt, DD.sbind_exc, DD.sbind_bk, DD.sbind_ct, DD.ret_nx, DD.ret_rt, DD.ret_exc, DD.varM_0, DD.varM_1, DD.varM_2, DD.varM_3, DD.varM_4, DD.varM_5, DD.cM_e, DD.binM_e, DD.unM_e, DD.seqM_e, DD.setM_e, DD.exprM_e, DD.retM_e, DD.raiseM_e, DD.passM_e, DD.brkM_e, DD.ifSM_e, DD.ifM_e, DD.andM_e, DD.orM_e, DD.notM_e, DD.nilM_e, DD.consM_e, DD.callM_e, DD.tupM_e, DD.lstM_e, DD.bmM_e, DD.smM_e, DD.asgM_e, DD.subG_e, DD.nameG_e, DD.slM_e, DD.om_none, DD.om_some, DD.fldSetM_e, DD.toldM_e, DD.add_ii, DD.add_tt, DD.sub_ii, DD.mul_ii, DD.lt_ii, DD.le_ii, DD.gt_ii, DD.ge_ii, DD.fdiv_ii, DD.mod_ii, DD.eq_ii, DD.ne_ii, DD.eq_ss, DD.ne_ss, DD.fld_e, DD.len_t, DD.len_s, DD.append_e, DD.extend_t, DD.extend_r, DD.tup_r, DD.it_t, DD.sl_t, DD.callF, List.length_append, List.length_cons, List.length_nil, List.append_nil, Nat.reduceAdd, List.set_cons_zero, List.set_cons_succ, ↓reduceIte, Bool.not_true, Bool.not_false, Nat.zero_le]
/-- pack(v) -/
theorem pack_run (v : Va) (h : AH) (wf : Wf v) (hd : dep v ≤ 30) (hz : (enc v).length ≤ 16000000) : ∃ h', F_pack [v.toD, .int 0] h = .ok (.tup (B (enc v))) h' ∧ Fr none h h' := by
  obtain ⟨h', a1, a2, a3⟩ := add_run 40 v 0 h.length [] (h ++ [.lst []]) wf (by omega) (by omega) get_new (by simpa using hz)
  rw [List.nil_append] at a3
  refine ⟨h', ?_, ⟨by have := a2.1; simp at this; omega, fun i hi _ => by
    rw [a2.2 i (by simp; omega) (by simp; omega), List.getElem?_append_left hi]⟩⟩
  unfold F_pack m_pack
  have e0 : startD N_pack.length [v.toD, D.int 0] = [some v.toD, some (.int 0), none] := rfl
  rw [e0]
  have a1' : R_add_value 40 [.ref h.length, v.toD, .int 0] (h ++ [.lst []]) = .ok .non h' := a1
  simp only [a1', a3, DD.bind_ok, DD.bind_exc, DD.toS_ok, DD.toS_exc, DD.bindL_ok, DD.bindL_exc, DD.lbind_ok, DD.lbind_exc, DD.bindE_ok, DD.bindE_exc, DD.sbind_nx, DD.sbind_rt, DD.sbind_exc, DD.sbind_bk, DD.sbind_ct, DD.ret_nx, DD.ret_rt, DD.ret_exc, DD.varM_0, DD.varM_1, DD.varM_2, DD.varM_3, DD.varM_4, DD.varM_5, DD.cM_e, DD.binM_e, DD.unM_e, DD.seqM_e, DD.setM_e, DD.exprM_e, DD.retM_e, DD.raiseM_e, DD.passM_e, DD.brkM_e, DD.ifSM_e, DD.ifM_e, DD.andM_e, DD.orM_e, DD.notM_e, DD.nilM_e, DD.consM_e, DD.callM_e, DD.tupM_e, DD.lstM_e, DD.bmM_e, DD.smM_e, DD.asgM_e, DD.subG_e, DD.nameG_e, DD.slM_e, DD.om_none, DD.om_some, DD.fldSetM_e, DD.toldM_e, DD.add_ii, DD.add_tt, DD.sub_ii, DD.mul_ii, DD.lt_ii, DD.le_ii, DD.gt_ii, DD.ge_ii, DD.fdiv_ii, DD.mod_ii, DD.eq_ii, DD.ne_ii, DD.eq_ss, DD.ne_ss, DD.fld_e, DD.len_t, DD.len_s, DD.append_e, DD.extend_t, DD.extend_r, DD.tup_r, DD.it_t, DD.sl_t, DD.callF, List.length_append, List.length_cons, List.length_nil, List.append_nil, Nat.reduceAdd, List.set_cons_zero, List.set_cons_succ, ↓reduceIte, Bool.not_true, Bool.not_false, Nat.zero_le]
end K15
end

section
set_option Elab.async false
set_option linter.all false
set_option maxRecDepth 100000
set_option maxHeartbeats 2000000
namespace K15
open PySem L2 DD
/-! ### the unpacker -/
def U (data : List Nat) (p : Nat) : O := .ins 1 [("data", .tup (B data)), ("place", .int p)]
theorem lk_data {a b : D} : List.lookup ("data" : Str) [("data", a), ("place", b)] = some a := rfl
theorem lk_place {a b : D} : List.lookup ("place" : Str) [("data", a), ("place", b)] = some b := rfl
theorem ne_dp : ¬ (("data" : Str) = "place") := by decide +kernel
theorem put_place {a b c : D} : putD "place" c [(("data" : Str), a), ("place", b)] = [(("data" : Str), a), ("place", c)] := by
  simp only [putD, if_neg ne_dp, ↓reduceIte]
theorem put1 {a : D} : putD "data" a [] = [(("data" : Str), a)] := rfl
theorem put2 {a c : D} : putD "place" c [(("data" : Str), a)] = [(("data" : Str), a), ("place", c)] := by
  simp only [putD, if_neg ne_dp]
theorem in_place : (1 ∈ cs_place) = True := eq_true (by unfold cs_place; simp)
theorem in_data : (1 ∈ cs_data) = True := eq_true (by unfold cs_data; simp)
theorem at_drop {data : List Nat} {p b : Nat} {r : List Nat} (e : data.drop p = b :: r) : p < data.length ∧ atI (B data) (p : Int) = some (.int b) ∧ data.drop (p + 1) = r ∧ data.length - p = r.length + 1 := by
  have hp : p < data.length := by
    apply Classical.byContradiction
    intro hn
    rw [List.drop_eq_nil_of_le (by omega)] at e
    cases e
  have h2 := List.drop_eq_getElem_cons hp
  rw [e] at h2
  simp only [List.cons.injEq] at h2
  have hl : (data.drop p).length = data.length - p := List.length_drop
  rw [e, List.length_cons] at hl
  refine ⟨hp, ?_, h2.2.symm, hl.symm⟩
  unfold atI ixN
  rw [if_pos (by omega), if_pos (by rw [B_len]; omega)]
  simp only [Option.bind_some, Int.toNat_natCast, B, List.getElem?_map]
  rw [List.getElem?_eq_getElem hp, h2.1]
  rfl
/-- read_byte -/
theorem byte_run {h : AH} {u p b : Nat} {data r : List Nat} (e : h[u]? = some (U data p)) (ed : data.drop p = b :: r) :
    F_Unpacker_read_byte [.ref u] h = .ok (.int b) (h.set u (U data (p + 1))) := by
  obtain ⟨hp, ha, _, _⟩ := at_drop ed
  unfold F_Unpacker_read_byte m_Unpacker_read_byte
  have e0 : startD N_Unpacker_read_byte.length [D.ref u] = [some (.ref u), none] := rfl
  rw [e0]
  unfold U at e ⊢
  simp only [e, in_place, in_data, lk_data, lk_place, B_len, show decide (((data.length : Nat) : Int) ≤ (p : Int)) = false from by simp; omega, ha, put_place, show ((1 ∈ cs_place) ∧ (0 + 1 + 1 < 1000)) = True from eq_true ⟨of_eq_true in_place, by decide⟩, show (True ∧ (2 < 1000)) = True from eq_true ⟨trivial, by decide⟩, DD.bind_ok, DD.bind_exc, DD.toS_ok, DD.toS_exc, DD.bindL_ok, DD.bindL_exc, DD.lbind_ok, DD.lbind_exc, DD.bindE_ok, DD.bindE_exc, DD.sbind_nx, DD.sbind_rt, DD.sbind_exc, DD.sbind_bk, DD.sbind_ct, DD.ret_nx, DD.ret_rt, DD.ret_exc, DD.varM_0, DD.varM_1, DD.varM_2, DD.varM_3, DD.varM_4, DD.varM_5, DD.cM_e, DD.binM_e, DD.unM_e, DD.seqM_e, DD.setM_e, DD.exprM_e, DD.retM_e, DD.raiseM_e, DD.passM_e, DD.brkM_e, DD.ifSM_e, DD.ifM_e, DD.andM_e, DD.orM_e, DD.notM_e, DD.nilM_e, DD.consM_e, DD.callM_e, DD.tupM_e, DD.lstM_e, DD.bmM_e, DD.smM_e, DD.asgM_e, DD.subG_e, DD.nameG_e, DD.slM_e, DD.om_none, DD.om_some, DD.fldSetM_e, DD.toldM_e, DD.add_ii, DD.add_tt, DD.sub_ii, DD.mul_ii, DD.lt_ii, DD.le_ii, DD.gt_ii, DD.ge_ii, DD.fdiv_ii, DD.mod_ii, DD.eq_ii, DD.ne_ii, DD.eq_ss, DD.ne_ss, DD.fld_e, DD.len_t, DD.len_s, DD.append_e, DD.extend_t, DD.extend_r, DD.tup_r, DD.it_t, DD.sl_t, DD.callF, List.length_append, List.length_cons, List.length_nil, List.append_nil, Nat.reduceAdd, List.set_cons_zero, List.set_cons_succ, ↓reduceIte, Bool.not_true, Bool.not_false, Nat.zero_le]
  rfl
theorem byte_end {h : AH} {u p : Nat} {data : List Nat} (e : h[u]? = some (U data p)) (ed : data.drop p = []) : F_Unpacker_read_byte [.ref u] h = .exc 0 h := by
  have hp : data.length ≤ p := List.drop_eq_nil_iff.mp ed
  unfold F_Unpacker_read_byte m_Unpacker_read_byte
  have e0 : startD N_Unpacker_read_byte.length [D.ref u] = [some (.ref u), none] := rfl
  rw [e0]
  unfold U at e
  simp only [e, in_place, in_data, lk_data, lk_place, B_len, show decide (((data.length : Nat) : Int) ≤ (p : Int)) = true from by simp; omega, DD.bind_ok, DD.bind_exc, DD.toS_ok, DD.toS_exc, DD.bindL_ok, DD.bindL_exc, DD.lbind_ok, DD.lbind_exc, DD.bindE_ok, DD.bindE_exc, DD.sbind_nx, DD.sbind_rt, DD.sbind_exc, DD.sbind_bk, DD.sbind_ct, DD.ret_nx, DD.ret_rt, DD.ret_exc, DD.varM_0, DD.varM_1, DD.varM_2, DD.varM_3, DD.varM_4, DD.varM_5, DD.cM_e, DD.binM_e, DD.unM_e, DD.seqM_e, DD.setM_e, DD.exprM_e, DD.retM_e, DD.raiseM_e, DD.passM_e, DD.brkM_e, DD.ifSM_e, DD.ifM_e, DD.andM_e, DD.orM_e, DD.notM_e, DD.nilM_e, DD.consM_e, DD.callM_e, DD.tupM_e, DD.lstM_e, DD.bmM_e, DD.smM_e, DD.asgM_e, DD.subG_e, DD.nameG_e, DD.slM_e, DD.om_none, DD.om_some, DD.fldSetM_e, DD.toldM_e, DD.add_ii, DD.add_tt, DD.sub_ii, DD.mul_ii, DD.lt_ii, DD.le_ii, DD.gt_ii, DD.ge_ii, DD.fdiv_ii, DD.mod_ii, DD.eq_ii, DD.ne_ii, DD.eq_ss, DD.ne_ss, DD.fld_e, DD.len_t, DD.len_s, DD.append_e, DD.extend_t, DD.extend_r, DD.tup_r, DD.it_t, DD.sl_t, DD.callF, List.length_append, List.length_cons, List.length_nil, List.append_nil, Nat.reduceAdd, List.set_cons_zero, List.set_cons_succ, ↓reduceIte, Bool.not_true, Bool.not_false, Nat.zero_le]
/-! ### a number -/
def lp (acc w b : Nat) : List Nat → Option (Nat × Nat × Nat × List Nat)
  | [] => if b > 127 then none else some (acc, w, b, [])
  | c :: r => if b > 127 then lp (acc + (b - 128) * w) (w * 128) c r else some (acc, w, b, c :: r)
def rn : List Nat → Option (Nat × List Nat)
  | [] => none
  | b :: r => match lp 0 1 b r with
    | none => none
    | some (a, w, c, r') => if c = 0 ∧ w > 1 then none else some (a + c * w, r')
theorem rn_none {b : Nat} {r : List Nat} (e : lp 0 1 b r = none) : rn (b :: r) = none := by simp only [rn, e]
theorem rn_bad {b a w c : Nat} {r r' : List Nat} (e : lp 0 1 b r = some (a, w, c, r')) (h : c = 0 ∧ w > 1) : rn (b :: r) = none := by simp only [rn, e, if_pos h]
theorem rn_ok {b a w c : Nat} {r r' : List Nat} (e : lp 0 1 b r = some (a, w, c, r')) (h : ¬ (c = 0 ∧ w > 1)) : rn (b :: r) = some (a + c * w, r') := by simp only [rn, e, if_neg h]
theorem lookup_mt {a b : D} {m : Str} (h1 : ¬ m = "data") (h2 : ¬ m = "place") : List.lookup m [(("data" : Str), a), ("place", b)] = none := by
  have e1 : (m == ("data" : Str)) = false := beq_eq_false_iff_ne.mpr h1
  have e2 : (m == ("place" : Str)) = false := beq_eq_false_iff_ne.mpr h2
  simp only [List.lookup, e1, e2]
theorem no_rb {a b : D} : (List.lookup ("read_byte" : Str) [(("data" : Str), a), ("place", b)] = none) = True := eq_true (lookup_mt (by decide +kernel) (by decide +kernel))
theorem no_rn {a b : D} : (List.lookup ("read_number" : Str) [(("data" : Str), a), ("place", b)] = none) = True := eq_true (lookup_mt (by decide +kernel) (by decide +kernel))
theorem no_rl {a b : D} : (List.lookup ("read_length" : Str) [(("data" : Str), a), ("place", b)] = none) = True := eq_true (lookup_mt (by decide +kernel) (by decide +kernel))
theorem no_rt {a b : D} : (List.lookup ("read_text" : Str) [(("data" : Str), a), ("place", b)] = none) = True := eq_true (lookup_mt (by decide +kernel) (by decide +kernel))
theorem no_rv {a b : D} : (List.lookup ("read_value" : Str) [(("data" : Str), a), ("place", b)] = none) = True := eq_true (lookup_mt (by decide +kernel) (by decide +kernel))
/-- self.m(..) -/
theorem meth_u {h : AH} {u p : Nat} {data : List Nat} {mt : Str} {n : Nat} {F : List D → AH → EO} {m : LM} {t : SL} (e : h[u]? = some (U data p)) (hm : ∀ a b : D, (List.lookup mt [(("data" : Str), a), ("place", b)] = none) = True) :
    methF mt 1 n [] F (varM 0) m (some (.ref u) :: t) h = (m (some (.ref u) :: t) h).bindE fun ds h2 => callF n [] F (.ref u :: ds) h2 := by
  unfold U at e
  rw [methF_e]
  simp only [varM_0, bind_ok, e, hm, and_self, ↓reduceIte]
theorem body_pre {acc w b : Nat} (hb : 127 < b) (hb2 : b < 256) : CMb' ((b : Int) - 128) (w : Int) = true ∧ ((acc : Int) + ((b : Int) - 128) * (w : Int)) = ((acc + (b - 128) * w : Nat) : Int) ∧ CMb' (w : Int) 128 = true ∧ ((w : Int) * 128) = ((w * 128 : Nat) : Int) := by
  refine ⟨cmb_l (by omega), ?_, cmb_r (by decide), by omega⟩
  rw [Int.natCast_add, Int.natCast_mul, Int.natCast_sub (by omega)]
  rfl
theorem body_run {h : AH} {u p acc w b c : Nat} {data r : List Nat} (e : h[u]? = some (U data p)) (ed : data.drop p = c :: r) (hb : 127 < b) (hb2 : b < 256) :
    Unpacker_read_number_w0b [some (.ref u), some (.int acc), some (.int w), some (.int b)] h = .nx [some (.ref u), some (.int (acc + (b - 128) * w : Nat)), some (.int (w * 128 : Nat)), some (.int c)] (h.set u (U data (p + 1))) := by
  obtain ⟨e1, e2, e3, e4⟩ := body_pre (acc := acc) (w := w) hb hb2
  unfold Unpacker_read_number_w0b
  simp only [meth_u e (fun _ _ => no_rb), byte_run e ed, e1, e2, e3, e4, DD.bind_ok, DD.bind_exc, DD.toS_ok, DD.toS_exc, DD.bindL_ok, DD.bindL_exc, DD.lbind_ok, DD.lbind_exc, DD.bindE_ok, DD.bindE_exc, DD.sbind_nx, DD.sbind_rt, DD.sbind_exc, DD.sbind_bk, DD.sbind_ct, DD.ret_nx, DD.ret_rt, DD.ret_exc, DD.varM_0, DD.varM_1, DD.varM_2, DD.varM_3, DD.varM_4, DD.varM_5, DD.cM_e, DD.binM_e, DD.unM_e, DD.seqM_e, DD.setM_e, DD.exprM_e, DD.retM_e, DD.raiseM_e, DD.passM_e, DD.brkM_e, DD.ifSM_e, DD.ifM_e, DD.andM_e, DD.orM_e, DD.notM_e, DD.nilM_e, DD.consM_e, DD.callM_e, DD.tupM_e, DD.lstM_e, DD.bmM_e, DD.smM_e, DD.asgM_e, DD.subG_e, DD.nameG_e, DD.slM_e, DD.om_none, DD.om_some, DD.fldSetM_e, DD.toldM_e, DD.add_ii, DD.add_tt, DD.sub_ii, DD.mul_ii, DD.lt_ii, DD.le_ii, DD.gt_ii, DD.ge_ii, DD.fdiv_ii, DD.mod_ii, DD.eq_ii, DD.ne_ii, DD.eq_ss, DD.ne_ss, DD.fld_e, DD.len_t, DD.len_s, DD.append_e, DD.extend_t, DD.extend_r, DD.tup_r, DD.it_t, DD.sl_t, DD.callF, List.length_append, List.length_cons, List.length_nil, List.append_nil, Nat.reduceAdd, List.set_cons_zero, List.set_cons_succ, ↓reduceIte, Bool.not_true, Bool.not_false, Nat.zero_le]
theorem body_end {h : AH} {u p acc w b : Nat} {data : List Nat} (e : h[u]? = some (U data p)) (ed : data.drop p = []) (hb : 127 < b) (hb2 : b < 256) :
    Unpacker_read_number_w0b [some (.ref u), some (.int acc), some (.int w), some (.int b)] h = .exc 0 [some (.ref u), some (.int (acc + (b - 128) * w : Nat)), some (.int (w * 128 : Nat)), some (.int b)] h := by
  obtain ⟨e1, e2, e3, e4⟩ := body_pre (acc := acc) (w := w) hb hb2
  unfold Unpacker_read_number_w0b
  simp only [meth_u e (fun _ _ => no_rb), byte_end e ed, e1, e2, e3, e4, DD.bind_ok, DD.bind_exc, DD.toS_ok, DD.toS_exc, DD.bindL_ok, DD.bindL_exc, DD.lbind_ok, DD.lbind_exc, DD.bindE_ok, DD.bindE_exc, DD.sbind_nx, DD.sbind_rt, DD.sbind_exc, DD.sbind_bk, DD.sbind_ct, DD.ret_nx, DD.ret_rt, DD.ret_exc, DD.varM_0, DD.varM_1, DD.varM_2, DD.varM_3, DD.varM_4, DD.varM_5, DD.cM_e, DD.binM_e, DD.unM_e, DD.seqM_e, DD.setM_e, DD.exprM_e, DD.retM_e, DD.raiseM_e, DD.passM_e, DD.brkM_e, DD.ifSM_e, DD.ifM_e, DD.andM_e, DD.orM_e, DD.notM_e, DD.nilM_e, DD.consM_e, DD.callM_e, DD.tupM_e, DD.lstM_e, DD.bmM_e, DD.smM_e, DD.asgM_e, DD.subG_e, DD.nameG_e, DD.slM_e, DD.om_none, DD.om_some, DD.fldSetM_e, DD.toldM_e, DD.add_ii, DD.add_tt, DD.sub_ii, DD.mul_ii, DD.lt_ii, DD.le_ii, DD.gt_ii, DD.ge_ii, DD.fdiv_ii, DD.mod_ii, DD.eq_ii, DD.ne_ii, DD.eq_ss, DD.ne_ss, DD.fld_e, DD.len_t, DD.len_s, DD.append_e, DD.extend_t, DD.extend_r, DD.tup_r, DD.it_t, DD.sl_t, DD.callF, List.length_append, List.length_cons, List.length_nil, List.append_nil, Nat.reduceAdd, List.set_cons_zero, List.set_cons_succ, ↓reduceIte, Bool.not_true, Bool.not_false, Nat.zero_le]
theorem cond_run {h : AH} {u acc w b : Nat} : Unpacker_read_number_w0c [some (.ref u), some (.int acc), some (.int w), some (.int b)] h = .ok (.bl (decide (127 < b))) h := by
  unfold Unpacker_read_number_w0c
  simp only [DD.bind_ok, DD.bind_ok, DD.bind_exc, DD.toS_ok, DD.toS_exc, DD.bindL_ok, DD.bindL_exc, DD.lbind_ok, DD.lbind_exc, DD.bindE_ok, DD.bindE_exc, DD.sbind_nx, DD.sbind_rt, DD.sbind_exc, DD.sbind_bk, DD.sbind_ct, DD.ret_nx, DD.ret_rt, DD.ret_exc, DD.varM_0, DD.varM_1, DD.varM_2, DD.varM_3, DD.varM_4, DD.varM_5, DD.cM_e, DD.binM_e, DD.unM_e, DD.seqM_e, DD.setM_e, DD.exprM_e, DD.retM_e, DD.raiseM_e, DD.passM_e, DD.brkM_e, DD.ifSM_e, DD.ifM_e, DD.andM_e, DD.orM_e, DD.notM_e, DD.nilM_e, DD.consM_e, DD.callM_e, DD.tupM_e, DD.lstM_e, DD.bmM_e, DD.smM_e, DD.asgM_e, DD.subG_e, DD.nameG_e, DD.slM_e, DD.om_none, DD.om_some, DD.fldSetM_e, DD.toldM_e, DD.add_ii, DD.add_tt, DD.sub_ii, DD.mul_ii, DD.lt_ii, DD.le_ii, DD.gt_ii, DD.ge_ii, DD.fdiv_ii, DD.mod_ii, DD.eq_ii, DD.ne_ii, DD.eq_ss, DD.ne_ss, DD.fld_e, DD.len_t, DD.len_s, DD.append_e, DD.extend_t, DD.extend_r, DD.tup_r, DD.it_t, DD.sl_t, DD.callF, List.length_append, List.length_cons, List.length_nil, List.append_nil, Nat.reduceAdd, List.set_cons_zero, List.set_cons_succ, ↓reduceIte, Bool.not_true, Bool.not_false, Nat.zero_le]
  congr 2
  simp
  omega
theorem num_loop {data : List Nat} {u : Nat} : ∀ (rest : List Nat) (acc w b p : Nat) (h : AH), h[u]? = some (U data p) → data.drop p = rest → p ≤ data.length → b < 256 → (∀ x ∈ rest, x < 256) →
    match lp acc w b rest with
    | none => ∃ τ' h', whileM Unpacker_read_number_w0c Unpacker_read_number_w0b [some (.ref u), some (.int acc), some (.int w), some (.int b)] h = .exc 0 τ' h' ∧ Fr (some u) h h'
    | some (a, w', c, r) => ∃ h' p', whileM Unpacker_read_number_w0c Unpacker_read_number_w0b [some (.ref u), some (.int acc), some (.int w), some (.int b)] h = .nx [some (.ref u), some (.int a), some (.int w'), some (.int c)] h' ∧ Fr (some u) h h' ∧ h'[u]? = some (U data p') ∧ data.drop p' = r ∧ c ≤ 127 ∧ p' ≤ data.length := by
  intro rest
  induction rest with
  | nil =>
    intro acc w b p h e ed hp h1 h2
    unfold lp
    by_cases hb : b > 127
    · rw [if_pos hb]
      exact ⟨_, h, while_exc (by rw [cond_run, decide_eq_true hb]) (body_end e ed hb h1), Fr.refl⟩
    · rw [if_neg hb]
      exact ⟨h, p, while_stop (by rw [cond_run, decide_eq_false hb]), Fr.refl, e, ed, by omega, hp⟩
  | cons c rest ih =>
    intro acc w b p h e ed hp h1 h2
    unfold lp
    by_cases hb : b > 127
    · rw [if_pos hb]
      obtain ⟨q1, _, q3, _⟩ := at_drop ed
      have hl := lt_of_get e
      have := ih (acc + (b - 128) * w) (w * 128) c (p + 1) (h.set u (U data (p + 1))) (get_set hl) q3 q1 (h2 c List.mem_cons_self) fun x hx => h2 x (List.mem_cons_of_mem _ hx)
      rw [while_go (by rw [cond_run, decide_eq_true hb]) (body_run e ed hb h1)]
      cases el : lp (acc + (b - 128) * w) (w * 128) c rest with
      | none =>
        rw [el] at this
        obtain ⟨τ', h', a1, a2⟩ := this
        exact ⟨τ', h', a1, Fr.set.trans a2⟩
      | some q =>
        obtain ⟨a, w', c', r⟩ := q
        rw [el] at this
        obtain ⟨h', p', a1, a2, a3⟩ := this
        exact ⟨h', p', a1, Fr.set.trans a2, a3⟩
    · rw [if_neg hb]
      exact ⟨h, p, while_stop (by rw [cond_run, decide_eq_false hb]), Fr.refl, e, ed, by omega, hp⟩
/-- what a method of the unpacker gives -/
def Rd1 {β : Type} (o : EO) (f : β → D) (u : Nat) (data : List Nat) (h : AH) (q : Option (β × List Nat)) : Prop := match q with
  | none => ∃ h', o = .exc 0 h' ∧ Fr (some u) h h'
  | some (x, r) => ∃ h' p', o = .ok (f x) h' ∧ Fr (some u) h h' ∧ h'[u]? = some (U data p') ∧ data.drop p' = r ∧ p' ≤ data.length
theorem rn_run {data : List Nat} {u p : Nat} {h : AH} (e : h[u]? = some (U data p)) (hx : ∀ x ∈ data.drop p, x < 256) : Rd1 (F_Unpacker_read_number [.ref u] h) (fun n : Nat => D.int (n : Int)) u data h (rn (data.drop p)) := by
  have hl := lt_of_get e
  unfold F_Unpacker_read_number m_Unpacker_read_number
  have e0 : startD N_Unpacker_read_number.length [D.ref u] = [some (.ref u), none, none, none] := rfl
  rw [e0]
  cases ed : data.drop p with
  | nil =>
    unfold rn
    refine ⟨h, ?_, Fr.refl⟩
    simp only [meth_u e (fun _ _ => no_rb), byte_end e ed, DD.bind_ok, DD.bind_exc, DD.toS_ok, DD.toS_exc, DD.bindL_ok, DD.bindL_exc, DD.lbind_ok, DD.lbind_exc, DD.bindE_ok, DD.bindE_exc, DD.sbind_nx, DD.sbind_rt, DD.sbind_exc, DD.sbind_bk, DD.sbind_ct, DD.ret_nx, DD.ret_rt, DD.ret_exc, DD.varM_0, DD.varM_1, DD.varM_2, DD.varM_3, DD.varM_4, DD.varM_5, DD.cM_e, DD.binM_e, DD.unM_e, DD.seqM_e, DD.setM_e, DD.exprM_e, DD.retM_e, DD.raiseM_e, DD.passM_e, DD.brkM_e, DD.ifSM_e, DD.ifM_e, DD.andM_e, DD.orM_e, DD.notM_e, DD.nilM_e, DD.consM_e, DD.callM_e, DD.tupM_e, DD.lstM_e, DD.bmM_e, DD.smM_e, DD.asgM_e, DD.subG_e, DD.nameG_e, DD.slM_e, DD.om_none, DD.om_some, DD.fldSetM_e, DD.toldM_e, DD.add_ii, DD.add_tt, DD.sub_ii, DD.mul_ii, DD.lt_ii, DD.le_ii, DD.gt_ii, DD.ge_ii, DD.fdiv_ii, DD.mod_ii, DD.eq_ii, DD.ne_ii, DD.eq_ss, DD.ne_ss, DD.fld_e, DD.len_t, DD.len_s, DD.append_e, DD.extend_t, DD.extend_r, DD.tup_r, DD.it_t, DD.sl_t, DD.callF, List.length_append, List.length_cons, List.length_nil, List.append_nil, Nat.reduceAdd, List.set_cons_zero, List.set_cons_succ, ↓reduceIte, Bool.not_true, Bool.not_false, Nat.zero_le]
  | cons b r =>
    rw [ed] at hx
    obtain ⟨q1, _, q3, _⟩ := at_drop ed
    have k := num_loop r 0 1 b (p + 1) (h.set u (U data (p + 1))) (get_set hl) q3 q1 (hx b List.mem_cons_self) fun x hm => hx x (List.mem_cons_of_mem _ hm)
    cases el : lp 0 1 b r with
    | none =>
      rw [el] at k
      rw [rn_none el]
      obtain ⟨τ', h', a1, a2⟩ := k
      refine ⟨h', ?_, Fr.set.trans a2⟩
      have a1' : whileM Unpacker_read_number_w0c Unpacker_read_number_w0b [some (.ref u), some (.int 0), some (.int 1), some (.int b)] (h.set u (U data (p + 1))) = .exc 0 τ' h' := a1
      simp only [meth_u e (fun _ _ => no_rb), byte_run e ed, a1', DD.bind_ok, DD.bind_exc, DD.toS_ok, DD.toS_exc, DD.bindL_ok, DD.bindL_exc, DD.lbind_ok, DD.lbind_exc, DD.bindE_ok, DD.bindE_exc, DD.sbind_nx, DD.sbind_rt, DD.sbind_exc, DD.sbind_bk, DD.sbind_ct, DD.ret_nx, DD.ret_rt, DD.ret_exc, DD.varM_0, DD.varM_1, DD.varM_2, DD.varM_3, DD.varM_4, DD.varM_5, DD.cM_e, DD.binM_e, DD.unM_e, DD.seqM_e, DD.setM_e, DD.exprM_e, DD.retM_e, DD.raiseM_e, DD.passM_e, DD.brkM_e, DD.ifSM_e, DD.ifM_e, DD.andM_e, DD.orM_e, DD.notM_e, DD.nilM_e, DD.consM_e, DD.callM_e, DD.tupM_e, DD.lstM_e, DD.bmM_e, DD.smM_e, DD.asgM_e, DD.subG_e, DD.nameG_e, DD.slM_e, DD.om_none, DD.om_some, DD.fldSetM_e, DD.toldM_e, DD.add_ii, DD.add_tt, DD.sub_ii, DD.mul_ii, DD.lt_ii, DD.le_ii, DD.gt_ii, DD.ge_ii, DD.fdiv_ii, DD.mod_ii, DD.eq_ii, DD.ne_ii, DD.eq_ss, DD.ne_ss, DD.fld_e, DD.len_t, DD.len_s, DD.append_e, DD.extend_t, DD.extend_r, DD.tup_r, DD.it_t, DD.sl_t, DD.callF, List.length_append, List.length_cons, List.length_nil, List.append_nil, Nat.reduceAdd, List.set_cons_zero, List.set_cons_succ, ↓reduceIte, Bool.not_true, Bool.not_false, Nat.zero_le]
    | some q =>
      obtain ⟨a, w, c, r'⟩ := q
      rw [el] at k
      obtain ⟨h', p', a1, a2, a3, a4, a5, a6⟩ := k
      have a1' : whileM Unpacker_read_number_w0c Unpacker_read_number_w0b [some (.ref u), some (.int 0), some (.int 1), some (.int b)] (h.set u (U data (p + 1))) = .nx [some (.ref u), some (.int a), some (.int w), some (.int c)] h' := a1
      have ec : ((c : Int) == 0) = decide (c = 0) := by
        by_cases hc : c = 0
        · subst hc; rfl
        · rw [decide_eq_false hc]; exact beq_eq_false_iff_ne.mpr (by omega)
      have ew : decide ((1 : Int) < (w : Int)) = decide (1 < w) := by
        by_cases hw : 1 < w
        · rw [decide_eq_true hw]; exact decide_eq_true (by omega)
        · rw [decide_eq_false hw]; exact decide_eq_false (by omega)
      by_cases hc : c = 0 ∧ w > 1
      · rw [rn_bad el hc]
        refine ⟨h', ?_, Fr.set.trans a2⟩
        simp only [meth_u e (fun _ _ => no_rb), byte_run e ed, a1', ec, ew, decide_eq_true hc.1, decide_eq_true (show 1 < w from hc.2), DD.bind_ok, DD.bind_exc, DD.toS_ok, DD.toS_exc, DD.bindL_ok, DD.bindL_exc, DD.lbind_ok, DD.lbind_exc, DD.bindE_ok, DD.bindE_exc, DD.sbind_nx, DD.sbind_rt, DD.sbind_exc, DD.sbind_bk, DD.sbind_ct, DD.ret_nx, DD.ret_rt, DD.ret_exc, DD.varM_0, DD.varM_1, DD.varM_2, DD.varM_3, DD.varM_4, DD.varM_5, DD.cM_e, DD.binM_e, DD.unM_e, DD.seqM_e, DD.setM_e, DD.exprM_e, DD.retM_e, DD.raiseM_e, DD.passM_e, DD.brkM_e, DD.ifSM_e, DD.ifM_e, DD.andM_e, DD.orM_e, DD.notM_e, DD.nilM_e, DD.consM_e, DD.callM_e, DD.tupM_e, DD.lstM_e, DD.bmM_e, DD.smM_e, DD.asgM_e, DD.subG_e, DD.nameG_e, DD.slM_e, DD.om_none, DD.om_some, DD.fldSetM_e, DD.toldM_e, DD.add_ii, DD.add_tt, DD.sub_ii, DD.mul_ii, DD.lt_ii, DD.le_ii, DD.gt_ii, DD.ge_ii, DD.fdiv_ii, DD.mod_ii, DD.eq_ii, DD.ne_ii, DD.eq_ss, DD.ne_ss, DD.fld_e, DD.len_t, DD.len_s, DD.append_e, DD.extend_t, DD.extend_r, DD.tup_r, DD.it_t, DD.sl_t, DD.callF, List.length_append, List.length_cons, List.length_nil, List.append_nil, Nat.reduceAdd, List.set_cons_zero, List.set_cons_succ, ↓reduceIte, Bool.not_true, Bool.not_false, Nat.zero_le]
      · rw [rn_ok el hc]
        refine ⟨h', p', ?_, Fr.set.trans a2, a3, a4, a6⟩
        have ez : ((a : Int) + (c : Int) * (w : Int)) = ((a + c * w : Nat) : Int) := by rw [Int.natCast_add, Int.natCast_mul]
        by_cases h0 : c = 0
        · have hw : ¬ 1 < w := fun z => hc ⟨h0, z⟩
          simp only [meth_u e (fun _ _ => no_rb), byte_run e ed, a1', ec, ew, decide_eq_true h0, decide_eq_false hw, show CMb' (c : Int) (w : Int) = true from cmb_l (by omega), ez, DD.bind_ok, DD.bind_exc, DD.toS_ok, DD.toS_exc, DD.bindL_ok, DD.bindL_exc, DD.lbind_ok, DD.lbind_exc, DD.bindE_ok, DD.bindE_exc, DD.sbind_nx, DD.sbind_rt, DD.sbind_exc, DD.sbind_bk, DD.sbind_ct, DD.ret_nx, DD.ret_rt, DD.ret_exc, DD.varM_0, DD.varM_1, DD.varM_2, DD.varM_3, DD.varM_4, DD.varM_5, DD.cM_e, DD.binM_e, DD.unM_e, DD.seqM_e, DD.setM_e, DD.exprM_e, DD.retM_e, DD.raiseM_e, DD.passM_e, DD.brkM_e, DD.ifSM_e, DD.ifM_e, DD.andM_e, DD.orM_e, DD.notM_e, DD.nilM_e, DD.consM_e, DD.callM_e, DD.tupM_e, DD.lstM_e, DD.bmM_e, DD.smM_e, DD.asgM_e, DD.subG_e, DD.nameG_e, DD.slM_e, DD.om_none, DD.om_some, DD.fldSetM_e, DD.toldM_e, DD.add_ii, DD.add_tt, DD.sub_ii, DD.mul_ii, DD.lt_ii, DD.le_ii, DD.gt_ii, DD.ge_ii, DD.fdiv_ii, DD.mod_ii, DD.eq_ii, DD.ne_ii, DD.eq_ss, DD.ne_ss, DD.fld_e, DD.len_t, DD.len_s, DD.append_e, DD.extend_t, DD.extend_r, DD.tup_r, DD.it_t, DD.sl_t, DD.callF, List.length_append, List.length_cons, List.length_nil, List.append_nil, Nat.reduceAdd, List.set_cons_zero, List.set_cons_succ, ↓reduceIte, Bool.not_true, Bool.not_false, Nat.zero_le]
        · simp only [meth_u e (fun _ _ => no_rb), byte_run e ed, a1', ec, decide_eq_false h0, show CMb' (c : Int) (w : Int) = true from cmb_l (by omega), ez, DD.bind_ok, DD.bind_exc, DD.toS_ok, DD.toS_exc, DD.bindL_ok, DD.bindL_exc, DD.lbind_ok, DD.lbind_exc, DD.bindE_ok, DD.bindE_exc, DD.sbind_nx, DD.sbind_rt, DD.sbind_exc, DD.sbind_bk, DD.sbind_ct, DD.ret_nx, DD.ret_rt, DD.ret_exc, DD.varM_0, DD.varM_1, DD.varM_2, DD.varM_3, DD.varM_4, DD.varM_5, DD.cM_e, DD.binM_e, DD.unM_e, DD.seqM_e, DD.setM_e, DD.exprM_e, DD.retM_e, DD.raiseM_e, DD.passM_e, DD.brkM_e, DD.ifSM_e, DD.ifM_e, DD.andM_e, DD.orM_e, DD.notM_e, DD.nilM_e, DD.consM_e, DD.callM_e, DD.tupM_e, DD.lstM_e, DD.bmM_e, DD.smM_e, DD.asgM_e, DD.subG_e, DD.nameG_e, DD.slM_e, DD.om_none, DD.om_some, DD.fldSetM_e, DD.toldM_e, DD.add_ii, DD.add_tt, DD.sub_ii, DD.mul_ii, DD.lt_ii, DD.le_ii, DD.gt_ii, DD.ge_ii, DD.fdiv_ii, DD.mod_ii, DD.eq_ii, DD.ne_ii, DD.eq_ss, DD.ne_ss, DD.fld_e, DD.len_t, DD.len_s, DD.append_e, DD.extend_t, DD.extend_r, DD.tup_r, DD.it_t, DD.sl_t, DD.callF, List.length_append, List.length_cons, List.length_nil, List.append_nil, Nat.reduceAdd, List.set_cons_zero, List.set_cons_succ, ↓reduceIte, Bool.not_true, Bool.not_false, Nat.zero_le]
end K15
end

section
set_option Elab.async false
set_option linter.all false
set_option maxRecDepth 100000
set_option maxHeartbeats 2000000
namespace DD
open PySem L2
/-! slices by places -/
theorem cut_nn {β : Type} {xs : List β} {a b : Nat} : cutL xs (some (a : Int)) (some (b : Int)) = (xs.drop a).take (b - a) := by
  unfold cutL HT.sIx
  simp only [show ¬ ((a : Int) < 0) from by omega, show ¬ ((b : Int) < 0) from by omega, if_false, Int.toNat_natCast]
  by_cases h : a ≤ xs.length
  · have ha : min a xs.length = a := Nat.min_eq_left h
    rw [ha]
    by_cases h2 : b ≤ xs.length
    · have hb : min b xs.length = b := Nat.min_eq_left h2
      rw [hb]
    · have hb : min b xs.length = xs.length := Nat.min_eq_right (by omega)
      rw [hb, List.take_of_length_le (by simp), List.take_of_length_le (by simp; omega)]
  · have ha : min a xs.length = xs.length := Nat.min_eq_right (by omega)
    rw [ha, List.drop_eq_nil_of_le (Nat.le_refl _), List.drop_eq_nil_of_le (by omega)]
    simp
theorem cut_n {β : Type} {xs : List β} {b : Nat} : cutL xs none (some (b : Int)) = xs.take b := by
  have := @cut_nn β xs 0 b
  have e : cutL xs none (some (b : Int)) = cutL xs (some ((0 : Nat) : Int)) (some (b : Int)) := by
    unfold cutL HT.sIx
    simp
  rw [e, this]
  simp
theorem cut_d {β : Type} {xs : List β} {a : Nat} : cutL xs (some (a : Int)) none = xs.drop a := by
  unfold cutL HT.sIx
  simp only [show ¬ ((a : Int) < 0) from by omega, if_false, Int.toNat_natCast]
  by_cases h : a ≤ xs.length
  · rw [Nat.min_eq_left h, List.take_of_length_le (by simp)]
  · rw [Nat.min_eq_right (by omega), List.drop_eq_nil_of_le (Nat.le_refl _), List.drop_eq_nil_of_le (by omega)]
    simp
theorem B_take (xs : List Nat) (k : Nat) : (B xs).take k = B (xs.take k) := by simp [B, List.map_take]
theorem B_drop (xs : List Nat) (k : Nat) : (B xs).drop k = B (xs.drop k) := by simp [B, List.map_drop]
theorem lcQ_e {e : EM} {items : D → AH → Option (List D × (AH → Bool))} {f : TM} {mc : Option EM} {me : EM} {own : List Nat} {τ : SL} {h : AH} : lcQ e items f mc me own τ h = noexc (lcM e items f mc me own τ h) := rfl
theorem noexc_ok {d : D} {h : AH} : noexc (.ok d h) = .ok d h := rfl
theorem any_e {l : Nat} {h : AH} {bs : List Bool} (e : h[l]? = some (.lst (bs.map D.bl))) : anyF [.ref l] h = .ok (.bl (bs.any id)) h := by
  have : ∀ bs : List Bool, blsOf (bs.map D.bl) = some bs := fun bs => by
    induction bs with
    | nil => rfl
    | cons b bs ih => simp only [List.map_cons, blsOf, ih, Option.map_some]
  simp only [anyF, e, this]
theorem strsOf_map (ss : List Str) : strsOf (ss.map D.str) = some ss := by
  induction ss with
  | nil => rfl
  | cons b bs ih => simp only [List.map_cons, strsOf, ih, Option.map_some]
theorem join_e {l : Nat} {h : AH} {ss : List Str} {x : Str} (e : h[l]? = some (.lst (ss.map D.str))) (hz : (ss.map (·.length)).sum + ss.length * x.length ≤ 16777216) : joinS x (.ref l) h = .ok (.str (Txt.join x ss)) h := by
  simp only [joinS, e, strsOf_map, if_pos hz]
end DD
namespace K15
open PySem L2 DD
theorem glue_nil (e : Str) (he : e.cps = #[]) : ∀ (ps : List Str) (a : Array Nat), (List.foldl (fun acc (p : Str) => acc ++ e.cps ++ p.cps) a ps).toList = a.toList ++ (ps.map (·.cps.toList)).flatten
  | [], a => by simp
  | p :: ps, a => by
    rw [List.foldl_cons, glue_nil e he ps]
    simp [he]
theorem join_T (ix : List Nat) : Txt.join "" (ix.map fun i => (⟨#[sg i]⟩ : Str)) = T ix := by
  have he : (("" : Str)).cps = #[] := rfl
  unfold Txt.join Builtin.Str.glued T
  congr 1
  apply Array.toList_inj.mp
  rw [glue_nil _ he]
  cases ix with
  | nil => rfl
  | cons i ix =>
    simp only [List.map_cons, List.headD_cons, List.drop_succ_cons, List.drop_zero, List.map_map]
    have : ∀ l : List Nat, (l.map ((fun x : Str => x.cps.toList) ∘ fun i => (⟨#[sg i]⟩ : Str))).flatten = l.map sg := fun l => by
      induction l with
      | nil => rfl
      | cons a l ih => simp only [List.map_cons, List.flatten_cons, ih]; rfl
    rw [this]
    rfl
/-! ### a length, a text -/
def rl (bs : List Nat) : Option (Nat × List Nat) := match rn bs with
  | none => none
  | some (k, r) => if k > r.length then none else some (k, r)
theorem rl_run {data : List Nat} {u p : Nat} {h : AH} (e : h[u]? = some (U data p)) (hx : ∀ x ∈ data.drop p, x < 256) : Rd1 (F_Unpacker_read_length [.ref u] h) (fun n : Nat => D.int (n : Int)) u data h (rl (data.drop p)) := by
  have k := rn_run e hx
  unfold rl
  unfold F_Unpacker_read_length m_Unpacker_read_length
  have e0 : startD N_Unpacker_read_length.length [D.ref u] = [some (.ref u), none] := rfl
  rw [e0]
  cases er : rn (data.drop p) with
  | none =>
    rw [er] at k
    obtain ⟨h', a1, a2⟩ := k
    refine ⟨h', ?_, a2⟩
    simp only [meth_u e (fun _ _ => no_rn), a1, DD.bind_ok, DD.bind_exc, DD.toS_ok, DD.toS_exc, DD.bindL_ok, DD.bindL_exc, DD.lbind_ok, DD.lbind_exc, DD.bindE_ok, DD.bindE_exc, DD.sbind_nx, DD.sbind_rt, DD.sbind_exc, DD.sbind_bk, DD.sbind_ct, DD.ret_nx, DD.ret_rt, DD.ret_exc, DD.varM_0, DD.varM_1, DD.varM_2, DD.varM_3, DD.varM_4, DD.varM_5, DD.cM_e, DD.binM_e, DD.unM_e, DD.seqM_e, DD.setM_e, DD.exprM_e, DD.retM_e, DD.raiseM_e, DD.passM_e, DD.brkM_e, DD.ifSM_e, DD.ifM_e, DD.andM_e, DD.orM_e, DD.notM_e, DD.nilM_e, DD.consM_e, DD.callM_e, DD.tupM_e, DD.lstM_e, DD.bmM_e, DD.smM_e, DD.asgM_e, DD.subG_e, DD.nameG_e, DD.slM_e, DD.om_none, DD.om_some, DD.fldSetM_e, DD.toldM_e, DD.add_ii, DD.add_tt, DD.sub_ii, DD.mul_ii, DD.lt_ii, DD.le_ii, DD.gt_ii, DD.ge_ii, DD.fdiv_ii, DD.mod_ii, DD.eq_ii, DD.ne_ii, DD.eq_ss, DD.ne_ss, DD.fld_e, DD.len_t, DD.len_s, DD.append_e, DD.extend_t, DD.extend_r, DD.tup_r, DD.it_t, DD.sl_t, DD.callF, List.length_append, List.length_cons, List.length_nil, List.append_nil, Nat.reduceAdd, List.set_cons_zero, List.set_cons_succ, ↓reduceIte, Bool.not_true, Bool.not_false, Nat.zero_le]
  | some q =>
    obtain ⟨n, r⟩ := q
    rw [er] at k
    obtain ⟨h', p', a1, a2, a3, a4, a5⟩ := k
    have hl : data.length - p' = r.length := by rw [← a4, List.length_drop]
    have a3' := a3
    unfold U at a3
    by_cases hn : n > r.length
    · simp only [if_pos hn]
      refine ⟨h', ?_, a2⟩
      simp only [meth_u e (fun _ _ => no_rn), a1, a3, in_place, in_data, lk_data, lk_place, B_len, show decide (((data.length : Nat) : Int) - (p' : Int) < (n : Int)) = true from decide_eq_true (by omega), DD.bind_ok, DD.bind_exc, DD.toS_ok, DD.toS_exc, DD.bindL_ok, DD.bindL_exc, DD.lbind_ok, DD.lbind_exc, DD.bindE_ok, DD.bindE_exc, DD.sbind_nx, DD.sbind_rt, DD.sbind_exc, DD.sbind_bk, DD.sbind_ct, DD.ret_nx, DD.ret_rt, DD.ret_exc, DD.varM_0, DD.varM_1, DD.varM_2, DD.varM_3, DD.varM_4, DD.varM_5, DD.cM_e, DD.binM_e, DD.unM_e, DD.seqM_e, DD.setM_e, DD.exprM_e, DD.retM_e, DD.raiseM_e, DD.passM_e, DD.brkM_e, DD.ifSM_e, DD.ifM_e, DD.andM_e, DD.orM_e, DD.notM_e, DD.nilM_e, DD.consM_e, DD.callM_e, DD.tupM_e, DD.lstM_e, DD.bmM_e, DD.smM_e, DD.asgM_e, DD.subG_e, DD.nameG_e, DD.slM_e, DD.om_none, DD.om_some, DD.fldSetM_e, DD.toldM_e, DD.add_ii, DD.add_tt, DD.sub_ii, DD.mul_ii, DD.lt_ii, DD.le_ii, DD.gt_ii, DD.ge_ii, DD.fdiv_ii, DD.mod_ii, DD.eq_ii, DD.ne_ii, DD.eq_ss, DD.ne_ss, DD.fld_e, DD.len_t, DD.len_s, DD.append_e, DD.extend_t, DD.extend_r, DD.tup_r, DD.it_t, DD.sl_t, DD.callF, List.length_append, List.length_cons, List.length_nil, List.append_nil, Nat.reduceAdd, List.set_cons_zero, List.set_cons_succ, ↓reduceIte, Bool.not_true, Bool.not_false, Nat.zero_le]
    · simp only [if_neg hn]
      refine ⟨h', p', ?_, a2, a3', a4, a5⟩
      simp only [meth_u e (fun _ _ => no_rn), a1, a3, in_place, in_data, lk_data, lk_place, B_len, show decide (((data.length : Nat) : Int) - (p' : Int) < (n : Int)) = false from decide_eq_false (by omega), DD.bind_ok, DD.bind_exc, DD.toS_ok, DD.toS_exc, DD.bindL_ok, DD.bindL_exc, DD.lbind_ok, DD.lbind_exc, DD.bindE_ok, DD.bindE_exc, DD.sbind_nx, DD.sbind_rt, DD.sbind_exc, DD.sbind_bk, DD.sbind_ct, DD.ret_nx, DD.ret_rt, DD.ret_exc, DD.varM_0, DD.varM_1, DD.varM_2, DD.varM_3, DD.varM_4, DD.varM_5, DD.cM_e, DD.binM_e, DD.unM_e, DD.seqM_e, DD.setM_e, DD.exprM_e, DD.retM_e, DD.raiseM_e, DD.passM_e, DD.brkM_e, DD.ifSM_e, DD.ifM_e, DD.andM_e, DD.orM_e, DD.notM_e, DD.nilM_e, DD.consM_e, DD.callM_e, DD.tupM_e, DD.lstM_e, DD.bmM_e, DD.smM_e, DD.asgM_e, DD.subG_e, DD.nameG_e, DD.slM_e, DD.om_none, DD.om_some, DD.fldSetM_e, DD.toldM_e, DD.add_ii, DD.add_tt, DD.sub_ii, DD.mul_ii, DD.lt_ii, DD.le_ii, DD.gt_ii, DD.ge_ii, DD.fdiv_ii, DD.mod_ii, DD.eq_ii, DD.ne_ii, DD.eq_ss, DD.ne_ss, DD.fld_e, DD.len_t, DD.len_s, DD.append_e, DD.extend_t, DD.extend_r, DD.tup_r, DD.it_t, DD.sl_t, DD.callF, List.length_append, List.length_cons, List.length_nil, List.append_nil, Nat.reduceAdd, List.set_cons_zero, List.set_cons_succ, ↓reduceIte, Bool.not_true, Bool.not_false, Nat.zero_le]
def rt (bs : List Nat) : Option (List Nat × List Nat) := match rl bs with
  | none => none
  | some (k, r) => if (r.take k).any (fun b => decide (95 ≤ b)) = true then none else some (r.take k, r.drop k)
theorem rt_none {bs : List Nat} (e : rl bs = none) : rt bs = none := by simp only [rt, e]
theorem rt_bad {bs r : List Nat} {n : Nat} (e : rl bs = some (n, r)) (h : ((r.take n).any fun b => decide (95 ≤ b)) = true) : rt bs = none := by simp only [rt, e, if_pos h]
theorem rt_ok {bs r : List Nat} {n : Nat} (e : rl bs = some (n, r)) (h : ((r.take n).any fun b => decide (95 ≤ b)) = false) : rt bs = some (r.take n, r.drop n) := by simp only [rt, e, h]; rfl
theorem signs_len : Str.length g_SIGNS = 95 := by decide +kernel
/-- [place >= len(SIGNS) for place in places] -/
theorem any_run (ix : List Nat) (hn : ix.length ≤ 16000000) (a0 a1 : Option D) (h : AH) :
    ∃ h', lcQ (varM 2) tupIt (nameG 3) none (binM (varM 3) (callM (consM (cM (.str g_SIGNS)) nilM) lenF) geM) [3] [a0, a1, some (.tup (B ix)), none] h = .ok (.ref h.length) h' ∧ Fr none h h' ∧ h'[h.length]? = some (.lst ((ix.map fun b => decide (95 ≤ b)).map D.bl)) := by
  have key := lc_run (mc := none) (me := binM (varM 3) (callM (consM (cM (.str g_SIGNS)) nilM) lenF) geM) (own := [3]) (τ := [a0, a1, some (.tup (B ix)), none]) (L := h.length) (j := 3) (ds := B ix)
    (fun k acc h1 => acc = ((ix.take k).map fun b => decide (95 ≤ b)).map D.bl ∧ Fr none h h1 ∧ h1[h.length]? = some (.lst acc)) (fun k d acc h1 hk p => by
      obtain ⟨rfl, p2, p3⟩ := p
      rw [List.getElem?_map] at hk
      cases e : ix[k]? with
      | none => rw [e] at hk; cases hk
      | some i =>
        rw [e] at hk
        have hd : d = D.int (i : Int) := (Option.some.inj hk).symm
        subst hd
        have hlt := (List.getElem?_eq_some_iff.mp e).1
        refine ⟨true, h1, rfl, fun z => (by cases z), fun _ => ⟨.bl (decide (95 ≤ i)), h1, ?_, p3, by simp; omega, ?_, p2.setN (Nat.le_refl _), get_set (lt_of_get p3)⟩⟩
        · show binM (varM 3) (callM (consM (cM (.str g_SIGNS)) nilM) lenF) geM [a0, a1, some (.tup (B ix)), some (.int (i : Int))] h1 = _
          simp only [signs_len, show (95 ≤ sizeLine) = True from by rw [sizeLine_eq]; decide, DD.bind_ok, DD.bind_exc, DD.toS_ok, DD.toS_exc, DD.bindL_ok, DD.bindL_exc, DD.lbind_ok, DD.lbind_exc, DD.bindE_ok, DD.bindE_exc, DD.sbind_nx, DD.sbind_rt, DD.sbind_exc, DD.sbind_bk, DD.sbind_ct, DD.ret_nx, DD.ret_rt, DD.ret_exc, DD.varM_0, DD.varM_1, DD.varM_2, DD.varM_3, DD.varM_4, DD.varM_5, DD.cM_e, DD.binM_e, DD.unM_e, DD.seqM_e, DD.setM_e, DD.exprM_e, DD.retM_e, DD.raiseM_e, DD.passM_e, DD.brkM_e, DD.ifSM_e, DD.ifM_e, DD.andM_e, DD.orM_e, DD.notM_e, DD.nilM_e, DD.consM_e, DD.callM_e, DD.tupM_e, DD.lstM_e, DD.bmM_e, DD.smM_e, DD.asgM_e, DD.subG_e, DD.nameG_e, DD.slM_e, DD.om_none, DD.om_some, DD.fldSetM_e, DD.toldM_e, DD.add_ii, DD.add_tt, DD.sub_ii, DD.mul_ii, DD.lt_ii, DD.le_ii, DD.gt_ii, DD.ge_ii, DD.fdiv_ii, DD.mod_ii, DD.eq_ii, DD.ne_ii, DD.eq_ss, DD.ne_ss, DD.fld_e, DD.len_t, DD.len_s, DD.append_e, DD.extend_t, DD.extend_r, DD.tup_r, DD.it_t, DD.sl_t, DD.callF, List.length_append, List.length_cons, List.length_nil, List.append_nil, Nat.reduceAdd, List.set_cons_zero, List.set_cons_succ, ↓reduceIte, Bool.not_true, Bool.not_false, Nat.zero_le]
          congr 2
          by_cases hi : 95 ≤ i
          · rw [decide_eq_true hi]; exact decide_eq_true (by omega)
          · rw [decide_eq_false hi]; exact decide_eq_false (by omega)
        · rw [List.take_succ, e]
          simp) (B ix) 0 [] (h ++ [.lst []]) rfl (Nat.zero_le _) ⟨rfl, Fr.app, get_new⟩
  obtain ⟨acc', h', ⟨q1, q2, q3⟩, q4⟩ := key
  refine ⟨h', ?_, q2, ?_⟩
  · rw [lcQ_e, lcM_e]
    simp only [tupIt_e, DD.bind_ok, DD.bind_exc, DD.toS_ok, DD.toS_exc, DD.bindL_ok, DD.bindL_exc, DD.lbind_ok, DD.lbind_exc, DD.bindE_ok, DD.bindE_exc, DD.sbind_nx, DD.sbind_rt, DD.sbind_exc, DD.sbind_bk, DD.sbind_ct, DD.ret_nx, DD.ret_rt, DD.ret_exc, DD.varM_0, DD.varM_1, DD.varM_2, DD.varM_3, DD.varM_4, DD.varM_5, DD.cM_e, DD.binM_e, DD.unM_e, DD.seqM_e, DD.setM_e, DD.exprM_e, DD.retM_e, DD.raiseM_e, DD.passM_e, DD.brkM_e, DD.ifSM_e, DD.ifM_e, DD.andM_e, DD.orM_e, DD.notM_e, DD.nilM_e, DD.consM_e, DD.callM_e, DD.tupM_e, DD.lstM_e, DD.bmM_e, DD.smM_e, DD.asgM_e, DD.subG_e, DD.nameG_e, DD.slM_e, DD.om_none, DD.om_some, DD.fldSetM_e, DD.toldM_e, DD.add_ii, DD.add_tt, DD.sub_ii, DD.mul_ii, DD.lt_ii, DD.le_ii, DD.gt_ii, DD.ge_ii, DD.fdiv_ii, DD.mod_ii, DD.eq_ii, DD.ne_ii, DD.eq_ss, DD.ne_ss, DD.fld_e, DD.len_t, DD.len_s, DD.append_e, DD.extend_t, DD.extend_r, DD.tup_r, DD.it_t, DD.sl_t, DD.callF, List.length_append, List.length_cons, List.length_nil, List.append_nil, Nat.reduceAdd, List.set_cons_zero, List.set_cons_succ, ↓reduceIte, Bool.not_true, Bool.not_false, Nat.zero_le]
    rw [q4, noexc_ok]
  · rw [q3, q1, B_len, List.take_length]
/-- [SIGNS[place] for place in places] -/
theorem chars_run (ix : List Nat) (hx : ∀ i ∈ ix, i < 95) (hn : ix.length ≤ 16000000) (a0 a1 : Option D) (h : AH) :
    ∃ h', lcQ (varM 2) tupIt (nameG 3) none (binM (cM (.str g_SIGNS)) (varM 3) itM) [3] [a0, a1, some (.tup (B ix)), none] h = .ok (.ref h.length) h' ∧ Fr none h h' ∧ h'[h.length]? = some (.lst ((ix.map fun b => (⟨#[sg b]⟩ : Str)).map D.str)) := by
  have key := lc_run (mc := none) (me := binM (cM (.str g_SIGNS)) (varM 3) itM) (own := [3]) (τ := [a0, a1, some (.tup (B ix)), none]) (L := h.length) (j := 3) (ds := B ix)
    (fun k acc h1 => acc = ((ix.take k).map fun b => (⟨#[sg b]⟩ : Str)).map D.str ∧ Fr none h h1 ∧ h1[h.length]? = some (.lst acc)) (fun k d acc h1 hk p => by
      obtain ⟨rfl, p2, p3⟩ := p
      rw [List.getElem?_map] at hk
      cases e : ix[k]? with
      | none => rw [e] at hk; cases hk
      | some i =>
        rw [e] at hk
        have hd : d = D.int (i : Int) := (Option.some.inj hk).symm
        subst hd
        have hlt := (List.getElem?_eq_some_iff.mp e).1
        have hi : i < 95 := hx i (List.mem_of_getElem? e)
        refine ⟨true, h1, rfl, fun z => (by cases z), fun _ => ⟨.str ⟨#[sg i]⟩, h1, ?_, p3, by simp; omega, ?_, p2.setN (Nat.le_refl _), get_set (lt_of_get p3)⟩⟩
        · show binM (cM (.str g_SIGNS)) (varM 3) itM [a0, a1, some (.tup (B ix)), some (.int (i : Int))] h1 = _
          have hs : g_SIGNS.cps.toList.length = 95 := by rw [Array.length_toList]; exact signs_len
          have ea : atI g_SIGNS.cps.toList (i : Int) = some (sg i) := by
            unfold atI ixN
            rw [if_pos (by omega), if_pos (by rw [hs]; omega)]
            simp only [Option.bind_some, Int.toNat_natCast]
            rw [List.getElem?_eq_getElem (by rw [hs]; exact hi)]
            congr 1
            unfold sg
            rw [Array.getD_eq_getD_getElem?, ← Array.getElem?_toList, List.getElem?_eq_getElem (by rw [hs]; exact hi)]
            rfl
          simp only [DD.bind_ok, DD.bind_ok, DD.bind_exc, DD.toS_ok, DD.toS_exc, DD.bindL_ok, DD.bindL_exc, DD.lbind_ok, DD.lbind_exc, DD.bindE_ok, DD.bindE_exc, DD.sbind_nx, DD.sbind_rt, DD.sbind_exc, DD.sbind_bk, DD.sbind_ct, DD.ret_nx, DD.ret_rt, DD.ret_exc, DD.varM_0, DD.varM_1, DD.varM_2, DD.varM_3, DD.varM_4, DD.varM_5, DD.cM_e, DD.binM_e, DD.unM_e, DD.seqM_e, DD.setM_e, DD.exprM_e, DD.retM_e, DD.raiseM_e, DD.passM_e, DD.brkM_e, DD.ifSM_e, DD.ifM_e, DD.andM_e, DD.orM_e, DD.notM_e, DD.nilM_e, DD.consM_e, DD.callM_e, DD.tupM_e, DD.lstM_e, DD.bmM_e, DD.smM_e, DD.asgM_e, DD.subG_e, DD.nameG_e, DD.slM_e, DD.om_none, DD.om_some, DD.fldSetM_e, DD.toldM_e, DD.add_ii, DD.add_tt, DD.sub_ii, DD.mul_ii, DD.lt_ii, DD.le_ii, DD.gt_ii, DD.ge_ii, DD.fdiv_ii, DD.mod_ii, DD.eq_ii, DD.ne_ii, DD.eq_ss, DD.ne_ss, DD.fld_e, DD.len_t, DD.len_s, DD.append_e, DD.extend_t, DD.extend_r, DD.tup_r, DD.it_t, DD.sl_t, DD.callF, List.length_append, List.length_cons, List.length_nil, List.append_nil, Nat.reduceAdd, List.set_cons_zero, List.set_cons_succ, ↓reduceIte, Bool.not_true, Bool.not_false, Nat.zero_le]
          simp only [itM, signs_len, ea, sizeLine_eq]
          rfl
        · rw [List.take_succ, e]
          simp) (B ix) 0 [] (h ++ [.lst []]) rfl (Nat.zero_le _) ⟨rfl, Fr.app, get_new⟩
  obtain ⟨acc', h', ⟨q1, q2, q3⟩, q4⟩ := key
  refine ⟨h', ?_, q2, ?_⟩
  · rw [lcQ_e, lcM_e]
    simp only [tupIt_e, DD.bind_ok, DD.bind_exc, DD.toS_ok, DD.toS_exc, DD.bindL_ok, DD.bindL_exc, DD.lbind_ok, DD.lbind_exc, DD.bindE_ok, DD.bindE_exc, DD.sbind_nx, DD.sbind_rt, DD.sbind_exc, DD.sbind_bk, DD.sbind_ct, DD.ret_nx, DD.ret_rt, DD.ret_exc, DD.varM_0, DD.varM_1, DD.varM_2, DD.varM_3, DD.varM_4, DD.varM_5, DD.cM_e, DD.binM_e, DD.unM_e, DD.seqM_e, DD.setM_e, DD.exprM_e, DD.retM_e, DD.raiseM_e, DD.passM_e, DD.brkM_e, DD.ifSM_e, DD.ifM_e, DD.andM_e, DD.orM_e, DD.notM_e, DD.nilM_e, DD.consM_e, DD.callM_e, DD.tupM_e, DD.lstM_e, DD.bmM_e, DD.smM_e, DD.asgM_e, DD.subG_e, DD.nameG_e, DD.slM_e, DD.om_none, DD.om_some, DD.fldSetM_e, DD.toldM_e, DD.add_ii, DD.add_tt, DD.sub_ii, DD.mul_ii, DD.lt_ii, DD.le_ii, DD.gt_ii, DD.ge_ii, DD.fdiv_ii, DD.mod_ii, DD.eq_ii, DD.ne_ii, DD.eq_ss, DD.ne_ss, DD.fld_e, DD.len_t, DD.len_s, DD.append_e, DD.extend_t, DD.extend_r, DD.tup_r, DD.it_t, DD.sl_t, DD.callF, List.length_append, List.length_cons, List.length_nil, List.append_nil, Nat.reduceAdd, List.set_cons_zero, List.set_cons_succ, ↓reduceIte, Bool.not_true, Bool.not_false, Nat.zero_le]
    rw [q4, noexc_ok]
  · rw [q3, q1, B_len, List.take_length]
theorem T_sum (ix : List Nat) : ((ix.map fun b => (⟨#[sg b]⟩ : Str)).map (·.length)).sum = ix.length := by
  induction ix with
  | nil => rfl
  | cons a l ih => simp only [List.map_cons, List.sum_cons, ih, List.length_cons]; show 1 + _ = _; omega
theorem rt_run {data : List Nat} {u p : Nat} {h : AH} (e : h[u]? = some (U data p)) (hx : ∀ x ∈ data.drop p, x < 256) (hz : data.length ≤ 16000000) : Rd1 (F_Unpacker_read_text [.ref u] h) (fun ix => D.str (T ix)) u data h (rt (data.drop p)) := by
  have k := rl_run e hx
  unfold F_Unpacker_read_text m_Unpacker_read_text
  have e0 : startD N_Unpacker_read_text.length [D.ref u] = [some (.ref u), none, none, none] := rfl
  rw [e0]
  cases er : rl (data.drop p) with
  | none =>
    rw [er] at k
    obtain ⟨h', a1, a2⟩ := k
    rw [rt_none er]
    refine ⟨h', ?_, a2⟩
    simp only [meth_u e (fun _ _ => no_rl), a1, DD.bind_ok, DD.bind_exc, DD.toS_ok, DD.toS_exc, DD.bindL_ok, DD.bindL_exc, DD.lbind_ok, DD.lbind_exc, DD.bindE_ok, DD.bindE_exc, DD.sbind_nx, DD.sbind_rt, DD.sbind_exc, DD.sbind_bk, DD.sbind_ct, DD.ret_nx, DD.ret_rt, DD.ret_exc, DD.varM_0, DD.varM_1, DD.varM_2, DD.varM_3, DD.varM_4, DD.varM_5, DD.cM_e, DD.binM_e, DD.unM_e, DD.seqM_e, DD.setM_e, DD.exprM_e, DD.retM_e, DD.raiseM_e, DD.passM_e, DD.brkM_e, DD.ifSM_e, DD.ifM_e, DD.andM_e, DD.orM_e, DD.notM_e, DD.nilM_e, DD.consM_e, DD.callM_e, DD.tupM_e, DD.lstM_e, DD.bmM_e, DD.smM_e, DD.asgM_e, DD.subG_e, DD.nameG_e, DD.slM_e, DD.om_none, DD.om_some, DD.fldSetM_e, DD.toldM_e, DD.add_ii, DD.add_tt, DD.sub_ii, DD.mul_ii, DD.lt_ii, DD.le_ii, DD.gt_ii, DD.ge_ii, DD.fdiv_ii, DD.mod_ii, DD.eq_ii, DD.ne_ii, DD.eq_ss, DD.ne_ss, DD.fld_e, DD.len_t, DD.len_s, DD.append_e, DD.extend_t, DD.extend_r, DD.tup_r, DD.it_t, DD.sl_t, DD.callF, List.length_append, List.length_cons, List.length_nil, List.append_nil, Nat.reduceAdd, List.set_cons_zero, List.set_cons_succ, ↓reduceIte, Bool.not_true, Bool.not_false, Nat.zero_le]
  | some q =>
    obtain ⟨n, r⟩ := q
    have hn : n ≤ r.length := by
      unfold rl at er
      split at er
      · cases er
      · split at er
        · cases er
        · cases er; omega
    rw [er] at k
    obtain ⟨h', p', a1, a2, a3, a4, a5⟩ := k
    have hl : data.length - p' = r.length := by rw [← a4, List.length_drop]
    have a3' := a3
    unfold U at a3
    have ep : ((n : Int) + (p' : Int)) = ((n + p' : Nat) : Int) := by omega
    have ec : cutL (B data) (some (p' : Int)) (some ((n + p' : Nat) : Int)) = B (r.take n) := by
      rw [cut_nn, B_drop, B_take, a4, show n + p' - p' = n from by omega]
    have lt : (r.take n).length ≤ 16000000 := by rw [List.length_take]; omega
    obtain ⟨h2, b1, b2, b3⟩ := any_run (r.take n) lt (some (.ref u)) (some (.int (n + p' : Nat))) h'
    have ba : anyF [.ref h'.length] h2 = .ok (.bl ((r.take n).any fun b => decide (95 ≤ b))) h2 := by
      rw [any_e b3]
      congr 2
      rw [List.any_map]
      rfl
    have c3 := b2.getN a3
    have c3' := b2.getN a3'
    have hu := lt_of_get c3
    cases ea : (r.take n).any fun b => decide (95 ≤ b) with
    | true =>
      rw [ea] at ba
      rw [rt_bad er ea]
      refine ⟨h2, ?_, a2.trans b2.wk⟩
      simp only [meth_u e (fun _ _ => no_rl), a1, a3, in_place, in_data, lk_data, lk_place, ep, ec, b1, ba, DD.bind_ok, DD.bind_exc, DD.toS_ok, DD.toS_exc, DD.bindL_ok, DD.bindL_exc, DD.lbind_ok, DD.lbind_exc, DD.bindE_ok, DD.bindE_exc, DD.sbind_nx, DD.sbind_rt, DD.sbind_exc, DD.sbind_bk, DD.sbind_ct, DD.ret_nx, DD.ret_rt, DD.ret_exc, DD.varM_0, DD.varM_1, DD.varM_2, DD.varM_3, DD.varM_4, DD.varM_5, DD.cM_e, DD.binM_e, DD.unM_e, DD.seqM_e, DD.setM_e, DD.exprM_e, DD.retM_e, DD.raiseM_e, DD.passM_e, DD.brkM_e, DD.ifSM_e, DD.ifM_e, DD.andM_e, DD.orM_e, DD.notM_e, DD.nilM_e, DD.consM_e, DD.callM_e, DD.tupM_e, DD.lstM_e, DD.bmM_e, DD.smM_e, DD.asgM_e, DD.subG_e, DD.nameG_e, DD.slM_e, DD.om_none, DD.om_some, DD.fldSetM_e, DD.toldM_e, DD.add_ii, DD.add_tt, DD.sub_ii, DD.mul_ii, DD.lt_ii, DD.le_ii, DD.gt_ii, DD.ge_ii, DD.fdiv_ii, DD.mod_ii, DD.eq_ii, DD.ne_ii, DD.eq_ss, DD.ne_ss, DD.fld_e, DD.len_t, DD.len_s, DD.append_e, DD.extend_t, DD.extend_r, DD.tup_r, DD.it_t, DD.sl_t, DD.callF, List.length_append, List.length_cons, List.length_nil, List.append_nil, Nat.reduceAdd, List.set_cons_zero, List.set_cons_succ, ↓reduceIte, Bool.not_true, Bool.not_false, Nat.zero_le]
    | false =>
      rw [ea] at ba
      have all : ∀ i ∈ r.take n, i < 95 := fun i hi => by
        have := List.any_eq_false.mp ea i hi
        simp at this
        omega
      have hs2 : (h2.set u (U data (n + p')))[u]? = some (U data (n + p')) := get_set hu
      obtain ⟨h4, d1, d2, d3⟩ := chars_run (r.take n) all lt (some (.ref u)) (some (.int (n + p' : Nat))) (h2.set u (U data (n + p')))
      have ej := join_e (x := "") d3 (by
        rw [T_sum, List.length_map]
        show (r.take n).length + (r.take n).length * 0 ≤ _
        omega)
      rw [join_T] at ej
      have d4 : h4[u]? = some (U data (n + p')) := d2.getN hs2
      have dd : data.drop (n + p') = r.drop n := by rw [← a4, List.drop_drop, Nat.add_comm]
      rw [rt_ok er ea]
      refine ⟨h4, n + p', ?_, ((a2.trans b2.wk).trans Fr.set).trans d2.wk, d4, by simpa using dd, by omega⟩
      have eU : O.ins 1 [(("data" : Str), D.tup (B data)), ("place", .int ((n + p' : Nat) : Int))] = U data (n + p') := rfl
      simp only [meth_u e (fun _ _ => no_rl), a1, a3, in_place, in_data, lk_data, lk_place, ep, ec, b1, ba, c3, put_place, show ((1 ∈ cs_place) ∧ (0 + 1 + 1 < 1000)) = True from eq_true ⟨of_eq_true in_place, by decide⟩, show (True ∧ (2 < 1000)) = True from eq_true ⟨trivial, by decide⟩, eU, d1, ej, DD.bind_ok, DD.bind_exc, DD.toS_ok, DD.toS_exc, DD.bindL_ok, DD.bindL_exc, DD.lbind_ok, DD.lbind_exc, DD.bindE_ok, DD.bindE_exc, DD.sbind_nx, DD.sbind_rt, DD.sbind_exc, DD.sbind_bk, DD.sbind_ct, DD.ret_nx, DD.ret_rt, DD.ret_exc, DD.varM_0, DD.varM_1, DD.varM_2, DD.varM_3, DD.varM_4, DD.varM_5, DD.cM_e, DD.binM_e, DD.unM_e, DD.seqM_e, DD.setM_e, DD.exprM_e, DD.retM_e, DD.raiseM_e, DD.passM_e, DD.brkM_e, DD.ifSM_e, DD.ifM_e, DD.andM_e, DD.orM_e, DD.notM_e, DD.nilM_e, DD.consM_e, DD.callM_e, DD.tupM_e, DD.lstM_e, DD.bmM_e, DD.smM_e, DD.asgM_e, DD.subG_e, DD.nameG_e, DD.slM_e, DD.om_none, DD.om_some, DD.fldSetM_e, DD.toldM_e, DD.add_ii, DD.add_tt, DD.sub_ii, DD.mul_ii, DD.lt_ii, DD.le_ii, DD.gt_ii, DD.ge_ii, DD.fdiv_ii, DD.mod_ii, DD.eq_ii, DD.ne_ii, DD.eq_ss, DD.ne_ss, DD.fld_e, DD.len_t, DD.len_s, DD.append_e, DD.extend_t, DD.extend_r, DD.tup_r, DD.it_t, DD.sl_t, DD.callF, List.length_append, List.length_cons, List.length_nil, List.append_nil, Nat.reduceAdd, List.set_cons_zero, List.set_cons_succ, ↓reduceIte, Bool.not_true, Bool.not_false, Nat.zero_le]
end K15
end

section
set_option Elab.async false
set_option linter.all false
set_option maxRecDepth 100000
set_option maxHeartbeats 2000000
namespace K15
open PySem L2 DD
def decs (f : List Nat → Option (Va × List Nat)) : Nat → List Nat → Option (List Va × List Nat)
  | 0, bs => some ([], bs)
  | k + 1, bs => match f bs with
    | none => none
    | some (v, r) => match decs f k r with
      | none => none
      | some (vs, r') => some (v :: vs, r')
def decM (f : List Nat → Option (Va × List Nat)) (m : Nat) (r : List Nat) : Option (Va × List Nat) :=
  if m = 1 then some (.non, r) else if m = 2 then some (.bl true, r) else if m = 3 then some (.bl false, r) else
  if m = 4 then (rn r).map fun q => (.int (q.1 : Int), q.2) else if m = 5 then (rn r).map fun q => (.int (0 - (q.1 : Int) - 1), q.2) else
  if m = 6 then (rt r).map fun q => (.txt q.1, q.2) else
  if m = 7 then (match rl r with
    | none => none
    | some (k, r') => (decs f k r').map fun q => (.row q.1, q.2)) else none
/-- what the bytes read as, a row's depth being d -/
def dec : Nat → Nat → List Nat → Option (Va × List Nat)
  | 0, _, _ => none
  | n + 1, d, bs => if d > 30 then none else match bs with
    | [] => none
    | m :: r => decM (dec n (d + 1)) m r
theorem dec_deep {n d : Nat} {bs : List Nat} (h : d > 30) : dec (n + 1) d bs = none := by simp only [dec, if_pos h]
theorem dec_nil {n d : Nat} (h : ¬ d > 30) : dec (n + 1) d [] = none := by simp only [dec, if_neg h]
theorem dec_cons {n d m : Nat} {r : List Nat} (h : ¬ d > 30) : dec (n + 1) d (m :: r) = decM (dec n (d + 1)) m r := by simp only [dec, if_neg h]
theorem eq_nat {m c : Nat} : ((m : Int) == (c : Int)) = decide (m = c) := by
  by_cases h : m = c
  · subst h; simp
  · rw [decide_eq_false h]; exact beq_eq_false_iff_ne.mpr (by omega)
theorem rng1_e {j : Nat} {h : AH} (hj : j < 16777216) : rngIt1 (.int (j : Int)) h = some (rngL 0 j, fun _ => true) := by
  simp only [rngIt1]
  rw [if_pos (by constructor <;> omega)]
  simp
theorem lcM_of {e : EM} {items : D → AH → Option (List D × (AH → Bool))} {f : TM} {mc : Option EM} {me : EM} {own : List Nat} {τ : SL} {h h1 : AH} {d : D} {ds : List D} {live : AH → Bool} (e1 : e τ h = .ok d h1) (e2 : items d h1 = some (ds, live)) :
    lcM e items f mc me own τ h = lcLoop live f mc me own τ h1.length ds (h1 ++ [.lst []]) := by
  rw [lcM_e, e1, bind_ok, e2]
theorem Rd1.shift {β : Type} {o : EO} {f : β → D} {u p : Nat} {data : List Nat} {h : AH} {q : Option (β × List Nat)} (r : Rd1 o f u data (h.set u (U data p)) q) : Rd1 o f u data h q := by
  unfold Rd1 at r ⊢
  split at r
  · obtain ⟨h', a, b⟩ := r
    exact ⟨h', a, Fr.set.trans b⟩
  · obtain ⟨h', p', a, b, c⟩ := r
    exact ⟨h', p', a, Fr.set.trans b, c⟩
theorem row_loop {data : List Nat} {u d m p' : Nat} {h' : AH} {R : List D → AH → EO} {f : List Nat → Option (Va × List Nat)} (a3 : h'[u]? = some (U data p'))
    (ih : ∀ (p1 : Nat) (h1 : AH), h1[u]? = some (U data p1) → p1 ≤ data.length → Rd1 (R [.ref u, .int ((d + 1 : Nat) : Int)] h1) Va.toD u data h1 (f (data.drop p1))) :
    ∀ (ds : List D) (acc : List D) (h1 : AH) (p1 : Nat), h1[u]? = some (U data p1) → p1 ≤ data.length → h1[h'.length]? = some (.lst acc) → Fr (some u) h' h1 → acc.length + ds.length ≤ 16000000 →
                Rd1 (lcLoop (fun _ => true) (nameG 3) none (methF "read_value" 1 2 [] R (varM 0) (consM (binM (varM 1) (cM (.int 1)) addM) nilM)) [3] [some (.ref u), some (.int d), some (.int m), none] h'.length ds h1) (fun _ : List Va => D.ref h'.length) u data h' (decs f ds.length (data.drop p1)) ∧
                ∀ vs r2, decs f ds.length (data.drop p1) = some (vs, r2) → ∃ h2, lcLoop (fun _ => true) (nameG 3) none (methF "read_value" 1 2 [] R (varM 0) (consM (binM (varM 1) (cM (.int 1)) addM) nilM)) [3] [some (.ref u), some (.int d), some (.int m), none] h'.length ds h1 = .ok (.ref h'.length) h2 ∧ h2[h'.length]? = some (.lst (acc ++ toDs vs)) := by
  intro ds
  induction ds with
  | nil =>
    intro acc h1 p1 b1 b2 b3 b4 b5
    refine ⟨⟨h1, p1, rfl, b4, b1, rfl, b2⟩, fun vs r2 hv => ?_⟩
    cases hv
    exact ⟨h1, rfl, by simpa [toDs] using b3⟩
  | cons x ds ihd =>
    intro acc h1 p1 b1 b2 b3 b4 b5
    simp only [List.length_cons] at b5
    have kk := ih p1 h1 b1 b2
    have ed1 : ((d : Int) + 1) = ((d + 1 : Nat) : Int) := by omega
    have el : methF "read_value" 1 2 [] R (varM 0) (consM (binM (varM 1) (cM (.int 1)) addM) nilM) [some (.ref u), some (.int d), some (.int m), some x] h1 = R [.ref u, .int ((d + 1 : Nat) : Int)] h1 := by
      rw [meth_u b1 (fun _ _ => no_rv)]
      simp only [ed1, DD.bind_ok, DD.bind_exc, DD.toS_ok, DD.toS_exc, DD.bindL_ok, DD.bindL_exc, DD.lbind_ok, DD.lbind_exc, DD.bindE_ok, DD.bindE_exc, DD.sbind_nx, DD.sbind_rt, DD.sbind_exc, DD.sbind_bk, DD.sbind_ct, DD.ret_nx, DD.ret_rt, DD.ret_exc, DD.varM_0, DD.varM_1, DD.varM_2, DD.varM_3, DD.varM_4, DD.varM_5, DD.cM_e, DD.binM_e, DD.unM_e, DD.seqM_e, DD.setM_e, DD.exprM_e, DD.retM_e, DD.raiseM_e, DD.passM_e, DD.brkM_e, DD.ifSM_e, DD.ifM_e, DD.andM_e, DD.orM_e, DD.notM_e, DD.nilM_e, DD.consM_e, DD.callM_e, DD.tupM_e, DD.lstM_e, DD.bmM_e, DD.smM_e, DD.asgM_e, DD.subG_e, DD.nameG_e, DD.slM_e, DD.om_none, DD.om_some, DD.fldSetM_e, DD.toldM_e, DD.add_ii, DD.add_tt, DD.sub_ii, DD.mul_ii, DD.lt_ii, DD.le_ii, DD.gt_ii, DD.ge_ii, DD.fdiv_ii, DD.mod_ii, DD.eq_ii, DD.ne_ii, DD.eq_ss, DD.ne_ss, DD.fld_e, DD.len_t, DD.len_s, DD.append_e, DD.extend_t, DD.extend_r, DD.tup_r, DD.it_t, DD.sl_t, DD.callF, List.length_append, List.length_cons, List.length_nil, List.append_nil, Nat.reduceAdd, List.set_cons_zero, List.set_cons_succ, ↓reduceIte, Bool.not_true, Bool.not_false, Nat.zero_le]
    have hLu : h'.length ≠ u := by
      have := lt_of_get a3
      omega
    simp only [List.length_cons, decs]
    rw [lc_cons]
    show Rd1 ((EO.ok (.bl true) h1).bind _) _ _ _ _ _ ∧ ∀ vs r2, _ → ∃ h2, (EO.ok (.bl true) h1).bind _ = _ ∧ _
    have ew : (wipeD [some (D.ref u), some (D.int d), some (D.int m), none] [3]).set 3 (some x) = [some (.ref u), some (.int d), some (.int m), some x] := rfl
    rw [ew]
    simp only [bind_ok, el]
    cases ev : f (data.drop p1) with
    | none =>
      rw [ev] at kk
      obtain ⟨h2, c1, c2⟩ := kk
      refine ⟨⟨h2, by rw [c1]; rfl, b4.trans c2⟩, fun vs r2 hv => by cases hv⟩
    | some q =>
      obtain ⟨v, r2⟩ := q
      rw [ev] at kk
      obtain ⟨h2, p2, c1, c2, c3, c4, c5⟩ := kk
      have g2 : h2[h'.length]? = some (.lst acc) := c2.get b3 (by simpa using hLu)
      have hu2 : (h2.set h'.length (.lst (acc ++ [v.toD])))[u]? = some (U data p2) := by rw [get_set_ne hLu]; exact c3
      obtain ⟨r1, r2'⟩ := ihd (acc ++ [v.toD]) (h2.set h'.length (.lst (acc ++ [v.toD]))) p2 hu2 c5 (get_set (lt_of_get g2)) ((b4.trans c2).setN (Nat.le_refl _)) (by simp only [List.length_append, List.length_cons, List.length_nil]; omega)
      rw [c4] at r1 r2'
      rw [c1]
      simp only [bind_ok, g2, show (acc.length < sizeLine) = True from eq_true (by rw [sizeLine_eq]; omega), ↓reduceIte]
      cases es : decs f ds.length r2 with
      | none =>
        rw [es] at r1
        exact ⟨r1, fun vs r3 hv => by cases hv⟩
      | some q =>
        obtain ⟨vs, r3⟩ := q
        rw [es] at r1
        refine ⟨r1, fun vs' r3' hv => ?_⟩
        cases hv
        obtain ⟨h4, w1, w2⟩ := r2' vs r3 es
        exact ⟨h4, w1, by rw [w2]; simp [toDs]⟩
theorem val_run {data : List Nat} {u : Nat} (hz : data.length ≤ 16000000) (hx : ∀ x ∈ data, x < 256) : ∀ (n d p : Nat) (h : AH), h[u]? = some (U data p) → p ≤ data.length → 32 ≤ d + n → d ≤ 31 →
    Rd1 (R_Unpacker_read_value n [.ref u, .int d] h) Va.toD u data h (dec n d (data.drop p)) := by
  have hxd : ∀ p, ∀ x ∈ data.drop p, x < 256 := fun p x hm => hx x (List.mem_of_mem_drop hm)
  intro n
  induction n with
  | zero => intro d p h _ _ h1 h2; omega
  | succ n ih =>
    intro d p h e hp h1 h2
    unfold R_Unpacker_read_value m_Unpacker_read_value
    have e0 : startD N_Unpacker_read_value.length [D.ref u, D.int d] = [some (.ref u), some (.int d), none, none] := rfl
    rw [e0]
    by_cases hd : d > 30
    · rw [dec_deep hd]
      refine ⟨h, ?_, Fr.refl⟩
      simp only [show decide ((30 : Int) < (d : Int)) = true from decide_eq_true (by omega), DD.bind_ok, DD.bind_exc, DD.toS_ok, DD.toS_exc, DD.bindL_ok, DD.bindL_exc, DD.lbind_ok, DD.lbind_exc, DD.bindE_ok, DD.bindE_exc, DD.sbind_nx, DD.sbind_rt, DD.sbind_exc, DD.sbind_bk, DD.sbind_ct, DD.ret_nx, DD.ret_rt, DD.ret_exc, DD.varM_0, DD.varM_1, DD.varM_2, DD.varM_3, DD.varM_4, DD.varM_5, DD.cM_e, DD.binM_e, DD.unM_e, DD.seqM_e, DD.setM_e, DD.exprM_e, DD.retM_e, DD.raiseM_e, DD.passM_e, DD.brkM_e, DD.ifSM_e, DD.ifM_e, DD.andM_e, DD.orM_e, DD.notM_e, DD.nilM_e, DD.consM_e, DD.callM_e, DD.tupM_e, DD.lstM_e, DD.bmM_e, DD.smM_e, DD.asgM_e, DD.subG_e, DD.nameG_e, DD.slM_e, DD.om_none, DD.om_some, DD.fldSetM_e, DD.toldM_e, DD.add_ii, DD.add_tt, DD.sub_ii, DD.mul_ii, DD.lt_ii, DD.le_ii, DD.gt_ii, DD.ge_ii, DD.fdiv_ii, DD.mod_ii, DD.eq_ii, DD.ne_ii, DD.eq_ss, DD.ne_ss, DD.fld_e, DD.len_t, DD.len_s, DD.append_e, DD.extend_t, DD.extend_r, DD.tup_r, DD.it_t, DD.sl_t, DD.callF, List.length_append, List.length_cons, List.length_nil, List.append_nil, Nat.reduceAdd, List.set_cons_zero, List.set_cons_succ, ↓reduceIte, Bool.not_true, Bool.not_false, Nat.zero_le]
    · have hdd : decide ((30 : Int) < (d : Int)) = false := decide_eq_false (by omega)
      cases ed : data.drop p with
      | nil =>
        rw [dec_nil hd]
        refine ⟨h, ?_, Fr.refl⟩
        simp only [hdd, meth_u e (fun _ _ => no_rb), byte_end e ed, DD.bind_ok, DD.bind_exc, DD.toS_ok, DD.toS_exc, DD.bindL_ok, DD.bindL_exc, DD.lbind_ok, DD.lbind_exc, DD.bindE_ok, DD.bindE_exc, DD.sbind_nx, DD.sbind_rt, DD.sbind_exc, DD.sbind_bk, DD.sbind_ct, DD.ret_nx, DD.ret_rt, DD.ret_exc, DD.varM_0, DD.varM_1, DD.varM_2, DD.varM_3, DD.varM_4, DD.varM_5, DD.cM_e, DD.binM_e, DD.unM_e, DD.seqM_e, DD.setM_e, DD.exprM_e, DD.retM_e, DD.raiseM_e, DD.passM_e, DD.brkM_e, DD.ifSM_e, DD.ifM_e, DD.andM_e, DD.orM_e, DD.notM_e, DD.nilM_e, DD.consM_e, DD.callM_e, DD.tupM_e, DD.lstM_e, DD.bmM_e, DD.smM_e, DD.asgM_e, DD.subG_e, DD.nameG_e, DD.slM_e, DD.om_none, DD.om_some, DD.fldSetM_e, DD.toldM_e, DD.add_ii, DD.add_tt, DD.sub_ii, DD.mul_ii, DD.lt_ii, DD.le_ii, DD.gt_ii, DD.ge_ii, DD.fdiv_ii, DD.mod_ii, DD.eq_ii, DD.ne_ii, DD.eq_ss, DD.ne_ss, DD.fld_e, DD.len_t, DD.len_s, DD.append_e, DD.extend_t, DD.extend_r, DD.tup_r, DD.it_t, DD.sl_t, DD.callF, List.length_append, List.length_cons, List.length_nil, List.append_nil, Nat.reduceAdd, List.set_cons_zero, List.set_cons_succ, ↓reduceIte, Bool.not_true, Bool.not_false, Nat.zero_le]
      | cons m r =>
        rw [dec_cons hd]
        unfold decM
        obtain ⟨q1, _, q3, _⟩ := at_drop ed
        have hl := lt_of_get e
        have e2 : (h.set u (U data (p + 1)))[u]? = some (U data (p + 1)) := get_set hl
        have F1 : Fr (some u) h (h.set u (U data (p + 1))) := Fr.set
        have k1 : ((m : Int) == 1) = decide (m = 1) := eq_nat (c := 1)
        have k2 : ((m : Int) == 2) = decide (m = 2) := eq_nat (c := 2)
        have k3 : ((m : Int) == 3) = decide (m = 3) := eq_nat (c := 3)
        have k4 : ((m : Int) == 4) = decide (m = 4) := eq_nat (c := 4)
        have k5 : ((m : Int) == 5) = decide (m = 5) := eq_nat (c := 5)
        have k6 : ((m : Int) == 6) = decide (m = 6) := eq_nat (c := 6)
        have k7 : ((m : Int) == 7) = decide (m = 7) := eq_nat (c := 7)
        have rb := byte_run e ed
        have mb : ∀ t : SL, methF "read_byte" 1 1 [] F_Unpacker_read_byte (varM 0) nilM (some (.ref u) :: t) h = .ok (.int m) (h.set u (U data (p + 1))) := fun t => by
          rw [meth_u e (fun _ _ => no_rb)]
          simp only [rb, DD.bind_ok, DD.bind_exc, DD.toS_ok, DD.toS_exc, DD.bindL_ok, DD.bindL_exc, DD.lbind_ok, DD.lbind_exc, DD.bindE_ok, DD.bindE_exc, DD.sbind_nx, DD.sbind_rt, DD.sbind_exc, DD.sbind_bk, DD.sbind_ct, DD.ret_nx, DD.ret_rt, DD.ret_exc, DD.varM_0, DD.varM_1, DD.varM_2, DD.varM_3, DD.varM_4, DD.varM_5, DD.cM_e, DD.binM_e, DD.unM_e, DD.seqM_e, DD.setM_e, DD.exprM_e, DD.retM_e, DD.raiseM_e, DD.passM_e, DD.brkM_e, DD.ifSM_e, DD.ifM_e, DD.andM_e, DD.orM_e, DD.notM_e, DD.nilM_e, DD.consM_e, DD.callM_e, DD.tupM_e, DD.lstM_e, DD.bmM_e, DD.smM_e, DD.asgM_e, DD.subG_e, DD.nameG_e, DD.slM_e, DD.om_none, DD.om_some, DD.fldSetM_e, DD.toldM_e, DD.add_ii, DD.add_tt, DD.sub_ii, DD.mul_ii, DD.lt_ii, DD.le_ii, DD.gt_ii, DD.ge_ii, DD.fdiv_ii, DD.mod_ii, DD.eq_ii, DD.ne_ii, DD.eq_ss, DD.ne_ss, DD.fld_e, DD.len_t, DD.len_s, DD.append_e, DD.extend_t, DD.extend_r, DD.tup_r, DD.it_t, DD.sl_t, DD.callF, List.length_append, List.length_cons, List.length_nil, List.append_nil, Nat.reduceAdd, List.set_cons_zero, List.set_cons_succ, ↓reduceIte, Bool.not_true, Bool.not_false, Nat.zero_le]
        by_cases m1 : m = 1
        · rw [if_pos m1]
          refine ⟨_, p + 1, ?_, F1, e2, q3, q1⟩
          simp only [hdd, mb, k1, decide_eq_true m1, Va.toD, DD.bind_ok, DD.bind_exc, DD.toS_ok, DD.toS_exc, DD.bindL_ok, DD.bindL_exc, DD.lbind_ok, DD.lbind_exc, DD.bindE_ok, DD.bindE_exc, DD.sbind_nx, DD.sbind_rt, DD.sbind_exc, DD.sbind_bk, DD.sbind_ct, DD.ret_nx, DD.ret_rt, DD.ret_exc, DD.varM_0, DD.varM_1, DD.varM_2, DD.varM_3, DD.varM_4, DD.varM_5, DD.cM_e, DD.binM_e, DD.unM_e, DD.seqM_e, DD.setM_e, DD.exprM_e, DD.retM_e, DD.raiseM_e, DD.passM_e, DD.brkM_e, DD.ifSM_e, DD.ifM_e, DD.andM_e, DD.orM_e, DD.notM_e, DD.nilM_e, DD.consM_e, DD.callM_e, DD.tupM_e, DD.lstM_e, DD.bmM_e, DD.smM_e, DD.asgM_e, DD.subG_e, DD.nameG_e, DD.slM_e, DD.om_none, DD.om_some, DD.fldSetM_e, DD.toldM_e, DD.add_ii, DD.add_tt, DD.sub_ii, DD.mul_ii, DD.lt_ii, DD.le_ii, DD.gt_ii, DD.ge_ii, DD.fdiv_ii, DD.mod_ii, DD.eq_ii, DD.ne_ii, DD.eq_ss, DD.ne_ss, DD.fld_e, DD.len_t, DD.len_s, DD.append_e, DD.extend_t, DD.extend_r, DD.tup_r, DD.it_t, DD.sl_t, DD.callF, List.length_append, List.length_cons, List.length_nil, List.append_nil, Nat.reduceAdd, List.set_cons_zero, List.set_cons_succ, ↓reduceIte, Bool.not_true, Bool.not_false, Nat.zero_le]
        rw [if_neg m1]
        by_cases m2 : m = 2
        · rw [if_pos m2]
          refine ⟨_, p + 1, ?_, F1, e2, q3, q1⟩
          simp only [hdd, mb, k1, k2, decide_eq_false m1, decide_eq_true m2, Va.toD, DD.bind_ok, DD.bind_exc, DD.toS_ok, DD.toS_exc, DD.bindL_ok, DD.bindL_exc, DD.lbind_ok, DD.lbind_exc, DD.bindE_ok, DD.bindE_exc, DD.sbind_nx, DD.sbind_rt, DD.sbind_exc, DD.sbind_bk, DD.sbind_ct, DD.ret_nx, DD.ret_rt, DD.ret_exc, DD.varM_0, DD.varM_1, DD.varM_2, DD.varM_3, DD.varM_4, DD.varM_5, DD.cM_e, DD.binM_e, DD.unM_e, DD.seqM_e, DD.setM_e, DD.exprM_e, DD.retM_e, DD.raiseM_e, DD.passM_e, DD.brkM_e, DD.ifSM_e, DD.ifM_e, DD.andM_e, DD.orM_e, DD.notM_e, DD.nilM_e, DD.consM_e, DD.callM_e, DD.tupM_e, DD.lstM_e, DD.bmM_e, DD.smM_e, DD.asgM_e, DD.subG_e, DD.nameG_e, DD.slM_e, DD.om_none, DD.om_some, DD.fldSetM_e, DD.toldM_e, DD.add_ii, DD.add_tt, DD.sub_ii, DD.mul_ii, DD.lt_ii, DD.le_ii, DD.gt_ii, DD.ge_ii, DD.fdiv_ii, DD.mod_ii, DD.eq_ii, DD.ne_ii, DD.eq_ss, DD.ne_ss, DD.fld_e, DD.len_t, DD.len_s, DD.append_e, DD.extend_t, DD.extend_r, DD.tup_r, DD.it_t, DD.sl_t, DD.callF, List.length_append, List.length_cons, List.length_nil, List.append_nil, Nat.reduceAdd, List.set_cons_zero, List.set_cons_succ, ↓reduceIte, Bool.not_true, Bool.not_false, Nat.zero_le]
        rw [if_neg m2]
        by_cases m3 : m = 3
        · rw [if_pos m3]
          refine ⟨_, p + 1, ?_, F1, e2, q3, q1⟩
          simp only [hdd, mb, k1, k2, k3, decide_eq_false m1, decide_eq_false m2, decide_eq_true m3, Va.toD, DD.bind_ok, DD.bind_exc, DD.toS_ok, DD.toS_exc, DD.bindL_ok, DD.bindL_exc, DD.lbind_ok, DD.lbind_exc, DD.bindE_ok, DD.bindE_exc, DD.sbind_nx, DD.sbind_rt, DD.sbind_exc, DD.sbind_bk, DD.sbind_ct, DD.ret_nx, DD.ret_rt, DD.ret_exc, DD.varM_0, DD.varM_1, DD.varM_2, DD.varM_3, DD.varM_4, DD.varM_5, DD.cM_e, DD.binM_e, DD.unM_e, DD.seqM_e, DD.setM_e, DD.exprM_e, DD.retM_e, DD.raiseM_e, DD.passM_e, DD.brkM_e, DD.ifSM_e, DD.ifM_e, DD.andM_e, DD.orM_e, DD.notM_e, DD.nilM_e, DD.consM_e, DD.callM_e, DD.tupM_e, DD.lstM_e, DD.bmM_e, DD.smM_e, DD.asgM_e, DD.subG_e, DD.nameG_e, DD.slM_e, DD.om_none, DD.om_some, DD.fldSetM_e, DD.toldM_e, DD.add_ii, DD.add_tt, DD.sub_ii, DD.mul_ii, DD.lt_ii, DD.le_ii, DD.gt_ii, DD.ge_ii, DD.fdiv_ii, DD.mod_ii, DD.eq_ii, DD.ne_ii, DD.eq_ss, DD.ne_ss, DD.fld_e, DD.len_t, DD.len_s, DD.append_e, DD.extend_t, DD.extend_r, DD.tup_r, DD.it_t, DD.sl_t, DD.callF, List.length_append, List.length_cons, List.length_nil, List.append_nil, Nat.reduceAdd, List.set_cons_zero, List.set_cons_succ, ↓reduceIte, Bool.not_true, Bool.not_false, Nat.zero_le]
        rw [if_neg m3]
        by_cases m4 : m = 4
        · rw [if_pos m4]
          have k := rn_run e2 (hxd (p + 1))
          rw [q3] at k
          have mr : ∀ t : SL, methF "read_number" 1 1 [] F_Unpacker_read_number (varM 0) nilM (some (.ref u) :: t) (h.set u (U data (p + 1))) = F_Unpacker_read_number [.ref u] (h.set u (U data (p + 1))) := fun t => by
            rw [meth_u e2 (fun _ _ => no_rn)]
            simp only [DD.bind_ok, DD.bind_ok, DD.bind_exc, DD.toS_ok, DD.toS_exc, DD.bindL_ok, DD.bindL_exc, DD.lbind_ok, DD.lbind_exc, DD.bindE_ok, DD.bindE_exc, DD.sbind_nx, DD.sbind_rt, DD.sbind_exc, DD.sbind_bk, DD.sbind_ct, DD.ret_nx, DD.ret_rt, DD.ret_exc, DD.varM_0, DD.varM_1, DD.varM_2, DD.varM_3, DD.varM_4, DD.varM_5, DD.cM_e, DD.binM_e, DD.unM_e, DD.seqM_e, DD.setM_e, DD.exprM_e, DD.retM_e, DD.raiseM_e, DD.passM_e, DD.brkM_e, DD.ifSM_e, DD.ifM_e, DD.andM_e, DD.orM_e, DD.notM_e, DD.nilM_e, DD.consM_e, DD.callM_e, DD.tupM_e, DD.lstM_e, DD.bmM_e, DD.smM_e, DD.asgM_e, DD.subG_e, DD.nameG_e, DD.slM_e, DD.om_none, DD.om_some, DD.fldSetM_e, DD.toldM_e, DD.add_ii, DD.add_tt, DD.sub_ii, DD.mul_ii, DD.lt_ii, DD.le_ii, DD.gt_ii, DD.ge_ii, DD.fdiv_ii, DD.mod_ii, DD.eq_ii, DD.ne_ii, DD.eq_ss, DD.ne_ss, DD.fld_e, DD.len_t, DD.len_s, DD.append_e, DD.extend_t, DD.extend_r, DD.tup_r, DD.it_t, DD.sl_t, DD.callF, List.length_append, List.length_cons, List.length_nil, List.append_nil, Nat.reduceAdd, List.set_cons_zero, List.set_cons_succ, ↓reduceIte, Bool.not_true, Bool.not_false, Nat.zero_le]
          cases er : rn r with
          | none =>
            rw [er] at k
            obtain ⟨h', a1, a2⟩ := k
            refine ⟨h', ?_, F1.trans a2⟩
            simp only [hdd, mb, k1, k2, k3, k4, decide_eq_false m1, decide_eq_false m2, decide_eq_false m3, decide_eq_true m4, mr, a1, DD.bind_ok, DD.bind_exc, DD.toS_ok, DD.toS_exc, DD.bindL_ok, DD.bindL_exc, DD.lbind_ok, DD.lbind_exc, DD.bindE_ok, DD.bindE_exc, DD.sbind_nx, DD.sbind_rt, DD.sbind_exc, DD.sbind_bk, DD.sbind_ct, DD.ret_nx, DD.ret_rt, DD.ret_exc, DD.varM_0, DD.varM_1, DD.varM_2, DD.varM_3, DD.varM_4, DD.varM_5, DD.cM_e, DD.binM_e, DD.unM_e, DD.seqM_e, DD.setM_e, DD.exprM_e, DD.retM_e, DD.raiseM_e, DD.passM_e, DD.brkM_e, DD.ifSM_e, DD.ifM_e, DD.andM_e, DD.orM_e, DD.notM_e, DD.nilM_e, DD.consM_e, DD.callM_e, DD.tupM_e, DD.lstM_e, DD.bmM_e, DD.smM_e, DD.asgM_e, DD.subG_e, DD.nameG_e, DD.slM_e, DD.om_none, DD.om_some, DD.fldSetM_e, DD.toldM_e, DD.add_ii, DD.add_tt, DD.sub_ii, DD.mul_ii, DD.lt_ii, DD.le_ii, DD.gt_ii, DD.ge_ii, DD.fdiv_ii, DD.mod_ii, DD.eq_ii, DD.ne_ii, DD.eq_ss, DD.ne_ss, DD.fld_e, DD.len_t, DD.len_s, DD.append_e, DD.extend_t, DD.extend_r, DD.tup_r, DD.it_t, DD.sl_t, DD.callF, List.length_append, List.length_cons, List.length_nil, List.append_nil, Nat.reduceAdd, List.set_cons_zero, List.set_cons_succ, ↓reduceIte, Bool.not_true, Bool.not_false, Nat.zero_le]
          | some q =>
            rw [er] at k
            obtain ⟨h', p', a1, a2, a3⟩ := k
            refine ⟨h', p', ?_, F1.trans a2, a3⟩
            simp only [hdd, mb, k1, k2, k3, k4, decide_eq_false m1, decide_eq_false m2, decide_eq_false m3, decide_eq_true m4, mr, a1, Va.toD, DD.bind_ok, DD.bind_exc, DD.toS_ok, DD.toS_exc, DD.bindL_ok, DD.bindL_exc, DD.lbind_ok, DD.lbind_exc, DD.bindE_ok, DD.bindE_exc, DD.sbind_nx, DD.sbind_rt, DD.sbind_exc, DD.sbind_bk, DD.sbind_ct, DD.ret_nx, DD.ret_rt, DD.ret_exc, DD.varM_0, DD.varM_1, DD.varM_2, DD.varM_3, DD.varM_4, DD.varM_5, DD.cM_e, DD.binM_e, DD.unM_e, DD.seqM_e, DD.setM_e, DD.exprM_e, DD.retM_e, DD.raiseM_e, DD.passM_e, DD.brkM_e, DD.ifSM_e, DD.ifM_e, DD.andM_e, DD.orM_e, DD.notM_e, DD.nilM_e, DD.consM_e, DD.callM_e, DD.tupM_e, DD.lstM_e, DD.bmM_e, DD.smM_e, DD.asgM_e, DD.subG_e, DD.nameG_e, DD.slM_e, DD.om_none, DD.om_some, DD.fldSetM_e, DD.toldM_e, DD.add_ii, DD.add_tt, DD.sub_ii, DD.mul_ii, DD.lt_ii, DD.le_ii, DD.gt_ii, DD.ge_ii, DD.fdiv_ii, DD.mod_ii, DD.eq_ii, DD.ne_ii, DD.eq_ss, DD.ne_ss, DD.fld_e, DD.len_t, DD.len_s, DD.append_e, DD.extend_t, DD.extend_r, DD.tup_r, DD.it_t, DD.sl_t, DD.callF, List.length_append, List.length_cons, List.length_nil, List.append_nil, Nat.reduceAdd, List.set_cons_zero, List.set_cons_succ, ↓reduceIte, Bool.not_true, Bool.not_false, Nat.zero_le]
        rw [if_neg m4]
        by_cases m5 : m = 5
        · rw [if_pos m5]
          have k := rn_run e2 (hxd (p + 1))
          rw [q3] at k
          have mr : ∀ t : SL, methF "read_number" 1 1 [] F_Unpacker_read_number (varM 0) nilM (some (.ref u) :: t) (h.set u (U data (p + 1))) = F_Unpacker_read_number [.ref u] (h.set u (U data (p + 1))) := fun t => by
            rw [meth_u e2 (fun _ _ => no_rn)]
            simp only [DD.bind_ok, DD.bind_ok, DD.bind_exc, DD.toS_ok, DD.toS_exc, DD.bindL_ok, DD.bindL_exc, DD.lbind_ok, DD.lbind_exc, DD.bindE_ok, DD.bindE_exc, DD.sbind_nx, DD.sbind_rt, DD.sbind_exc, DD.sbind_bk, DD.sbind_ct, DD.ret_nx, DD.ret_rt, DD.ret_exc, DD.varM_0, DD.varM_1, DD.varM_2, DD.varM_3, DD.varM_4, DD.varM_5, DD.cM_e, DD.binM_e, DD.unM_e, DD.seqM_e, DD.setM_e, DD.exprM_e, DD.retM_e, DD.raiseM_e, DD.passM_e, DD.brkM_e, DD.ifSM_e, DD.ifM_e, DD.andM_e, DD.orM_e, DD.notM_e, DD.nilM_e, DD.consM_e, DD.callM_e, DD.tupM_e, DD.lstM_e, DD.bmM_e, DD.smM_e, DD.asgM_e, DD.subG_e, DD.nameG_e, DD.slM_e, DD.om_none, DD.om_some, DD.fldSetM_e, DD.toldM_e, DD.add_ii, DD.add_tt, DD.sub_ii, DD.mul_ii, DD.lt_ii, DD.le_ii, DD.gt_ii, DD.ge_ii, DD.fdiv_ii, DD.mod_ii, DD.eq_ii, DD.ne_ii, DD.eq_ss, DD.ne_ss, DD.fld_e, DD.len_t, DD.len_s, DD.append_e, DD.extend_t, DD.extend_r, DD.tup_r, DD.it_t, DD.sl_t, DD.callF, List.length_append, List.length_cons, List.length_nil, List.append_nil, Nat.reduceAdd, List.set_cons_zero, List.set_cons_succ, ↓reduceIte, Bool.not_true, Bool.not_false, Nat.zero_le]
          cases er : rn r with
          | none =>
            rw [er] at k
            obtain ⟨h', a1, a2⟩ := k
            refine ⟨h', ?_, F1.trans a2⟩
            simp only [hdd, mb, k1, k2, k3, k4, k5, decide_eq_false m1, decide_eq_false m2, decide_eq_false m3, decide_eq_false m4, decide_eq_true m5, mr, a1, DD.bind_ok, DD.bind_exc, DD.toS_ok, DD.toS_exc, DD.bindL_ok, DD.bindL_exc, DD.lbind_ok, DD.lbind_exc, DD.bindE_ok, DD.bindE_exc, DD.sbind_nx, DD.sbind_rt, DD.sbind_exc, DD.sbind_bk, DD.sbind_ct, DD.ret_nx, DD.ret_rt, DD.ret_exc, DD.varM_0, DD.varM_1, DD.varM_2, DD.varM_3, DD.varM_4, DD.varM_5, DD.cM_e, DD.binM_e, DD.unM_e, DD.seqM_e, DD.setM_e, DD.exprM_e, DD.retM_e, DD.raiseM_e, DD.passM_e, DD.brkM_e, DD.ifSM_e, DD.ifM_e, DD.andM_e, DD.orM_e, DD.notM_e, DD.nilM_e, DD.consM_e, DD.callM_e, DD.tupM_e, DD.lstM_e, DD.bmM_e, DD.smM_e, DD.asgM_e, DD.subG_e, DD.nameG_e, DD.slM_e, DD.om_none, DD.om_some, DD.fldSetM_e, DD.toldM_e, DD.add_ii, DD.add_tt, DD.sub_ii, DD.mul_ii, DD.lt_ii, DD.le_ii, DD.gt_ii, DD.ge_ii, DD.fdiv_ii, DD.mod_ii, DD.eq_ii, DD.ne_ii, DD.eq_ss, DD.ne_ss, DD.fld_e, DD.len_t, DD.len_s, DD.append_e, DD.extend_t, DD.extend_r, DD.tup_r, DD.it_t, DD.sl_t, DD.callF, List.length_append, List.length_cons, List.length_nil, List.append_nil, Nat.reduceAdd, List.set_cons_zero, List.set_cons_succ, ↓reduceIte, Bool.not_true, Bool.not_false, Nat.zero_le]
          | some q =>
            rw [er] at k
            obtain ⟨h', p', a1, a2, a3⟩ := k
            refine ⟨h', p', ?_, F1.trans a2, a3⟩
            simp only [hdd, mb, k1, k2, k3, k4, k5, decide_eq_false m1, decide_eq_false m2, decide_eq_false m3, decide_eq_false m4, decide_eq_true m5, mr, a1, Va.toD, DD.bind_ok, DD.bind_exc, DD.toS_ok, DD.toS_exc, DD.bindL_ok, DD.bindL_exc, DD.lbind_ok, DD.lbind_exc, DD.bindE_ok, DD.bindE_exc, DD.sbind_nx, DD.sbind_rt, DD.sbind_exc, DD.sbind_bk, DD.sbind_ct, DD.ret_nx, DD.ret_rt, DD.ret_exc, DD.varM_0, DD.varM_1, DD.varM_2, DD.varM_3, DD.varM_4, DD.varM_5, DD.cM_e, DD.binM_e, DD.unM_e, DD.seqM_e, DD.setM_e, DD.exprM_e, DD.retM_e, DD.raiseM_e, DD.passM_e, DD.brkM_e, DD.ifSM_e, DD.ifM_e, DD.andM_e, DD.orM_e, DD.notM_e, DD.nilM_e, DD.consM_e, DD.callM_e, DD.tupM_e, DD.lstM_e, DD.bmM_e, DD.smM_e, DD.asgM_e, DD.subG_e, DD.nameG_e, DD.slM_e, DD.om_none, DD.om_some, DD.fldSetM_e, DD.toldM_e, DD.add_ii, DD.add_tt, DD.sub_ii, DD.mul_ii, DD.lt_ii, DD.le_ii, DD.gt_ii, DD.ge_ii, DD.fdiv_ii, DD.mod_ii, DD.eq_ii, DD.ne_ii, DD.eq_ss, DD.ne_ss, DD.fld_e, DD.len_t, DD.len_s, DD.append_e, DD.extend_t, DD.extend_r, DD.tup_r, DD.it_t, DD.sl_t, DD.callF, List.length_append, List.length_cons, List.length_nil, List.append_nil, Nat.reduceAdd, List.set_cons_zero, List.set_cons_succ, ↓reduceIte, Bool.not_true, Bool.not_false, Nat.zero_le]
        rw [if_neg m5]
        by_cases m6 : m = 6
        · rw [if_pos m6]
          have k := rt_run e2 (hxd (p + 1)) hz
          rw [q3] at k
          have mr : ∀ t : SL, methF "read_text" 1 1 [] F_Unpacker_read_text (varM 0) nilM (some (.ref u) :: t) (h.set u (U data (p + 1))) = F_Unpacker_read_text [.ref u] (h.set u (U data (p + 1))) := fun t => by
            rw [meth_u e2 (fun _ _ => no_rt)]
            simp only [DD.bind_ok, DD.bind_ok, DD.bind_exc, DD.toS_ok, DD.toS_exc, DD.bindL_ok, DD.bindL_exc, DD.lbind_ok, DD.lbind_exc, DD.bindE_ok, DD.bindE_exc, DD.sbind_nx, DD.sbind_rt, DD.sbind_exc, DD.sbind_bk, DD.sbind_ct, DD.ret_nx, DD.ret_rt, DD.ret_exc, DD.varM_0, DD.varM_1, DD.varM_2, DD.varM_3, DD.varM_4, DD.varM_5, DD.cM_e, DD.binM_e, DD.unM_e, DD.seqM_e, DD.setM_e, DD.exprM_e, DD.retM_e, DD.raiseM_e, DD.passM_e, DD.brkM_e, DD.ifSM_e, DD.ifM_e, DD.andM_e, DD.orM_e, DD.notM_e, DD.nilM_e, DD.consM_e, DD.callM_e, DD.tupM_e, DD.lstM_e, DD.bmM_e, DD.smM_e, DD.asgM_e, DD.subG_e, DD.nameG_e, DD.slM_e, DD.om_none, DD.om_some, DD.fldSetM_e, DD.toldM_e, DD.add_ii, DD.add_tt, DD.sub_ii, DD.mul_ii, DD.lt_ii, DD.le_ii, DD.gt_ii, DD.ge_ii, DD.fdiv_ii, DD.mod_ii, DD.eq_ii, DD.ne_ii, DD.eq_ss, DD.ne_ss, DD.fld_e, DD.len_t, DD.len_s, DD.append_e, DD.extend_t, DD.extend_r, DD.tup_r, DD.it_t, DD.sl_t, DD.callF, List.length_append, List.length_cons, List.length_nil, List.append_nil, Nat.reduceAdd, List.set_cons_zero, List.set_cons_succ, ↓reduceIte, Bool.not_true, Bool.not_false, Nat.zero_le]
          cases er : rt r with
          | none =>
            rw [er] at k
            obtain ⟨h', a1, a2⟩ := k
            refine ⟨h', ?_, F1.trans a2⟩
            simp only [hdd, mb, k1, k2, k3, k4, k5, k6, decide_eq_false m1, decide_eq_false m2, decide_eq_false m3, decide_eq_false m4, decide_eq_false m5, decide_eq_true m6, mr, a1, DD.bind_ok, DD.bind_exc, DD.toS_ok, DD.toS_exc, DD.bindL_ok, DD.bindL_exc, DD.lbind_ok, DD.lbind_exc, DD.bindE_ok, DD.bindE_exc, DD.sbind_nx, DD.sbind_rt, DD.sbind_exc, DD.sbind_bk, DD.sbind_ct, DD.ret_nx, DD.ret_rt, DD.ret_exc, DD.varM_0, DD.varM_1, DD.varM_2, DD.varM_3, DD.varM_4, DD.varM_5, DD.cM_e, DD.binM_e, DD.unM_e, DD.seqM_e, DD.setM_e, DD.exprM_e, DD.retM_e, DD.raiseM_e, DD.passM_e, DD.brkM_e, DD.ifSM_e, DD.ifM_e, DD.andM_e, DD.orM_e, DD.notM_e, DD.nilM_e, DD.consM_e, DD.callM_e, DD.tupM_e, DD.lstM_e, DD.bmM_e, DD.smM_e, DD.asgM_e, DD.subG_e, DD.nameG_e, DD.slM_e, DD.om_none, DD.om_some, DD.fldSetM_e, DD.toldM_e, DD.add_ii, DD.add_tt, DD.sub_ii, DD.mul_ii, DD.lt_ii, DD.le_ii, DD.gt_ii, DD.ge_ii, DD.fdiv_ii, DD.mod_ii, DD.eq_ii, DD.ne_ii, DD.eq_ss, DD.ne_ss, DD.fld_e, DD.len_t, DD.len_s, DD.append_e, DD.extend_t, DD.extend_r, DD.tup_r, DD.it_t, DD.sl_t, DD.callF, List.length_append, List.length_cons, List.length_nil, List.append_nil, Nat.reduceAdd, List.set_cons_zero, List.set_cons_succ, ↓reduceIte, Bool.not_true, Bool.not_false, Nat.zero_le]
          | some q =>
            rw [er] at k
            obtain ⟨h', p', a1, a2, a3⟩ := k
            refine ⟨h', p', ?_, F1.trans a2, a3⟩
            simp only [hdd, mb, k1, k2, k3, k4, k5, k6, decide_eq_false m1, decide_eq_false m2, decide_eq_false m3, decide_eq_false m4, decide_eq_false m5, decide_eq_true m6, mr, a1, Va.toD, DD.bind_ok, DD.bind_exc, DD.toS_ok, DD.toS_exc, DD.bindL_ok, DD.bindL_exc, DD.lbind_ok, DD.lbind_exc, DD.bindE_ok, DD.bindE_exc, DD.sbind_nx, DD.sbind_rt, DD.sbind_exc, DD.sbind_bk, DD.sbind_ct, DD.ret_nx, DD.ret_rt, DD.ret_exc, DD.varM_0, DD.varM_1, DD.varM_2, DD.varM_3, DD.varM_4, DD.varM_5, DD.cM_e, DD.binM_e, DD.unM_e, DD.seqM_e, DD.setM_e, DD.exprM_e, DD.retM_e, DD.raiseM_e, DD.passM_e, DD.brkM_e, DD.ifSM_e, DD.ifM_e, DD.andM_e, DD.orM_e, DD.notM_e, DD.nilM_e, DD.consM_e, DD.callM_e, DD.tupM_e, DD.lstM_e, DD.bmM_e, DD.smM_e, DD.asgM_e, DD.subG_e, DD.nameG_e, DD.slM_e, DD.om_none, DD.om_some, DD.fldSetM_e, DD.toldM_e, DD.add_ii, DD.add_tt, DD.sub_ii, DD.mul_ii, DD.lt_ii, DD.le_ii, DD.gt_ii, DD.ge_ii, DD.fdiv_ii, DD.mod_ii, DD.eq_ii, DD.ne_ii, DD.eq_ss, DD.ne_ss, DD.fld_e, DD.len_t, DD.len_s, DD.append_e, DD.extend_t, DD.extend_r, DD.tup_r, DD.it_t, DD.sl_t, DD.callF, List.length_append, List.length_cons, List.length_nil, List.append_nil, Nat.reduceAdd, List.set_cons_zero, List.set_cons_succ, ↓reduceIte, Bool.not_true, Bool.not_false, Nat.zero_le]
        rw [if_neg m6]
        by_cases m7 : m = 7
        · rw [if_pos m7]
          have k := rl_run e2 (hxd (p + 1))
          rw [q3] at k
          have mr : ∀ t : SL, methF "read_length" 1 1 [] F_Unpacker_read_length (varM 0) nilM (some (.ref u) :: t) (h.set u (U data (p + 1))) = F_Unpacker_read_length [.ref u] (h.set u (U data (p + 1))) := fun t => by
            rw [meth_u e2 (fun _ _ => no_rl)]
            simp only [DD.bind_ok, DD.bind_ok, DD.bind_exc, DD.toS_ok, DD.toS_exc, DD.bindL_ok, DD.bindL_exc, DD.lbind_ok, DD.lbind_exc, DD.bindE_ok, DD.bindE_exc, DD.sbind_nx, DD.sbind_rt, DD.sbind_exc, DD.sbind_bk, DD.sbind_ct, DD.ret_nx, DD.ret_rt, DD.ret_exc, DD.varM_0, DD.varM_1, DD.varM_2, DD.varM_3, DD.varM_4, DD.varM_5, DD.cM_e, DD.binM_e, DD.unM_e, DD.seqM_e, DD.setM_e, DD.exprM_e, DD.retM_e, DD.raiseM_e, DD.passM_e, DD.brkM_e, DD.ifSM_e, DD.ifM_e, DD.andM_e, DD.orM_e, DD.notM_e, DD.nilM_e, DD.consM_e, DD.callM_e, DD.tupM_e, DD.lstM_e, DD.bmM_e, DD.smM_e, DD.asgM_e, DD.subG_e, DD.nameG_e, DD.slM_e, DD.om_none, DD.om_some, DD.fldSetM_e, DD.toldM_e, DD.add_ii, DD.add_tt, DD.sub_ii, DD.mul_ii, DD.lt_ii, DD.le_ii, DD.gt_ii, DD.ge_ii, DD.fdiv_ii, DD.mod_ii, DD.eq_ii, DD.ne_ii, DD.eq_ss, DD.ne_ss, DD.fld_e, DD.len_t, DD.len_s, DD.append_e, DD.extend_t, DD.extend_r, DD.tup_r, DD.it_t, DD.sl_t, DD.callF, List.length_append, List.length_cons, List.length_nil, List.append_nil, Nat.reduceAdd, List.set_cons_zero, List.set_cons_succ, ↓reduceIte, Bool.not_true, Bool.not_false, Nat.zero_le]
          cases er : rl r with
          | none =>
            rw [er] at k
            obtain ⟨h', a1, a2⟩ := k
            refine ⟨h', ?_, F1.trans a2⟩
            have LL : lcM (methF "read_length" 1 1 [] F_Unpacker_read_length (varM 0) nilM) rngIt1 (nameG 3) none (methF "read_value" 1 2 [] (R_Unpacker_read_value n) (varM 0) (consM (binM (varM 1) (cM (.int 1)) addM) nilM)) [3] [some (.ref u), some (.int d), some (.int m), none] (h.set u (U data (p + 1))) = .exc 0 h' := by
              rw [lcM_e, mr, a1, bind_exc]
            simp only [hdd, mb, k1, k2, k3, k4, k5, k6, k7, decide_eq_false m1, decide_eq_false m2, decide_eq_false m3, decide_eq_false m4, decide_eq_false m5, decide_eq_false m6, decide_eq_true m7, LL, DD.bind_ok, DD.bind_exc, DD.toS_ok, DD.toS_exc, DD.bindL_ok, DD.bindL_exc, DD.lbind_ok, DD.lbind_exc, DD.bindE_ok, DD.bindE_exc, DD.sbind_nx, DD.sbind_rt, DD.sbind_exc, DD.sbind_bk, DD.sbind_ct, DD.ret_nx, DD.ret_rt, DD.ret_exc, DD.varM_0, DD.varM_1, DD.varM_2, DD.varM_3, DD.varM_4, DD.varM_5, DD.cM_e, DD.binM_e, DD.unM_e, DD.seqM_e, DD.setM_e, DD.exprM_e, DD.retM_e, DD.raiseM_e, DD.passM_e, DD.brkM_e, DD.ifSM_e, DD.ifM_e, DD.andM_e, DD.orM_e, DD.notM_e, DD.nilM_e, DD.consM_e, DD.callM_e, DD.tupM_e, DD.lstM_e, DD.bmM_e, DD.smM_e, DD.asgM_e, DD.subG_e, DD.nameG_e, DD.slM_e, DD.om_none, DD.om_some, DD.fldSetM_e, DD.toldM_e, DD.add_ii, DD.add_tt, DD.sub_ii, DD.mul_ii, DD.lt_ii, DD.le_ii, DD.gt_ii, DD.ge_ii, DD.fdiv_ii, DD.mod_ii, DD.eq_ii, DD.ne_ii, DD.eq_ss, DD.ne_ss, DD.fld_e, DD.len_t, DD.len_s, DD.append_e, DD.extend_t, DD.extend_r, DD.tup_r, DD.it_t, DD.sl_t, DD.callF, List.length_append, List.length_cons, List.length_nil, List.append_nil, Nat.reduceAdd, List.set_cons_zero, List.set_cons_succ, ↓reduceIte, Bool.not_true, Bool.not_false, Nat.zero_le]
          | some q =>
            obtain ⟨c, r'⟩ := q
            rw [er] at k
            obtain ⟨h', p', a1, a2, a3, a4, a5⟩ := k
            have hcr : c ≤ r'.length := by
              unfold rl at er
              split at er
              · cases er
              · split at er
                · cases er
                · cases er; omega
            have hrl : r'.length ≤ data.length := by rw [← a4, List.length_drop]; omega
            have hc7 : c < 16777216 := Nat.lt_of_le_of_lt (Nat.le_trans hcr (Nat.le_trans hrl hz)) (by decide)
            have hc8 : 0 + c ≤ 16000000 := by rw [Nat.zero_add]; exact Nat.le_trans hcr (Nat.le_trans hrl hz)
            have loop := row_loop (R := R_Unpacker_read_value n) (f := dec n (d + 1)) (d := d) (m := m) a3 fun p1 h1 b1 b2 => ih (d + 1) p1 h1 b1 b2 (by omega) (by omega)
            have hlen : (rngL 0 c).length = c := rngL_length
            have hg3 : (h' ++ [O.lst []])[u]? = some (U data p') := get_app a3
            obtain ⟨l1, l2⟩ := loop (rngL 0 c) [] (h' ++ [.lst []]) p' hg3 a5 get_new Fr.app (by rw [hlen]; exact hc8)
            rw [hlen, a4] at l1 l2
            show Rd1 _ Va.toD u data h ((decs (dec n (d + 1)) c r').map fun q => (Va.row q.1, q.2))
            cases es : decs (dec n (d + 1)) c r' with
            | none =>
              rw [es] at l1
              obtain ⟨h2, c1, c2⟩ := l1
              refine ⟨h2, ?_, (F1.trans a2).trans c2⟩
              have LL : lcM (methF "read_length" 1 1 [] F_Unpacker_read_length (varM 0) nilM) rngIt1 (nameG 3) none (methF "read_value" 1 2 [] (R_Unpacker_read_value n) (varM 0) (consM (binM (varM 1) (cM (.int 1)) addM) nilM)) [3] [some (.ref u), some (.int d), some (.int m), none] (h.set u (U data (p + 1))) = .exc 0 h2 := by
                exact (lcM_of ((mr _).trans a1) (rng1_e (j := c) (h := h') hc7)).trans c1
              simp only [hdd, mb, k1, k2, k3, k4, k5, k6, k7, decide_eq_false m1, decide_eq_false m2, decide_eq_false m3, decide_eq_false m4, decide_eq_false m5, decide_eq_false m6, decide_eq_true m7, LL, DD.bind_ok, DD.bind_exc, DD.toS_ok, DD.toS_exc, DD.bindL_ok, DD.bindL_exc, DD.lbind_ok, DD.lbind_exc, DD.bindE_ok, DD.bindE_exc, DD.sbind_nx, DD.sbind_rt, DD.sbind_exc, DD.sbind_bk, DD.sbind_ct, DD.ret_nx, DD.ret_rt, DD.ret_exc, DD.varM_0, DD.varM_1, DD.varM_2, DD.varM_3, DD.varM_4, DD.varM_5, DD.cM_e, DD.binM_e, DD.unM_e, DD.seqM_e, DD.setM_e, DD.exprM_e, DD.retM_e, DD.raiseM_e, DD.passM_e, DD.brkM_e, DD.ifSM_e, DD.ifM_e, DD.andM_e, DD.orM_e, DD.notM_e, DD.nilM_e, DD.consM_e, DD.callM_e, DD.tupM_e, DD.lstM_e, DD.bmM_e, DD.smM_e, DD.asgM_e, DD.subG_e, DD.nameG_e, DD.slM_e, DD.om_none, DD.om_some, DD.fldSetM_e, DD.toldM_e, DD.add_ii, DD.add_tt, DD.sub_ii, DD.mul_ii, DD.lt_ii, DD.le_ii, DD.gt_ii, DD.ge_ii, DD.fdiv_ii, DD.mod_ii, DD.eq_ii, DD.ne_ii, DD.eq_ss, DD.ne_ss, DD.fld_e, DD.len_t, DD.len_s, DD.append_e, DD.extend_t, DD.extend_r, DD.tup_r, DD.it_t, DD.sl_t, DD.callF, List.length_append, List.length_cons, List.length_nil, List.append_nil, Nat.reduceAdd, List.set_cons_zero, List.set_cons_succ, ↓reduceIte, Bool.not_true, Bool.not_false, Nat.zero_le]
            | some q =>
              obtain ⟨vs, r3⟩ := q
              rw [es] at l1
              obtain ⟨h2, p2, c1, c2, c3⟩ := l1
              obtain ⟨h2', d1, d2⟩ := l2 vs r3 es
              rw [c1] at d1
              cases d1
              refine ⟨h2, p2, ?_, (F1.trans a2).trans c2, c3⟩
              rw [List.nil_append] at d2
              have LL : lcM (methF "read_length" 1 1 [] F_Unpacker_read_length (varM 0) nilM) rngIt1 (nameG 3) none (methF "read_value" 1 2 [] (R_Unpacker_read_value n) (varM 0) (consM (binM (varM 1) (cM (.int 1)) addM) nilM)) [3] [some (.ref u), some (.int d), some (.int m), none] (h.set u (U data (p + 1))) = .ok (.ref h'.length) h2 := by
                exact (lcM_of ((mr _).trans a1) (rng1_e (j := c) (h := h') hc7)).trans c1
              simp only [hdd, mb, k1, k2, k3, k4, k5, k6, k7, decide_eq_false m1, decide_eq_false m2, decide_eq_false m3, decide_eq_false m4, decide_eq_false m5, decide_eq_false m6, decide_eq_true m7, LL, d2, Va.toD, DD.bind_ok, DD.bind_exc, DD.toS_ok, DD.toS_exc, DD.bindL_ok, DD.bindL_exc, DD.lbind_ok, DD.lbind_exc, DD.bindE_ok, DD.bindE_exc, DD.sbind_nx, DD.sbind_rt, DD.sbind_exc, DD.sbind_bk, DD.sbind_ct, DD.ret_nx, DD.ret_rt, DD.ret_exc, DD.varM_0, DD.varM_1, DD.varM_2, DD.varM_3, DD.varM_4, DD.varM_5, DD.cM_e, DD.binM_e, DD.unM_e, DD.seqM_e, DD.setM_e, DD.exprM_e, DD.retM_e, DD.raiseM_e, DD.passM_e, DD.brkM_e, DD.ifSM_e, DD.ifM_e, DD.andM_e, DD.orM_e, DD.notM_e, DD.nilM_e, DD.consM_e, DD.callM_e, DD.tupM_e, DD.lstM_e, DD.bmM_e, DD.smM_e, DD.asgM_e, DD.subG_e, DD.nameG_e, DD.slM_e, DD.om_none, DD.om_some, DD.fldSetM_e, DD.toldM_e, DD.add_ii, DD.add_tt, DD.sub_ii, DD.mul_ii, DD.lt_ii, DD.le_ii, DD.gt_ii, DD.ge_ii, DD.fdiv_ii, DD.mod_ii, DD.eq_ii, DD.ne_ii, DD.eq_ss, DD.ne_ss, DD.fld_e, DD.len_t, DD.len_s, DD.append_e, DD.extend_t, DD.extend_r, DD.tup_r, DD.it_t, DD.sl_t, DD.callF, List.length_append, List.length_cons, List.length_nil, List.append_nil, Nat.reduceAdd, List.set_cons_zero, List.set_cons_succ, ↓reduceIte, Bool.not_true, Bool.not_false, Nat.zero_le]
        · rw [if_neg m7]
          refine ⟨_, ?_, F1⟩
          simp only [hdd, mb, k1, k2, k3, k4, k5, k6, k7, decide_eq_false m1, decide_eq_false m2, decide_eq_false m3, decide_eq_false m4, decide_eq_false m5, decide_eq_false m6, decide_eq_false m7, DD.bind_ok, DD.bind_exc, DD.toS_ok, DD.toS_exc, DD.bindL_ok, DD.bindL_exc, DD.lbind_ok, DD.lbind_exc, DD.bindE_ok, DD.bindE_exc, DD.sbind_nx, DD.sbind_rt, DD.sbind_exc, DD.sbind_bk, DD.sbind_ct, DD.ret_nx, DD.ret_rt, DD.ret_exc, DD.varM_0, DD.varM_1, DD.varM_2, DD.varM_3, DD.varM_4, DD.varM_5, DD.cM_e, DD.binM_e, DD.unM_e, DD.seqM_e, DD.setM_e, DD.exprM_e, DD.retM_e, DD.raiseM_e, DD.passM_e, DD.brkM_e, DD.ifSM_e, DD.ifM_e, DD.andM_e, DD.orM_e, DD.notM_e, DD.nilM_e, DD.consM_e, DD.callM_e, DD.tupM_e, DD.lstM_e, DD.bmM_e, DD.smM_e, DD.asgM_e, DD.subG_e, DD.nameG_e, DD.slM_e, DD.om_none, DD.om_some, DD.fldSetM_e, DD.toldM_e, DD.add_ii, DD.add_tt, DD.sub_ii, DD.mul_ii, DD.lt_ii, DD.le_ii, DD.gt_ii, DD.ge_ii, DD.fdiv_ii, DD.mod_ii, DD.eq_ii, DD.ne_ii, DD.eq_ss, DD.ne_ss, DD.fld_e, DD.len_t, DD.len_s, DD.append_e, DD.extend_t, DD.extend_r, DD.tup_r, DD.it_t, DD.sl_t, DD.callF, List.length_append, List.length_cons, List.length_nil, List.append_nil, Nat.reduceAdd, List.set_cons_zero, List.set_cons_succ, ↓reduceIte, Bool.not_true, Bool.not_false, Nat.zero_le]
/-- unpack(bytes) -/
def un (bs : List Nat) : Option Va := match dec 40 0 bs with
  | some (v, []) => some v
  | _ => none
theorem un_none {bs : List Nat} (e : dec 40 0 bs = none) : un bs = none := by simp only [un, e]
theorem un_more {bs r : List Nat} {v : Va} {x : Nat} (e : dec 40 0 bs = some (v, x :: r)) : un bs = none := by simp only [un, e]
theorem un_ok {bs : List Nat} {v : Va} (e : dec 40 0 bs = some (v, [])) : un bs = some v := by simp only [un, e]
theorem un_run (bs : List Nat) (h : AH) (hz : bs.length ≤ 16000000) (hx : ∀ x ∈ bs, x < 256) : match un bs with
    | none => ∃ h', F_unpack [.tup (B bs)] h = .exc 0 h' ∧ Fr none h h'
    | some v => ∃ h', F_unpack [.tup (B bs)] h = .ok v.toD h' ∧ Fr none h h' := by
  have fr : ∀ {h' : AH}, Fr (some h.length) (h ++ [U bs 0]) h' → Fr none h h' := fun {h'} a => ⟨by have := a.1; simp at this; omega, fun i hi _ => by
    rw [a.2 i (by simp; omega) (by simp; omega), List.getElem?_append_left hi]⟩
  have k := val_run (data := bs) (u := h.length) hz hx 40 0 0 (h ++ [U bs 0]) get_new (Nat.zero_le _) (by omega) (by omega)
  have e0 : startD N_unpack.length [D.tup (B bs)] = [some (.tup (B bs)), none, none] := rfl
  have ei : F_Unpacker_init [.ref h.length, .tup (B bs)] (h ++ [O.ins 1 []]) = .ok .non (h ++ [U bs 0]) := by
    unfold F_Unpacker_init m_Unpacker_init
    have e1 : startD N_Unpacker_init.length [D.ref h.length, D.tup (B bs)] = [some (.ref h.length), some (.tup (B bs))] := rfl
    rw [e1]
    have p2 : putD "place" (.int 0) [(("data" : Str), D.tup (B bs))] = [(("data" : Str), D.tup (B bs)), ("place", .int 0)] := put2
    simp only [get_new, set_new, put1, p2, show ((1 ∈ cs_data) ∧ (0 < 1000)) = True from eq_true ⟨of_eq_true in_data, by decide⟩, show ((1 ∈ cs_place) ∧ (1 < 1000)) = True from eq_true ⟨of_eq_true in_place, by decide⟩, show ((1 ∈ cs_place) ∧ (0 + 1 < 1000)) = True from eq_true ⟨of_eq_true in_place, by decide⟩, DD.bind_ok, DD.bind_exc, DD.toS_ok, DD.toS_exc, DD.bindL_ok, DD.bindL_exc, DD.lbind_ok, DD.lbind_exc, DD.bindE_ok, DD.bindE_exc, DD.sbind_nx, DD.sbind_rt, DD.sbind_exc, DD.sbind_bk, DD.sbind_ct, DD.ret_nx, DD.ret_rt, DD.ret_exc, DD.varM_0, DD.varM_1, DD.varM_2, DD.varM_3, DD.varM_4, DD.varM_5, DD.cM_e, DD.binM_e, DD.unM_e, DD.seqM_e, DD.setM_e, DD.exprM_e, DD.retM_e, DD.raiseM_e, DD.passM_e, DD.brkM_e, DD.ifSM_e, DD.ifM_e, DD.andM_e, DD.orM_e, DD.notM_e, DD.nilM_e, DD.consM_e, DD.callM_e, DD.tupM_e, DD.lstM_e, DD.bmM_e, DD.smM_e, DD.asgM_e, DD.subG_e, DD.nameG_e, DD.slM_e, DD.om_none, DD.om_some, DD.fldSetM_e, DD.toldM_e, DD.add_ii, DD.add_tt, DD.sub_ii, DD.mul_ii, DD.lt_ii, DD.le_ii, DD.gt_ii, DD.ge_ii, DD.fdiv_ii, DD.mod_ii, DD.eq_ii, DD.ne_ii, DD.eq_ss, DD.ne_ss, DD.fld_e, DD.len_t, DD.len_s, DD.append_e, DD.extend_t, DD.extend_r, DD.tup_r, DD.it_t, DD.sl_t, DD.callF, List.length_append, List.length_cons, List.length_nil, List.append_nil, Nat.reduceAdd, List.set_cons_zero, List.set_cons_succ, ↓reduceIte, Bool.not_true, Bool.not_false, Nat.zero_le]
    rfl
  have em : makeF 1 2 [] F_Unpacker_init [.tup (B bs)] h = .ok (.ref h.length) (h ++ [U bs 0]) := by
    unfold makeF
    simp only [ei, DD.bind_ok, DD.bind_exc, DD.toS_ok, DD.toS_exc, DD.bindL_ok, DD.bindL_exc, DD.lbind_ok, DD.lbind_exc, DD.bindE_ok, DD.bindE_exc, DD.sbind_nx, DD.sbind_rt, DD.sbind_exc, DD.sbind_bk, DD.sbind_ct, DD.ret_nx, DD.ret_rt, DD.ret_exc, DD.varM_0, DD.varM_1, DD.varM_2, DD.varM_3, DD.varM_4, DD.varM_5, DD.cM_e, DD.binM_e, DD.unM_e, DD.seqM_e, DD.setM_e, DD.exprM_e, DD.retM_e, DD.raiseM_e, DD.passM_e, DD.brkM_e, DD.ifSM_e, DD.ifM_e, DD.andM_e, DD.orM_e, DD.notM_e, DD.nilM_e, DD.consM_e, DD.callM_e, DD.tupM_e, DD.lstM_e, DD.bmM_e, DD.smM_e, DD.asgM_e, DD.subG_e, DD.nameG_e, DD.slM_e, DD.om_none, DD.om_some, DD.fldSetM_e, DD.toldM_e, DD.add_ii, DD.add_tt, DD.sub_ii, DD.mul_ii, DD.lt_ii, DD.le_ii, DD.gt_ii, DD.ge_ii, DD.fdiv_ii, DD.mod_ii, DD.eq_ii, DD.ne_ii, DD.eq_ss, DD.ne_ss, DD.fld_e, DD.len_t, DD.len_s, DD.append_e, DD.extend_t, DD.extend_r, DD.tup_r, DD.it_t, DD.sl_t, DD.callF, List.length_append, List.length_cons, List.length_nil, List.append_nil, Nat.reduceAdd, List.set_cons_zero, List.set_cons_succ, ↓reduceIte, Bool.not_true, Bool.not_false, Nat.zero_le]
  have mv : ∀ t : Option D, methF "read_value" 1 2 [] (R_Unpacker_read_value 40) (varM 1) (consM (cM (.int 0)) nilM) [some (.tup (B bs)), some (.ref h.length), t] (h ++ [U bs 0]) = R_Unpacker_read_value 40 [.ref h.length, .int 0] (h ++ [U bs 0]) := fun t => by
    rw [methF_e]
    have g : (h ++ [U bs 0])[h.length]? = some (.ins 1 [(("data" : Str), D.tup (B bs)), ("place", .int 0)]) := get_new
    simp only [varM_1, bind_ok, g, no_rv, and_self, ↓reduceIte]
    simp only [DD.bind_ok, DD.bind_ok, DD.bind_exc, DD.toS_ok, DD.toS_exc, DD.bindL_ok, DD.bindL_exc, DD.lbind_ok, DD.lbind_exc, DD.bindE_ok, DD.bindE_exc, DD.sbind_nx, DD.sbind_rt, DD.sbind_exc, DD.sbind_bk, DD.sbind_ct, DD.ret_nx, DD.ret_rt, DD.ret_exc, DD.varM_0, DD.varM_1, DD.varM_2, DD.varM_3, DD.varM_4, DD.varM_5, DD.cM_e, DD.binM_e, DD.unM_e, DD.seqM_e, DD.setM_e, DD.exprM_e, DD.retM_e, DD.raiseM_e, DD.passM_e, DD.brkM_e, DD.ifSM_e, DD.ifM_e, DD.andM_e, DD.orM_e, DD.notM_e, DD.nilM_e, DD.consM_e, DD.callM_e, DD.tupM_e, DD.lstM_e, DD.bmM_e, DD.smM_e, DD.asgM_e, DD.subG_e, DD.nameG_e, DD.slM_e, DD.om_none, DD.om_some, DD.fldSetM_e, DD.toldM_e, DD.add_ii, DD.add_tt, DD.sub_ii, DD.mul_ii, DD.lt_ii, DD.le_ii, DD.gt_ii, DD.ge_ii, DD.fdiv_ii, DD.mod_ii, DD.eq_ii, DD.ne_ii, DD.eq_ss, DD.ne_ss, DD.fld_e, DD.len_t, DD.len_s, DD.append_e, DD.extend_t, DD.extend_r, DD.tup_r, DD.it_t, DD.sl_t, DD.callF, List.length_append, List.length_cons, List.length_nil, List.append_nil, Nat.reduceAdd, List.set_cons_zero, List.set_cons_succ, ↓reduceIte, Bool.not_true, Bool.not_false, Nat.zero_le]
  unfold F_unpack m_unpack
  rw [e0]
  have k' : Rd1 (R_Unpacker_read_value 40 [.ref h.length, .int 0] (h ++ [U bs 0])) Va.toD h.length bs (h ++ [U bs 0]) (dec 40 0 bs) := k
  cases ed : dec 40 0 bs with
  | none =>
    rw [ed] at k'
    obtain ⟨h', a1, a2⟩ := k'
    rw [un_none ed]
    refine ⟨h', ?_, fr a2⟩
    simp only [em, mv, a1, DD.bind_ok, DD.bind_exc, DD.toS_ok, DD.toS_exc, DD.bindL_ok, DD.bindL_exc, DD.lbind_ok, DD.lbind_exc, DD.bindE_ok, DD.bindE_exc, DD.sbind_nx, DD.sbind_rt, DD.sbind_exc, DD.sbind_bk, DD.sbind_ct, DD.ret_nx, DD.ret_rt, DD.ret_exc, DD.varM_0, DD.varM_1, DD.varM_2, DD.varM_3, DD.varM_4, DD.varM_5, DD.cM_e, DD.binM_e, DD.unM_e, DD.seqM_e, DD.setM_e, DD.exprM_e, DD.retM_e, DD.raiseM_e, DD.passM_e, DD.brkM_e, DD.ifSM_e, DD.ifM_e, DD.andM_e, DD.orM_e, DD.notM_e, DD.nilM_e, DD.consM_e, DD.callM_e, DD.tupM_e, DD.lstM_e, DD.bmM_e, DD.smM_e, DD.asgM_e, DD.subG_e, DD.nameG_e, DD.slM_e, DD.om_none, DD.om_some, DD.fldSetM_e, DD.toldM_e, DD.add_ii, DD.add_tt, DD.sub_ii, DD.mul_ii, DD.lt_ii, DD.le_ii, DD.gt_ii, DD.ge_ii, DD.fdiv_ii, DD.mod_ii, DD.eq_ii, DD.ne_ii, DD.eq_ss, DD.ne_ss, DD.fld_e, DD.len_t, DD.len_s, DD.append_e, DD.extend_t, DD.extend_r, DD.tup_r, DD.it_t, DD.sl_t, DD.callF, List.length_append, List.length_cons, List.length_nil, List.append_nil, Nat.reduceAdd, List.set_cons_zero, List.set_cons_succ, ↓reduceIte, Bool.not_true, Bool.not_false, Nat.zero_le]
  | some q =>
    obtain ⟨v, r⟩ := q
    rw [ed] at k'
    obtain ⟨h', p', a1, a2, a3, a4, a5⟩ := k'
    have hl : bs.length - p' = r.length := by rw [← a4, List.length_drop]
    unfold U at a3
    cases r with
    | nil =>
      rw [un_ok ed]
      refine ⟨h', ?_, fr a2⟩
      simp only [List.length_nil] at hl
      have : ((p' : Int) == ((bs.length : Nat) : Int)) = true := by rw [eq_nat]; exact decide_eq_true (by omega)
      simp only [em, mv, a1, a3, in_place, in_data, lk_data, lk_place, B_len, this, DD.bind_ok, DD.bind_exc, DD.toS_ok, DD.toS_exc, DD.bindL_ok, DD.bindL_exc, DD.lbind_ok, DD.lbind_exc, DD.bindE_ok, DD.bindE_exc, DD.sbind_nx, DD.sbind_rt, DD.sbind_exc, DD.sbind_bk, DD.sbind_ct, DD.ret_nx, DD.ret_rt, DD.ret_exc, DD.varM_0, DD.varM_1, DD.varM_2, DD.varM_3, DD.varM_4, DD.varM_5, DD.cM_e, DD.binM_e, DD.unM_e, DD.seqM_e, DD.setM_e, DD.exprM_e, DD.retM_e, DD.raiseM_e, DD.passM_e, DD.brkM_e, DD.ifSM_e, DD.ifM_e, DD.andM_e, DD.orM_e, DD.notM_e, DD.nilM_e, DD.consM_e, DD.callM_e, DD.tupM_e, DD.lstM_e, DD.bmM_e, DD.smM_e, DD.asgM_e, DD.subG_e, DD.nameG_e, DD.slM_e, DD.om_none, DD.om_some, DD.fldSetM_e, DD.toldM_e, DD.add_ii, DD.add_tt, DD.sub_ii, DD.mul_ii, DD.lt_ii, DD.le_ii, DD.gt_ii, DD.ge_ii, DD.fdiv_ii, DD.mod_ii, DD.eq_ii, DD.ne_ii, DD.eq_ss, DD.ne_ss, DD.fld_e, DD.len_t, DD.len_s, DD.append_e, DD.extend_t, DD.extend_r, DD.tup_r, DD.it_t, DD.sl_t, DD.callF, List.length_append, List.length_cons, List.length_nil, List.append_nil, Nat.reduceAdd, List.set_cons_zero, List.set_cons_succ, ↓reduceIte, Bool.not_true, Bool.not_false, Nat.zero_le]
    | cons x r =>
      rw [un_more ed]
      refine ⟨h', ?_, fr a2⟩
      simp only [List.length_cons] at hl
      have : ((p' : Int) == ((bs.length : Nat) : Int)) = false := by rw [eq_nat]; exact decide_eq_false (by omega)
      simp only [em, mv, a1, a3, in_place, in_data, lk_data, lk_place, B_len, this, DD.bind_ok, DD.bind_exc, DD.toS_ok, DD.toS_exc, DD.bindL_ok, DD.bindL_exc, DD.lbind_ok, DD.lbind_exc, DD.bindE_ok, DD.bindE_exc, DD.sbind_nx, DD.sbind_rt, DD.sbind_exc, DD.sbind_bk, DD.sbind_ct, DD.ret_nx, DD.ret_rt, DD.ret_exc, DD.varM_0, DD.varM_1, DD.varM_2, DD.varM_3, DD.varM_4, DD.varM_5, DD.cM_e, DD.binM_e, DD.unM_e, DD.seqM_e, DD.setM_e, DD.exprM_e, DD.retM_e, DD.raiseM_e, DD.passM_e, DD.brkM_e, DD.ifSM_e, DD.ifM_e, DD.andM_e, DD.orM_e, DD.notM_e, DD.nilM_e, DD.consM_e, DD.callM_e, DD.tupM_e, DD.lstM_e, DD.bmM_e, DD.smM_e, DD.asgM_e, DD.subG_e, DD.nameG_e, DD.slM_e, DD.om_none, DD.om_some, DD.fldSetM_e, DD.toldM_e, DD.add_ii, DD.add_tt, DD.sub_ii, DD.mul_ii, DD.lt_ii, DD.le_ii, DD.gt_ii, DD.ge_ii, DD.fdiv_ii, DD.mod_ii, DD.eq_ii, DD.ne_ii, DD.eq_ss, DD.ne_ss, DD.fld_e, DD.len_t, DD.len_s, DD.append_e, DD.extend_t, DD.extend_r, DD.tup_r, DD.it_t, DD.sl_t, DD.callF, List.length_append, List.length_cons, List.length_nil, List.append_nil, Nat.reduceAdd, List.set_cons_zero, List.set_cons_succ, ↓reduceIte, Bool.not_true, Bool.not_false, Nat.zero_le]
end K15
end

section
set_option Elab.async false
set_option linter.all false
set_option maxRecDepth 100000
set_option maxHeartbeats 2000000
namespace K15
open PySem L2 DD
/-! ### what is written reads back -/
theorem nb_head (n : Nat) : ∃ b r, nb n = b :: r ∧ (b > 127 ↔ n > 127) ∧ (n > 127 → b = n % 128 + 128 ∧ r = nb (n / 128)) ∧ (¬ n > 127 → b = n ∧ r = []) := by
  by_cases h : n > 127
  · exact ⟨_, _, nb_big h, ⟨fun _ => h, fun _ => by omega⟩, fun _ => ⟨rfl, rfl⟩, fun z => absurd h z⟩
  · exact ⟨_, _, nb_small (by omega), ⟨fun z => z, fun z => z⟩, fun z => absurd z h, fun _ => ⟨rfl, rfl⟩⟩
theorem lp_nb : ∀ (n acc w : Nat) (r : List Nat) (b : Nat) (q : List Nat), nb n = b :: q → ∃ a w' c, lp acc w b (q ++ r) = some (a, w', c, r) ∧ a + c * w' = acc + n * w ∧ (c = 0 → n = 0 ∧ w' = w) := by
  intro n
  induction n using Nat.strongRecOn with
  | ind n ih =>
    intro acc w r b q e
    by_cases h : n > 127
    · rw [nb_big h] at e
      simp only [List.cons.injEq] at e
      obtain ⟨rfl, rfl⟩ := e
      obtain ⟨b2, q2, e2, _⟩ := nb_head (n / 128)
      obtain ⟨a, w', c, f1, f2, f3⟩ := ih (n / 128) (by omega) (acc + (n % 128 + 128 - 128) * w) (w * 128) r b2 q2 e2
      refine ⟨a, w', c, ?_, ?_, fun hc => ?_⟩
      · rw [e2, List.cons_append]
        unfold lp
        rw [if_pos (by omega)]
        exact f1
      · rw [f2]
        have : n = n / 128 * 128 + n % 128 := by omega
        have e3 : n * w = n / 128 * (w * 128) + n % 128 * w := by
          conv => lhs; rw [this]
          rw [Nat.add_mul, Nat.mul_assoc, Nat.mul_comm 128 w]
        rw [e3, Nat.add_sub_cancel]
        omega
      · obtain ⟨g1, _⟩ := f3 hc
        omega
    · rw [nb_small (by omega)] at e
      simp only [List.cons.injEq] at e
      obtain ⟨rfl, rfl⟩ := e
      refine ⟨acc, w, n, ?_, rfl, fun hc => ⟨hc, rfl⟩⟩
      rw [List.nil_append]
      cases r <;> (unfold lp; rw [if_neg h])
theorem rn_nb (n : Nat) (r : List Nat) : rn (nb n ++ r) = some (n, r) := by
  obtain ⟨b, q, e, _⟩ := nb_head n
  obtain ⟨a, w, c, f1, f2, f3⟩ := lp_nb n 0 1 r b q e
  rw [e, List.cons_append, rn_ok f1 (fun z => by have := (f3 z.1).2; omega)]
  congr 2
  omega
theorem rl_nb (n : Nat) (r : List Nat) (h : n ≤ r.length) : rl (nb n ++ r) = some (n, r) := by
  simp only [rl, rn_nb]
  rw [if_neg (by omega)]
theorem rt_T (ix r : List Nat) (h : ∀ i ∈ ix, i < 95) : rt (nb ix.length ++ (ix ++ r)) = some (ix, r) := by
  have e := rl_nb ix.length (ix ++ r) (by simp)
  have et : (ix ++ r).take ix.length = ix := by simp
  rw [rt_ok e (by
    rw [et, List.any_eq_false]
    intro x hx
    have := h x hx
    simp
    omega), et]
  simp
theorem enc_pos (v : Va) : 0 < (enc v).length := by
  cases v with
  | bl b => cases b <;> simp [enc]
  | int i => simp only [enc, nbI]; split <;> simp
  | _ => simp [enc]
theorem encs_len : ∀ vs : List Va, vs.length ≤ (encs vs).length
  | [] => by simp
  | v :: vs => by
    have := encs_len vs
    have := enc_pos v
    simp only [encs, List.length_append, List.length_cons]
    omega
theorem dec_enc : ∀ (n : Nat) (v : Va) (d : Nat) (r : List Nat), Wf v → dep v < n → d + dep v ≤ 30 → dec n d (enc v ++ r) = some (v, r) := by
  intro n
  induction n with
  | zero => intro v d r _ h; omega
  | succ n ih =>
    intro v d r wf hn hd
    have hd' : ¬ d > 30 := by omega
    cases v with
    | non => rw [show enc .non = [1] from by simp [enc]]; rw [List.cons_append, dec_cons hd']; rfl
    | bl b =>
      cases b with
      | true => rw [show enc (.bl true) = [2] from by simp [enc]]; rw [List.cons_append, dec_cons hd']; rfl
      | false => rw [show enc (.bl false) = [3] from by simp [enc]]; rw [List.cons_append, dec_cons hd']; rfl
    | int i =>
      rw [show enc (.int i) = nbI i from by simp [enc]]
      unfold nbI
      by_cases hi : 0 ≤ i
      · rw [if_pos hi, List.cons_append, dec_cons hd']
        show (rn (nb i.toNat ++ r)).map _ = _
        rw [rn_nb]
        simp only [Option.map_some, Option.some.injEq, Prod.mk.injEq, Va.int.injEq, and_true]
        omega
      · rw [if_neg hi, List.cons_append, dec_cons hd']
        show (rn (nb (0 - i - 1).toNat ++ r)).map _ = _
        rw [rn_nb]
        simp only [Option.map_some, Option.some.injEq, Prod.mk.injEq, Va.int.injEq, and_true]
        omega
    | txt ix =>
      rw [show enc (.txt ix) = 6 :: (nb ix.length ++ ix) from by simp [enc], List.cons_append, dec_cons hd', List.append_assoc]
      show (rt (nb ix.length ++ (ix ++ r))).map _ = _
      rw [rt_T ix r (by simpa [Wf] using wf)]
      rfl
    | row vs =>
      rw [show enc (.row vs) = 7 :: (nb vs.length ++ encs vs) from by simp [enc], List.cons_append, dec_cons hd', List.append_assoc]
      have items : ∀ (ws : List Va) (r : List Nat), Wfs ws → deps ws ≤ n → d + deps ws ≤ 30 → decs (dec n (d + 1)) ws.length (encs ws ++ r) = some (ws, r) := by
        intro ws
        induction ws with
        | nil => intro r _ _ _; simp [decs, encs]
        | cons w ws ihw =>
          intro r wfs h1 h2
          simp only [deps] at h1 h2
          simp only [Wfs] at wfs
          simp only [List.length_cons, decs, encs, List.append_assoc]
          rw [ih w (d + 1) (encs ws ++ r) wfs.1 (by omega) (by omega)]
          simp only []
          rw [ihw r wfs.2 (by omega) (by omega)]
      simp only [dep] at hn hd
      show (match rl (nb vs.length ++ (encs vs ++ r)) with
        | none => none
        | some (k, r') => (decs (dec n (d + 1)) k r').map fun (q : List Va × List Nat) => (Va.row q.1, q.2)) = _
      rw [rl_nb vs.length (encs vs ++ r) (by have := encs_len vs; simp; omega)]
      simp only []
      rw [items vs r (by simpa [Wf] using wf) (by omega) (by omega)]
      rfl
theorem un_enc (v : Va) (wf : Wf v) (h : dep v ≤ 30) : un (enc v) = some v := by
  have := dec_enc 40 v 0 [] wf (by omega) (by omega)
  rw [List.append_nil] at this
  exact un_ok this
/-! ### what reads is what would be written -/
theorem lp_back : ∀ (rest : List Nat) (acc w b a w' c : Nat) (r : List Nat), lp acc w b rest = some (a, w', c, r) → b < 256 → (∀ x ∈ rest, x < 256) → 0 < w →
    (w' = w ∨ w * 128 ≤ w') ∧ ((c ≠ 0 ∨ w' = w) → ∃ q, a + c * w' = acc + q * w ∧ b :: rest = nb q ++ r ∧ (c ≠ 0 → q ≠ 0)) := by
  intro rest
  induction rest with
  | nil =>
    intro acc w b a w' c r e hb hx hw
    unfold lp at e
    split at e
    · cases e
    · rename_i h
      cases e
      exact ⟨.inl rfl, fun _ => ⟨b, rfl, by rw [nb_small (by omega)]; rfl, fun z => z⟩⟩
  | cons y rest ih =>
    intro acc w b a w' c r e hb hx hw
    unfold lp at e
    split at e
    · rename_i h
      obtain ⟨g1, g2⟩ := ih _ _ _ _ _ _ _ e (hx y List.mem_cons_self) (fun x hm => hx x (List.mem_cons_of_mem _ hm)) (by omega)
      refine ⟨.inr (by omega), fun hc => ?_⟩
      have hc' : c ≠ 0 := by
        rcases hc with hc | hc
        · exact hc
        · omega
      obtain ⟨q, q1, q2, q3⟩ := g2 (.inl hc')
      have hq := q3 hc'
      refine ⟨(b - 128) + 128 * q, ?_, ?_, fun _ => by omega⟩
      · rw [q1, Nat.add_mul, Nat.add_assoc]
        congr 2
        rw [Nat.mul_comm 128 q, Nat.mul_assoc, Nat.mul_comm 128 w]
      · rw [nb_big (by omega), show (b - 128 + 128 * q) % 128 + 128 = b from by omega, show (b - 128 + 128 * q) / 128 = q from by omega, q2]
        rfl
    · rename_i h
      cases e
      exact ⟨.inl rfl, fun _ => ⟨b, rfl, by rw [nb_small (by omega)]; rfl, fun z => z⟩⟩
theorem rn_back {bs r : List Nat} {n : Nat} (e : rn bs = some (n, r)) (hx : ∀ x ∈ bs, x < 256) : bs = nb n ++ r := by
  cases bs with
  | nil => cases e
  | cons b rest =>
    cases el : lp 0 1 b rest with
    | none => rw [rn_none el] at e; cases e
    | some q =>
      obtain ⟨a, w, c, r'⟩ := q
      by_cases hc : c = 0 ∧ w > 1
      · rw [rn_bad el hc] at e; cases e
      · rw [rn_ok el hc] at e
        cases e
        obtain ⟨g1, g2⟩ := lp_back rest 0 1 b a w c r el (hx b List.mem_cons_self) (fun x hm => hx x (List.mem_cons_of_mem _ hm)) (by omega)
        have hc2 : c ≠ 0 ∨ w = 1 := by
          by_cases h0 : c = 0
          · right
            have : ¬ w > 1 := fun z => hc ⟨h0, z⟩
            omega
          · exact .inl h0
        obtain ⟨q, q1, q2, _⟩ := g2 hc2
        rw [q2]
        congr 2
        omega
theorem rl_back {bs r : List Nat} {n : Nat} (e : rl bs = some (n, r)) (hx : ∀ x ∈ bs, x < 256) : bs = nb n ++ r ∧ n ≤ r.length := by
  unfold rl at e
  split at e
  · cases e
  · rename_i k r' er
    split at e
    · cases e
    · cases e
      exact ⟨rn_back er hx, by omega⟩
theorem rt_back {bs r ix : List Nat} (e : rt bs = some (ix, r)) (hx : ∀ x ∈ bs, x < 256) : bs = nb ix.length ++ (ix ++ r) ∧ ∀ i ∈ ix, i < 95 := by
  unfold rt at e
  split at e
  · cases e
  · rename_i k r' er
    obtain ⟨g1, g2⟩ := rl_back er hx
    split at e
    · cases e
    · rename_i ha
      cases e
      refine ⟨?_, fun i hi => ?_⟩
      · rw [g1, List.take_append_drop, List.length_take, Nat.min_eq_left g2]
      · have ha' : ((r'.take k).any fun b => decide (95 ≤ b)) = false := by simpa using ha
        have := List.any_eq_false.mp ha' i hi
        simp at this
        omega
theorem dec_back : ∀ (n d : Nat) (bs r : List Nat) (v : Va), dec n d bs = some (v, r) → (∀ x ∈ bs, x < 256) → bs = enc v ++ r ∧ Wf v ∧ d + dep v ≤ 30 := by
  intro n
  induction n with
  | zero => intro d bs r v e; cases e
  | succ n ih =>
    intro d bs r v e hx
    by_cases hd : d > 30
    · rw [dec_deep hd] at e; cases e
    cases bs with
    | nil => rw [dec_nil hd] at e; cases e
    | cons m rest =>
      rw [dec_cons hd] at e
      have hx' : ∀ x ∈ rest, x < 256 := fun x hm => hx x (List.mem_cons_of_mem _ hm)
      unfold decM at e
      split at e
      · rename_i hm; cases e; subst hm; exact ⟨by simp [enc], by simp [Wf], by simp only [dep]; omega⟩
      split at e
      · rename_i hm; cases e; subst hm; exact ⟨by simp [enc], by simp [Wf], by simp only [dep]; omega⟩
      split at e
      · rename_i hm; cases e; subst hm; exact ⟨by simp [enc], by simp [Wf], by simp only [dep]; omega⟩
      split at e
      · rename_i hm
        rw [Option.map_eq_some_iff] at e
        obtain ⟨⟨k, r'⟩, e1, e2⟩ := e
        cases e2
        subst hm
        refine ⟨?_, by simp [Wf], by simp only [dep]; omega⟩
        rw [rn_back e1 hx']
        simp [enc, nbI]
      split at e
      · rename_i hm
        rw [Option.map_eq_some_iff] at e
        obtain ⟨⟨k, r'⟩, e1, e2⟩ := e
        cases e2
        subst hm
        refine ⟨?_, by simp [Wf], by simp only [dep]; omega⟩
        rw [rn_back e1 hx']
        have h1 : ¬ (0 : Int) ≤ 0 - (k : Int) - 1 := by omega
        have h2 : (0 - (0 - (k : Int) - 1) - 1).toNat = k := by omega
        simp only [enc, nbI]
        rw [if_neg h1, h2]
        rfl
      split at e
      · rename_i hm
        rw [Option.map_eq_some_iff] at e
        obtain ⟨⟨ix, r'⟩, e1, e2⟩ := e
        cases e2
        subst hm
        obtain ⟨g1, g2⟩ := rt_back e1 hx'
        refine ⟨?_, by simpa [Wf] using g2, by simp only [dep]; omega⟩
        rw [g1]
        simp [enc]
      split at e
      · rename_i hm
        subst hm
        cases er : rl rest with
        | none => rw [er] at e; cases e
        | some q =>
          obtain ⟨k, r'⟩ := q
          rw [er] at e
          simp only [Option.map_eq_some_iff] at e
          obtain ⟨⟨vs, r2⟩, e1, e2⟩ := e
          cases e2
          obtain ⟨g1, g2⟩ := rl_back er hx'
          have hx2 : ∀ x ∈ r', x < 256 := fun x hm => hx' x (by rw [g1]; exact List.mem_append_right _ hm)
          have items : ∀ (k : Nat) (b r : List Nat) (vs : List Va), decs (dec n (d + 1)) k b = some (vs, r) → (∀ x ∈ b, x < 256) → b = encs vs ++ r ∧ Wfs vs ∧ vs.length = k ∧ d + deps vs ≤ 30 := by
            intro k
            induction k with
            | zero => intro b r vs e _; cases e; exact ⟨by simp [encs], by simp [Wfs], rfl, by simp only [deps]; omega⟩
            | succ k ihk =>
              intro b r vs e hb
              simp only [decs] at e
              split at e
              · cases e
              · rename_i v r1 e1
                split at e
                · cases e
                · rename_i vs' r2 e2
                  cases e
                  obtain ⟨a1, a2, a3⟩ := ih (d + 1) b r1 v e1 hb
                  obtain ⟨b1, b2, b3, b4⟩ := ihk r1 r vs' e2 (fun x hm => hb x (by rw [a1]; exact List.mem_append_right _ hm))
                  refine ⟨?_, ⟨a2, b2⟩, by simp [b3], ?_⟩
                  · rw [a1, b1]; simp [encs]
                  · simp only [deps]; omega
          obtain ⟨i1, i2, i3, i4⟩ := items k r' r2 vs e1 hx2
          refine ⟨?_, by simpa [Wf] using i2, by simpa [dep] using i4⟩
          rw [g1, i1, ← i3]
          simp [enc]
      · cases e
theorem un_back {bs : List Nat} {v : Va} (e : un bs = some v) (hx : ∀ x ∈ bs, x < 256) : bs = enc v ∧ Wf v ∧ dep v ≤ 30 := by
  unfold un at e
  split at e
  · rename_i w ew
    cases e
    obtain ⟨g1, g2, g3⟩ := dec_back 40 0 bs [] v ew hx
    exact ⟨by simpa using g1, g2, by omega⟩
  · cases e
end K15
end

section
set_option Elab.async false
set_option linter.all false
set_option maxRecDepth 100000
set_option maxHeartbeats 2000000
namespace DD
open PySem L2
theorem plDs_B : ∀ x : List Nat, plDs (B x) = true
  | [] => rfl
  | a :: x => by show (plD (.int a) && plDs (B x)) = true; rw [plDs_B x]; rfl
theorem depDs_B : ∀ x : List Nat, depDs (B x) = 0
  | [] => rfl
  | a :: x => by show max (depD (.int a)) (depDs (B x)) = 0; rw [depDs_B x]; rfl
theorem eqDs_B : ∀ x y : List Nat, eqDs (B x) (B y) = decide (x = y)
  | [], [] => by simp [eqDs, B]
  | [], _ :: _ => by simp [eqDs, B]
  | _ :: _, [] => by simp [eqDs, B]
  | a :: x, b :: y => by
    show (eqD (.int a) (.int b) && eqDs (B x) (B y)) = _
    rw [eqDs_B x y]
    have : eqD (.int (a : Int)) (.int (b : Int)) = decide (a = b) := by
      show ((a : Int) == (b : Int)) = _
      by_cases h : a = b
      · subst h; simp
      · rw [decide_eq_false h]; exact beq_eq_false_iff_ne.mpr (by omega)
    rw [this]
    by_cases h1 : a = b <;> by_cases h2 : x = y <;> simp [h1, h2]
theorem ne_BB {x y : List Nat} {h : AH} : neM (.tup (B x)) (.tup (B y)) h = .ok (.bl (!decide (x = y))) h := by
  unfold neM eqB
  simp only [plD, plDs_B, depD, depDs_B, Bool.and_self, eqD, eqDs_B]
  rfl
theorem eq_BB {x y : List Nat} {h : AH} : eqM (.tup (B x)) (.tup (B y)) h = .ok (.bl (decide (x = y))) h := by
  unfold eqM eqB
  simp only [plD, plDs_B, depD, depDs_B, Bool.and_self, eqD, eqDs_B]
  rfl
theorem tryQ_nx {b : SM} {hs : List ((Nat → Option Bool) × SM)} {τ τ' : SL} {h h' : AH} (e : b τ h = .nx τ' h') : tryQ b hs τ h = .nx τ' h' := by
  simp only [tryQ, tryM, e]
end DD
namespace K15
open PySem L2 DD
def fr (v : Va) : List Nat := b4 (enc v).length ++ enc v ++ sm (enc v)
def frs : List Va → List Nat
  | [] => []
  | v :: vs => fr v ++ frs vs
theorem fr_len (v : Va) : (fr v).length = (enc v).length + 8 := by
  simp only [fr, List.length_append, b4_len, sm]
  omega
theorem frame_run (v : Va) (h : AH) (wf : Wf v) (hd : dep v ≤ 30) (hz : (enc v).length ≤ 15000000) : ∃ h', F_frame [v.toD] h = .ok (.tup (B (fr v))) h' ∧ Fr none h h' := by
  obtain ⟨h', a1, a2⟩ := pack_run v h wf hd (by omega)
  refine ⟨h', ?_, a2⟩
  unfold F_frame m_frame
  have e0 : startD N_frame.length [v.toD] = [some v.toD, none] := rfl
  rw [e0]
  have e1 : ∀ x : D, ([x] ++ [D.int 0]) = [x, .int 0] := fun _ => rfl
  have l1 : (B (b4 (enc v).length)).length = 4 := by rw [B_len, b4_len]
  have l2 : (B (sm (enc v))).length = 4 := by rw [B_len, sm, b4_len]
  have s1 : ((B (b4 (enc v).length)).length + (B (enc v)).length ≤ sizeLine) = True := eq_true (by rw [l1, B_len, sizeLine_eq]; omega)
  have s2 : ((B (b4 (enc v).length)).length + (B (enc v)).length + (B (sm (enc v))).length ≤ sizeLine) = True := eq_true (by rw [l1, l2, B_len, sizeLine_eq]; omega)
  have e3 : B (b4 (enc v).length) ++ B (enc v) ++ B (sm (enc v)) = B (fr v) := by unfold fr; rw [B_app, B_app]
  simp only [List.cons_append, List.nil_append, a1, B_len, four_run, sum_run, DD.bind_ok, DD.bind_exc, DD.toS_ok, DD.toS_exc, DD.bindL_ok, DD.bindL_exc, DD.lbind_ok, DD.lbind_exc, DD.bindE_ok, DD.bindE_exc, DD.sbind_nx, DD.sbind_rt, DD.sbind_exc, DD.sbind_bk, DD.sbind_ct, DD.ret_nx, DD.ret_rt, DD.ret_exc, DD.varM_0, DD.varM_1, DD.varM_2, DD.varM_3, DD.varM_4, DD.varM_5, DD.cM_e, DD.binM_e, DD.unM_e, DD.seqM_e, DD.setM_e, DD.exprM_e, DD.retM_e, DD.raiseM_e, DD.passM_e, DD.brkM_e, DD.ifSM_e, DD.ifM_e, DD.andM_e, DD.orM_e, DD.notM_e, DD.nilM_e, DD.consM_e, DD.callM_e, DD.tupM_e, DD.lstM_e, DD.bmM_e, DD.smM_e, DD.asgM_e, DD.subG_e, DD.nameG_e, DD.slM_e, DD.om_none, DD.om_some, DD.fldSetM_e, DD.toldM_e, DD.add_ii, DD.add_tt, DD.sub_ii, DD.mul_ii, DD.lt_ii, DD.le_ii, DD.gt_ii, DD.ge_ii, DD.fdiv_ii, DD.mod_ii, DD.eq_ii, DD.ne_ii, DD.eq_ss, DD.ne_ss, DD.fld_e, DD.len_t, DD.len_s, DD.append_e, DD.extend_t, DD.extend_r, DD.tup_r, DD.it_t, DD.sl_t, DD.callF, List.length_append, List.length_cons, List.length_nil, List.append_nil, Nat.reduceAdd, List.set_cons_zero, List.set_cons_succ, ↓reduceIte, Bool.not_true, Bool.not_false, Nat.zero_le]
  rw [if_pos (by simp [b4_len, B_len]; rw [sizeLine_eq]; omega)]
  simp only [sum_run, DD.bind_ok, DD.bind_exc, DD.toS_ok, DD.toS_exc, DD.bindL_ok, DD.bindL_exc, DD.lbind_ok, DD.lbind_exc, DD.bindE_ok, DD.bindE_exc, DD.sbind_nx, DD.sbind_rt, DD.sbind_exc, DD.sbind_bk, DD.sbind_ct, DD.ret_nx, DD.ret_rt, DD.ret_exc, DD.varM_0, DD.varM_1, DD.varM_2, DD.varM_3, DD.varM_4, DD.varM_5, DD.cM_e, DD.binM_e, DD.unM_e, DD.seqM_e, DD.setM_e, DD.exprM_e, DD.retM_e, DD.raiseM_e, DD.passM_e, DD.brkM_e, DD.ifSM_e, DD.ifM_e, DD.andM_e, DD.orM_e, DD.notM_e, DD.nilM_e, DD.consM_e, DD.callM_e, DD.tupM_e, DD.lstM_e, DD.bmM_e, DD.smM_e, DD.asgM_e, DD.subG_e, DD.nameG_e, DD.slM_e, DD.om_none, DD.om_some, DD.fldSetM_e, DD.toldM_e, DD.add_ii, DD.add_tt, DD.sub_ii, DD.mul_ii, DD.lt_ii, DD.le_ii, DD.gt_ii, DD.ge_ii, DD.fdiv_ii, DD.mod_ii, DD.eq_ii, DD.ne_ii, DD.eq_ss, DD.ne_ss, DD.fld_e, DD.len_t, DD.len_s, DD.append_e, DD.extend_t, DD.extend_r, DD.tup_r, DD.it_t, DD.sl_t, DD.callF, List.length_append, List.length_cons, List.length_nil, List.append_nil, Nat.reduceAdd, List.set_cons_zero, List.set_cons_succ, ↓reduceIte, Bool.not_true, Bool.not_false, Nat.zero_le]
  rw [if_pos (by simp [b4_len, B_len, sm]; rw [sizeLine_eq]; omega)]
  simp only [e3, DD.bind_ok, DD.bind_exc, DD.toS_ok, DD.toS_exc, DD.bindL_ok, DD.bindL_exc, DD.lbind_ok, DD.lbind_exc, DD.bindE_ok, DD.bindE_exc, DD.sbind_nx, DD.sbind_rt, DD.sbind_exc, DD.sbind_bk, DD.sbind_ct, DD.ret_nx, DD.ret_rt, DD.ret_exc, DD.varM_0, DD.varM_1, DD.varM_2, DD.varM_3, DD.varM_4, DD.varM_5, DD.cM_e, DD.binM_e, DD.unM_e, DD.seqM_e, DD.setM_e, DD.exprM_e, DD.retM_e, DD.raiseM_e, DD.passM_e, DD.brkM_e, DD.ifSM_e, DD.ifM_e, DD.andM_e, DD.orM_e, DD.notM_e, DD.nilM_e, DD.consM_e, DD.callM_e, DD.tupM_e, DD.lstM_e, DD.bmM_e, DD.smM_e, DD.asgM_e, DD.subG_e, DD.nameG_e, DD.slM_e, DD.om_none, DD.om_some, DD.fldSetM_e, DD.toldM_e, DD.add_ii, DD.add_tt, DD.sub_ii, DD.mul_ii, DD.lt_ii, DD.le_ii, DD.gt_ii, DD.ge_ii, DD.fdiv_ii, DD.mod_ii, DD.eq_ii, DD.ne_ii, DD.eq_ss, DD.ne_ss, DD.fld_e, DD.len_t, DD.len_s, DD.append_e, DD.extend_t, DD.extend_r, DD.tup_r, DD.it_t, DD.sl_t, DD.callF, List.length_append, List.length_cons, List.length_nil, List.append_nil, Nat.reduceAdd, List.set_cons_zero, List.set_cons_succ, ↓reduceIte, Bool.not_true, Bool.not_false, Nat.zero_le]
/-! ### the end of a record -/
def num4 (l : List Nat) : Nat := l.getD 0 0 * 16777216 + l.getD 1 0 * 65536 + l.getD 2 0 * 256 + l.getD 3 0
theorem num4_e (a b c d : Nat) : num4 [a, b, c, d] = a * 16777216 + b * 65536 + c * 256 + d := by
  unfold num4
  simp only [List.getD_cons_zero, List.getD_cons_succ]
def re (data : List Nat) (p : Nat) : Option Nat :=
  if p + 8 > data.length then none else
  if p + 8 + num4 ((data.drop p).take 4) > data.length then none else
  if sm ((data.drop (p + 4)).take (p + 8 + num4 ((data.drop p).take 4) - 4 - (p + 4))) = (data.drop (p + 8 + num4 ((data.drop p).take 4) - 4)).take 4 then some (p + 8 + num4 ((data.drop p).take 4)) else none
def endD : Option Nat → D
  | none => .non
  | some e => .int (e : Int)
/-- .. over any two functions that do as the program's do -/
theorem re_core {Fn Fs : List D → AH → EO} (hn : ∀ (a b c d : Nat) (h : AH), Fn [.tup (B [a, b, c, d])] h = .ok (.int (num4 [a, b, c, d] : Int)) h) (hs : ∀ (bs : List Nat) (h : AH), Fs [.tup (B bs)] h = .ok (.tup (B (sm bs))) h) (data : List Nat) (p : Nat) (h : AH) :
    retOf ((seqM (ifSM (binM (binM (varM 1) (cM (.int 8)) addM) (callM (consM (varM 0) nilM) lenF) gtM) (retM (cM .non)) passM)
      (seqM (setM 2 (binM (binM (varM 1) (cM (.int 8)) addM) (callM (consM (slM (varM 0) (.some (varM 1)) (.some (binM (varM 1) (cM (.int 4)) addM))) nilM) (callF 1 [] Fn)) addM))
      (seqM (ifSM (orM (binM (varM 2) (callM (consM (varM 0) nilM) lenF) gtM) (binM (callM (consM (slM (varM 0) (.some (binM (varM 1) (cM (.int 4)) addM)) (.some (binM (varM 2) (cM (.int 4)) subM))) nilM) (callF 1 [] Fs)) (slM (varM 0) (.some (binM (varM 2) (cM (.int 4)) subM)) (.some (varM 2))) neM)) (retM (cM .non)) passM)
      (retM (varM 2))))) [some (.tup (B data)), some (.int (p : Int)), none] h) = .ok (endD (re data p)) h := by
  unfold re
  generalize num4 = q4 at hn ⊢
  generalize sm = sm' at hs ⊢
  by_cases h1 : p + 8 > data.length
  · rw [if_pos h1]
    simp only [B_len, show decide (((data.length : Nat) : Int) < (p : Int) + 8) = true from decide_eq_true (by omega), DD.bind_ok, DD.bind_exc, DD.toS_ok, DD.toS_exc, DD.bindL_ok, DD.bindL_exc, DD.lbind_ok, DD.lbind_exc, DD.bindE_ok, DD.bindE_exc, DD.sbind_nx, DD.sbind_rt, DD.sbind_exc, DD.sbind_bk, DD.sbind_ct, DD.ret_nx, DD.ret_rt, DD.ret_exc, DD.varM_0, DD.varM_1, DD.varM_2, DD.varM_3, DD.varM_4, DD.varM_5, DD.cM_e, DD.binM_e, DD.unM_e, DD.seqM_e, DD.setM_e, DD.exprM_e, DD.retM_e, DD.raiseM_e, DD.passM_e, DD.brkM_e, DD.ifSM_e, DD.ifM_e, DD.andM_e, DD.orM_e, DD.notM_e, DD.nilM_e, DD.consM_e, DD.callM_e, DD.tupM_e, DD.lstM_e, DD.bmM_e, DD.smM_e, DD.asgM_e, DD.subG_e, DD.nameG_e, DD.slM_e, DD.om_none, DD.om_some, DD.fldSetM_e, DD.toldM_e, DD.add_ii, DD.add_tt, DD.sub_ii, DD.mul_ii, DD.lt_ii, DD.le_ii, DD.gt_ii, DD.ge_ii, DD.fdiv_ii, DD.mod_ii, DD.eq_ii, DD.ne_ii, DD.eq_ss, DD.ne_ss, DD.fld_e, DD.len_t, DD.len_s, DD.append_e, DD.extend_t, DD.extend_r, DD.tup_r, DD.it_t, DD.sl_t, DD.callF, List.length_append, List.length_cons, List.length_nil, List.append_nil, Nat.reduceAdd, List.set_cons_zero, List.set_cons_succ, ↓reduceIte, Bool.not_true, Bool.not_false, Nat.zero_le]
    rfl
  · rw [if_neg h1]
    have d1 : decide (((data.length : Nat) : Int) < (p : Int) + 8) = false := decide_eq_false (by omega)
    obtain ⟨a, b, c, d, e4⟩ : ∃ a b c d, (data.drop p).take 4 = [a, b, c, d] := by
      have hl : ((data.drop p).take 4).length = 4 := by rw [List.length_take, List.length_drop]; omega
      match hq : (data.drop p).take 4 with
      | [a, b, c, d] => exact ⟨a, b, c, d, rfl⟩
      | [] => rw [hq] at hl; simp at hl
      | [_] => rw [hq] at hl; simp at hl
      | [_, _] => rw [hq] at hl; simp at hl
      | [_, _, _] => rw [hq] at hl; simp at hl
      | _ :: _ :: _ :: _ :: _ :: _ => rw [hq] at hl; simp at hl
    have c1 : cutL (B data) (some (p : Int)) (some ((p : Int) + 4)) = B [a, b, c, d] := by
      have := @cut_nn D (B data) p (p + 4)
      rw [show ((p : Int) + 4) = ((p + 4 : Nat) : Int) from by omega, this, B_drop, B_take, show p + 4 - p = 4 from by omega, e4]
    have hr := hn a b c d
    rw [e4]
    generalize q4 [a, b, c, d] = N at hr ⊢
    have ee : ((p : Int) + 8 + (N : Int)) = ((p + 8 + N : Nat) : Int) := by omega
    by_cases h2 : p + 8 + N > data.length
    · rw [if_pos h2]
      simp only [B_len, d1, c1, hr, ee, show decide (((data.length : Nat) : Int) < ((p + 8 + N : Nat) : Int)) = true from decide_eq_true (by omega), DD.bind_ok, DD.bind_exc, DD.toS_ok, DD.toS_exc, DD.bindL_ok, DD.bindL_exc, DD.lbind_ok, DD.lbind_exc, DD.bindE_ok, DD.bindE_exc, DD.sbind_nx, DD.sbind_rt, DD.sbind_exc, DD.sbind_bk, DD.sbind_ct, DD.ret_nx, DD.ret_rt, DD.ret_exc, DD.varM_0, DD.varM_1, DD.varM_2, DD.varM_3, DD.varM_4, DD.varM_5, DD.cM_e, DD.binM_e, DD.unM_e, DD.seqM_e, DD.setM_e, DD.exprM_e, DD.retM_e, DD.raiseM_e, DD.passM_e, DD.brkM_e, DD.ifSM_e, DD.ifM_e, DD.andM_e, DD.orM_e, DD.notM_e, DD.nilM_e, DD.consM_e, DD.callM_e, DD.tupM_e, DD.lstM_e, DD.bmM_e, DD.smM_e, DD.asgM_e, DD.subG_e, DD.nameG_e, DD.slM_e, DD.om_none, DD.om_some, DD.fldSetM_e, DD.toldM_e, DD.add_ii, DD.add_tt, DD.sub_ii, DD.mul_ii, DD.lt_ii, DD.le_ii, DD.gt_ii, DD.ge_ii, DD.fdiv_ii, DD.mod_ii, DD.eq_ii, DD.ne_ii, DD.eq_ss, DD.ne_ss, DD.fld_e, DD.len_t, DD.len_s, DD.append_e, DD.extend_t, DD.extend_r, DD.tup_r, DD.it_t, DD.sl_t, DD.callF, List.length_append, List.length_cons, List.length_nil, List.append_nil, Nat.reduceAdd, List.set_cons_zero, List.set_cons_succ, ↓reduceIte, Bool.not_true, Bool.not_false, Nat.zero_le]
      rfl
    · rw [if_neg h2]
      have d2 : decide (((data.length : Nat) : Int) < ((p + 8 + N : Nat) : Int)) = false := decide_eq_false (by omega)
      have c2 : cutL (B data) (some ((p : Int) + 4)) (some (((p + 8 + N : Nat) : Int) - 4)) = B ((data.drop (p + 4)).take (p + 8 + N - 4 - (p + 4))) := by
        rw [show ((p : Int) + 4) = ((p + 4 : Nat) : Int) from by omega, show (((p + 8 + N : Nat) : Int) - 4) = ((p + 8 + N - 4 : Nat) : Int) from by omega, cut_nn, B_drop, B_take]
      have c3 : cutL (B data) (some (((p + 8 + N : Nat) : Int) - 4)) (some ((p + 8 + N : Nat) : Int)) = B ((data.drop (p + 8 + N - 4)).take 4) := by
        rw [show (((p + 8 + N : Nat) : Int) - 4) = ((p + 8 + N - 4 : Nat) : Int) from by omega, cut_nn, B_drop, B_take, show p + 8 + N - (p + 8 + N - 4) = 4 from by omega]
      by_cases h3 : sm' ((data.drop (p + 4)).take (p + 8 + N - 4 - (p + 4))) = (data.drop (p + 8 + N - 4)).take 4
      · rw [if_pos h3]
        simp only [B_len, d1, c1, hr, ee, d2, c2, c3, hs, ne_BB, decide_eq_true h3, DD.bind_ok, DD.bind_exc, DD.toS_ok, DD.toS_exc, DD.bindL_ok, DD.bindL_exc, DD.lbind_ok, DD.lbind_exc, DD.bindE_ok, DD.bindE_exc, DD.sbind_nx, DD.sbind_rt, DD.sbind_exc, DD.sbind_bk, DD.sbind_ct, DD.ret_nx, DD.ret_rt, DD.ret_exc, DD.varM_0, DD.varM_1, DD.varM_2, DD.varM_3, DD.varM_4, DD.varM_5, DD.cM_e, DD.binM_e, DD.unM_e, DD.seqM_e, DD.setM_e, DD.exprM_e, DD.retM_e, DD.raiseM_e, DD.passM_e, DD.brkM_e, DD.ifSM_e, DD.ifM_e, DD.andM_e, DD.orM_e, DD.notM_e, DD.nilM_e, DD.consM_e, DD.callM_e, DD.tupM_e, DD.lstM_e, DD.bmM_e, DD.smM_e, DD.asgM_e, DD.subG_e, DD.nameG_e, DD.slM_e, DD.om_none, DD.om_some, DD.fldSetM_e, DD.toldM_e, DD.add_ii, DD.add_tt, DD.sub_ii, DD.mul_ii, DD.lt_ii, DD.le_ii, DD.gt_ii, DD.ge_ii, DD.fdiv_ii, DD.mod_ii, DD.eq_ii, DD.ne_ii, DD.eq_ss, DD.ne_ss, DD.fld_e, DD.len_t, DD.len_s, DD.append_e, DD.extend_t, DD.extend_r, DD.tup_r, DD.it_t, DD.sl_t, DD.callF, List.length_append, List.length_cons, List.length_nil, List.append_nil, Nat.reduceAdd, List.set_cons_zero, List.set_cons_succ, ↓reduceIte, Bool.not_true, Bool.not_false, Nat.zero_le]
        rfl
      · rw [if_neg h3]
        simp only [B_len, d1, c1, hr, ee, d2, c2, c3, hs, ne_BB, decide_eq_false h3, DD.bind_ok, DD.bind_exc, DD.toS_ok, DD.toS_exc, DD.bindL_ok, DD.bindL_exc, DD.lbind_ok, DD.lbind_exc, DD.bindE_ok, DD.bindE_exc, DD.sbind_nx, DD.sbind_rt, DD.sbind_exc, DD.sbind_bk, DD.sbind_ct, DD.ret_nx, DD.ret_rt, DD.ret_exc, DD.varM_0, DD.varM_1, DD.varM_2, DD.varM_3, DD.varM_4, DD.varM_5, DD.cM_e, DD.binM_e, DD.unM_e, DD.seqM_e, DD.setM_e, DD.exprM_e, DD.retM_e, DD.raiseM_e, DD.passM_e, DD.brkM_e, DD.ifSM_e, DD.ifM_e, DD.andM_e, DD.orM_e, DD.notM_e, DD.nilM_e, DD.consM_e, DD.callM_e, DD.tupM_e, DD.lstM_e, DD.bmM_e, DD.smM_e, DD.asgM_e, DD.subG_e, DD.nameG_e, DD.slM_e, DD.om_none, DD.om_some, DD.fldSetM_e, DD.toldM_e, DD.add_ii, DD.add_tt, DD.sub_ii, DD.mul_ii, DD.lt_ii, DD.le_ii, DD.gt_ii, DD.ge_ii, DD.fdiv_ii, DD.mod_ii, DD.eq_ii, DD.ne_ii, DD.eq_ss, DD.ne_ss, DD.fld_e, DD.len_t, DD.len_s, DD.append_e, DD.extend_t, DD.extend_r, DD.tup_r, DD.it_t, DD.sl_t, DD.callF, List.length_append, List.length_cons, List.length_nil, List.append_nil, Nat.reduceAdd, List.set_cons_zero, List.set_cons_succ, ↓reduceIte, Bool.not_true, Bool.not_false, Nat.zero_le]
        rfl
theorem re_run (data : List Nat) (p : Nat) (h : AH) : F_record_end [.tup (B data), .int (p : Int)] h = .ok (endD (re data p)) h := by
  have hn : ∀ (a b c d : Nat) (h : AH), F_number_of_four [.tup (B [a, b, c, d])] h = .ok (.int (num4 [a, b, c, d] : Int)) h := fun a b c d h => by rw [nof_run, num4_e]
  exact re_core hn sum_run data p h
/-- at a whole record -/
theorem re_fr {data rest : List Nat} {p : Nat} {v : Va} (e : data.drop p = fr v ++ rest) (hz : (enc v).length < 4294967296) : re data p = some (p + (fr v).length) ∧ (data.drop (p + 4)).take (p + (fr v).length - 4 - (p + 4)) = enc v := by
  have hl : data.length - p = (fr v).length + rest.length := by rw [← List.length_drop, e, List.length_append]
  have hf := fr_len v
  have t4 : (data.drop p).take 4 = b4 (enc v).length := by
    rw [e, fr, List.append_assoc, List.append_assoc]
    exact List.take_left' (b4_len _)
  have n4 : num4 ((data.drop p).take 4) = (enc v).length := by
    rw [t4, b4, num4_e]
    exact b4_back _ hz
  have d4 : data.drop (p + 4) = enc v ++ (sm (enc v) ++ rest) := by
    rw [← List.drop_drop, e, fr, List.append_assoc, List.append_assoc]
    rw [List.drop_left' (b4_len _)]
  have k1 : (data.drop (p + 4)).take (p + 8 + (enc v).length - 4 - (p + 4)) = enc v := by
    rw [d4, show p + 8 + (enc v).length - 4 - (p + 4) = (enc v).length from by omega]
    exact List.take_left' rfl
  have k2 : (data.drop (p + 8 + (enc v).length - 4)).take 4 = sm (enc v) := by
    rw [show p + 8 + (enc v).length - 4 = p + 4 + (enc v).length from by omega, ← List.drop_drop, d4, List.drop_left' rfl]
    exact List.take_left' rfl
  refine ⟨?_, by rw [hf, show p + ((enc v).length + 8) - 4 - (p + 4) = p + 8 + (enc v).length - 4 - (p + 4) from by omega]; exact k1⟩
  unfold re
  rw [n4, if_neg (by omega), if_neg (by omega), k1, k2, if_pos rfl]
  congr 1
  omega
end K15
end

section
set_option Elab.async false
set_option linter.all false
set_option maxRecDepth 100000
set_option maxHeartbeats 2000000
namespace K15
open PySem L2 DD
theorem isnot_non {h : AH} : isnotM .non .non h = .ok (.bl false) h := rfl
theorem isnot_int {h : AH} {i : Int} : isnotM (.int i) .non h = .ok (.bl true) h := rfl
theorem fcond {h : AH} {a0 a1 a2 : Option D} {e : Option Nat} : read_frames_w0c [a0, a1, a2, some (endD e)] h = .ok (.bl e.isSome) h := by
  unfold read_frames_w0c
  cases e with
  | none => simp only [endD, isnot_non, DD.bind_ok, DD.bind_exc, DD.toS_ok, DD.toS_exc, DD.bindL_ok, DD.bindL_exc, DD.lbind_ok, DD.lbind_exc, DD.bindE_ok, DD.bindE_exc, DD.sbind_nx, DD.sbind_rt, DD.sbind_exc, DD.sbind_bk, DD.sbind_ct, DD.ret_nx, DD.ret_rt, DD.ret_exc, DD.varM_0, DD.varM_1, DD.varM_2, DD.varM_3, DD.varM_4, DD.varM_5, DD.cM_e, DD.binM_e, DD.unM_e, DD.seqM_e, DD.setM_e, DD.exprM_e, DD.retM_e, DD.raiseM_e, DD.passM_e, DD.brkM_e, DD.ifSM_e, DD.ifM_e, DD.andM_e, DD.orM_e, DD.notM_e, DD.nilM_e, DD.consM_e, DD.callM_e, DD.tupM_e, DD.lstM_e, DD.bmM_e, DD.smM_e, DD.asgM_e, DD.subG_e, DD.nameG_e, DD.slM_e, DD.om_none, DD.om_some, DD.fldSetM_e, DD.toldM_e, DD.add_ii, DD.add_tt, DD.sub_ii, DD.mul_ii, DD.lt_ii, DD.le_ii, DD.gt_ii, DD.ge_ii, DD.fdiv_ii, DD.mod_ii, DD.eq_ii, DD.ne_ii, DD.eq_ss, DD.ne_ss, DD.fld_e, DD.len_t, DD.len_s, DD.append_e, DD.extend_t, DD.extend_r, DD.tup_r, DD.it_t, DD.sl_t, DD.callF, List.length_append, List.length_cons, List.length_nil, List.append_nil, Nat.reduceAdd, List.set_cons_zero, List.set_cons_succ, ↓reduceIte, Bool.not_true, Bool.not_false, Nat.zero_le]; rfl
  | some e => simp only [endD, isnot_int, DD.bind_ok, DD.bind_exc, DD.toS_ok, DD.toS_exc, DD.bindL_ok, DD.bindL_exc, DD.lbind_ok, DD.lbind_exc, DD.bindE_ok, DD.bindE_exc, DD.sbind_nx, DD.sbind_rt, DD.sbind_exc, DD.sbind_bk, DD.sbind_ct, DD.ret_nx, DD.ret_rt, DD.ret_exc, DD.varM_0, DD.varM_1, DD.varM_2, DD.varM_3, DD.varM_4, DD.varM_5, DD.cM_e, DD.binM_e, DD.unM_e, DD.seqM_e, DD.setM_e, DD.exprM_e, DD.retM_e, DD.raiseM_e, DD.passM_e, DD.brkM_e, DD.ifSM_e, DD.ifM_e, DD.andM_e, DD.orM_e, DD.notM_e, DD.nilM_e, DD.consM_e, DD.callM_e, DD.tupM_e, DD.lstM_e, DD.bmM_e, DD.smM_e, DD.asgM_e, DD.subG_e, DD.nameG_e, DD.slM_e, DD.om_none, DD.om_some, DD.fldSetM_e, DD.toldM_e, DD.add_ii, DD.add_tt, DD.sub_ii, DD.mul_ii, DD.lt_ii, DD.le_ii, DD.gt_ii, DD.ge_ii, DD.fdiv_ii, DD.mod_ii, DD.eq_ii, DD.ne_ii, DD.eq_ss, DD.ne_ss, DD.fld_e, DD.len_t, DD.len_s, DD.append_e, DD.extend_t, DD.extend_r, DD.tup_r, DD.it_t, DD.sl_t, DD.callF, List.length_append, List.length_cons, List.length_nil, List.append_nil, Nat.reduceAdd, List.set_cons_zero, List.set_cons_succ, ↓reduceIte, Bool.not_true, Bool.not_false, Nat.zero_le]; rfl
theorem frames_loop {data : List Nat} {L : Nat} {tail : List Nat} (hz : data.length ≤ 15000000) (hx : ∀ x ∈ data, x < 256) : ∀ (vs acc : List Va) (p : Nat) (h : AH), (∀ v ∈ vs, Wf v ∧ dep v ≤ 30) → p ≤ data.length → data.drop p = frs vs ++ tail → re data (p + (frs vs).length) = none → h[L]? = some (.lst (toDs acc)) → acc.length + vs.length ≤ 15000000 →
    ∃ h', whileM read_frames_w0c read_frames_w0b [some (.tup (B data)), some (.ref L), some (.int (p : Int)), some (endD (re data p))] h = .nx [some (.tup (B data)), some (.ref L), some (.int ((p + (frs vs).length : Nat) : Int)), some .non] h' ∧ Fr (some L) h h' ∧ h'[L]? = some (.lst (toDs (acc ++ vs))) := by
  intro vs
  induction vs with
  | nil =>
    intro acc p h _ hp _ hn e _
    simp only [frs, List.length_nil, Nat.add_zero] at hn ⊢
    rw [hn]
    refine ⟨h, while_stop (by rw [fcond]; rfl), Fr.refl, by simpa using e⟩
  | cons v vs ih =>
    intro acc p h wf hp ed hn e hl
    simp only [frs, List.length_append] at ed hn ⊢
    rw [List.append_assoc] at ed
    have hlen : data.length - p = (fr v).length + (frs vs ++ tail).length := by rw [← List.length_drop, ed, List.length_append]
    have hf := fr_len v
    have hev : (enc v).length < 15000000 := by omega
    obtain ⟨r1, r2⟩ := re_fr ed (by omega)
    have hsub : ∀ x ∈ enc v, x < 256 := fun x hm => hx x (by
      rw [← r2] at hm
      exact List.mem_of_mem_drop (List.mem_of_mem_take hm))
    have ue : un (enc v) = some v := un_enc v (wf v List.mem_cons_self).1 (wf v List.mem_cons_self).2
    have k := un_run (enc v) h (by omega) hsub
    rw [ue] at k
    obtain ⟨h1, a1, a2⟩ := k
    have e1 := a2.getN e
    have hL := lt_of_get e1
    have tl : (toDs acc).length = acc.length := toDs_len acc
    have ta : toDs acc ++ [v.toD] = toDs (acc ++ [v]) := by
      have : ∀ l : List Va, toDs l ++ [v.toD] = toDs (l ++ [v]) := fun l => by
        induction l with
        | nil => simp [toDs]
        | cons w l ih => simp [toDs, ih]
      exact this acc
    have ed2 : data.drop (p + (fr v).length) = frs vs ++ tail := by rw [← List.drop_drop, ed, List.drop_left' rfl]
    obtain ⟨h2, b1, b2, b3⟩ := ih (acc ++ [v]) (p + (fr v).length) (h1.set L (.lst (toDs (acc ++ [v])))) (fun w hw => wf w (List.mem_cons_of_mem _ hw)) (by omega) ed2 (by rw [Nat.add_assoc]; exact hn) (get_set hL) (by simp only [List.length_append, List.length_cons, List.length_nil] at hl ⊢; omega)
    have cs : cutL (B data) (some ((p : Int) + 4)) (some (((p + (fr v).length : Nat) : Int) - 4)) = B (enc v) := by
      rw [show ((p : Int) + 4) = ((p + 4 : Nat) : Int) from by omega, show (((p + (fr v).length : Nat) : Int) - 4) = ((p + (fr v).length - 4 : Nat) : Int) from by omega, cut_nn, B_drop, B_take, r2]
    have hb : read_frames_w0b [some (.tup (B data)), some (.ref L), some (.int (p : Int)), some (.int ((p + (fr v).length : Nat) : Int))] h = .nx [some (.tup (B data)), some (.ref L), some (.int ((p + (fr v).length : Nat) : Int)), some (endD (re data (p + (fr v).length)))] (h1.set L (.lst (toDs (acc ++ [v])))) := by
      unfold read_frames_w0b
      have ht := tryQ_nx (hs := [(ci_WireError, brkM)]) (b := exprM (bmM (varM 1) (consM (callM (consM (slM (varM 0) (.some (binM (varM 2) (cM (.int 4)) addM)) (.some (binM (varM 3) (cM (.int 4)) subM))) nilM) (callF 1 [] F_unpack)) nilM) appendF)) (τ := [some (.tup (B data)), some (.ref L), some (.int (p : Int)), some (.int ((p + (fr v).length : Nat) : Int))]) (h := h)
        (τ' := [some (.tup (B data)), some (.ref L), some (.int (p : Int)), some (.int ((p + (fr v).length : Nat) : Int))]) (h' := h1.set L (.lst (toDs (acc ++ [v])))) (by
          simp only [e, cs, a1, e1, show ((toDs acc).length < sizeLine) = True from eq_true (by rw [tl, sizeLine_eq]; omega), ta, DD.bind_ok, DD.bind_exc, DD.toS_ok, DD.toS_exc, DD.bindL_ok, DD.bindL_exc, DD.lbind_ok, DD.lbind_exc, DD.bindE_ok, DD.bindE_exc, DD.sbind_nx, DD.sbind_rt, DD.sbind_exc, DD.sbind_bk, DD.sbind_ct, DD.ret_nx, DD.ret_rt, DD.ret_exc, DD.varM_0, DD.varM_1, DD.varM_2, DD.varM_3, DD.varM_4, DD.varM_5, DD.cM_e, DD.binM_e, DD.unM_e, DD.seqM_e, DD.setM_e, DD.exprM_e, DD.retM_e, DD.raiseM_e, DD.passM_e, DD.brkM_e, DD.ifSM_e, DD.ifM_e, DD.andM_e, DD.orM_e, DD.notM_e, DD.nilM_e, DD.consM_e, DD.callM_e, DD.tupM_e, DD.lstM_e, DD.bmM_e, DD.smM_e, DD.asgM_e, DD.subG_e, DD.nameG_e, DD.slM_e, DD.om_none, DD.om_some, DD.fldSetM_e, DD.toldM_e, DD.add_ii, DD.add_tt, DD.sub_ii, DD.mul_ii, DD.lt_ii, DD.le_ii, DD.gt_ii, DD.ge_ii, DD.fdiv_ii, DD.mod_ii, DD.eq_ii, DD.ne_ii, DD.eq_ss, DD.ne_ss, DD.fld_e, DD.len_t, DD.len_s, DD.append_e, DD.extend_t, DD.extend_r, DD.tup_r, DD.it_t, DD.sl_t, DD.callF, List.length_append, List.length_cons, List.length_nil, List.append_nil, Nat.reduceAdd, List.set_cons_zero, List.set_cons_succ, ↓reduceIte, Bool.not_true, Bool.not_false, Nat.zero_le])
      simp only [ht, re_run, DD.bind_ok, DD.bind_exc, DD.toS_ok, DD.toS_exc, DD.bindL_ok, DD.bindL_exc, DD.lbind_ok, DD.lbind_exc, DD.bindE_ok, DD.bindE_exc, DD.sbind_nx, DD.sbind_rt, DD.sbind_exc, DD.sbind_bk, DD.sbind_ct, DD.ret_nx, DD.ret_rt, DD.ret_exc, DD.varM_0, DD.varM_1, DD.varM_2, DD.varM_3, DD.varM_4, DD.varM_5, DD.cM_e, DD.binM_e, DD.unM_e, DD.seqM_e, DD.setM_e, DD.exprM_e, DD.retM_e, DD.raiseM_e, DD.passM_e, DD.brkM_e, DD.ifSM_e, DD.ifM_e, DD.andM_e, DD.orM_e, DD.notM_e, DD.nilM_e, DD.consM_e, DD.callM_e, DD.tupM_e, DD.lstM_e, DD.bmM_e, DD.smM_e, DD.asgM_e, DD.subG_e, DD.nameG_e, DD.slM_e, DD.om_none, DD.om_some, DD.fldSetM_e, DD.toldM_e, DD.add_ii, DD.add_tt, DD.sub_ii, DD.mul_ii, DD.lt_ii, DD.le_ii, DD.gt_ii, DD.ge_ii, DD.fdiv_ii, DD.mod_ii, DD.eq_ii, DD.ne_ii, DD.eq_ss, DD.ne_ss, DD.fld_e, DD.len_t, DD.len_s, DD.append_e, DD.extend_t, DD.extend_r, DD.tup_r, DD.it_t, DD.sl_t, DD.callF, List.length_append, List.length_cons, List.length_nil, List.append_nil, Nat.reduceAdd, List.set_cons_zero, List.set_cons_succ, ↓reduceIte, Bool.not_true, Bool.not_false, Nat.zero_le]
    rw [r1]
    refine ⟨h2, ?_, (a2.wk.trans Fr.set).trans b2, by simpa [List.append_assoc] using b3⟩
    have hw := while_go (c := read_frames_w0c) (b := read_frames_w0b) (τ := [some (.tup (B data)), some (.ref L), some (.int (p : Int)), some (endD (some (p + (fr v).length)))]) (h := h) (h1 := h) ((fcond (e := some (p + (fr v).length))).trans rfl) hb
    rw [hw, b1, Nat.add_assoc]
/-- read_frames(bytes) -/
theorem frames_run {data tail : List Nat} (vs : List Va) (h : AH) (hz : data.length ≤ 15000000) (hx : ∀ x ∈ data, x < 256) (wf : ∀ v ∈ vs, Wf v ∧ dep v ≤ 30) (ed : data = frs vs ++ tail) (hn : re data (frs vs).length = none) (hl : vs.length ≤ 15000000) :
    ∃ h', F_read_frames [.tup (B data)] h = .ok (.tup [.ref h.length, .int ((frs vs).length : Nat)]) h' ∧ Fr none h h' ∧ h'[h.length]? = some (.lst (toDs vs)) := by
  obtain ⟨h', a1, a2, a3⟩ := frames_loop (L := h.length) (tail := tail) hz hx vs [] 0 (h ++ [.lst []]) wf (Nat.zero_le _) (by simpa using ed) (by simpa using hn) get_new (by simpa using hl)
  rw [Nat.zero_add] at a1
  refine ⟨h', ?_, ⟨by have := a2.1; simp at this; omega, fun i hi _ => by rw [a2.2 i (by simp; omega) (by simp; omega), List.getElem?_append_left hi]⟩, by simpa using a3⟩
  unfold F_read_frames m_read_frames
  have e0 : startD N_read_frames.length [D.tup (B data)] = [some (.tup (B data)), none, none, none] := rfl
  rw [e0]
  have rr : F_record_end [.tup (B data), .int 0] (h ++ [O.lst []]) = .ok (endD (re data 0)) (h ++ [.lst []]) := re_run data 0 _
  have a1' : whileM read_frames_w0c read_frames_w0b [some (.tup (B data)), some (.ref h.length), some (.int 0), some (endD (re data 0))] (h ++ [.lst []]) = .nx [some (.tup (B data)), some (.ref h.length), some (.int ((frs vs).length : Nat)), some .non] h' := a1
  simp only [rr, a1', show (0 + 1 + 1 ≤ sizeLine) = True from by rw [sizeLine_eq]; decide, DD.bind_ok, DD.bind_exc, DD.toS_ok, DD.toS_exc, DD.bindL_ok, DD.bindL_exc, DD.lbind_ok, DD.lbind_exc, DD.bindE_ok, DD.bindE_exc, DD.sbind_nx, DD.sbind_rt, DD.sbind_exc, DD.sbind_bk, DD.sbind_ct, DD.ret_nx, DD.ret_rt, DD.ret_exc, DD.varM_0, DD.varM_1, DD.varM_2, DD.varM_3, DD.varM_4, DD.varM_5, DD.cM_e, DD.binM_e, DD.unM_e, DD.seqM_e, DD.setM_e, DD.exprM_e, DD.retM_e, DD.raiseM_e, DD.passM_e, DD.brkM_e, DD.ifSM_e, DD.ifM_e, DD.andM_e, DD.orM_e, DD.notM_e, DD.nilM_e, DD.consM_e, DD.callM_e, DD.tupM_e, DD.lstM_e, DD.bmM_e, DD.smM_e, DD.asgM_e, DD.subG_e, DD.nameG_e, DD.slM_e, DD.om_none, DD.om_some, DD.fldSetM_e, DD.toldM_e, DD.add_ii, DD.add_tt, DD.sub_ii, DD.mul_ii, DD.lt_ii, DD.le_ii, DD.gt_ii, DD.ge_ii, DD.fdiv_ii, DD.mod_ii, DD.eq_ii, DD.ne_ii, DD.eq_ss, DD.ne_ss, DD.fld_e, DD.len_t, DD.len_s, DD.append_e, DD.extend_t, DD.extend_r, DD.tup_r, DD.it_t, DD.sl_t, DD.callF, List.length_append, List.length_cons, List.length_nil, List.append_nil, Nat.reduceAdd, List.set_cons_zero, List.set_cons_succ, ↓reduceIte, Bool.not_true, Bool.not_false, Nat.zero_le]
end K15
end

section
set_option Elab.async false
set_option linter.all false
set_option maxRecDepth 100000
set_option maxHeartbeats 2000000
namespace DD
open PySem L2
theorem it_r {l : Nat} {i : Int} {h : AH} : itM (.ref l) (.int i) h = match h[l]? with
    | some (.lst xs) => (match atI xs i with
      | some d => .ok d h
      | none => .bad)
    | _ => .bad := Eq.trans rfl rfl
theorem setL_e {l : Nat} {i : Int} {v : D} {h : AH} : setLF (.ref l) (.int i) v h = match h[l]? with
    | some (.lst xs) => (match ixN xs.length i with
      | some j => some (h.set l (.lst (xs.set j v)))
      | none => none)
    | _ => none := Eq.trans rfl rfl
theorem int_e {i : Int} {h : AH} : intF [.int i] h = .ok (.int i) h := Eq.trans rfl rfl
end DD
namespace K15
open PySem L2 DD
/-! ### the law's dice -/
def Dc (a b c : Int) : O := .lst [.int a, .int b, .int c]
def RB : Nat → Nat → Prop
  | 0, _ => False
  | n + 1, m => m ≤ 100000000 ∨ RB n (m / 100000000 + 1)
theorem dc0 {a b c : Int} : atI [D.int a, .int b, .int c] 0 = some (.int a) := rfl
theorem dc1 {a b c : Int} : atI [D.int a, .int b, .int c] 1 = some (.int b) := rfl
theorem dc2 {a b c : Int} : atI [D.int a, .int b, .int c] 2 = some (.int c) := rfl
theorem ix0 : ixN 3 0 = some 0 := rfl
theorem ix1 : ixN 3 1 = some 1 := rfl
theorem ix2 : ixN 3 2 = some 2 := rfl
theorem emod_nat (a : Int) (m : Nat) (h : 0 < m) : ∃ r : Nat, a % (m : Int) = (r : Int) ∧ r < m := by
  have h1 := Int.emod_nonneg a (b := (m : Int)) (by omega)
  have h2 := Int.emod_lt_of_pos a (b := (m : Int)) (by omega)
  exact ⟨(a % (m : Int)).toNat, by omega, by omega⟩
theorem RB_one {n : Nat} (h : RB n 100000000 ∨ 0 < n) : 0 < n → RB n 100000000 := fun hn => by
  cases n with
  | zero => omega
  | succ n => exact .inl (Nat.le_refl _)
theorem roll_run : ∀ (n many : Nat) (h : AH) (l : Nat) (a b c : Int), h[l]? = some (Dc a b c) → 0 < many → RB n many → many < 2 ^ 120 →
    ∃ (r : Nat) (a' b' c' : Int) (h' : AH), R__law_roll n [.ref l, .int (many : Int)] h = .ok (.int (r : Int)) h' ∧ r < many ∧ Fr (some l) h h' ∧ h'[l]? = some (Dc a' b' c') := by
  intro n
  induction n with
  | zero => intro many h l a b c _ _ hb; exact hb.elim
  | succ n ih =>
    intro many h l a b c e hm hb h120
    have hl := lt_of_get e
    have e' : h[l]? = some (O.lst [.int a, .int b, .int c]) := e
    have e0 : startD N__law_roll.length [D.ref l, D.int (many : Int)] = [some (.ref l), some (.int (many : Int)), none] := rfl
    unfold R__law_roll m__law_roll
    rw [e0]
    have dm : decide ((0 : Int) < (many : Int)) = true := decide_eq_true (by omega)
    have cd : CDb a (many : Int) = true := cdb_pos hm (Nat.lt_of_lt_of_le h120 (by decide))
    have first : (c == 2) = true ∨ ((c == 2) = false ∧ (c == 1) = true ∧ decide ((0 : Int) < a) = true) → ∃ (r : Nat) (a' b' c' : Int) (h' : AH), retOf (m__law_roll (R__law_roll n) [some (.ref l), some (.int (many : Int)), none] h) = .ok (.int (r : Int)) h' ∧ r < many ∧ Fr (some l) h h' ∧ h'[l]? = some (Dc a' b' c') := fun hc => by
      obtain ⟨r, er, hr⟩ := emod_nat a many hm
      refine ⟨r, a / (many : Int), b, c, h.set l (Dc (a / (many : Int)) b c), ?_, hr, Fr.set, get_set hl⟩
      unfold m__law_roll Dc
      rcases hc with hc | ⟨hc1, hc2, hc3⟩
      · simp only [it_r, e', dc0, dc1, dc2, hc, int_e, dm, er, cd, setL_e, ix0, DD.bind_ok, DD.bind_exc, DD.toS_ok, DD.toS_exc, DD.bindL_ok, DD.bindL_exc, DD.lbind_ok, DD.lbind_exc, DD.bindE_ok, DD.bindE_exc, DD.sbind_nx, DD.sbind_rt, DD.sbind_exc, DD.sbind_bk, DD.sbind_ct, DD.ret_nx, DD.ret_rt, DD.ret_exc, DD.varM_0, DD.varM_1, DD.varM_2, DD.varM_3, DD.varM_4, DD.varM_5, DD.cM_e, DD.binM_e, DD.unM_e, DD.seqM_e, DD.setM_e, DD.exprM_e, DD.retM_e, DD.raiseM_e, DD.passM_e, DD.brkM_e, DD.ifSM_e, DD.ifM_e, DD.andM_e, DD.orM_e, DD.notM_e, DD.nilM_e, DD.consM_e, DD.callM_e, DD.tupM_e, DD.lstM_e, DD.bmM_e, DD.smM_e, DD.asgM_e, DD.subG_e, DD.nameG_e, DD.slM_e, DD.om_none, DD.om_some, DD.fldSetM_e, DD.toldM_e, DD.add_ii, DD.add_tt, DD.sub_ii, DD.mul_ii, DD.lt_ii, DD.le_ii, DD.gt_ii, DD.ge_ii, DD.fdiv_ii, DD.mod_ii, DD.eq_ii, DD.ne_ii, DD.eq_ss, DD.ne_ss, DD.fld_e, DD.len_t, DD.len_s, DD.append_e, DD.extend_t, DD.extend_r, DD.tup_r, DD.it_t, DD.sl_t, DD.callF, List.length_append, List.length_cons, List.length_nil, List.append_nil, Nat.reduceAdd, List.set_cons_zero, List.set_cons_succ, ↓reduceIte, Bool.not_true, Bool.not_false, Nat.zero_le]
      · simp only [it_r, e', dc0, dc1, dc2, hc1, hc2, hc3, int_e, dm, er, cd, setL_e, ix0, DD.bind_ok, DD.bind_exc, DD.toS_ok, DD.toS_exc, DD.bindL_ok, DD.bindL_exc, DD.lbind_ok, DD.lbind_exc, DD.bindE_ok, DD.bindE_exc, DD.sbind_nx, DD.sbind_rt, DD.sbind_exc, DD.sbind_bk, DD.sbind_ct, DD.ret_nx, DD.ret_rt, DD.ret_exc, DD.varM_0, DD.varM_1, DD.varM_2, DD.varM_3, DD.varM_4, DD.varM_5, DD.cM_e, DD.binM_e, DD.unM_e, DD.seqM_e, DD.setM_e, DD.exprM_e, DD.retM_e, DD.raiseM_e, DD.passM_e, DD.brkM_e, DD.ifSM_e, DD.ifM_e, DD.andM_e, DD.orM_e, DD.notM_e, DD.nilM_e, DD.consM_e, DD.callM_e, DD.tupM_e, DD.lstM_e, DD.bmM_e, DD.smM_e, DD.asgM_e, DD.subG_e, DD.nameG_e, DD.slM_e, DD.om_none, DD.om_some, DD.fldSetM_e, DD.toldM_e, DD.add_ii, DD.add_tt, DD.sub_ii, DD.mul_ii, DD.lt_ii, DD.le_ii, DD.gt_ii, DD.ge_ii, DD.fdiv_ii, DD.mod_ii, DD.eq_ii, DD.ne_ii, DD.eq_ss, DD.ne_ss, DD.fld_e, DD.len_t, DD.len_s, DD.append_e, DD.extend_t, DD.extend_r, DD.tup_r, DD.it_t, DD.sl_t, DD.callF, List.length_append, List.length_cons, List.length_nil, List.append_nil, Nat.reduceAdd, List.set_cons_zero, List.set_cons_succ, ↓reduceIte, Bool.not_true, Bool.not_false, Nat.zero_le]
    by_cases q2 : (c == 2) = true
    · exact first (.inl q2)
    have q2' : (c == 2) = false := by simpa using q2
    by_cases q1 : (c == 1) = true ∧ decide ((0 : Int) < a) = true
    · exact first (.inr ⟨q2', q1.1, q1.2⟩)
    have g1 : (h.set l (Dc a b 0))[l]? = some (O.lst [.int a, .int b, .int 0]) := get_set hl
    by_cases hbig : many > 100000000
    · have hb2 : RB n (many / 100000000 + 1) := by
        rcases hb with hb | hb
        · omega
        · exact hb
      have hn : 0 < n := by cases n with
        | zero => exact hb2.elim
        | succ n => omega
      obtain ⟨r1, a1, b1, c1, h1, s1, s2, s3, s4⟩ := ih (many / 100000000 + 1) (h.set l (Dc a b 0)) l a b 0 g1 (by omega) hb2 (by omega)
      obtain ⟨r2, a2, b2, c2, h2, t1, t2, t3, t4⟩ := ih 100000000 h1 l a1 b1 c1 s4 (by omega) (RB_one (.inr hn) hn) (by decide)
      obtain ⟨r, er, hr⟩ := emod_nat ((r1 : Int) * 100000000 + (r2 : Int)) many hm
      refine ⟨r, a2, b2, c2, h2, ?_, hr, (Fr.set.trans s3).trans t3, t4⟩
      have ed : ((many : Int) / 100000000 + 1) = ((many / 100000000 + 1 : Nat) : Int) := by omega
      have cd2 : CDb (many : Int) 100000000 = true := cdb_pos (n := 100000000) (by decide) (by decide)
      have dbig : decide ((100000000 : Int) < (many : Int)) = true := decide_eq_true (by omega)
      have t1' : R__law_roll n [.ref l, .int 100000000] h1 = .ok (.int (r2 : Int)) h2 := t1
      have cm : CMb' (r1 : Int) 100000000 = true := cmb_r (by decide)
      unfold Dc at s1
      by_cases q3 : (c == 1) = true
      · have q4 : decide ((0 : Int) < a) = false := by
          cases hq : decide ((0 : Int) < a) with
          | true => exact absurd ⟨q3, hq⟩ q1
          | false => rfl
        simp only [it_r, e', dc0, dc1, dc2, q2', q3, q4, setL_e, ix2, dbig, ed, cd2, s1, t1', int_e, cm, dm, er, DD.bind_ok, DD.bind_exc, DD.toS_ok, DD.toS_exc, DD.bindL_ok, DD.bindL_exc, DD.lbind_ok, DD.lbind_exc, DD.bindE_ok, DD.bindE_exc, DD.sbind_nx, DD.sbind_rt, DD.sbind_exc, DD.sbind_bk, DD.sbind_ct, DD.ret_nx, DD.ret_rt, DD.ret_exc, DD.varM_0, DD.varM_1, DD.varM_2, DD.varM_3, DD.varM_4, DD.varM_5, DD.cM_e, DD.binM_e, DD.unM_e, DD.seqM_e, DD.setM_e, DD.exprM_e, DD.retM_e, DD.raiseM_e, DD.passM_e, DD.brkM_e, DD.ifSM_e, DD.ifM_e, DD.andM_e, DD.orM_e, DD.notM_e, DD.nilM_e, DD.consM_e, DD.callM_e, DD.tupM_e, DD.lstM_e, DD.bmM_e, DD.smM_e, DD.asgM_e, DD.subG_e, DD.nameG_e, DD.slM_e, DD.om_none, DD.om_some, DD.fldSetM_e, DD.toldM_e, DD.add_ii, DD.add_tt, DD.sub_ii, DD.mul_ii, DD.lt_ii, DD.le_ii, DD.gt_ii, DD.ge_ii, DD.fdiv_ii, DD.mod_ii, DD.eq_ii, DD.ne_ii, DD.eq_ss, DD.ne_ss, DD.fld_e, DD.len_t, DD.len_s, DD.append_e, DD.extend_t, DD.extend_r, DD.tup_r, DD.it_t, DD.sl_t, DD.callF, List.length_append, List.length_cons, List.length_nil, List.append_nil, Nat.reduceAdd, List.set_cons_zero, List.set_cons_succ, ↓reduceIte, Bool.not_true, Bool.not_false, Nat.zero_le]
      · have q3' : (c == 1) = false := by simpa using q3
        simp only [it_r, e', dc0, dc1, dc2, q2', q3', setL_e, ix2, dbig, ed, cd2, s1, t1', int_e, cm, dm, er, DD.bind_ok, DD.bind_exc, DD.toS_ok, DD.toS_exc, DD.bindL_ok, DD.bindL_exc, DD.lbind_ok, DD.lbind_exc, DD.bindE_ok, DD.bindE_exc, DD.sbind_nx, DD.sbind_rt, DD.sbind_exc, DD.sbind_bk, DD.sbind_ct, DD.ret_nx, DD.ret_rt, DD.ret_exc, DD.varM_0, DD.varM_1, DD.varM_2, DD.varM_3, DD.varM_4, DD.varM_5, DD.cM_e, DD.binM_e, DD.unM_e, DD.seqM_e, DD.setM_e, DD.exprM_e, DD.retM_e, DD.raiseM_e, DD.passM_e, DD.brkM_e, DD.ifSM_e, DD.ifM_e, DD.andM_e, DD.orM_e, DD.notM_e, DD.nilM_e, DD.consM_e, DD.callM_e, DD.tupM_e, DD.lstM_e, DD.bmM_e, DD.smM_e, DD.asgM_e, DD.subG_e, DD.nameG_e, DD.slM_e, DD.om_none, DD.om_some, DD.fldSetM_e, DD.toldM_e, DD.add_ii, DD.add_tt, DD.sub_ii, DD.mul_ii, DD.lt_ii, DD.le_ii, DD.gt_ii, DD.ge_ii, DD.fdiv_ii, DD.mod_ii, DD.eq_ii, DD.ne_ii, DD.eq_ss, DD.ne_ss, DD.fld_e, DD.len_t, DD.len_s, DD.append_e, DD.extend_t, DD.extend_r, DD.tup_r, DD.it_t, DD.sl_t, DD.callF, List.length_append, List.length_cons, List.length_nil, List.append_nil, Nat.reduceAdd, List.set_cons_zero, List.set_cons_succ, ↓reduceIte, Bool.not_true, Bool.not_false, Nat.zero_le]
    · have dbig : decide ((100000000 : Int) < (many : Int)) = false := decide_eq_false (by omega)
      have cm1 : CMb' a 48271 = true := cmb_r (by decide)
      have cm2 : CMb' b 69621 = true := cmb_r (by decide)
      have cd7 : ∀ x : Int, CDb x 7 = true := fun x => cdb_pos (n := 7) (by decide) (by decide)
      have d21 : decide ((0 : Int) < 2147483647) = true := by decide
      obtain ⟨r, er, hr⟩ := emod_nat ((a * 48271 + b * 69621 + 11) % 2147483647 / 7) many hm
      have g1' : (h.set l (O.lst [.int a, .int b, .int 0]))[l]? = some (O.lst [.int a, .int b, .int 0]) := get_set hl
      have g2 : (h.set l (O.lst [.int ((a * 48271 + b * 69621 + 11) % 2147483647), .int b, .int 0]))[l]? = some (O.lst [.int ((a * 48271 + b * 69621 + 11) % 2147483647), .int b, .int 0]) := get_set hl
      have g3 : (h.set l (O.lst [.int ((a * 48271 + b * 69621 + 11) % 2147483647), .int (b + 1), .int 0]))[l]? = some (O.lst [.int ((a * 48271 + b * 69621 + 11) % 2147483647), .int (b + 1), .int 0]) := get_set hl
      refine ⟨r, (a * 48271 + b * 69621 + 11) % 2147483647, b + 1, 0, h.set l (Dc ((a * 48271 + b * 69621 + 11) % 2147483647) (b + 1) 0), ?_, hr, Fr.set, get_set hl⟩
      unfold Dc
      by_cases q3 : (c == 1) = true
      · have q4 : decide ((0 : Int) < a) = false := by
          cases hq : decide ((0 : Int) < a) with
          | true => exact absurd ⟨q3, hq⟩ q1
          | false => rfl
        simp only [it_r, e', dc0, dc1, dc2, q2', q3, q4, setL_e, ix0, ix1, ix2, dbig, cm1, cm2, int_e, d21, dm, set_set, g1', g2, g3, cd7, er, DD.bind_ok, DD.bind_exc, DD.toS_ok, DD.toS_exc, DD.bindL_ok, DD.bindL_exc, DD.lbind_ok, DD.lbind_exc, DD.bindE_ok, DD.bindE_exc, DD.sbind_nx, DD.sbind_rt, DD.sbind_exc, DD.sbind_bk, DD.sbind_ct, DD.ret_nx, DD.ret_rt, DD.ret_exc, DD.varM_0, DD.varM_1, DD.varM_2, DD.varM_3, DD.varM_4, DD.varM_5, DD.cM_e, DD.binM_e, DD.unM_e, DD.seqM_e, DD.setM_e, DD.exprM_e, DD.retM_e, DD.raiseM_e, DD.passM_e, DD.brkM_e, DD.ifSM_e, DD.ifM_e, DD.andM_e, DD.orM_e, DD.notM_e, DD.nilM_e, DD.consM_e, DD.callM_e, DD.tupM_e, DD.lstM_e, DD.bmM_e, DD.smM_e, DD.asgM_e, DD.subG_e, DD.nameG_e, DD.slM_e, DD.om_none, DD.om_some, DD.fldSetM_e, DD.toldM_e, DD.add_ii, DD.add_tt, DD.sub_ii, DD.mul_ii, DD.lt_ii, DD.le_ii, DD.gt_ii, DD.ge_ii, DD.fdiv_ii, DD.mod_ii, DD.eq_ii, DD.ne_ii, DD.eq_ss, DD.ne_ss, DD.fld_e, DD.len_t, DD.len_s, DD.append_e, DD.extend_t, DD.extend_r, DD.tup_r, DD.it_t, DD.sl_t, DD.callF, List.length_append, List.length_cons, List.length_nil, List.append_nil, Nat.reduceAdd, List.set_cons_zero, List.set_cons_succ, ↓reduceIte, Bool.not_true, Bool.not_false, Nat.zero_le]
      · have q3' : (c == 1) = false := by simpa using q3
        simp only [it_r, e', dc0, dc1, dc2, q2', q3', setL_e, ix0, ix1, ix2, dbig, cm1, cm2, int_e, d21, dm, set_set, g1', g2, g3, cd7, er, DD.bind_ok, DD.bind_exc, DD.toS_ok, DD.toS_exc, DD.bindL_ok, DD.bindL_exc, DD.lbind_ok, DD.lbind_exc, DD.bindE_ok, DD.bindE_exc, DD.sbind_nx, DD.sbind_rt, DD.sbind_exc, DD.sbind_bk, DD.sbind_ct, DD.ret_nx, DD.ret_rt, DD.ret_exc, DD.varM_0, DD.varM_1, DD.varM_2, DD.varM_3, DD.varM_4, DD.varM_5, DD.cM_e, DD.binM_e, DD.unM_e, DD.seqM_e, DD.setM_e, DD.exprM_e, DD.retM_e, DD.raiseM_e, DD.passM_e, DD.brkM_e, DD.ifSM_e, DD.ifM_e, DD.andM_e, DD.orM_e, DD.notM_e, DD.nilM_e, DD.consM_e, DD.callM_e, DD.tupM_e, DD.lstM_e, DD.bmM_e, DD.smM_e, DD.asgM_e, DD.subG_e, DD.nameG_e, DD.slM_e, DD.om_none, DD.om_some, DD.fldSetM_e, DD.toldM_e, DD.add_ii, DD.add_tt, DD.sub_ii, DD.mul_ii, DD.lt_ii, DD.le_ii, DD.gt_ii, DD.ge_ii, DD.fdiv_ii, DD.mod_ii, DD.eq_ii, DD.ne_ii, DD.eq_ss, DD.ne_ss, DD.fld_e, DD.len_t, DD.len_s, DD.append_e, DD.extend_t, DD.extend_r, DD.tup_r, DD.it_t, DD.sl_t, DD.callF, List.length_append, List.length_cons, List.length_nil, List.append_nil, Nat.reduceAdd, List.set_cons_zero, List.set_cons_succ, ↓reduceIte, Bool.not_true, Bool.not_false, Nat.zero_le]
end K15
end

section
set_option Elab.async false
set_option linter.all false
set_option maxRecDepth 100000
set_option maxHeartbeats 2000000
namespace DD
open PySem L2
theorem tupG_e {is : List Nat} {ds : List D} {τ : SL} {h : AH} : tupG (is.map nameG) (.tup ds) τ h = unpackG (is.map nameG) ds τ h := Eq.trans rfl rfl
theorem unp2 {i j : Nat} {a b : D} {τ : SL} {h : AH} : unpackG ([i, j].map nameG) [a, b] τ h = .nx ((τ.set i (some a)).set j (some b)) h := Eq.trans rfl rfl
end DD
namespace K15
open PySem L2 DD
/-! ### the law's own sums -/
end K15
end

section
set_option Elab.async false
set_option linter.all false
set_option maxRecDepth 100000
set_option maxHeartbeats 2000000
namespace DD
open PySem L2
theorem pow_ii {i j : Int} {h : AH} : powM (.int i) (.int j) h = if CPb i j = true then .ok (.int (i ^ j.toNat)) h else .bad := Eq.trans rfl rfl
theorem it_s {z : Str} {i : Int} {h : AH} : itM (.str z) (.int i) h = if z.length ≤ sizeLine then (match atI z.cps.toList i with
    | some c => .ok (.str ⟨#[c]⟩) h
    | none => .bad) else .bad := Eq.trans rfl rfl
end DD
namespace K15
open PySem L2 DD
/-- the dice stand at l, the rest is kept -/
def Dd (l : Nat) (h h' : AH) : Prop := Fr (some l) h h' ∧ ∃ a b c, h'[l]? = some (Dc a b c)
theorem roll5 (many : Nat) (h : AH) (l : Nat) (hd : ∃ a b c, h[l]? = some (Dc a b c)) (hm : 0 < many) (hb : RB 5 many) (h120 : many < 2 ^ 120) :
    ∃ (r : Nat) (h' : AH), R__law_roll 5 [.ref l, .int (many : Int)] h = .ok (.int (r : Int)) h' ∧ r < many ∧ Dd l h h' := by
  obtain ⟨a, b, c, e⟩ := hd
  obtain ⟨r, a', b', c', h', s1, s2, s3, s4⟩ := roll_run 5 many h l a b c e hm hb h120
  exact ⟨r, h', s1, s2, s3, a', b', c', s4⟩
theorem Dd.trans {l : Nat} {h h1 h2 : AH} (a : Dd l h h1) (b : Dd l h1 h2) : Dd l h h2 := ⟨a.1.trans b.1, b.2⟩
end K15
end

section
set_option Elab.async false
set_option linter.all false
set_option maxRecDepth 100000
set_option maxHeartbeats 2000000
namespace K15
open PySem L2 DD
theorem toDs_snoc (v : Va) : ∀ l : List Va, toDs l ++ [v.toD] = toDs (l ++ [v])
  | [] => by simp [toDs]
  | w :: l => by simp [toDs, toDs_snoc v l]
theorem Dd.frame {l : Nat} {h h' : AH} (a : Dd l h h') : Fr (some l) h h' := a.1
/-- a new thing is laid -/
theorem Dd.app {l : Nat} {h h' gb : AH} (a : Dd l h h') : Dd l h (h' ++ gb) := ⟨a.1.trans Fr.app, by
  obtain ⟨x, y, z, q⟩ := a.2
  exact ⟨x, y, z, get_app q⟩⟩
end K15
end

section
set_option Elab.async false
set_option linter.all false
set_option maxRecDepth 100000
set_option maxHeartbeats 2000000
namespace DD
open PySem L2
theorem lcP_nil {mc : Option EM} {me : EM} {own : List Nat} {τ : SL} {L : Nat} {h : AH} {f : TM} : lcLoop (fun _ => true) f mc me own τ L [] h = .ok (.ref L) h := Eq.trans rfl rfl
/-- a pair that the test leaves out -/
theorem lcP_skip {c me : EM} {own : List Nat} {τ : SL} {L i j : Nat} {a b : D} {ds : List D} {h h2 : AH} (e : c (((wipeD τ own).set i (some a)).set j (some b)) h = .ok (.bl false) h2) :
    lcLoop (fun _ => true) (tupG ([i, j].map nameG)) (some c) me own τ L (.tup [a, b] :: ds) h = lcLoop (fun _ => true) (tupG ([i, j].map nameG)) (some c) me own τ L ds h2 := by
  show (c (((wipeD τ own).set i (some a)).set j (some b)) h).bind _ = _
  rw [e, bind_ok]
theorem pairM_e {a b : EM} {τ : SL} {h : AH} : pairM a b τ h = (a τ h).bind fun x h1 => (b τ h1).bind fun y h2 => .ok (.tup [x, y]) h2 := Eq.trans rfl rfl
theorem zipIt_t {xs ys : List D} {h : AH} : zipIt (.tup [.tup xs, .tup ys]) h = some (zipL xs ys, fun _ => true) := rfl
theorem eq_bb {a b : Bool} {h : AH} : eqM (.bl a) (.bl b) h = .ok (.bl (a == b)) h := by
  simp [eqM, eqB, plD, depD, eqD]
theorem eq_nilnil {i j : Nat} {h : AH} (e1 : h[i]? = some (.lst [])) (e2 : h[j]? = some (.lst [])) : eqM (.ref i) (.ref j) h = .ok (.bl true) h := by
  simp [eqM, eqB, e1, e2, plDs, depDs, eqDs]
end DD
namespace K15
open PySem L2 DD
end K15
end

section
set_option Elab.async false
set_option linter.all false
set_option maxRecDepth 100000
set_option maxHeartbeats 2000000
namespace DD
open PySem L2
theorem chainM_e {a b c : EM} {f f' : D → D → AH → EO} {τ : SL} {h : AH} : chainM a b c f f' τ h = (a τ h).bind fun x h1 => (b τ h1).bind fun y h2 => (f x y h2).bind fun d h3 => match d with
  | .bl true => (c τ h3).bind fun z h4 => f' y z h4
  | .bl false => .ok (.bl false) h3
  | _ => .bad := Eq.trans rfl rfl
theorem abs_e {i : Int} {h : AH} : absF [.int i] h = .ok (.int (if i < 0 then -i else i)) h := Eq.trans rfl rfl
theorem int_b {k : Bool} {h : AH} : intF [.bl k] h = .ok (.int (if k then 1 else 0)) h := Eq.trans rfl rfl
theorem sl_f {x : List D} {lo hi : Option Int} {h : AH} : sliceM (.fls x) lo hi h = .ok (.ref h.length) (h ++ [.lst (cutL x lo hi)]) := Eq.trans rfl rfl
theorem sl_r {l : Nat} {lo hi : Option Int} {h : AH} : sliceM (.ref l) lo hi h = match h[l]? with
    | some (.lst xs) => .ok (.ref h.length) (h ++ [.lst (cutL xs lo hi)])
    | _ => .bad := Eq.trans rfl rfl
theorem lstIt_e {l : Nat} {h : AH} {xs : List D} (e : h[l]? = some (.lst xs)) : lstIt (.ref l) h = some (xs, isLst l xs) := by
  simp only [lstIt, e]
end DD
namespace K15
open PySem L2 DD
theorem dice_run (x : Int) (h : AH) : ∃ a b c, F__law_dice [.int x] h = .ok (.ref h.length) (h ++ [Dc a b c]) := by
  unfold F__law_dice m__law_dice
  have e0 : startD N__law_dice.length [D.int x] = [some (.int x)] := rfl
  rw [e0]
  have l3 : (0 + 1 + 1 + 1 ≤ sizeLine) = True := by rw [sizeLine_eq]; decide
  have d9 : decide ((0 : Int) < 1009) = true := by decide
  have cp : CPb 10 18 = true := by decide
  have c2 : ∃ a b c, retOf (retM (lstM (consM (varM 0) (consM (binM (cM (.int 1)) (binM (callM (consM (varM 0) nilM) intF) (cM (.int 1009)) modM) addM) (consM (callM (consM (binM (varM 0) (binM (cM (.int 10)) (cM (.int 18)) powM) geM) nilM) intF) nilM)))) [some (.int x)] h) = .ok (.ref h.length) (h ++ [Dc a b c]) := by
    refine ⟨x, 1 + x % 1009, if decide ((10 : Int) ^ (18 : Int).toNat ≤ x) then 1 else 0, ?_⟩
    unfold Dc
    simp only [int_e, int_b, d9, pow_ii, cp, l3, DD.bind_ok, DD.bind_exc, DD.toS_ok, DD.toS_exc, DD.bindL_ok, DD.bindL_exc, DD.lbind_ok, DD.lbind_exc, DD.bindE_ok, DD.bindE_exc, DD.sbind_nx, DD.sbind_rt, DD.sbind_exc, DD.sbind_bk, DD.sbind_ct, DD.ret_nx, DD.ret_rt, DD.ret_exc, DD.varM_0, DD.varM_1, DD.varM_2, DD.varM_3, DD.varM_4, DD.varM_5, DD.cM_e, DD.binM_e, DD.unM_e, DD.seqM_e, DD.setM_e, DD.exprM_e, DD.retM_e, DD.raiseM_e, DD.passM_e, DD.brkM_e, DD.ifSM_e, DD.ifM_e, DD.andM_e, DD.orM_e, DD.notM_e, DD.nilM_e, DD.consM_e, DD.callM_e, DD.tupM_e, DD.lstM_e, DD.bmM_e, DD.smM_e, DD.asgM_e, DD.subG_e, DD.nameG_e, DD.slM_e, DD.om_none, DD.om_some, DD.fldSetM_e, DD.toldM_e, DD.add_ii, DD.add_tt, DD.sub_ii, DD.mul_ii, DD.lt_ii, DD.le_ii, DD.gt_ii, DD.ge_ii, DD.fdiv_ii, DD.mod_ii, DD.eq_ii, DD.ne_ii, DD.eq_ss, DD.ne_ss, DD.fld_e, DD.len_t, DD.len_s, DD.append_e, DD.extend_t, DD.extend_r, DD.tup_r, DD.it_t, DD.sl_t, DD.callF, List.length_append, List.length_cons, List.length_nil, List.append_nil, Nat.reduceAdd, List.set_cons_zero, List.set_cons_succ, ↓reduceIte, Bool.not_true, Bool.not_false, Nat.zero_le]
  by_cases h1 : (0 : Int) - 10 < x
  · by_cases h2 : x < 10
    · refine ⟨if x < 0 then -x else x, 0, 2, ?_⟩
      unfold Dc
      simp only [chainM_e, decide_eq_true h1, decide_eq_true h2, abs_e, l3, DD.bind_ok, DD.bind_exc, DD.toS_ok, DD.toS_exc, DD.bindL_ok, DD.bindL_exc, DD.lbind_ok, DD.lbind_exc, DD.bindE_ok, DD.bindE_exc, DD.sbind_nx, DD.sbind_rt, DD.sbind_exc, DD.sbind_bk, DD.sbind_ct, DD.ret_nx, DD.ret_rt, DD.ret_exc, DD.varM_0, DD.varM_1, DD.varM_2, DD.varM_3, DD.varM_4, DD.varM_5, DD.cM_e, DD.binM_e, DD.unM_e, DD.seqM_e, DD.setM_e, DD.exprM_e, DD.retM_e, DD.raiseM_e, DD.passM_e, DD.brkM_e, DD.ifSM_e, DD.ifM_e, DD.andM_e, DD.orM_e, DD.notM_e, DD.nilM_e, DD.consM_e, DD.callM_e, DD.tupM_e, DD.lstM_e, DD.bmM_e, DD.smM_e, DD.asgM_e, DD.subG_e, DD.nameG_e, DD.slM_e, DD.om_none, DD.om_some, DD.fldSetM_e, DD.toldM_e, DD.add_ii, DD.add_tt, DD.sub_ii, DD.mul_ii, DD.lt_ii, DD.le_ii, DD.gt_ii, DD.ge_ii, DD.fdiv_ii, DD.mod_ii, DD.eq_ii, DD.ne_ii, DD.eq_ss, DD.ne_ss, DD.fld_e, DD.len_t, DD.len_s, DD.append_e, DD.extend_t, DD.extend_r, DD.tup_r, DD.it_t, DD.sl_t, DD.callF, List.length_append, List.length_cons, List.length_nil, List.append_nil, Nat.reduceAdd, List.set_cons_zero, List.set_cons_succ, ↓reduceIte, Bool.not_true, Bool.not_false, Nat.zero_le]
    · obtain ⟨a, b, c, e⟩ := c2
      refine ⟨a, b, c, ?_⟩
      rw [← e]
      simp only [chainM_e, decide_eq_true h1, decide_eq_false h2, DD.bind_ok, DD.bind_exc, DD.toS_ok, DD.toS_exc, DD.bindL_ok, DD.bindL_exc, DD.lbind_ok, DD.lbind_exc, DD.bindE_ok, DD.bindE_exc, DD.sbind_nx, DD.sbind_rt, DD.sbind_exc, DD.sbind_bk, DD.sbind_ct, DD.ret_nx, DD.ret_rt, DD.ret_exc, DD.varM_0, DD.varM_1, DD.varM_2, DD.varM_3, DD.varM_4, DD.varM_5, DD.cM_e, DD.binM_e, DD.unM_e, DD.seqM_e, DD.setM_e, DD.exprM_e, DD.retM_e, DD.raiseM_e, DD.passM_e, DD.brkM_e, DD.ifSM_e, DD.ifM_e, DD.andM_e, DD.orM_e, DD.notM_e, DD.nilM_e, DD.consM_e, DD.callM_e, DD.tupM_e, DD.lstM_e, DD.bmM_e, DD.smM_e, DD.asgM_e, DD.subG_e, DD.nameG_e, DD.slM_e, DD.om_none, DD.om_some, DD.fldSetM_e, DD.toldM_e, DD.add_ii, DD.add_tt, DD.sub_ii, DD.mul_ii, DD.lt_ii, DD.le_ii, DD.gt_ii, DD.ge_ii, DD.fdiv_ii, DD.mod_ii, DD.eq_ii, DD.ne_ii, DD.eq_ss, DD.ne_ss, DD.fld_e, DD.len_t, DD.len_s, DD.append_e, DD.extend_t, DD.extend_r, DD.tup_r, DD.it_t, DD.sl_t, DD.callF, List.length_append, List.length_cons, List.length_nil, List.append_nil, Nat.reduceAdd, List.set_cons_zero, List.set_cons_succ, ↓reduceIte, Bool.not_true, Bool.not_false, Nat.zero_le]
  · obtain ⟨a, b, c, e⟩ := c2
    refine ⟨a, b, c, ?_⟩
    rw [← e]
    simp only [chainM_e, decide_eq_false h1, DD.bind_ok, DD.bind_exc, DD.toS_ok, DD.toS_exc, DD.bindL_ok, DD.bindL_exc, DD.lbind_ok, DD.lbind_exc, DD.bindE_ok, DD.bindE_exc, DD.sbind_nx, DD.sbind_rt, DD.sbind_exc, DD.sbind_bk, DD.sbind_ct, DD.ret_nx, DD.ret_rt, DD.ret_exc, DD.varM_0, DD.varM_1, DD.varM_2, DD.varM_3, DD.varM_4, DD.varM_5, DD.cM_e, DD.binM_e, DD.unM_e, DD.seqM_e, DD.setM_e, DD.exprM_e, DD.retM_e, DD.raiseM_e, DD.passM_e, DD.brkM_e, DD.ifSM_e, DD.ifM_e, DD.andM_e, DD.orM_e, DD.notM_e, DD.nilM_e, DD.consM_e, DD.callM_e, DD.tupM_e, DD.lstM_e, DD.bmM_e, DD.smM_e, DD.asgM_e, DD.subG_e, DD.nameG_e, DD.slM_e, DD.om_none, DD.om_some, DD.fldSetM_e, DD.toldM_e, DD.add_ii, DD.add_tt, DD.sub_ii, DD.mul_ii, DD.lt_ii, DD.le_ii, DD.gt_ii, DD.ge_ii, DD.fdiv_ii, DD.mod_ii, DD.eq_ii, DD.ne_ii, DD.eq_ss, DD.ne_ss, DD.fld_e, DD.len_t, DD.len_s, DD.append_e, DD.extend_t, DD.extend_r, DD.tup_r, DD.it_t, DD.sl_t, DD.callF, List.length_append, List.length_cons, List.length_nil, List.append_nil, Nat.reduceAdd, List.set_cons_zero, List.set_cons_succ, ↓reduceIte, Bool.not_true, Bool.not_false, Nat.zero_le]
end K15
end

section
set_option Elab.async false
set_option linter.all false
set_option maxRecDepth 100000
set_option maxHeartbeats 2000000
namespace K15
open PySem L2 DD
theorem nb_lt : ∀ (n : Nat), ∀ x ∈ nb n, x < 256 := by
  intro n
  induction n using Nat.strongRecOn with
  | ind n ih =>
    intro x hx
    by_cases h : n > 127
    · rw [nb_big h] at hx
      rcases List.mem_cons.mp hx with hx | hx
      · omega
      · exact ih (n / 128) (by omega) x hx
    · rw [nb_small (by omega), List.mem_singleton] at hx
      omega
mutual
theorem enc_lt : ∀ (v : Va), Wf v → ∀ x ∈ enc v, x < 256
  | .non, _, x, hx => by simp [enc] at hx; omega
  | .bl true, _, x, hx => by simp [enc] at hx; omega
  | .bl false, _, x, hx => by simp [enc] at hx; omega
  | .int i, _, x, hx => by
    simp only [enc, nbI] at hx
    split at hx <;> rcases List.mem_cons.mp hx with hx | hx <;> first | omega | exact nb_lt _ x hx
  | .txt ix, wf, x, hx => by
    simp only [enc] at hx
    simp only [Wf] at wf
    rcases List.mem_cons.mp hx with hx | hx
    · omega
    · rcases List.mem_append.mp hx with hx | hx
      · exact nb_lt _ x hx
      · have := wf x hx; omega
  | .row vs, wf, x, hx => by
    simp only [enc] at hx
    simp only [Wf] at wf
    rcases List.mem_cons.mp hx with hx | hx
    · omega
    · rcases List.mem_append.mp hx with hx | hx
      · exact nb_lt _ x hx
      · exact encs_lt vs wf x hx
theorem encs_lt : ∀ (vs : List Va), Wfs vs → ∀ x ∈ encs vs, x < 256
  | [], _, x, hx => by simp [encs] at hx
  | v :: vs, wf, x, hx => by
    simp only [encs] at hx
    simp only [Wfs] at wf
    rcases List.mem_append.mp hx with hx | hx
    · exact enc_lt v wf.1 x hx
    · exact encs_lt vs wf.2 x hx
end
end K15
end

section
set_option Elab.async false
set_option linter.all false
set_option maxRecDepth 100000
set_option maxHeartbeats 2000000
namespace K15
open PySem L2 DD
theorem s1_sum : ∀ (bs : List Nat) (a b : Nat), (s1 a b bs).1 = a + bs.sum
  | [], a, b => rfl
  | x :: bs, a, b => by simp only [s1, List.sum_cons]; rw [s1_sum bs]; omega
theorem sm_ne {xs ys : List Nat} (h : (1 + xs.sum) % 65521 ≠ (1 + ys.sum) % 65521) : sm xs ≠ sm ys := by
  intro e
  unfold sm at e
  rw [s1_sum, s1_sum] at e
  generalize (s1 1 0 xs).2 = S1 at e
  generalize (s1 1 0 ys).2 = S2 at e
  generalize 1 + xs.sum = F1 at e h
  generalize 1 + ys.sum = F2 at e h
  have a1 : F1 % 65521 < 65521 := Nat.mod_lt _ (by decide)
  have a2 : F2 % 65521 < 65521 := Nat.mod_lt _ (by decide)
  have a3 : S1 % 65521 < 65521 := Nat.mod_lt _ (by decide)
  have a4 : S2 % 65521 < 65521 := Nat.mod_lt _ (by decide)
  generalize F1 % 65521 = f1 at *
  generalize F2 % 65521 = f2 at *
  generalize S1 % 65521 = g1 at *
  generalize S2 % 65521 = g2 at *
  have := b4_inj (m := g1 * 65536 + f1) (n := g2 * 65536 + f2) (by omega) (by omega) e
  omega
/-- one byte is another -/
theorem sm_bent {a c : List Nat} {x y : Nat} (hx : x < 256) (hy : y < 256) (h : x ≠ y) : sm (a ++ x :: c) ≠ sm (a ++ y :: c) := by
  apply sm_ne
  simp only [List.sum_append, List.sum_cons]
  omega
theorem sm_len (bs : List Nat) : (sm bs).length = 4 := rfl
/-- a record whose sums are not its own -/
theorem re_bad {data e c rest : List Nat} {p : Nat} (ed : data.drop p = b4 e.length ++ (e ++ (c ++ rest))) (hz : e.length < 4294967296) (hc : c.length = 4) (hs : sm e ≠ c) : re data p = none := by
  have hl : data.length - p = 4 + (e.length + (4 + rest.length)) := by rw [← List.length_drop, ed]; simp only [List.length_append, b4_len, hc]
  have t4 : (data.drop p).take 4 = b4 e.length := by rw [ed]; exact List.take_left' (b4_len _)
  have n4 : num4 ((data.drop p).take 4) = e.length := by
    rw [t4, b4, num4_e]
    exact b4_back _ hz
  have d4 : data.drop (p + 4) = e ++ (c ++ rest) := by rw [← List.drop_drop, ed, List.drop_left' (b4_len _)]
  have k1 : (data.drop (p + 4)).take (p + 8 + e.length - 4 - (p + 4)) = e := by
    rw [d4, show p + 8 + e.length - 4 - (p + 4) = e.length from by omega]
    exact List.take_left' rfl
  have k2 : (data.drop (p + 8 + e.length - 4)).take 4 = c := by
    rw [show p + 8 + e.length - 4 = p + 4 + e.length from by omega, ← List.drop_drop, d4, List.drop_left' rfl]
    exact List.take_left' hc
  unfold re
  rw [n4, if_neg (by omega), if_neg (by omega), k1, k2, if_neg hs]
/-- a record that is cut -/
theorem re_cut {data more : List Nat} {p m : Nat} {v : Va} (hp : p ≤ data.length) (ed : data.drop p = (fr v ++ more).take m) (hm : m < (fr v).length) (hz : (enc v).length < 4294967296) : re data p = none := by
  have hf := fr_len v
  have hl : data.length - p = m := by rw [← List.length_drop, ed, List.length_take, List.length_append]; omega
  unfold re
  by_cases h8 : p + 8 > data.length
  · rw [if_pos h8]
  · rw [if_neg h8]
    have t4 : (data.drop p).take 4 = b4 (enc v).length := by
      rw [ed, List.take_take, Nat.min_eq_left (by omega), fr, List.append_assoc, List.append_assoc]
      exact List.take_left' (b4_len _)
    have n4 : num4 ((data.drop p).take 4) = (enc v).length := by
      rw [t4, b4, num4_e]
      exact b4_back _ hz
    rw [n4, if_pos (by omega)]
theorem re_end {data : List Nat} : re data data.length = none := by
  unfold re
  rw [if_pos (by omega)]
end K15
end

section
set_option Elab.async false
set_option linter.all false
set_option maxRecDepth 100000
set_option maxHeartbeats 2000000
namespace DD
open PySem L2
theorem lcL_nil {mc : Option EM} {me : EM} {own : List Nat} {τ : SL} {L j : Nat} {live : AH → Bool} {h : AH} (e : live h = true) : lcLoop live (nameG j) mc me own τ L [] h = .ok (.ref L) h := by
  show (if live h = true then _ else _) = _
  rw [if_pos e]
theorem lcL_cons {me : EM} {own : List Nat} {τ : SL} {L j : Nat} {d : D} {ds : List D} {live : AH → Bool} {h : AH} (e : live h = true) : lcLoop live (nameG j) none me own τ L (d :: ds) h = (me ((wipeD τ own).set j (some d)) h).bind fun y h3 => match h3[L]? with
      | some (.lst acc) => if acc.length < sizeLine then lcLoop live (nameG j) none me own τ L ds (h3.set L (.lst (acc ++ [y]))) else .bad
      | _ => .bad := by
  show (if live h = true then _ else _) = _
  rw [if_pos e]
  rfl
end DD
namespace K15
open PySem L2 DD
theorem rounds_run {ns : List Int} {dd : D} {h0 : AH} (hs : Scr ns dd h0) : ∃ L D1 h' a b c, F__law_rounds [dd, .int 1] h0 = .ok (.ref L) h' ∧ h'[L]? = some (.lst [.ref D1]) ∧ h'[D1]? = some (Dc a b c) ∧ D1 ≠ L := by
  have ec : ∀ xs : List D, cutL xs none (some (1 : Int)) = xs.take 1 := fun xs => cut_n (b := 1)
  have sl : slM (varM 0) .none (.some (varM 1)) [some dd, some (.int 1), none, none] h0 = .ok (.ref h0.length) (h0 ++ [.lst ((ns.map D.int).take 1)]) := by
    rcases hs with ⟨rfl, rfl⟩ | ⟨rfl, rfl⟩
    · simp only [sl_r, ec, show ([O.lst (ns.map D.int)] : AH)[0]? = some (.lst (ns.map D.int)) from rfl, DD.bind_ok, DD.bind_exc, DD.toS_ok, DD.toS_exc, DD.bindL_ok, DD.bindL_exc, DD.lbind_ok, DD.lbind_exc, DD.bindE_ok, DD.bindE_exc, DD.sbind_nx, DD.sbind_rt, DD.sbind_exc, DD.sbind_bk, DD.sbind_ct, DD.ret_nx, DD.ret_rt, DD.ret_exc, DD.varM_0, DD.varM_1, DD.varM_2, DD.varM_3, DD.varM_4, DD.varM_5, DD.cM_e, DD.binM_e, DD.unM_e, DD.seqM_e, DD.setM_e, DD.exprM_e, DD.retM_e, DD.raiseM_e, DD.passM_e, DD.brkM_e, DD.ifSM_e, DD.ifM_e, DD.andM_e, DD.orM_e, DD.notM_e, DD.nilM_e, DD.consM_e, DD.callM_e, DD.tupM_e, DD.lstM_e, DD.bmM_e, DD.smM_e, DD.asgM_e, DD.subG_e, DD.nameG_e, DD.slM_e, DD.om_none, DD.om_some, DD.fldSetM_e, DD.toldM_e, DD.add_ii, DD.add_tt, DD.sub_ii, DD.mul_ii, DD.lt_ii, DD.le_ii, DD.gt_ii, DD.ge_ii, DD.fdiv_ii, DD.mod_ii, DD.eq_ii, DD.ne_ii, DD.eq_ss, DD.ne_ss, DD.fld_e, DD.len_t, DD.len_s, DD.append_e, DD.extend_t, DD.extend_r, DD.tup_r, DD.it_t, DD.sl_t, DD.callF, List.length_append, List.length_cons, List.length_nil, List.append_nil, Nat.reduceAdd, List.set_cons_zero, List.set_cons_succ, ↓reduceIte, Bool.not_true, Bool.not_false, Nat.zero_le]
    · simp only [sl_f, ec, DD.bind_ok, DD.bind_exc, DD.toS_ok, DD.toS_exc, DD.bindL_ok, DD.bindL_exc, DD.lbind_ok, DD.lbind_exc, DD.bindE_ok, DD.bindE_exc, DD.sbind_nx, DD.sbind_rt, DD.sbind_exc, DD.sbind_bk, DD.sbind_ct, DD.ret_nx, DD.ret_rt, DD.ret_exc, DD.varM_0, DD.varM_1, DD.varM_2, DD.varM_3, DD.varM_4, DD.varM_5, DD.cM_e, DD.binM_e, DD.unM_e, DD.seqM_e, DD.setM_e, DD.exprM_e, DD.retM_e, DD.raiseM_e, DD.passM_e, DD.brkM_e, DD.ifSM_e, DD.ifM_e, DD.andM_e, DD.orM_e, DD.notM_e, DD.nilM_e, DD.consM_e, DD.callM_e, DD.tupM_e, DD.lstM_e, DD.bmM_e, DD.smM_e, DD.asgM_e, DD.subG_e, DD.nameG_e, DD.slM_e, DD.om_none, DD.om_some, DD.fldSetM_e, DD.toldM_e, DD.add_ii, DD.add_tt, DD.sub_ii, DD.mul_ii, DD.lt_ii, DD.le_ii, DD.gt_ii, DD.ge_ii, DD.fdiv_ii, DD.mod_ii, DD.eq_ii, DD.ne_ii, DD.eq_ss, DD.ne_ss, DD.fld_e, DD.len_t, DD.len_s, DD.append_e, DD.extend_t, DD.extend_r, DD.tup_r, DD.it_t, DD.sl_t, DD.callF, List.length_append, List.length_cons, List.length_nil, List.append_nil, Nat.reduceAdd, List.set_cons_zero, List.set_cons_succ, ↓reduceIte, Bool.not_true, Bool.not_false, Nat.zero_le]
  -- over the cells
  have fin : ∀ (q : Nat) (x : Int) (h1 : AH), h1[q]? = some (.lst [.int x]) → ∃ L D1 h' a b c, lcQ (varM 2) lstIt (nameG 3) none (callM (consM (varM 3) nilM) (callF 1 [] F__law_dice)) [3] [some dd, some (.int 1), some (.ref q), none] h1 = .ok (.ref L) h' ∧ h'[L]? = some (.lst [.ref D1]) ∧ h'[D1]? = some (Dc a b c) ∧ D1 ≠ L := fun q x h1 e => by
    obtain ⟨a, b, c, er⟩ := dice_run x (h1 ++ [.lst []])
    have hq := lt_of_get e
    have e1 : (h1 ++ [O.lst []])[q]? = some (.lst [.int x]) := get_app e
    have e2 : ((h1 ++ [O.lst []]) ++ [Dc a b c])[q]? = some (.lst [.int x]) := get_app e1
    have e3 : ((h1 ++ [O.lst []]) ++ [Dc a b c])[h1.length]? = some (.lst []) := get_app get_new
    have nq : h1.length ≠ q := by omega
    have e4 : (((h1 ++ [O.lst []]) ++ [Dc a b c]).set h1.length (.lst [.ref (h1 ++ [O.lst []]).length]))[q]? = some (.lst [.int x]) := by rw [get_set_ne nq]; exact e2
    refine ⟨h1.length, (h1 ++ [O.lst []]).length, ((h1 ++ [O.lst []]) ++ [Dc a b c]).set h1.length (.lst [.ref (h1 ++ [O.lst []]).length]), a, b, c, ?_, get_set (lt_of_get e3), ?_, by simp⟩
    · rw [lcQ_e, lcM_of (show varM 2 [some dd, some (.int 1), some (.ref q), none] h1 = .ok (.ref q) h1 from varM_2) (lstIt_e e), lcL_cons (isLst_mk e1)]
      have ew : (wipeD [some dd, some (D.int 1), some (D.ref q), none] [3]).set 3 (some (D.int x)) = [some dd, some (.int 1), some (.ref q), some (.int x)] := rfl
      rw [ew]
      have em : callM (consM (varM 3) nilM) (callF 1 [] F__law_dice) [some dd, some (.int 1), some (.ref q), some (.int x)] (h1 ++ [O.lst []]) = .ok (.ref (h1 ++ [O.lst []]).length) ((h1 ++ [O.lst []]) ++ [Dc a b c]) := by
        rw [callM_e, consM_e, varM_3, bindL_ok, nilM_e, lbind_ok, bindE_ok]
        exact er
      rw [em, bind_ok, e3]
      simp only []
      rw [if_pos (by rw [sizeLine_eq]; decide)]
      rw [List.nil_append, lcL_nil (isLst_mk e4), noexc_ok]
    · rw [get_set_ne (by simp)]
      exact get_new
  unfold F__law_rounds m__law_rounds
  have e0 : startD N__law_rounds.length [dd, D.int 1] = [some dd, some (.int 1), none, none] := rfl
  rw [e0]
  cases ns with
  | nil =>
    have g1 : (h0 ++ [O.lst []])[h0.length]? = some (O.lst []) := get_new
    obtain ⟨L, D1, h', a, b, c, f1, f2⟩ := fin ((h0 ++ [O.lst []]) ++ [O.lst []]).length 0 (((h0 ++ [O.lst []]) ++ [O.lst []]) ++ [.lst [.int 0]]) get_new
    refine ⟨L, D1, h', a, b, c, ?_, f2⟩
    have sl' : slM (varM 0) .none (.some (varM 1)) [some dd, some (.int 1), none, none] h0 = .ok (.ref h0.length) (h0 ++ [.lst []]) := sl
    have l2 : lstM nilM [some dd, some (.int 1), some (.ref h0.length), none] (h0 ++ [O.lst []]) = .ok (.ref (h0 ++ [O.lst []]).length) ((h0 ++ [O.lst []]) ++ [.lst []]) := by rw [lstM_e, nilM_e, bindE_ok, if_pos (by simp)]
    have l3 : lstM (consM (cM (.int 0)) nilM) [some dd, some (.int 1), some (.ref h0.length), none] ((h0 ++ [O.lst []]) ++ [O.lst []]) = .ok (.ref ((h0 ++ [O.lst []]) ++ [O.lst []]).length) (((h0 ++ [O.lst []]) ++ [O.lst []]) ++ [.lst [.int 0]]) := by rw [lstM_e, consM_e, cM_e, bindL_ok, nilM_e, lbind_ok, bindE_ok, if_pos (by rw [sizeLine_eq]; decide)]
    have q1 : eqM (.ref h0.length) (.ref (h0 ++ [O.lst []]).length) ((h0 ++ [O.lst []]) ++ [O.lst []]) = .ok (.bl true) ((h0 ++ [O.lst []]) ++ [O.lst []]) := eq_nilnil (get_app g1) get_new
    rw [seqM_e, setM_e, sl']
    simp only [toS_ok, sbind_nx, List.set_cons_zero, List.set_cons_succ]
    rw [seqM_e, ifSM_e, binM_e, varM_2, bind_ok, l2, bind_ok, q1, toS_ok]
    simp only []
    rw [setM_e, l3]
    simp only [toS_ok, sbind_nx, List.set_cons_zero, List.set_cons_succ]
    rw [retM_e, f1, toS_ok, ret_rt]
  | cons x ns =>
    obtain ⟨L, D1, h', a, b, c, f1, f2⟩ := fin h0.length x ((h0 ++ [O.lst [.int x]]) ++ [O.lst []]) (get_app get_new)
    refine ⟨L, D1, h', a, b, c, ?_, f2⟩
    have sl' : slM (varM 0) .none (.some (varM 1)) [some dd, some (.int 1), none, none] h0 = .ok (.ref h0.length) (h0 ++ [.lst [.int x]]) := sl
    have l2 : lstM nilM [some dd, some (.int 1), some (.ref h0.length), none] (h0 ++ [O.lst [.int x]]) = .ok (.ref (h0 ++ [O.lst [.int x]]).length) ((h0 ++ [O.lst [.int x]]) ++ [.lst []]) := by rw [lstM_e, nilM_e, bindE_ok, if_pos (by simp)]
    have g1 : ((h0 ++ [O.lst [.int x]]) ++ [O.lst []])[h0.length]? = some (O.lst [.int x]) := get_app get_new
    have g2 : ((h0 ++ [O.lst [.int x]]) ++ [O.lst []])[(h0 ++ [O.lst [.int x]]).length]? = some (O.lst []) := get_new
    have q1 : eqM (.ref h0.length) (.ref (h0 ++ [O.lst [.int x]]).length) ((h0 ++ [O.lst [.int x]]) ++ [O.lst []]) = .ok (.bl false) ((h0 ++ [O.lst [.int x]]) ++ [O.lst []]) := by
      simp only [eqM, eqB, g1, g2, plDs, plD, depDs, depD, eqDs]
      rfl
    rw [seqM_e, setM_e, sl']
    simp only [toS_ok, sbind_nx, List.set_cons_zero, List.set_cons_succ]
    rw [seqM_e, ifSM_e, binM_e, varM_2, bind_ok, l2, bind_ok, q1, toS_ok]
    simp only []
    rw [passM_e, sbind_nx, retM_e, f1, toS_ok, ret_rt]
end K15
end

section
set_option Elab.async false
set_option linter.all false
set_option maxRecDepth 100000
set_option maxHeartbeats 2000000
namespace DD
open PySem L2
/-! slots by place -/
def Sl (τ : SL) (i : Nat) (d : D) : Prop := τ[i]? = some (some d)
section
variable {τ : SL} {i j : Nat} {d : D} {o : Option D} {h : AH}
theorem varM_at (e : Sl τ i d) : varM i τ h = .ok d h := by
  rw [varM_e]; unfold Sl at e; rw [e]
theorem Sl.set (e : Sl τ i d) (n : j ≠ i) : Sl (τ.set j o) i d := by
  unfold Sl; rw [List.getElem?_set_ne n]; exact e
theorem Sl.new (n : j < τ.length) : Sl (τ.set j (some d)) j d := by
  unfold Sl; simp [n]
end
end DD
namespace K15
open PySem L2 DD
/-- the dice stand at l -/
abbrev Di (h : AH) (l : Nat) : Prop := ∃ a b c, h[l]? = some (Dc a b c)
theorem Dd.of {l : Nat} {h h' : AH} (f : Fr none h h') (hd : Di h l) : Dd l h h' := by
  obtain ⟨a, b, c, e⟩ := hd
  exact ⟨f.wk, a, b, c, f.getN e⟩
theorem Dd.refl {l : Nat} {h : AH} (hd : Di h l) : Dd l h h := Dd.of Fr.refl hd
end K15
end

section
set_option Elab.async false
set_option linter.all false
set_option maxRecDepth 100000
set_option maxHeartbeats 2000000
namespace K15
open PySem L2 DD
variable {τ : SL} {h : AH} {l : Nat}
theorem sl23 {n : Nat} (h : n ≤ 100000) : (n ≤ sizeLine) = True := by rw [sizeLine_eq]; exact eq_true (by omega)
theorem rb256 : RB 5 256 := .inl (by decide)
theorem rb2 : RB 5 2 := .inl (by decide)
end K15
end

section
set_option Elab.async false
set_option linter.all false
set_option maxRecDepth 100000
set_option maxHeartbeats 2000000
namespace K15
open PySem L2 DD
variable {τ : SL} {h : AH} {l : Nat}
mutual
theorem plD_va : ∀ v : Va, plD v.toD = true
  | .non => rfl
  | .bl _ => rfl
  | .int _ => rfl
  | .txt _ => rfl
  | .row vs => by
    show plDs (toDs vs) = true
    exact plDs_va vs
theorem plDs_va : ∀ vs : List Va, plDs (toDs vs) = true
  | [] => rfl
  | v :: vs => by
    show (plD v.toD && plDs (toDs vs)) = true
    rw [plD_va v, plDs_va vs]; rfl
end
theorem len_set {i : Nat} {o : Option D} {n : Nat} (h : τ.length = n) : (τ.set i o).length = n := by rw [List.length_set]; exact h
end K15
end

section
set_option Elab.async false
set_option linter.all false
set_option maxRecDepth 100000
set_option maxHeartbeats 2000000
namespace DD
open PySem L2
theorem atI_k {β : Type} {xs : List β} {k : Nat} (h : k < xs.length) : atI xs (k : Int) = xs[k]? := by
  unfold atI ixN
  rw [if_pos (by omega), if_pos (by omega)]
  rfl
theorem rngL_snoc (n : Nat) : rngL 0 (n + 1) = rngL 0 n ++ [.int (n : Int)] := by
  simp [rngL, List.range_succ]
theorem rngL_nat (n : Nat) : rngL 0 n = (List.range n).map fun (k : Nat) => D.int (k : Int) := by
  simp [rngL]
theorem loopL_nil {live : AH → Bool} {f : TM} {b : SM} {τ : SL} {h : AH} (e : live h = true) : loopM live f b [] τ h = .nx τ h := by
  show (if live h = true then _ else _) = _
  rw [if_pos e]
theorem loopL_cons {live : AH → Bool} {f : TM} {b : SM} {τ : SL} {h : AH} {d : D} {ds : List D} (e : live h = true) : loopM live f b (d :: ds) τ h = (f d τ h).bind fun τ1 h1 => nextM (b τ1 h1) (loopM live f b ds) := by
  show (if live h = true then _ else _) = _
  rw [if_pos e]
theorem lcL_skip {c me : EM} {own : List Nat} {τ : SL} {L j : Nat} {d : D} {ds : List D} {live : AH → Bool} {h h2 : AH} (e : live h = true) (e2 : c ((wipeD τ own).set j (some d)) h = .ok (.bl false) h2) :
    lcLoop live (nameG j) (some c) me own τ L (d :: ds) h = lcLoop live (nameG j) (some c) me own τ L ds h2 := by
  show (if live h = true then (c ((wipeD τ own).set j (some d)) h).bind _ else _) = _
  rw [if_pos e, e2, bind_ok]
theorem lcL_nilC {mc : Option EM} {me : EM} {own : List Nat} {τ : SL} {L : Nat} {live : AH → Bool} {f : TM} {h : AH} (e : live h = true) : lcLoop live f mc me own τ L [] h = .ok (.ref L) h := by
  show (if live h = true then _ else _) = _
  rw [if_pos e]
theorem ne_nilnil {i j : Nat} {h : AH} (e1 : h[i]? = some (.lst [])) (e2 : h[j]? = some (.lst [])) : neM (.ref i) (.ref j) h = .ok (.bl false) h := by
  simp [neM, eqB, e1, e2, plDs, depDs, eqDs]
theorem len_r {l : Nat} {h : AH} {xs : List D} (e : h[l]? = some (.lst xs)) : lenF [.ref l] h = .ok (.int xs.length) h := by
  simp only [lenF, e]
theorem Fr.newU {l k : Nat} {h0 h1 h2 : AH} (a : Fr (some l) h0 h1) (hk : h0.length ≤ k) (b : Fr (some k) h1 h2) : Fr (some l) h0 h2 :=
  ⟨Nat.le_trans a.1 b.1, fun i hi hu => (b.2 i (Nat.lt_of_lt_of_le hi a.1) (by intro z; injection z with z; omega)).trans (a.2 i hi hu)⟩
end DD
namespace K15
open PySem L2 DD
variable {τ : SL} {h : AH} {l : Nat}
/-! ### records and their ends -/
theorem frs_app : ∀ a b : List Va, frs (a ++ b) = frs a ++ frs b
  | [], b => rfl
  | v :: a, b => by
    show fr v ++ frs (a ++ b) = (fr v ++ frs a) ++ frs b
    rw [frs_app a b, List.append_assoc]
theorem toDs_at : ∀ (vs : List Va) (k : Nat) (v : Va), vs[k]? = some v → (toDs vs)[k]? = some v.toD
  | [], k, v, h => by simp at h
  | w :: vs, 0, v, h => by
    simp only [List.getElem?_cons_zero, Option.some.injEq] at h
    subst h
    simp [toDs]
  | w :: vs, k + 1, v, h => by
    simp only [List.getElem?_cons_succ] at h
    simp only [toDs, List.getElem?_cons_succ]
    exact toDs_at vs k v h
theorem fr_lt {v : Va} (wf : Wf v) : ∀ x ∈ fr v, x < 256 := by
  intro x hx
  unfold fr at hx
  simp only [List.mem_append] at hx
  rcases hx with (hx | hx) | hx
  · exact b4_lt _ x hx
  · exact enc_lt v wf x hx
  · exact b4_lt _ x hx
theorem frs_lt : ∀ (vs : List Va), Wfs vs → ∀ x ∈ frs vs, x < 256
  | [], _, x, hx => by simp [frs] at hx
  | v :: vs, w, x, hx => by
    have hx' : x ∈ fr v ++ frs vs := hx
    rcases List.mem_append.mp hx' with hx | hx
    · exact fr_lt w.1 x hx
    · exact frs_lt vs w.2 x hx
/-- how many whole ones -/
theorem cut_ex : ∀ (vs : List Va) (c : Nat), ∃ K, K ≤ vs.length ∧ (frs (vs.take K)).length ≤ c ∧ ∀ k, k < vs.length → ((frs (vs.take (k + 1))).length ≤ c ↔ k + 1 ≤ K)
  | [], c => ⟨0, by simp, by simp [frs], fun k hk => by simp at hk⟩
  | v :: vs, c => by
    have cons : ∀ ws : List Va, (frs (v :: ws)).length = (fr v).length + (frs ws).length := fun ws => by
      show (fr v ++ frs ws).length = _
      rw [List.length_append]
    by_cases h : (fr v).length ≤ c
    · obtain ⟨K, k1, k2, k3⟩ := cut_ex vs (c - (fr v).length)
      refine ⟨K + 1, by simpa using k1, ?_, fun k hk => ?_⟩
      · rw [List.take_succ_cons, cons]; omega
      · rw [List.take_succ_cons, cons]
        cases k with
        | zero => simp [frs, h]
        | succ k =>
          have := k3 k (by simpa using hk)
          omega
    · refine ⟨0, by simp, by simp [frs], fun k hk => ?_⟩
      rw [List.take_succ_cons, cons]
      omega
end K15
end

section
set_option Elab.async false
set_option linter.all false
set_option maxRecDepth 100000
set_option maxHeartbeats 2000000
namespace K15
open PySem L2 DD
/-! ### a disk's fields -/
abbrev FL (a b c d e f : D) : List (Str × D) := [("kept", a), ("waiting", b), ("files", c), ("syncs", d), ("fuse", e), ("down", f)]
section
variable {a b c d e f x : D}
theorem lk1 : List.lookup ("kept" : Str) (FL a b c d e f) = some a := rfl
theorem lk2 : List.lookup ("waiting" : Str) (FL a b c d e f) = some b := rfl
theorem lk3 : List.lookup ("files" : Str) (FL a b c d e f) = some c := rfl
theorem lk4 : List.lookup ("syncs" : Str) (FL a b c d e f) = some d := rfl
theorem lk5 : List.lookup ("fuse" : Str) (FL a b c d e f) = some e := rfl
theorem lk6 : List.lookup ("down" : Str) (FL a b c d e f) = some f := rfl
theorem pu1 : putD "kept" x (FL a b c d e f) = FL x b c d e f := rfl
theorem pu2 : putD "waiting" x (FL a b c d e f) = FL a x c d e f := rfl
theorem pu3 : putD "files" x (FL a b c d e f) = FL a b x d e f := rfl
theorem pu4 : putD "syncs" x (FL a b c d e f) = FL a b c x e f := rfl
theorem pu5 : putD "fuse" x (FL a b c d e f) = FL a b c d x f := rfl
theorem pu6 : putD "down" x (FL a b c d e f) = FL a b c d e x := rfl
end
theorem in1 : (3 ∈ cs_kept) = True := eq_true (by unfold cs_kept; simp)
theorem in2 : (3 ∈ cs_waiting) = True := eq_true (by unfold cs_waiting; simp)
theorem in3 : (3 ∈ cs_files) = True := eq_true (by unfold cs_files; simp)
theorem in4 : (3 ∈ cs_syncs) = True := eq_true (by unfold cs_syncs; simp)
theorem in5 : (3 ∈ cs_fuse) = True := eq_true (by unfold cs_fuse; simp)
theorem in6 : (3 ∈ cs_down) = True := eq_true (by unfold cs_down; simp)
section
variable {h : AH} {k : Nat} {a b c d e f x : D} {τ : SL} {o v : EM} {g : h[k]? = some (.ins 3 (FL a b c d e f))}
theorem fr1 (g : h[k]? = some (.ins 3 (FL a b c d e f))) : fldM "kept" cs_kept (.ref k) h = .ok a h := by rw [fld_e]; simp only [g, in1, lk1, ↓reduceIte]
theorem fr2 (g : h[k]? = some (.ins 3 (FL a b c d e f))) : fldM "waiting" cs_waiting (.ref k) h = .ok b h := by rw [fld_e]; simp only [g, in2, lk2, ↓reduceIte]
theorem fr3 (g : h[k]? = some (.ins 3 (FL a b c d e f))) : fldM "files" cs_files (.ref k) h = .ok c h := by rw [fld_e]; simp only [g, in3, lk3, ↓reduceIte]
theorem fr4 (g : h[k]? = some (.ins 3 (FL a b c d e f))) : fldM "syncs" cs_syncs (.ref k) h = .ok d h := by rw [fld_e]; simp only [g, in4, lk4, ↓reduceIte]
theorem fr5 (g : h[k]? = some (.ins 3 (FL a b c d e f))) : fldM "fuse" cs_fuse (.ref k) h = .ok e h := by rw [fld_e]; simp only [g, in5, lk5, ↓reduceIte]
theorem fr6 (g : h[k]? = some (.ins 3 (FL a b c d e f))) : fldM "down" cs_down (.ref k) h = .ok f h := by rw [fld_e]; simp only [g, in6, lk6, ↓reduceIte]
theorem fl_len : ((FL a b c d e f).length < 1000) = True := eq_true (by simp)
end
section
variable {h h1 : AH} {k : Nat} {a b c d e f x : D} {τ : SL} {o v : EM}
theorem fw1 (g : h1[k]? = some (.ins 3 (FL a b c d e f))) (ev : v τ h = .ok x h1) (eo : o τ h1 = .ok (.ref k) h1) : fldSetM "kept" cs_kept o v τ h = .nx τ (h1.set k (.ins 3 (FL x b c d e f))) := by
  rw [fldSetM_e, ev, toS_ok, eo, toS_ok]; simp only [g, in1, fl_len, and_self, ↓reduceIte, pu1]
theorem fw2 (g : h1[k]? = some (.ins 3 (FL a b c d e f))) (ev : v τ h = .ok x h1) (eo : o τ h1 = .ok (.ref k) h1) : fldSetM "waiting" cs_waiting o v τ h = .nx τ (h1.set k (.ins 3 (FL a x c d e f))) := by
  rw [fldSetM_e, ev, toS_ok, eo, toS_ok]; simp only [g, in2, fl_len, and_self, ↓reduceIte, pu2]
theorem fw4 (g : h1[k]? = some (.ins 3 (FL a b c d e f))) (ev : v τ h = .ok x h1) (eo : o τ h1 = .ok (.ref k) h1) : fldSetM "syncs" cs_syncs o v τ h = .nx τ (h1.set k (.ins 3 (FL a b c x e f))) := by
  rw [fldSetM_e, ev, toS_ok, eo, toS_ok]; simp only [g, in4, fl_len, and_self, ↓reduceIte, pu4]
theorem fw5 (g : h1[k]? = some (.ins 3 (FL a b c d e f))) (ev : v τ h = .ok x h1) (eo : o τ h1 = .ok (.ref k) h1) : fldSetM "fuse" cs_fuse o v τ h = .nx τ (h1.set k (.ins 3 (FL a b c d x f))) := by
  rw [fldSetM_e, ev, toS_ok, eo, toS_ok]; simp only [g, in5, fl_len, and_self, ↓reduceIte, pu5]
theorem fw6 (g : h1[k]? = some (.ins 3 (FL a b c d e f))) (ev : v τ h = .ok x h1) (eo : o τ h1 = .ok (.ref k) h1) : fldSetM "down" cs_down o v τ h = .nx τ (h1.set k (.ins 3 (FL a b c d e x))) := by
  rw [fldSetM_e, ev, toS_ok, eo, toS_ok]; simp only [g, in6, fl_len, and_self, ↓reduceIte, pu6]
end
/-- the disk: kept, waiting, its files' table, syncs, fuse, down -/
def fuD : Option Nat → D
  | none => .non
  | some n => .int n
def DO (a b : List Nat) (fd : Nat) (s : Nat) (z : Option Nat) (dn : Bool) : O := .ins 3 (FL (.tup (B a)) (.tup (B b)) (.ref fd) (.int s) (fuD z) (.bl dn))
theorem meth_d {h : AH} {k : Nat} {a b c d e f : D} {mt : Str} {n : Nat} {F : List D → AH → EO} {o : EM} {m : LM} {τ : SL} (g : h[k]? = some (.ins 3 (FL a b c d e f))) (hm : List.lookup mt (FL a b c d e f) = none) (ev : o τ h = .ok (.ref k) h) :
    methF mt 3 n [] F o m τ h = (m τ h).bindE fun ds h2 => callF n [] F (.ref k :: ds) h2 := by
  rw [methF_e]
  simp only [ev, bind_ok, g, hm, and_self, ↓reduceIte]
theorem isnot_fu {z : Option Nat} {h : AH} : isnotM (fuD z) .non h = .ok (.bl z.isSome) h := by cases z <;> rfl
theorem is_fu {z : Option Nat} {h : AH} : isM (fuD z) .non h = .ok (.bl z.isNone) h := by cases z <;> rfl
theorem tru_bl {b : Bool} {h : AH} : truM (.bl b) h = .ok (.bl b) h := rfl
/-- what a step of the disk does to fuse and down -/
def stD (z : Option Nat) (dn : Bool) : Bool := dn || z == some 0
def stZ (z : Option Nat) (dn : Bool) : Option Nat := if stD z dn = true then z else z.map (· - 1)
theorem step_run {h : AH} {k : Nat} {a b : List Nat} {fd s : Nat} {z : Option Nat} {dn : Bool} (g : h[k]? = some (DO a b fd s z dn)) :
    F_Disk_step [.ref k] h = if stD z dn = true then .exc 2 (h.set k (DO a b fd s (stZ z dn) true)) else .ok .non (h.set k (DO a b fd s (stZ z dn) false)) := by
  unfold F_Disk_step m_Disk_step
  have e0 : startD N_Disk_step.length [D.ref k] = [some (.ref k)] := rfl
  rw [e0]
  unfold DO at g
  have hl := lt_of_get g
  cases z with
  | none =>
    have z1 : stZ none dn = none := by unfold stZ; split <;> rfl
    have z2 : stD none dn = dn := by unfold stD; cases dn <;> rfl
    rw [z1, z2]
    cases dn with
    | true =>
      simp only [fr5 g, isnot_fu, Option.isSome_none, fr6 g, tru_bl, DD.bind_ok, DD.bind_exc, DD.toS_ok, DD.toS_exc, DD.bindL_ok, DD.bindL_exc, DD.lbind_ok, DD.lbind_exc, DD.bindE_ok, DD.bindE_exc, DD.sbind_nx, DD.sbind_rt, DD.sbind_exc, DD.sbind_bk, DD.sbind_ct, DD.ret_nx, DD.ret_rt, DD.ret_exc, DD.varM_0, DD.varM_1, DD.varM_2, DD.varM_3, DD.varM_4, DD.varM_5, DD.cM_e, DD.binM_e, DD.unM_e, DD.seqM_e, DD.setM_e, DD.exprM_e, DD.retM_e, DD.raiseM_e, DD.passM_e, DD.brkM_e, DD.ifSM_e, DD.ifM_e, DD.andM_e, DD.orM_e, DD.notM_e, DD.nilM_e, DD.consM_e, DD.callM_e, DD.tupM_e, DD.lstM_e, DD.bmM_e, DD.smM_e, DD.asgM_e, DD.subG_e, DD.nameG_e, DD.slM_e, DD.om_none, DD.om_some, DD.fldSetM_e, DD.toldM_e, DD.add_ii, DD.add_tt, DD.sub_ii, DD.mul_ii, DD.lt_ii, DD.le_ii, DD.gt_ii, DD.ge_ii, DD.fdiv_ii, DD.mod_ii, DD.eq_ii, DD.ne_ii, DD.eq_ss, DD.ne_ss, DD.fld_e, DD.len_t, DD.len_s, DD.append_e, DD.extend_t, DD.extend_r, DD.tup_r, DD.it_t, DD.sl_t, DD.callF, List.length_append, List.length_cons, List.length_nil, List.append_nil, Nat.reduceAdd, List.set_cons_zero, List.set_cons_succ, ↓reduceIte, Bool.not_true, Bool.not_false, Nat.zero_le]
      unfold DO
      rw [set_same g]
    | false =>
      simp only [fr5 g, isnot_fu, Option.isSome_none, fr6 g, tru_bl, DD.bind_ok, DD.bind_exc, DD.toS_ok, DD.toS_exc, DD.bindL_ok, DD.bindL_exc, DD.lbind_ok, DD.lbind_exc, DD.bindE_ok, DD.bindE_exc, DD.sbind_nx, DD.sbind_rt, DD.sbind_exc, DD.sbind_bk, DD.sbind_ct, DD.ret_nx, DD.ret_rt, DD.ret_exc, DD.varM_0, DD.varM_1, DD.varM_2, DD.varM_3, DD.varM_4, DD.varM_5, DD.cM_e, DD.binM_e, DD.unM_e, DD.seqM_e, DD.setM_e, DD.exprM_e, DD.retM_e, DD.raiseM_e, DD.passM_e, DD.brkM_e, DD.ifSM_e, DD.ifM_e, DD.andM_e, DD.orM_e, DD.notM_e, DD.nilM_e, DD.consM_e, DD.callM_e, DD.tupM_e, DD.lstM_e, DD.bmM_e, DD.smM_e, DD.asgM_e, DD.subG_e, DD.nameG_e, DD.slM_e, DD.om_none, DD.om_some, DD.fldSetM_e, DD.toldM_e, DD.add_ii, DD.add_tt, DD.sub_ii, DD.mul_ii, DD.lt_ii, DD.le_ii, DD.gt_ii, DD.ge_ii, DD.fdiv_ii, DD.mod_ii, DD.eq_ii, DD.ne_ii, DD.eq_ss, DD.ne_ss, DD.fld_e, DD.len_t, DD.len_s, DD.append_e, DD.extend_t, DD.extend_r, DD.tup_r, DD.it_t, DD.sl_t, DD.callF, List.length_append, List.length_cons, List.length_nil, List.append_nil, Nat.reduceAdd, List.set_cons_zero, List.set_cons_succ, ↓reduceIte, Bool.not_true, Bool.not_false, Nat.zero_le]
      unfold DO
      rw [set_same g]
      rfl
  | some n =>
    cases n with
    | zero =>
      have z1 : stZ (some 0) dn = some 0 := by unfold stZ stD; cases dn <;> rfl
      have z2 : stD (some 0) dn = true := by unfold stD; cases dn <;> rfl
      rw [z1, z2]
      have w := fw6 (τ := [some (.ref k)]) (o := varM 0) (v := cM (.bl true)) g cM_e varM_0
      have g2 : (h.set k (.ins 3 (FL (.tup (B a)) (.tup (B b)) (.ref fd) (.int s) (fuD (some 0)) (.bl true))))[k]? = some (.ins 3 (FL (.tup (B a)) (.tup (B b)) (.ref fd) (.int s) (fuD (some 0)) (.bl true))) := get_set hl
      have e5 : (fuD (some 0)) = .int 0 := rfl
      rw [seqM_e, ifSM_e, andM_e, binM_e, unM_e, varM_0, bind_ok, fr5 g, bind_ok, cM_e, bind_ok, isnot_fu, bind_ok]
      simp only [Option.isSome_some]
      rw [binM_e, unM_e, varM_0, bind_ok, fr5 g, bind_ok, cM_e, bind_ok, e5, le_ii, toS_ok]
      simp only [show decide ((0 : Int) ≤ 0) = true from by decide]
      rw [e5] at w g2
      rw [w, sbind_nx]
      simp only [fr6 g2, tru_bl, DD.bind_ok, DD.bind_exc, DD.toS_ok, DD.toS_exc, DD.bindL_ok, DD.bindL_exc, DD.lbind_ok, DD.lbind_exc, DD.bindE_ok, DD.bindE_exc, DD.sbind_nx, DD.sbind_rt, DD.sbind_exc, DD.sbind_bk, DD.sbind_ct, DD.ret_nx, DD.ret_rt, DD.ret_exc, DD.varM_0, DD.varM_1, DD.varM_2, DD.varM_3, DD.varM_4, DD.varM_5, DD.cM_e, DD.binM_e, DD.unM_e, DD.seqM_e, DD.setM_e, DD.exprM_e, DD.retM_e, DD.raiseM_e, DD.passM_e, DD.brkM_e, DD.ifSM_e, DD.ifM_e, DD.andM_e, DD.orM_e, DD.notM_e, DD.nilM_e, DD.consM_e, DD.callM_e, DD.tupM_e, DD.lstM_e, DD.bmM_e, DD.smM_e, DD.asgM_e, DD.subG_e, DD.nameG_e, DD.slM_e, DD.om_none, DD.om_some, DD.fldSetM_e, DD.toldM_e, DD.add_ii, DD.add_tt, DD.sub_ii, DD.mul_ii, DD.lt_ii, DD.le_ii, DD.gt_ii, DD.ge_ii, DD.fdiv_ii, DD.mod_ii, DD.eq_ii, DD.ne_ii, DD.eq_ss, DD.ne_ss, DD.fld_e, DD.len_t, DD.len_s, DD.append_e, DD.extend_t, DD.extend_r, DD.tup_r, DD.it_t, DD.sl_t, DD.callF, List.length_append, List.length_cons, List.length_nil, List.append_nil, Nat.reduceAdd, List.set_cons_zero, List.set_cons_succ, ↓reduceIte, Bool.not_true, Bool.not_false, Nat.zero_le]
      rfl
    | succ n =>
      have e5 : (fuD (some (n + 1))) = .int ((n + 1 : Nat) : Int) := rfl
      have le : decide (((n + 1 : Nat) : Int) ≤ 0) = false := decide_eq_false (by omega)
      cases dn with
      | true =>
        have z1 : stZ (some (n + 1)) true = some (n + 1) := rfl
        have z2 : stD (some (n + 1)) true = true := rfl
        rw [z1, z2]
        have g' := g
        rw [e5] at g'
        simp only [g', in5, in6, lk5, lk6, show isnotM (.int ((n + 1 : Nat) : Int)) .non h = .ok (.bl true) h from rfl, le, tru_bl, DD.bind_ok, DD.bind_exc, DD.toS_ok, DD.toS_exc, DD.bindL_ok, DD.bindL_exc, DD.lbind_ok, DD.lbind_exc, DD.bindE_ok, DD.bindE_exc, DD.sbind_nx, DD.sbind_rt, DD.sbind_exc, DD.sbind_bk, DD.sbind_ct, DD.ret_nx, DD.ret_rt, DD.ret_exc, DD.varM_0, DD.varM_1, DD.varM_2, DD.varM_3, DD.varM_4, DD.varM_5, DD.cM_e, DD.binM_e, DD.unM_e, DD.seqM_e, DD.setM_e, DD.exprM_e, DD.retM_e, DD.raiseM_e, DD.passM_e, DD.brkM_e, DD.ifSM_e, DD.ifM_e, DD.andM_e, DD.orM_e, DD.notM_e, DD.nilM_e, DD.consM_e, DD.callM_e, DD.tupM_e, DD.lstM_e, DD.bmM_e, DD.smM_e, DD.asgM_e, DD.subG_e, DD.nameG_e, DD.slM_e, DD.om_none, DD.om_some, DD.fldSetM_e, DD.toldM_e, DD.add_ii, DD.add_tt, DD.sub_ii, DD.mul_ii, DD.lt_ii, DD.le_ii, DD.gt_ii, DD.ge_ii, DD.fdiv_ii, DD.mod_ii, DD.eq_ii, DD.ne_ii, DD.eq_ss, DD.ne_ss, DD.fld_e, DD.len_t, DD.len_s, DD.append_e, DD.extend_t, DD.extend_r, DD.tup_r, DD.it_t, DD.sl_t, DD.callF, List.length_append, List.length_cons, List.length_nil, List.append_nil, Nat.reduceAdd, List.set_cons_zero, List.set_cons_succ, ↓reduceIte, Bool.not_true, Bool.not_false, Nat.zero_le]
        unfold DO
        rw [set_same g]
      | false =>
        have z1 : stZ (some (n + 1)) false = some n := by unfold stZ; rw [show stD (some (n + 1)) false = false from rfl]; rfl
        have z2 : stD (some (n + 1)) false = false := rfl
        rw [z1, z2]
        have g' := g
        rw [e5] at g'
        have ev : binM (unM (varM 0) (fldM "fuse" cs_fuse)) (cM (.int 1)) subM [some (.ref k)] h = .ok (fuD (some n)) h := by
          simp only [fr5 g', DD.bind_ok, DD.bind_exc, DD.toS_ok, DD.toS_exc, DD.bindL_ok, DD.bindL_exc, DD.lbind_ok, DD.lbind_exc, DD.bindE_ok, DD.bindE_exc, DD.sbind_nx, DD.sbind_rt, DD.sbind_exc, DD.sbind_bk, DD.sbind_ct, DD.ret_nx, DD.ret_rt, DD.ret_exc, DD.varM_0, DD.varM_1, DD.varM_2, DD.varM_3, DD.varM_4, DD.varM_5, DD.cM_e, DD.binM_e, DD.unM_e, DD.seqM_e, DD.setM_e, DD.exprM_e, DD.retM_e, DD.raiseM_e, DD.passM_e, DD.brkM_e, DD.ifSM_e, DD.ifM_e, DD.andM_e, DD.orM_e, DD.notM_e, DD.nilM_e, DD.consM_e, DD.callM_e, DD.tupM_e, DD.lstM_e, DD.bmM_e, DD.smM_e, DD.asgM_e, DD.subG_e, DD.nameG_e, DD.slM_e, DD.om_none, DD.om_some, DD.fldSetM_e, DD.toldM_e, DD.add_ii, DD.add_tt, DD.sub_ii, DD.mul_ii, DD.lt_ii, DD.le_ii, DD.gt_ii, DD.ge_ii, DD.fdiv_ii, DD.mod_ii, DD.eq_ii, DD.ne_ii, DD.eq_ss, DD.ne_ss, DD.fld_e, DD.len_t, DD.len_s, DD.append_e, DD.extend_t, DD.extend_r, DD.tup_r, DD.it_t, DD.sl_t, DD.callF, List.length_append, List.length_cons, List.length_nil, List.append_nil, Nat.reduceAdd, List.set_cons_zero, List.set_cons_succ, ↓reduceIte, Bool.not_true, Bool.not_false, Nat.zero_le]
          rw [show ((n + 1 : Nat) : Int) - 1 = (n : Int) from by omega]
          rfl
        have w := fw5 (τ := [some (.ref k)]) (o := varM 0) g' ev varM_0
        simp only [g', in5, in6, lk5, lk6, show isnotM (.int ((n + 1 : Nat) : Int)) .non h = .ok (.bl true) h from rfl, le, tru_bl, fl_len, pu5, and_self, DD.bind_ok, DD.bind_exc, DD.toS_ok, DD.toS_exc, DD.bindL_ok, DD.bindL_exc, DD.lbind_ok, DD.lbind_exc, DD.bindE_ok, DD.bindE_exc, DD.sbind_nx, DD.sbind_rt, DD.sbind_exc, DD.sbind_bk, DD.sbind_ct, DD.ret_nx, DD.ret_rt, DD.ret_exc, DD.varM_0, DD.varM_1, DD.varM_2, DD.varM_3, DD.varM_4, DD.varM_5, DD.cM_e, DD.binM_e, DD.unM_e, DD.seqM_e, DD.setM_e, DD.exprM_e, DD.retM_e, DD.raiseM_e, DD.passM_e, DD.brkM_e, DD.ifSM_e, DD.ifM_e, DD.andM_e, DD.orM_e, DD.notM_e, DD.nilM_e, DD.consM_e, DD.callM_e, DD.tupM_e, DD.lstM_e, DD.bmM_e, DD.smM_e, DD.asgM_e, DD.subG_e, DD.nameG_e, DD.slM_e, DD.om_none, DD.om_some, DD.fldSetM_e, DD.toldM_e, DD.add_ii, DD.add_tt, DD.sub_ii, DD.mul_ii, DD.lt_ii, DD.le_ii, DD.gt_ii, DD.ge_ii, DD.fdiv_ii, DD.mod_ii, DD.eq_ii, DD.ne_ii, DD.eq_ss, DD.ne_ss, DD.fld_e, DD.len_t, DD.len_s, DD.append_e, DD.extend_t, DD.extend_r, DD.tup_r, DD.it_t, DD.sl_t, DD.callF, List.length_append, List.length_cons, List.length_nil, List.append_nil, Nat.reduceAdd, List.set_cons_zero, List.set_cons_succ, ↓reduceIte, Bool.not_true, Bool.not_false, Nat.zero_le]
        rw [show ((n + 1 : Nat) : Int) - 1 = (n : Int) from by omega]
        rfl
end K15
end

section
set_option Elab.async false
set_option linter.all false
set_option maxRecDepth 100000
set_option maxHeartbeats 2000000
namespace DD
open PySem L2
/-- what stood in h stands in h', but at us -/
def Fs (us : List Nat) (h h' : AH) : Prop := h.length ≤ h'.length ∧ ∀ i, i < h.length → i ∉ us → h'[i]? = h[i]?
section
variable {us : List Nat} {h h' h'' : AH} {i k : Nat} {o : O} {gb : AH}
theorem Fs.refl : Fs us h h := ⟨Nat.le_refl _, fun _ _ _ => rfl⟩
theorem Fs.trans (a : Fs us h h') (b : Fs us h' h'') : Fs us h h'' := ⟨Nat.le_trans a.1 b.1, fun i hi hu => (b.2 i (Nat.lt_of_lt_of_le hi a.1) hu).trans (a.2 i hi hu)⟩
theorem Fs.of (a : Fr none h h') : Fs us h h' := ⟨a.1, fun i hi _ => a.2 i hi (by simp)⟩
theorem Fs.of1 (a : Fr (some k) h h') (hk : k ∈ us) : Fs us h h' := ⟨a.1, fun i hi hu => a.2 i hi (by intro z; injection z with z; subst z; exact hu hk)⟩
theorem Fs.app : Fs us h (h ++ gb) := .of Fr.app
theorem Fs.set (hk : k ∈ us) : Fs us h (h.set k o) := .of1 Fr.set hk
theorem Fs.setN (a : Fs us h h') (hk : h.length ≤ k) : Fs us h (h'.set k o) := ⟨by simp [a.1], fun i hi hu => by rw [get_set_ne (by omega)]; exact a.2 i hi hu⟩
theorem Fs.get (a : Fs us h h') (e : h[i]? = some o) (hu : i ∉ us) : h'[i]? = some o := (a.2 i (lt_of_get e) hu).trans e
theorem Fs.mono {vs : List Nat} (a : Fs us h h') (hs : ∀ x ∈ us, x ∈ vs) : Fs vs h h' := ⟨a.1, fun i hi hu => a.2 i hi fun z => hu (hs i z)⟩
end
end DD
namespace K15
open PySem L2 DD
variable {h : AH} {k : Nat} {a b : List Nat} {fd s : Nat} {z : Option Nat} {dn : Bool}
theorem arm_run {z' : Option Nat} (g : h[k]? = some (DO a b fd s z dn)) : F_Disk_arm [.ref k, fuD z'] h = .ok .non (h.set k (DO a b fd s z' dn)) := by
  unfold F_Disk_arm m_Disk_arm
  have e0 : startD N_Disk_arm.length [D.ref k, fuD z'] = [some (.ref k), some (fuD z')] := rfl
  unfold DO at g
  rw [e0, fw5 g varM_1 varM_0, ret_nx]
  rfl
theorem ab_run {data : List Nat} (g : h[k]? = some (DO a b fd s z dn)) (hz : b.length + data.length ≤ 16000000) :
    F_Disk_append_bytes [.ref k, .tup (B data)] h = if stD z dn = true then .exc 2 (h.set k (DO a b fd s (stZ z dn) true)) else .ok .non (h.set k (DO a (b ++ data) fd s (stZ z dn) false)) := by
  unfold F_Disk_append_bytes m_Disk_append_bytes
  have e0 : startD N_Disk_append_bytes.length [D.ref k, D.tup (B data)] = [some (.ref k), some (.tup (B data))] := rfl
  have hl := lt_of_get g
  have st := step_run g
  have g0 := g
  unfold DO at g0
  have em : methF "step" 3 1 [] F_Disk_step (varM 0) nilM [some (.ref k), some (.tup (B data))] h = F_Disk_step [.ref k] h := by
    rw [meth_d g0 rfl varM_0, nilM_e, bindE_ok]
    rfl
  rw [e0, seqM_e, exprM_e, em, st]
  by_cases hs : stD z dn = true
  · rw [if_pos hs, if_pos hs, toS_exc, sbind_exc, ret_exc]
  · rw [if_neg hs, if_neg hs, toS_ok, sbind_nx]
    have g1 : (h.set k (DO a b fd s (stZ z dn) false))[k]? = some (.ins 3 (FL (.tup (B a)) (.tup (B b)) (.ref fd) (.int s) (fuD (stZ z dn)) (.bl false))) := get_set hl
    have ev : binM (unM (varM 0) (fldM "waiting" cs_waiting)) (varM 1) addM [some (.ref k), some (.tup (B data))] (h.set k (DO a b fd s (stZ z dn) false)) = .ok (.tup (B (b ++ data))) (h.set k (DO a b fd s (stZ z dn) false)) := by
      rw [binM_e, unM_e, varM_0, bind_ok, fr2 g1, bind_ok, varM_1, bind_ok, add_tt, B_len, B_len, if_pos (by rw [sizeLine_eq]; omega), B_app]
    rw [fw2 g1 ev varM_0, ret_nx, set_set]
    rfl
theorem append_run {v : Va} (g : h[k]? = some (DO a b fd s z dn)) (wf : Wf v) (hv : dep v ≤ 30) (hz : b.length + (fr v).length ≤ 15000000) :
    ∃ h', Fr (some k) h h' ∧ if stD z dn = true then F_Disk_append [.ref k, v.toD] h = .exc 2 h' ∧ h'[k]? = some (DO a b fd s (stZ z dn) true) else F_Disk_append [.ref k, v.toD] h = .ok .non h' ∧ h'[k]? = some (DO a (b ++ fr v) fd s (stZ z dn) false) := by
  have hl := lt_of_get g
  have fl := fr_len v
  obtain ⟨h1, a1, a2⟩ := frame_run v h wf hv (by omega)
  have g1 := a2.getN g
  have g0 := g
  unfold DO at g0
  have er := ab_run (data := fr v) g1 (by omega)
  have em : F_Disk_append [.ref k, v.toD] h = retOf ((F_Disk_append_bytes [.ref k, .tup (B (fr v))] h1).toS [some (.ref k), some v.toD] fun _ h1 => .nx [some (.ref k), some v.toD] h1) := by
    unfold F_Disk_append m_Disk_append
    have e0 : startD N_Disk_append.length [D.ref k, v.toD] = [some (.ref k), some v.toD] := rfl
    have ea : callM (consM (varM 1) nilM) (callF 1 [] F_frame) [some (.ref k), some v.toD] h = .ok (.tup (B (fr v))) h1 := by simp only [a1, DD.bind_ok, DD.bind_exc, DD.toS_ok, DD.toS_exc, DD.bindL_ok, DD.bindL_exc, DD.lbind_ok, DD.lbind_exc, DD.bindE_ok, DD.bindE_exc, DD.sbind_nx, DD.sbind_rt, DD.sbind_exc, DD.sbind_bk, DD.sbind_ct, DD.ret_nx, DD.ret_rt, DD.ret_exc, DD.varM_0, DD.varM_1, DD.varM_2, DD.varM_3, DD.varM_4, DD.varM_5, DD.cM_e, DD.binM_e, DD.unM_e, DD.seqM_e, DD.setM_e, DD.exprM_e, DD.retM_e, DD.raiseM_e, DD.passM_e, DD.brkM_e, DD.ifSM_e, DD.ifM_e, DD.andM_e, DD.orM_e, DD.notM_e, DD.nilM_e, DD.consM_e, DD.callM_e, DD.tupM_e, DD.lstM_e, DD.bmM_e, DD.smM_e, DD.asgM_e, DD.subG_e, DD.nameG_e, DD.slM_e, DD.om_none, DD.om_some, DD.fldSetM_e, DD.toldM_e, DD.add_ii, DD.add_tt, DD.sub_ii, DD.mul_ii, DD.lt_ii, DD.le_ii, DD.gt_ii, DD.ge_ii, DD.fdiv_ii, DD.mod_ii, DD.eq_ii, DD.ne_ii, DD.eq_ss, DD.ne_ss, DD.fld_e, DD.len_t, DD.len_s, DD.append_e, DD.extend_t, DD.extend_r, DD.tup_r, DD.it_t, DD.sl_t, DD.callF, List.length_append, List.length_cons, List.length_nil, List.append_nil, Nat.reduceAdd, List.set_cons_zero, List.set_cons_succ, ↓reduceIte, Bool.not_true, Bool.not_false, Nat.zero_le]
    rw [e0, exprM_e, meth_d g0 rfl varM_0, consM_e, ea, bindL_ok, nilM_e, lbind_ok, bindE_ok]
    rfl
  by_cases hs : stD z dn = true
  · rw [if_pos hs] at er
    refine ⟨h1.set k (DO a b fd s (stZ z dn) true), a2.wk.trans Fr.set, ?_⟩
    rw [if_pos hs]
    exact ⟨by rw [em, er, toS_exc, ret_exc], get_set (lt_of_get g1)⟩
  · rw [if_neg hs] at er
    refine ⟨h1.set k (DO a (b ++ fr v) fd s (stZ z dn) false), a2.wk.trans Fr.set, ?_⟩
    rw [if_neg hs]
    exact ⟨by rw [em, er, toS_ok, ret_nx], get_set (lt_of_get g1)⟩
theorem sync_run (g : h[k]? = some (DO a b fd s z dn)) (hz : a.length + b.length ≤ 15000000) :
    ∃ h', Fr (some k) h h' ∧ if stD z dn = true then F_Disk_sync [.ref k] h = .exc 2 h' ∧ h'[k]? = some (DO a b fd s (stZ z dn) true) else F_Disk_sync [.ref k] h = .ok .non h' ∧ h'[k]? = some (DO (a ++ b) [] fd (s + 1) (stZ z dn) false) := by
  have hl := lt_of_get g
  have st := step_run g
  have g0 := g
  unfold DO at g0
  unfold F_Disk_sync m_Disk_sync
  have e0 : startD N_Disk_sync.length [D.ref k] = [some (.ref k)] := rfl
  have em : methF "step" 3 1 [] F_Disk_step (varM 0) nilM [some (.ref k)] h = F_Disk_step [.ref k] h := by
    rw [meth_d g0 rfl varM_0, nilM_e, bindE_ok]
    rfl
  rw [e0]
  by_cases hs : stD z dn = true
  · rw [if_pos hs] at st
    refine ⟨h.set k (DO a b fd s (stZ z dn) true), Fr.set, ?_⟩
    rw [if_pos hs]
    refine ⟨?_, get_set hl⟩
    rw [seqM_e, exprM_e, em, st, toS_exc, sbind_exc, ret_exc]
  · rw [if_neg hs] at st
    have g1 : (h.set k (DO a b fd s (stZ z dn) false))[k]? = some (.ins 3 (FL (.tup (B a)) (.tup (B b)) (.ref fd) (.int s) (fuD (stZ z dn)) (.bl false))) := get_set hl
    generalize hh1 : h.set k (DO a b fd s (stZ z dn) false) = h1 at *
    have F1 : Fr (some k) h h1 := by rw [← hh1]; exact Fr.set
    have ev : binM (unM (varM 0) (fldM "kept" cs_kept)) (unM (varM 0) (fldM "waiting" cs_waiting)) addM [some (.ref k)] h1 = .ok (.tup (B (a ++ b))) h1 := by
      rw [binM_e, unM_e, varM_0, bind_ok, fr1 g1, bind_ok, unM_e, varM_0, bind_ok, fr2 g1, bind_ok, add_tt, B_len, B_len, if_pos (by rw [sizeLine_eq]; omega), B_app]
    have l1 := lt_of_get g1
    have g2 : (h1.set k (.ins 3 (FL (.tup (B (a ++ b))) (.tup (B b)) (.ref fd) (.int s) (fuD (stZ z dn)) (.bl false))))[k]? = some (.ins 3 (FL (.tup (B (a ++ b))) (.tup (B b)) (.ref fd) (.int s) (fuD (stZ z dn)) (.bl false))) := get_set l1
    have e2 : tupM nilM [some (.ref k)] (h1.set k (.ins 3 (FL (.tup (B (a ++ b))) (.tup (B b)) (.ref fd) (.int s) (fuD (stZ z dn)) (.bl false)))) = .ok (.tup (B [])) (h1.set k (.ins 3 (FL (.tup (B (a ++ b))) (.tup (B b)) (.ref fd) (.int s) (fuD (stZ z dn)) (.bl false)))) := by
      rw [tupM_e, nilM_e, bindE_ok, if_pos (by simp)]
      rfl
    have g3 : (h1.set k (.ins 3 (FL (.tup (B (a ++ b))) (.tup (B [])) (.ref fd) (.int s) (fuD (stZ z dn)) (.bl false))))[k]? = some (.ins 3 (FL (.tup (B (a ++ b))) (.tup (B [])) (.ref fd) (.int s) (fuD (stZ z dn)) (.bl false))) := get_set l1
    have e3 : binM (unM (varM 0) (fldM "syncs" cs_syncs)) (cM (.int 1)) addM [some (.ref k)] (h1.set k (.ins 3 (FL (.tup (B (a ++ b))) (.tup (B [])) (.ref fd) (.int s) (fuD (stZ z dn)) (.bl false)))) = .ok (.int ((s + 1 : Nat) : Int)) (h1.set k (.ins 3 (FL (.tup (B (a ++ b))) (.tup (B [])) (.ref fd) (.int s) (fuD (stZ z dn)) (.bl false)))) := by
      rw [binM_e, unM_e, varM_0, bind_ok, fr4 g3, bind_ok, cM_e, bind_ok, add_ii]
      rfl
    refine ⟨h1.set k (DO (a ++ b) [] fd (s + 1) (stZ z dn) false), F1.trans Fr.set, ?_⟩
    rw [if_neg hs]
    refine ⟨?_, get_set l1⟩
    rw [seqM_e, exprM_e, em, st, toS_ok, sbind_nx, seqM_e, fw1 g1 ev varM_0, sbind_nx, seqM_e, fw2 g2 e2 varM_0, sbind_nx, set_set, fw4 g3 e3 varM_0, ret_nx, set_set]
    rfl
end K15
end

section
set_option Elab.async false
set_option linter.all false
set_option maxRecDepth 100000
set_option maxHeartbeats 2000000
namespace K15
open PySem L2 DD
variable {h : AH} {k : Nat} {a b : List Nat} {fd s : Nat} {z : Option Nat} {dn : Bool}
abbrev Nice (v : Va) : Prop := Wf v ∧ dep v ≤ 30 ∧ (fr v).length ≤ 40
theorem Wfs_of : ∀ {vs : List Va}, (∀ v ∈ vs, Nice v) → Wfs vs
  | [], _ => trivial
  | v :: vs, h => ⟨(h v (by simp)).1, Wfs_of fun w hw => h w (by simp [hw])⟩
theorem nice_sz : ∀ {vs : List Va}, (∀ v ∈ vs, Nice v) → (frs vs).length ≤ 40 * vs.length
  | [], _ => by simp [frs]
  | v :: vs, h => by
    have h1 := (h v (by simp)).2.2
    have h2 := nice_sz (vs := vs) fun w hw => h w (by simp [hw])
    show (fr v ++ frs vs).length ≤ _
    rw [List.length_append, List.length_cons]
    omega
theorem frs_one (acc : List Va) (v : Va) : frs (acc ++ [v]) = frs acc ++ fr v := by
  rw [frs_app]
  show _ ++ (fr v ++ []) = _
  rw [List.append_nil]
theorem bytes_loop {L : Nat} {all : List Va} (hn : ∀ v ∈ all, Nice v) (hall : all.length ≤ 1000) : ∀ (rest acc : List Va) (x : Option D) (h : AH), all = acc ++ rest → h[L]? = some (.lst (toDs all)) →
    ∃ x' h', loopM (isLst L (toDs all)) (nameG 2) _law_bytes_f0b (toDs rest) [some (.ref L), some (.tup (B (frs acc))), x] h = .nx [some (.ref L), some (.tup (B (frs all))), x'] h' ∧ Fr none h h'
  | [], acc, x, h, ea, g => by
    rw [List.append_nil] at ea
    subst ea
    exact ⟨x, h, loopL_nil (isLst_mk g), Fr.refl⟩
  | v :: rest, acc, x, h, ea, g => by
    have nv := hn v (by rw [ea]; simp)
    have fl := fr_len v
    obtain ⟨h1, a1, a2⟩ := frame_run v h nv.1 nv.2.1 (by omega)
    have sza := nice_sz hn
    have hsz : (frs acc).length + (fr v).length ≤ 16000000 := by
      have : frs all = frs acc ++ (fr v ++ frs rest) := by rw [ea, frs_app]; rfl
      have := congrArg List.length this
      rw [List.length_append, List.length_append] at this
      omega
    obtain ⟨x', h', b1, b2⟩ := bytes_loop hn hall rest (acc ++ [v]) (some v.toD) h1 (by rw [ea]; simp) (a2.getN g)
    refine ⟨x', h', ?_, a2.trans b2⟩
    show loopM _ _ _ (v.toD :: toDs rest) _ h = _
    have eb : _law_bytes_f0b [some (.ref L), some (.tup (B (frs acc))), some v.toD] h = .nx [some (.ref L), some (.tup (B (frs (acc ++ [v])))), some v.toD] h1 := by
      unfold _law_bytes_f0b
      simp only [a1, B_len, show ((frs acc).length + (fr v).length ≤ sizeLine) = True from by rw [sizeLine_eq]; exact eq_true (by omega), DD.bind_ok, DD.bind_exc, DD.toS_ok, DD.toS_exc, DD.bindL_ok, DD.bindL_exc, DD.lbind_ok, DD.lbind_exc, DD.bindE_ok, DD.bindE_exc, DD.sbind_nx, DD.sbind_rt, DD.sbind_exc, DD.sbind_bk, DD.sbind_ct, DD.ret_nx, DD.ret_rt, DD.ret_exc, DD.varM_0, DD.varM_1, DD.varM_2, DD.varM_3, DD.varM_4, DD.varM_5, DD.cM_e, DD.binM_e, DD.unM_e, DD.seqM_e, DD.setM_e, DD.exprM_e, DD.retM_e, DD.raiseM_e, DD.passM_e, DD.brkM_e, DD.ifSM_e, DD.ifM_e, DD.andM_e, DD.orM_e, DD.notM_e, DD.nilM_e, DD.consM_e, DD.callM_e, DD.tupM_e, DD.lstM_e, DD.bmM_e, DD.smM_e, DD.asgM_e, DD.subG_e, DD.nameG_e, DD.slM_e, DD.om_none, DD.om_some, DD.fldSetM_e, DD.toldM_e, DD.add_ii, DD.add_tt, DD.sub_ii, DD.mul_ii, DD.lt_ii, DD.le_ii, DD.gt_ii, DD.ge_ii, DD.fdiv_ii, DD.mod_ii, DD.eq_ii, DD.ne_ii, DD.eq_ss, DD.ne_ss, DD.fld_e, DD.len_t, DD.len_s, DD.append_e, DD.extend_t, DD.extend_r, DD.tup_r, DD.it_t, DD.sl_t, DD.callF, List.length_append, List.length_cons, List.length_nil, List.append_nil, Nat.reduceAdd, List.set_cons_zero, List.set_cons_succ, ↓reduceIte, Bool.not_true, Bool.not_false, Nat.zero_le]
      rw [frs_one, B_app]
    rw [loopL_cons (isLst_mk g), nameG_e, sbind_nx]
    simp only [List.set_cons_succ, List.set_cons_zero]
    rw [eb, next_nx, b1]
theorem bytes_run {L : Nat} {vs : List Va} (hn : ∀ v ∈ vs, Nice v) (hl : vs.length ≤ 1000) (g : h[L]? = some (.lst (toDs vs))) : ∃ h', F__law_bytes [.ref L] h = .ok (.tup (B (frs vs))) h' ∧ Fr none h h' := by
  obtain ⟨x', h', b1, b2⟩ := bytes_loop hn hl vs [] none h rfl g
  refine ⟨h', ?_, b2⟩
  unfold F__law_bytes m__law_bytes
  have e0 : startD N__law_bytes.length [D.ref L] = [some (.ref L), none, none] := rfl
  have b1' : loopM (isLst L (toDs vs)) (nameG 2) _law_bytes_f0b (toDs vs) [some (.ref L), some (.tup []), none] h = .nx [some (.ref L), some (.tup (B (frs vs))), x'] h' := b1
  rw [e0]
  simp only [forM_e, lstIt_e g, b1', DD.bind_ok, DD.bind_exc, DD.toS_ok, DD.toS_exc, DD.bindL_ok, DD.bindL_exc, DD.lbind_ok, DD.lbind_exc, DD.bindE_ok, DD.bindE_exc, DD.sbind_nx, DD.sbind_rt, DD.sbind_exc, DD.sbind_bk, DD.sbind_ct, DD.ret_nx, DD.ret_rt, DD.ret_exc, DD.varM_0, DD.varM_1, DD.varM_2, DD.varM_3, DD.varM_4, DD.varM_5, DD.cM_e, DD.binM_e, DD.unM_e, DD.seqM_e, DD.setM_e, DD.exprM_e, DD.retM_e, DD.raiseM_e, DD.passM_e, DD.brkM_e, DD.ifSM_e, DD.ifM_e, DD.andM_e, DD.orM_e, DD.notM_e, DD.nilM_e, DD.consM_e, DD.callM_e, DD.tupM_e, DD.lstM_e, DD.bmM_e, DD.smM_e, DD.asgM_e, DD.subG_e, DD.nameG_e, DD.slM_e, DD.om_none, DD.om_some, DD.fldSetM_e, DD.toldM_e, DD.add_ii, DD.add_tt, DD.sub_ii, DD.mul_ii, DD.lt_ii, DD.le_ii, DD.gt_ii, DD.ge_ii, DD.fdiv_ii, DD.mod_ii, DD.eq_ii, DD.ne_ii, DD.eq_ss, DD.ne_ss, DD.fld_e, DD.len_t, DD.len_s, DD.append_e, DD.extend_t, DD.extend_r, DD.tup_r, DD.it_t, DD.sl_t, DD.callF, List.length_append, List.length_cons, List.length_nil, List.append_nil, Nat.reduceAdd, List.set_cons_zero, List.set_cons_succ, ↓reduceIte, Bool.not_true, Bool.not_false, Nat.zero_le]
theorem nice30 {vs : List Va} (hn : ∀ v ∈ vs, Nice v) : ∀ v ∈ vs, Wf v ∧ dep v ≤ 30 := fun v hv => ⟨(hn v hv).1, (hn v hv).2.1⟩
theorem records_run {vs : List Va} (g : h[k]? = some (DO a b fd s z dn)) (e : a ++ b = frs vs) (hn : ∀ v ∈ vs, Nice v) (hl : vs.length ≤ 1000) :
    ∃ r h', F_Disk_records [.ref k] h = .ok (.ref r) h' ∧ Fr none h h' ∧ h'[r]? = some (.lst (toDs vs)) := by
  have sz := nice_sz hn
  have l1 := congrArg List.length e
  rw [List.length_append] at l1
  obtain ⟨h', b1, b2, b3⟩ := frames_run (data := frs vs) (tail := []) vs h (by omega) (frs_lt vs (Wfs_of hn)) (nice30 hn) (by simp) re_end (by omega)
  refine ⟨h.length, h', ?_, b2, b3⟩
  unfold DO at g
  unfold F_Disk_records m_Disk_records
  have e0 : startD N_Disk_records.length [D.ref k] = [some (.ref k), none, none] := rfl
  have ev : binM (unM (varM 0) (fldM "kept" cs_kept)) (unM (varM 0) (fldM "waiting" cs_waiting)) addM [some (.ref k), none, none] h = .ok (.tup (B (frs vs))) h := by
    rw [binM_e, unM_e, varM_0, bind_ok, fr1 g, bind_ok, unM_e, varM_0, bind_ok, fr2 g, bind_ok, add_tt, B_len, B_len, if_pos (by rw [sizeLine_eq]; omega), ← B_app, e]
  rw [e0]
  simp only [ev, b1, tupG_e, unp2, DD.bind_ok, DD.bind_exc, DD.toS_ok, DD.toS_exc, DD.bindL_ok, DD.bindL_exc, DD.lbind_ok, DD.lbind_exc, DD.bindE_ok, DD.bindE_exc, DD.sbind_nx, DD.sbind_rt, DD.sbind_exc, DD.sbind_bk, DD.sbind_ct, DD.ret_nx, DD.ret_rt, DD.ret_exc, DD.varM_0, DD.varM_1, DD.varM_2, DD.varM_3, DD.varM_4, DD.varM_5, DD.cM_e, DD.binM_e, DD.unM_e, DD.seqM_e, DD.setM_e, DD.exprM_e, DD.retM_e, DD.raiseM_e, DD.passM_e, DD.brkM_e, DD.ifSM_e, DD.ifM_e, DD.andM_e, DD.orM_e, DD.notM_e, DD.nilM_e, DD.consM_e, DD.callM_e, DD.tupM_e, DD.lstM_e, DD.bmM_e, DD.smM_e, DD.asgM_e, DD.subG_e, DD.nameG_e, DD.slM_e, DD.om_none, DD.om_some, DD.fldSetM_e, DD.toldM_e, DD.add_ii, DD.add_tt, DD.sub_ii, DD.mul_ii, DD.lt_ii, DD.le_ii, DD.gt_ii, DD.ge_ii, DD.fdiv_ii, DD.mod_ii, DD.eq_ii, DD.ne_ii, DD.eq_ss, DD.ne_ss, DD.fld_e, DD.len_t, DD.len_s, DD.append_e, DD.extend_t, DD.extend_r, DD.tup_r, DD.it_t, DD.sl_t, DD.callF, List.length_append, List.length_cons, List.length_nil, List.append_nil, Nat.reduceAdd, List.set_cons_zero, List.set_cons_succ, ↓reduceIte, Bool.not_true, Bool.not_false, Nat.zero_le]
theorem read_none {x : Str} {df : List (Key × D)} (g : h[k]? = some (DO a b fd s z dn)) (gf : h[fd]? = some (.dct df)) (e : valK df (.inr x) = none) : F_Disk_read_file [.ref k, .str x] h = .ok .non h := by
  unfold DO at g
  unfold F_Disk_read_file m_Disk_read_file
  have e0 : startD N_Disk_read_file.length [D.ref k, D.str x] = [some (.ref k), some (.str x), none, none] := rfl
  have ed : dninM (.str x) (.ref fd) h = .ok (.bl true) h := by
    simp only [dninM, gf, keyD, e]
    rfl
  rw [e0, seqM_e, ifSM_e, binM_e, varM_1, bind_ok, unM_e, varM_0, bind_ok, fr3 g, bind_ok, ed, toS_ok]
  simp only []
  rw [retM_e, cM_e, toS_ok, sbind_rt, ret_rt]
theorem read_some {x : Str} {df : List (Key × D)} {v : Va} (g : h[k]? = some (DO a b fd s z dn)) (gf : h[fd]? = some (.dct df)) (e : valK df (.inr x) = some (.tup (B (fr v)))) (nv : Nice v) : ∃ h', F_Disk_read_file [.ref k, .str x] h = .ok v.toD h' ∧ Fr none h h' := by
  have hn : ∀ w ∈ [v], Nice w := fun w hw => by rw [List.mem_singleton] at hw; subst hw; exact nv
  have e1 : fr v = frs [v] := by show _ = fr v ++ []; rw [List.append_nil]
  obtain ⟨h', b1, b2, b3⟩ := frames_run (data := fr v) (tail := []) [v] h (by have := nv.2.2; omega) (fr_lt nv.1) (nice30 hn) (by rw [List.append_nil]; exact e1) (by rw [← e1]; exact re_end) (by simp)
  refine ⟨h', ?_, b2⟩
  have g' := b2.getN g
  have gf' := b2.getN gf
  unfold DO at g g'
  unfold F_Disk_read_file m_Disk_read_file
  have e0 : startD N_Disk_read_file.length [D.ref k, D.str x] = [some (.ref k), some (.str x), none, none] := rfl
  have ed : dninM (.str x) (.ref fd) h = .ok (.bl false) h := by
    simp only [dninM, gf, keyD, e]
    rfl
  have eg : dgetM (.ref fd) (.str x) h = .ok (.tup (B (fr v))) h := by
    simp only [dgetM, gf, keyD, e]
  have eg' : dgetM (.ref fd) (.str x) h' = .ok (.tup (B (fr v))) h' := by
    simp only [dgetM, gf', keyD, e]
  have ll : lenF [.ref h.length] h' = .ok (.int 1) h' := len_r b3
  have ei : atI (toDs [v]) 0 = some v.toD := rfl
  rw [e0, seqM_e, ifSM_e, binM_e, varM_1, bind_ok, unM_e, varM_0, bind_ok, fr3 g, bind_ok, ed, toS_ok]
  simp only []
  rw [passM_e, sbind_nx, seqM_e, asgM_e, callM_e, consM_e, binM_e, unM_e, varM_0, bind_ok, fr3 g, bind_ok, varM_1, bind_ok, eg, bindL_ok, nilM_e, lbind_ok, bindE_ok]
  simp only [callF, List.append_nil, List.length_cons, List.length_nil, Nat.zero_add, ↓reduceIte]
  rw [b1, toS_ok, tupG_e, unp2, sbind_nx, seqM_e, ifSM_e, orM_e]
  simp only [List.set_cons_succ, List.set_cons_zero]
  rw [binM_e, callM_e, consM_e, varM_2, bindL_ok, nilM_e, lbind_ok, bindE_ok, ll, bind_ok, cM_e, bind_ok, ne_ii, bind_ok]
  simp only [beq_self_eq_true, Bool.not_true]
  rw [binM_e, varM_3, bind_ok, callM_e, consM_e, binM_e, unM_e, varM_0, bind_ok, fr3 g', bind_ok, varM_1, bind_ok, eg', bindL_ok, nilM_e, lbind_ok, bindE_ok, len_t, bind_ok, B_len, ← e1, ne_ii, beq_self_eq_true, toS_ok]
  simp only [Bool.not_true]
  rw [passM_e, sbind_nx, retM_e, binM_e, varM_2, bind_ok, cM_e, bind_ok, it_r, b3]
  simp only [ei]
  rw [toS_ok, ret_rt]
theorem crash_run {m : Nat} (g : h[k]? = some (DO a b fd s z dn)) (hz : a.length + b.length ≤ 15000000) : F_Disk_crash [.ref k, .int (m : Int)] h = .ok .non (h.set k (DO (a ++ b.take m) [] fd s z true)) := by
  unfold DO at g
  have hl := lt_of_get g
  unfold F_Disk_crash m_Disk_crash
  have e0 : startD N_Disk_crash.length [D.ref k, D.int (m : Int)] = [some (.ref k), some (.int (m : Int))] := rfl
  have em : maxF [.int 0, .int (m : Int)] h = .ok (.int (m : Int)) h := by
    show EO.ok (.int (if (m : Int) > 0 then (m : Int) else 0)) h = _
    by_cases hm : (m : Int) > 0
    · rw [if_pos hm]
    · rw [if_neg hm]; congr 2; omega
  have lt : (b.take m).length ≤ b.length := by rw [List.length_take]; omega
  have ev : binM (unM (varM 0) (fldM "kept" cs_kept)) (slM (unM (varM 0) (fldM "waiting" cs_waiting)) .none (.some (callM (consM (cM (.int 0)) (consM (varM 1) nilM)) maxF))) addM [some (.ref k), some (.int (m : Int))] h = .ok (.tup (B (a ++ b.take m))) h := by
    rw [binM_e, unM_e, varM_0, bind_ok, fr1 g, bind_ok, slM_e, unM_e, varM_0, bind_ok, fr2 g, bind_ok, om_none, om_some, callM_e, consM_e, cM_e, bindL_ok, consM_e, varM_1, bindL_ok, nilM_e, lbind_ok, lbind_ok, bindE_ok, em, bind_ok]
    simp only []
    rw [sl_t, cut_n, B_take, bind_ok, add_tt, B_len, B_len, if_pos (by rw [sizeLine_eq]; omega), B_app]
  rw [e0, seqM_e, fw1 g ev varM_0, sbind_nx]
  have g2 : (h.set k (.ins 3 (FL (.tup (B (a ++ b.take m))) (.tup (B b)) (.ref fd) (.int s) (fuD z) (.bl dn))))[k]? = some (.ins 3 (FL (.tup (B (a ++ b.take m))) (.tup (B b)) (.ref fd) (.int s) (fuD z) (.bl dn))) := get_set hl
  have e2 : ∀ hh : AH, tupM nilM [some (.ref k), some (.int (m : Int))] hh = .ok (.tup (B [])) hh := fun hh => by
    rw [tupM_e, nilM_e, bindE_ok, if_pos (by simp)]
    rfl
  have g3 : (h.set k (.ins 3 (FL (.tup (B (a ++ b.take m))) (.tup (B [])) (.ref fd) (.int s) (fuD z) (.bl dn))))[k]? = some (.ins 3 (FL (.tup (B (a ++ b.take m))) (.tup (B [])) (.ref fd) (.int s) (fuD z) (.bl dn))) := get_set hl
  rw [seqM_e, fw2 g2 (e2 _) varM_0, sbind_nx, set_set, fw6 g3 cM_e varM_0, ret_nx, set_set]
  rfl
theorem restart_run {vs : List Va} {tail : List Nat} (g : h[k]? = some (DO a b fd s z dn)) (hn : ∀ v ∈ vs, Nice v) (hl : vs.length ≤ 1000) (hz : a.length ≤ 1000000) (hx : ∀ x ∈ a, x < 256) (ea : a = frs vs ++ tail) (er : re a (frs vs).length = none) :
    ∃ h', F_Disk_restart [.ref k] h = .ok .non h' ∧ Fr (some k) h h' ∧ h'[k]? = some (DO (frs vs) b fd s none false) := by
  obtain ⟨h1, b1, b2, b3⟩ := frames_run (data := a) (tail := tail) vs h (by omega) hx (nice30 hn) ea er (by omega)
  have g0 := g
  have g1 := b2.getN g
  unfold DO at g0 g1
  have l1 := lt_of_get g1
  refine ⟨h1.set k (DO (frs vs) b fd s none false), ?_, b2.wk.trans Fr.set, get_set l1⟩
  unfold F_Disk_restart m_Disk_restart
  have e0 : startD N_Disk_restart.length [D.ref k] = [some (.ref k), none, none] := rfl
  have ec : cutL (B a) none (some ((frs vs).length : Int)) = B (frs vs) := by
    rw [cut_n, B_take, ea, List.take_left' rfl]
  rw [e0, seqM_e, asgM_e, callM_e, consM_e, unM_e, varM_0, bind_ok, fr1 g0, bindL_ok, nilM_e, lbind_ok, bindE_ok]
  simp only [callF, List.append_nil, List.length_cons, List.length_nil, Nat.zero_add, ↓reduceIte]
  rw [b1, toS_ok, tupG_e, unp2, sbind_nx]
  simp only [List.set_cons_succ, List.set_cons_zero]
  have ev : slM (unM (varM 0) (fldM "kept" cs_kept)) .none (.some (varM 2)) [some (.ref k), some (.ref h.length), some (.int ((frs vs).length : Int))] h1 = .ok (.tup (B (frs vs))) h1 := by
    rw [slM_e, unM_e, varM_0, bind_ok, fr1 g1, bind_ok, om_none, om_some, varM_2, bind_ok]
    simp only []
    rw [sl_t, ec]
  have g2 : (h1.set k (.ins 3 (FL (.tup (B (frs vs))) (.tup (B b)) (.ref fd) (.int s) (fuD z) (.bl dn))))[k]? = some (.ins 3 (FL (.tup (B (frs vs))) (.tup (B b)) (.ref fd) (.int s) (fuD z) (.bl dn))) := get_set l1
  have g3 : (h1.set k (.ins 3 (FL (.tup (B (frs vs))) (.tup (B b)) (.ref fd) (.int s) .non (.bl dn))))[k]? = some (.ins 3 (FL (.tup (B (frs vs))) (.tup (B b)) (.ref fd) (.int s) .non (.bl dn))) := get_set l1
  rw [seqM_e, fw1 g1 ev varM_0, sbind_nx, seqM_e, fw5 g2 cM_e varM_0, sbind_nx, set_set, fw6 g3 cM_e varM_0, ret_nx, set_set]
  rfl
end K15
end

section
set_option Elab.async false
set_option linter.all false
set_option maxRecDepth 100000
set_option maxHeartbeats 2000000
namespace DD
open PySem L2
theorem valK_put (kvs : List (Key × D)) (k j : Key) (d : D) : valK (putKD kvs k d) j = if j = k then some d else valK kvs j := by
  have up : ∀ kvs : List (Key × D), valK (kvs.map fun kv => if kv.1 = k then (kv.1, d) else kv) j = (valK kvs j).map fun x => if j = k then d else x := by
    intro kvs
    induction kvs with
    | nil => rfl
    | cons p r ih =>
      have q1 : (if p.1 = k then (p.1, d) else p).1 = p.1 := by split <;> rfl
      unfold valK at ih ⊢
      rw [List.map_cons]
      by_cases e : p.1 = j
      · rw [List.find?_cons_of_pos (by rw [q1]; simpa using e), List.find?_cons_of_pos (by simpa using e)]
        simp only [Option.map_some, Option.some.injEq]
        subst e
        split <;> rfl
      · rw [List.find?_cons_of_neg (by rw [q1]; simpa using e), List.find?_cons_of_neg (by simpa using e)]
        exact ih
  have any : ∀ kvs : List (Key × D), (kvs.any fun kv => decide (kv.1 = k)) = (valK kvs k).isSome := by
    intro kvs
    induction kvs with
    | nil => rfl
    | cons p r ih =>
      unfold valK at ih ⊢
      by_cases e : p.1 = k
      · rw [List.find?_cons_of_pos (by simpa using e), List.any_cons, decide_eq_true e]; rfl
      · rw [List.find?_cons_of_neg (by simpa using e), List.any_cons, decide_eq_false e, Bool.false_or]; exact ih
  have snoc : ∀ kvs : List (Key × D), valK kvs k = none → valK (kvs ++ [(k, d)]) j = if j = k then some d else valK kvs j := by
    intro kvs hn
    induction kvs with
    | nil =>
      unfold valK
      by_cases e : k = j
      · rw [List.nil_append, List.find?_cons_of_pos (by simpa using e), if_pos e.symm]; rfl
      · rw [List.nil_append, List.find?_cons_of_neg (by simpa using e), if_neg (fun z => e z.symm)]; first | rfl | done
    | cons p r ih =>
      unfold valK at ih hn ⊢
      have hk : ¬ p.1 = k := fun e => by rw [List.find?_cons_of_pos (by simpa using e)] at hn; cases hn
      rw [List.find?_cons_of_neg (by simpa using hk)] at hn
      rw [List.cons_append]
      by_cases e : p.1 = j
      · rw [List.find?_cons_of_pos (by simpa using e), List.find?_cons_of_pos (by simpa using e), if_neg (fun z => hk (e.trans z))]
      · rw [List.find?_cons_of_neg (by simpa using e), List.find?_cons_of_neg (by simpa using e)]
        exact ih hn
  unfold putKD
  rw [any]
  split
  · rename_i hs
    rw [up]
    by_cases e : j = k
    · subst e
      cases ev : valK kvs j with
      | none => rw [ev] at hs; cases hs
      | some x => simp
    · simp [if_neg e]
  · rename_i hs
    refine snoc kvs ?_
    cases ev : valK kvs k with
    | none => rfl
    | some x => rw [ev] at hs; exact absurd rfl hs
theorem putKD_len (kvs : List (Key × D)) (k : Key) (d : D) : (putKD kvs k d).length ≤ kvs.length + 1 := by
  unfold putKD
  split <;> simp
theorem fwA {fl : Str} {cs : List Nat} {c k : Nat} {fs : List (Str × D)} {o v : EM} {τ : SL} {x : D} {h h1 : AH} (g : h1[k]? = some (.ins c fs)) (hc : c ∈ cs) (hl : fs.length < 1000) (ev : v τ h = .ok x h1) (eo : o τ h1 = .ok (.ref k) h1) : fldSetM fl cs o v τ h = .nx τ (h1.set k (.ins c (putD fl x fs))) := by
  rw [fldSetM_e, ev, toS_ok, eo, toS_ok]
  simp only [g, hc, hl, and_self, ↓reduceIte]
end DD
namespace K15
open PySem L2 DD
variable {h : AH} {k : Nat} {a b : List Nat} {fd s : Nat} {z : Option Nat} {dn : Bool}
theorem init_run (h : AH) : ∃ h', F_Disk_init [.ref h.length] (h ++ [.ins 3 []]) = .ok .non h' ∧ Fr none h h' ∧ h'[h.length]? = some (DO [] [] (h.length + 1) 0 none false) ∧ h'[h.length + 1]? = some (.dct []) := by
  have c1 : 3 ∈ cs_kept := of_eq_true in1
  have c2 : 3 ∈ cs_waiting := of_eq_true in2
  have c3 : 3 ∈ cs_files := of_eq_true in3
  have c4 : 3 ∈ cs_syncs := of_eq_true in4
  have c5 : 3 ∈ cs_fuse := of_eq_true in5
  have c6 : 3 ∈ cs_down := of_eq_true in6
  have et : ∀ hh : AH, tupM nilM [some (.ref h.length)] hh = .ok (.tup (B [])) hh := fun hh => by
    rw [tupM_e, nilM_e, bindE_ok, if_pos (by simp)]
    rfl
  have v0 : ∀ hh : AH, varM 0 [some (.ref h.length)] hh = .ok (.ref h.length) hh := fun _ => varM_0
  have s1 := fwA (fl := "kept") (cs := cs_kept) (h := h ++ [O.ins 3 []]) (get_new) c1 (by simp) (et _) (v0 _)
  rw [set_new] at s1
  have p1 : putD "kept" (.tup (B [])) [] = [(("kept" : Str), D.tup (B []))] := rfl
  rw [p1] at s1
  have s2 := fwA (fl := "waiting") (cs := cs_waiting) (h := h ++ [O.ins 3 [("kept", .tup (B []))]]) (get_new) c2 (by simp) (et _) (v0 _)
  rw [set_new] at s2
  have p2 : putD "waiting" (.tup (B [])) [(("kept" : Str), D.tup (B []))] = [(("kept" : Str), D.tup (B [])), ("waiting", D.tup (B []))] := rfl
  rw [p2] at s2
  have e3 : dnewM [some (D.ref h.length)] (h ++ [O.ins 3 [("kept", .tup (B [])), ("waiting", .tup (B []))]]) = .ok (.ref (h.length + 1)) (h ++ [O.ins 3 [("kept", .tup (B [])), ("waiting", .tup (B []))], .dct []]) := by
    unfold dnewM
    rw [List.length_append, List.append_assoc]
    rfl
  have s3 := fwA (fl := "files") (cs := cs_files) (get_new (gb := [.dct []])) c3 (by simp) e3 (v0 _)
  rw [set_new] at s3
  have p3 : putD "files" (.ref (h.length + 1)) [(("kept" : Str), D.tup (B [])), ("waiting", D.tup (B []))] = [(("kept" : Str), D.tup (B [])), ("waiting", D.tup (B [])), ("files", .ref (h.length + 1))] := rfl
  rw [p3] at s3
  have s4 := fwA (fl := "syncs") (cs := cs_syncs) (v := cM (.int 0)) (h := h ++ [O.ins 3 [("kept", .tup (B [])), ("waiting", .tup (B [])), ("files", .ref (h.length + 1))], .dct []]) (get_new (gb := [.dct []])) c4 (by simp) cM_e (v0 _)
  rw [set_new] at s4
  have p4 : putD "syncs" (.int 0) [(("kept" : Str), D.tup (B [])), ("waiting", D.tup (B [])), ("files", .ref (h.length + 1))] = [(("kept" : Str), D.tup (B [])), ("waiting", D.tup (B [])), ("files", .ref (h.length + 1)), ("syncs", .int 0)] := rfl
  rw [p4] at s4
  have s5 := fwA (fl := "fuse") (cs := cs_fuse) (v := cM .non) (h := h ++ [O.ins 3 [("kept", .tup (B [])), ("waiting", .tup (B [])), ("files", .ref (h.length + 1)), ("syncs", .int 0)], .dct []]) (get_new (gb := [.dct []])) c5 (by simp) cM_e (v0 _)
  rw [set_new] at s5
  have p5 : putD "fuse" .non [(("kept" : Str), D.tup (B [])), ("waiting", D.tup (B [])), ("files", .ref (h.length + 1)), ("syncs", .int 0)] = [(("kept" : Str), D.tup (B [])), ("waiting", D.tup (B [])), ("files", .ref (h.length + 1)), ("syncs", .int 0), ("fuse", .non)] := rfl
  rw [p5] at s5
  have s6 := fwA (fl := "down") (cs := cs_down) (v := cM (.bl false)) (h := h ++ [O.ins 3 [("kept", .tup (B [])), ("waiting", .tup (B [])), ("files", .ref (h.length + 1)), ("syncs", .int 0), ("fuse", .non)], .dct []]) (get_new (gb := [.dct []])) c6 (by simp) cM_e (v0 _)
  rw [set_new] at s6
  have p6 : putD "down" (.bl false) [(("kept" : Str), D.tup (B [])), ("waiting", D.tup (B [])), ("files", .ref (h.length + 1)), ("syncs", .int 0), ("fuse", .non)] = FL (.tup (B [])) (.tup (B [])) (.ref (h.length + 1)) (.int 0) .non (.bl false) := rfl
  rw [p6] at s6
  refine ⟨_, ?_, Fr.app (gb := [.ins 3 (FL (.tup (B [])) (.tup (B [])) (.ref (h.length + 1)) (.int 0) .non (.bl false)), .dct []]), get_new, ?_⟩
  · unfold F_Disk_init m_Disk_init
    have e0 : startD N_Disk_init.length [D.ref h.length] = [some (.ref h.length)] := rfl
    rw [e0, seqM_e, s1, sbind_nx, seqM_e, s2, sbind_nx, seqM_e, s3, sbind_nx, seqM_e, s4, sbind_nx, seqM_e, s5, sbind_nx, s6, ret_nx]
  · rw [List.getElem?_append_right (by omega), show h.length + 1 - h.length = 1 from by omega]
    rfl
theorem rep_loop {R L5 : Nat} {rs : List Va} {t0 t1 t2 t3 t4 : Option D} (hn : ∀ v ∈ rs, Nice v) (hall : rs.length ≤ 1000) (ne : L5 ≠ R) : ∀ (rest acc : List Va) (x : Option D) (h : AH), rs = acc ++ rest → h[R]? = some (.lst (toDs rs)) → h[L5]? = some (.lst (B (frs acc))) →
    ∃ x' h', loopM (isLst R (toDs rs)) (nameG 6) Disk_replace_f0b (toDs rest) [t0, t1, t2, t3, t4, some (.ref L5), x] h = .nx [t0, t1, t2, t3, t4, some (.ref L5), x'] h' ∧ Fr (some L5) h h' ∧ h'[L5]? = some (.lst (B (frs rs)))
  | [], acc, x, h, ea, g, g5 => by
    rw [List.append_nil] at ea
    subst ea
    exact ⟨x, h, loopL_nil (isLst_mk g), Fr.refl, g5⟩
  | v :: rest, acc, x, h, ea, g, g5 => by
    have nv := hn v (by rw [ea]; simp)
    have fl := fr_len v
    obtain ⟨h1, a1, a2⟩ := frame_run v h nv.1 nv.2.1 (by omega)
    have sza := nice_sz hn
    have hsz : (frs acc).length + (fr v).length ≤ 16000000 := by
      have : frs rs = frs acc ++ (fr v ++ frs rest) := by rw [ea, frs_app]; rfl
      have := congrArg List.length this
      rw [List.length_append, List.length_append] at this
      omega
    have g1 := a2.getN g5
    have gE : (h1.set L5 (.lst (B (frs acc) ++ B (fr v))))[L5]? = some (.lst (B (frs (acc ++ [v])))) := by
      rw [get_set (lt_of_get g1), frs_one, B_app]
    have gR : (h1.set L5 (.lst (B (frs acc) ++ B (fr v))))[R]? = some (.lst (toDs rs)) := by
      rw [get_set_ne ne]; exact a2.getN g
    obtain ⟨x', h', b1, b2, b3⟩ := rep_loop hn hall ne rest (acc ++ [v]) (some v.toD) _ (by rw [ea]; simp) gR gE
    refine ⟨x', h', ?_, (a2.wk.trans Fr.set).trans b2, b3⟩
    show loopM _ _ _ (v.toD :: toDs rest) _ h = _
    rw [loopL_cons (isLst_mk g), nameG_e, sbind_nx]
    simp only [List.set_cons_succ, List.set_cons_zero]
    have eb : Disk_replace_f0b [t0, t1, t2, t3, t4, some (.ref L5), some v.toD] h = .nx [t0, t1, t2, t3, t4, some (.ref L5), some v.toD] (h1.set L5 (.lst (B (frs acc) ++ B (fr v)))) := by
      unfold Disk_replace_f0b
      have ea : callM (consM (varM 6) nilM) (callF 1 [] F_frame) [t0, t1, t2, t3, t4, some (.ref L5), some v.toD] h = .ok (.tup (B (fr v))) h1 := by
        rw [callM_e, consM_e, varM_e]
        simp only [List.getElem?_cons_succ, List.getElem?_cons_zero]
        rw [bindL_ok, nilM_e, lbind_ok, bindE_ok]
        simp only [callF, List.append_nil, List.length_cons, List.length_nil, Nat.zero_add, ↓reduceIte]
        exact a1
      rw [exprM_e, bmM_e, varM_5, bind_ok]
      simp only [g5]
      rw [consM_e, ea, bindL_ok, nilM_e, lbind_ok, bindE_ok, extend_t, g1]
      simp only [B_len]
      rw [if_pos (by rw [sizeLine_eq]; omega), toS_ok]
    rw [eb, next_nx, b1]
theorem replace_run {x : Str} {v : Va} {R : Nat} {rs : List Va} {df : List (Key × D)} (g : h[k]? = some (DO a b fd s z dn)) (gf : h[fd]? = some (.dct df)) (gR : h[R]? = some (.lst (toDs rs))) (hf : df.length ≤ 1000) (nv : Nice v) (hn : ∀ v ∈ rs, Nice v) (hall : rs.length ≤ 1000) :
    ∃ h', Fs [k, fd] h h' ∧ if stD z dn = true then F_Disk_replace [.ref k, .str x, v.toD, .ref R] h = .exc 2 h' ∧ h'[k]? = some (DO a b fd s (stZ z dn) true) ∧ h'[fd]? = some (.dct df)
      else F_Disk_replace [.ref k, .str x, v.toD, .ref R] h = .ok .non h' ∧ h'[k]? = some (DO (frs rs) [] fd (s + 1) (stZ z dn) false) ∧ h'[fd]? = some (.dct (putKD df (.inr x) (.tup (B (fr v))))) := by
  have nkf : k ≠ fd := fun e => by subst e; rw [g] at gf; cases gf
  have fl := fr_len v
  obtain ⟨h1, a1, a2⟩ := frame_run v h nv.1 nv.2.1 (by have := nv.2.2; omega)
  have g1 := a2.getN g
  have gf1 := a2.getN gf
  have gR1 := a2.getN gR
  have n5 : h1.length ≠ R := by have := lt_of_get gR1; omega
  have e5 : lstM nilM [some (.ref k), some (.str x), some v.toD, some (.ref R), some (.tup (B (fr v))), none, none] h1 = .ok (.ref h1.length) (h1 ++ [.lst []]) := by rw [lstM_e, nilM_e, bindE_ok, if_pos (by simp)]
  obtain ⟨x', h2, b1, b2, b3⟩ := rep_loop (t0 := some (.ref k)) (t1 := some (.str x)) (t2 := some v.toD) (t3 := some (.ref R)) (t4 := some (.tup (B (fr v)))) hn hall n5 rs [] none (h1 ++ [.lst []]) rfl (get_app gR1) get_new
  have k1 := lt_of_get g1
  have f1 := lt_of_get gf1
  have g2 := b2.get (get_app (gb := [.lst []]) g1) (by simp; omega)
  have gf2 := b2.get (get_app (gb := [.lst []]) gf1) (by simp; omega)
  have F2 : Fs [k, fd] h h2 := ⟨Nat.le_trans a2.1 (Nat.le_trans (by simp) b2.1), fun i hi _ => by
    rw [b2.2 i (by have := a2.1; simp; omega) (by have := a2.1; simp; omega), List.getElem?_append_left (by have := a2.1; omega)]
    exact a2.2 i hi (by simp)⟩
  have st := step_run g2
  have g0 := g2
  unfold DO at g0
  have em : methF "step" 3 1 [] F_Disk_step (varM 0) nilM [some (.ref k), some (.str x), some v.toD, some (.ref R), some (.tup (B (fr v))), some (.ref h1.length), x'] h2 = F_Disk_step [.ref k] h2 := by
    rw [meth_d g0 rfl varM_0, nilM_e, bindE_ok]
    rfl
  have pre : F_Disk_replace [.ref k, .str x, v.toD, .ref R] h = retOf ((F_Disk_step [.ref k] h2).toS [some (.ref k), some (.str x), some v.toD, some (.ref R), some (.tup (B (fr v))), some (.ref h1.length), x'] (fun _ h3 => .nx [some (.ref k), some (.str x), some v.toD, some (.ref R), some (.tup (B (fr v))), some (.ref h1.length), x'] h3) |>.bind (seqM (asgM (varM 4) (subG (unM (varM 0) (fldM "files" cs_files)) (varM 1) setDF))
  (seqM (fldSetM "kept" cs_kept (varM 0) (unM (varM 5) tupF))
  (seqM (fldSetM "waiting" cs_waiting (varM 0) (tupM nilM))
  (fldSetM "syncs" cs_syncs (varM 0) (binM (unM (varM 0) (fldM "syncs" cs_syncs)) (cM (.int 1)) addM)))))) := by
    unfold F_Disk_replace m_Disk_replace
    have e0 : startD N_Disk_replace.length [D.ref k, D.str x, v.toD, D.ref R] = [some (.ref k), some (.str x), some v.toD, some (.ref R), none, none, none] := rfl
    have ea : callM (consM (varM 2) nilM) (callF 1 [] F_frame) [some (.ref k), some (.str x), some v.toD, some (.ref R), none, none, none] h = .ok (.tup (B (fr v))) h1 := by simp only [a1, DD.bind_ok, DD.bind_exc, DD.toS_ok, DD.toS_exc, DD.bindL_ok, DD.bindL_exc, DD.lbind_ok, DD.lbind_exc, DD.bindE_ok, DD.bindE_exc, DD.sbind_nx, DD.sbind_rt, DD.sbind_exc, DD.sbind_bk, DD.sbind_ct, DD.ret_nx, DD.ret_rt, DD.ret_exc, DD.varM_0, DD.varM_1, DD.varM_2, DD.varM_3, DD.varM_4, DD.varM_5, DD.cM_e, DD.binM_e, DD.unM_e, DD.seqM_e, DD.setM_e, DD.exprM_e, DD.retM_e, DD.raiseM_e, DD.passM_e, DD.brkM_e, DD.ifSM_e, DD.ifM_e, DD.andM_e, DD.orM_e, DD.notM_e, DD.nilM_e, DD.consM_e, DD.callM_e, DD.tupM_e, DD.lstM_e, DD.bmM_e, DD.smM_e, DD.asgM_e, DD.subG_e, DD.nameG_e, DD.slM_e, DD.om_none, DD.om_some, DD.fldSetM_e, DD.toldM_e, DD.add_ii, DD.add_tt, DD.sub_ii, DD.mul_ii, DD.lt_ii, DD.le_ii, DD.gt_ii, DD.ge_ii, DD.fdiv_ii, DD.mod_ii, DD.eq_ii, DD.ne_ii, DD.eq_ss, DD.ne_ss, DD.fld_e, DD.len_t, DD.len_s, DD.append_e, DD.extend_t, DD.extend_r, DD.tup_r, DD.it_t, DD.sl_t, DD.callF, List.length_append, List.length_cons, List.length_nil, List.append_nil, Nat.reduceAdd, List.set_cons_zero, List.set_cons_succ, ↓reduceIte, Bool.not_true, Bool.not_false, Nat.zero_le]
    rw [e0, seqM_e, setM_e, ea, toS_ok, sbind_nx]
    simp only [List.set_cons_succ, List.set_cons_zero]
    rw [seqM_e, setM_e, e5, toS_ok, sbind_nx]
    simp only [List.set_cons_succ, List.set_cons_zero]
    rw [seqM_e, forM_e, varM_3, toS_ok, lstIt_e (get_app gR1)]
    simp only []
    rw [b1, sbind_nx, seqM_e, exprM_e, em]
  have k2 := lt_of_get g2
  by_cases hs : stD z dn = true
  · rw [if_pos hs] at st
    refine ⟨h2.set k (DO a b fd s (stZ z dn) true), F2.trans (Fs.set (by simp)), ?_⟩
    rw [if_pos hs]
    refine ⟨?_, get_set k2, by rw [get_set_ne nkf]; exact gf2⟩
    rw [pre, st, toS_exc, sbind_exc, ret_exc]
  · rw [if_neg hs] at st
    generalize hτ : [some (D.ref k), some (.str x), some v.toD, some (.ref R), some (.tup (B (fr v))), some (.ref h1.length), x'] = τ at *
    have v0 : ∀ hh : AH, varM 0 τ hh = .ok (.ref k) hh := fun hh => by rw [← hτ]; exact varM_0
    have v1 : ∀ hh : AH, varM 1 τ hh = .ok (.str x) hh := fun hh => by rw [← hτ]; exact varM_1
    have v4 : ∀ hh : AH, varM 4 τ hh = .ok (.tup (B (fr v))) hh := fun hh => by rw [← hτ]; exact varM_4
    have v5 : ∀ hh : AH, varM 5 τ hh = .ok (.ref h1.length) hh := fun hh => by rw [← hτ]; exact varM_5
    -- behind the step
    have g3 : (h2.set k (DO a b fd s (stZ z dn) false))[k]? = some (.ins 3 (FL (.tup (B a)) (.tup (B b)) (.ref fd) (.int s) (fuD (stZ z dn)) (.bl false))) := get_set k2
    have gf3 : (h2.set k (DO a b fd s (stZ z dn) false))[fd]? = some (.dct df) := by rw [get_set_ne nkf]; exact gf2
    have n5k : k ≠ h1.length := by omega
    have gL3 : (h2.set k (DO a b fd s (stZ z dn) false))[h1.length]? = some (.lst (B (frs rs))) := by rw [get_set_ne n5k]; exact b3
    have F3 : Fs [k, fd] h (h2.set k (DO a b fd s (stZ z dn) false)) := F2.trans (Fs.set (by simp))
    generalize h2.set k (DO a b fd s (stZ z dn) false) = h3 at *
    have f3 := lt_of_get gf3
    have es : setDF (.ref fd) (.str x) (.tup (B (fr v))) h3 = some (h3.set fd (.dct (putKD df (.inr x) (.tup (B (fr v)))))) := by
      simp only [setDF, gf3, keyD]
      rw [if_pos (by rw [sizeLine_eq]; omega)]
    have g4 : (h3.set fd (.dct (putKD df (.inr x) (.tup (B (fr v))))))[k]? = some (.ins 3 (FL (.tup (B a)) (.tup (B b)) (.ref fd) (.int s) (fuD (stZ z dn)) (.bl false))) := by rw [get_set_ne nkf.symm]; exact g3
    have gf4 : (h3.set fd (.dct (putKD df (.inr x) (.tup (B (fr v))))))[fd]? = some (.dct (putKD df (.inr x) (.tup (B (fr v))))) := get_set f3
    have n5f : fd ≠ h1.length := by omega
    have gL4 : (h3.set fd (.dct (putKD df (.inr x) (.tup (B (fr v))))))[h1.length]? = some (.lst (B (frs rs))) := by rw [get_set_ne n5f]; exact gL3
    have F4 : Fs [k, fd] h (h3.set fd (.dct (putKD df (.inr x) (.tup (B (fr v)))))) := F3.trans (Fs.set (by simp))
    have e4 : asgM (varM 4) (subG (unM (varM 0) (fldM "files" cs_files)) (varM 1) setDF) τ h3 = .nx τ (h3.set fd (.dct (putKD df (.inr x) (.tup (B (fr v)))))) := by
      rw [asgM_e, v4, toS_ok, subG_e, unM_e, v0, bind_ok, fr3 g3, toS_ok, v1, toS_ok, es]
    generalize h3.set fd (.dct (putKD df (.inr x) (.tup (B (fr v))))) = h4 at *
    have k4 := lt_of_get g4
    have ek : unM (varM 5) tupF τ h4 = .ok (.tup (B (frs rs))) h4 := by rw [unM_e, v5, bind_ok, tup_r, gL4]
    have s1 := fw1 g4 ek (v0 _)
    have g5 : (h4.set k (.ins 3 (FL (.tup (B (frs rs))) (.tup (B b)) (.ref fd) (.int s) (fuD (stZ z dn)) (.bl false))))[k]? = some (.ins 3 (FL (.tup (B (frs rs))) (.tup (B b)) (.ref fd) (.int s) (fuD (stZ z dn)) (.bl false))) := get_set k4
    have et : ∀ hh : AH, tupM nilM τ hh = .ok (.tup (B [])) hh := fun hh => by
      rw [tupM_e, nilM_e, bindE_ok, if_pos (by simp)]
      rfl
    have s2 := fw2 g5 (et _) (v0 _)
    rw [set_set] at s2
    have g6 : (h4.set k (.ins 3 (FL (.tup (B (frs rs))) (.tup (B [])) (.ref fd) (.int s) (fuD (stZ z dn)) (.bl false))))[k]? = some (.ins 3 (FL (.tup (B (frs rs))) (.tup (B [])) (.ref fd) (.int s) (fuD (stZ z dn)) (.bl false))) := get_set k4
    have e6 : binM (unM (varM 0) (fldM "syncs" cs_syncs)) (cM (.int 1)) addM τ (h4.set k (.ins 3 (FL (.tup (B (frs rs))) (.tup (B [])) (.ref fd) (.int s) (fuD (stZ z dn)) (.bl false)))) = .ok (.int ((s + 1 : Nat) : Int)) (h4.set k (.ins 3 (FL (.tup (B (frs rs))) (.tup (B [])) (.ref fd) (.int s) (fuD (stZ z dn)) (.bl false)))) := by
      rw [binM_e, unM_e, v0, bind_ok, fr4 g6, bind_ok, cM_e, bind_ok, add_ii]
      rfl
    have s3 := fw4 g6 e6 (v0 _)
    rw [set_set] at s3
    refine ⟨h4.set k (DO (frs rs) [] fd (s + 1) (stZ z dn) false), F4.trans (Fs.set (by simp)), ?_⟩
    rw [if_neg hs]
    refine ⟨?_, get_set k4, by rw [get_set_ne nkf]; exact gf4⟩
    rw [pre, st, toS_ok, sbind_nx, seqM_e, e4, sbind_nx, seqM_e, s1, sbind_nx, seqM_e, s2, sbind_nx, s3, ret_nx]
    rfl
end K15
end

section
set_option Elab.async false
set_option linter.all false
set_option maxRecDepth 100000
set_option maxHeartbeats 2000000
namespace K15
open PySem L2 DD
/-! ### the values that are put -/
def vl (n k : Nat) : Va := .row [.txt [82], .int n, .txt (List.replicate k 88)]
theorem r_T : T [82] = ("r" : Str) := by decide +kernel
theorem x_T : ∀ k, k < 4 → T (List.replicate k 88) = repS "x" k := by decide +kernel
theorem vl_toD (n k : Nat) (hk : k < 4) : (vl n k).toD = .tup [.str "r", .int n, .str (repS "x" k)] := by
  unfold vl
  simp only [Va.toD, toDs, r_T, x_T k hk]
theorem vl_nice (n k : Nat) (hn : n < 999) (hk : k < 4) : Nice (vl n k) := by
  have h1 : Wf (vl n k) := by
    unfold vl
    simp only [Wf, Wfs, and_true, true_and]
    refine ⟨by simp, fun i hi => ?_⟩
    have := List.eq_of_mem_replicate hi
    omega
  refine ⟨h1, by simp [vl, dep, deps], ?_⟩
  rw [fr_len]
  have a1 := nb_len n 1 (by omega)
  have a2 : nb 1 = [1] := nb_small (by omega)
  have a3 : nb 3 = [3] := nb_small (by omega)
  have a4 : nb k = [k] := nb_small (by omega)
  have a5 : (0 : Int) ≤ (n : Int) := by omega
  simp only [vl, enc, encs, nbI, if_pos a5, List.length_cons, List.length_nil, List.length_append, List.length_replicate, Int.toNat_natCast, Nat.zero_add, a2, a3, a4]
  omega
theorem toDs_take : ∀ (n : Nat) (vs : List Va), (toDs vs).take n = toDs (vs.take n)
  | 0, vs => by simp [toDs]
  | n + 1, [] => by simp [toDs]
  | n + 1, v :: vs => by simp [toDs, toDs_take n vs]
theorem toDs_app : ∀ (a b : List Va), toDs a ++ toDs b = toDs (a ++ b)
  | [], b => by simp [toDs]
  | v :: a, b => by simp [toDs, toDs_app a b]
theorem rb (m : Nat) (h : m ≤ 100000000) : RB 5 m := .inl h
/-- the state of the law's loop -/
structure Sv (τ : SL) (h : AH) (l k fd lf m : Nat) (kv wv : List Va) (s : Nat) (z : Option Nat) (dn : Bool) (fm : Str → Option Va) : Prop where
  len : τ.length = 18
  s1 : Sl τ 1 (.ref l)
  s3 : Sl τ 3 (.ref k)
  s6 : Sl τ 6 (.ref lf)
  s7 : Sl τ 7 (fuD z)
  s8 : Sl τ 8 (.bl dn)
  s9 : Sl τ 9 (.int (s : Int))
  l4 : ∃ L, Sl τ 4 (.ref L) ∧ h[L]? = some (.lst (toDs kv)) ∧ L ∉ [l, k, fd, lf]
  l5 : ∃ L, Sl τ 5 (.ref L) ∧ h[L]? = some (.lst (toDs wv)) ∧ L ∉ [l, k, fd, lf]
  di : Di h l
  gk : h[k]? = some (DO (frs kv) (frs wv) fd s z dn)
  td : ∃ df, h[fd]? = some (.dct df) ∧ df.length ≤ m ∧ ∀ x, valK df (.inr x) = (fm x).map fun v => D.tup (B (fr v))
  tl : ∃ le, h[lf]? = some (.dct le) ∧ le.length ≤ m ∧ ∀ x, (valK le (.inr x)).getD .non = ((fm x).map Va.toD).getD .non
  nk : ∀ v ∈ kv, Nice v
  nw : ∀ v ∈ wv, Nice v
  nf : ∀ x v, fm x = some v → Nice v
  sz : kv.length + wv.length ≤ m
  hm : m ≤ 50
  ne : k ∉ [l] ∧ fd ∉ [l, k] ∧ lf ∉ [l, k, fd]
section
variable {τ : SL} {h h' : AH} {l k fd lf m : Nat} {kv wv : List Va} {s : Nat} {z : Option Nat} {dn : Bool} {fm : Str → Option Va}
theorem Sv.heap (S : Sv τ h l k fd lf m kv wv s z dn fm) (d : Dd l h h') : Sv τ h' l k fd lf m kv wv s z dn fm := by
  have f : Fs [l] h h' := .of1 d.1 (by simp)
  obtain ⟨n1, n2, n3⟩ := S.ne
  refine { S with l4 := ?_, l5 := ?_, di := d.2, gk := f.get S.gk n1, td := ?_, tl := ?_ }
  · obtain ⟨L, a, b, c⟩ := S.l4
    exact ⟨L, a, f.get b (fun z => c (by simp at z ⊢; exact .inl z)), c⟩
  · obtain ⟨L, a, b, c⟩ := S.l5
    exact ⟨L, a, f.get b (fun z => c (by simp at z ⊢; exact .inl z)), c⟩
  · obtain ⟨df, a, b⟩ := S.td
    exact ⟨df, f.get a (fun z => n2 (by simp at z ⊢; exact .inl z)), b⟩
  · obtain ⟨le, a, b⟩ := S.tl
    exact ⟨le, f.get a (fun z => n3 (by simp at z ⊢; exact .inl z)), b⟩
theorem Sv.frame (S : Sv τ h l k fd lf m kv wv s z dn fm) (d : Fr none h h') : Sv τ h' l k fd lf m kv wv s z dn fm := S.heap (Dd.of d S.di)
theorem Sv.set (S : Sv τ h l k fd lf m kv wv s z dn fm) {i : Nat} {o : Option D} (hi : i ∉ [1, 3, 4, 5, 6, 7, 8, 9]) : Sv (τ.set i o) h l k fd lf m kv wv s z dn fm := by
  simp only [List.mem_cons, List.not_mem_nil, or_false, not_or] at hi
  obtain ⟨i1, i3, i4, i5, i6, i7, i8, i9⟩ := hi
  refine { S with len := len_set S.len, s1 := S.s1.set i1, s3 := S.s3.set i3, s6 := S.s6.set i6, s7 := S.s7.set i7, s8 := S.s8.set i8, s9 := S.s9.set i9, l4 := ?_, l5 := ?_ }
  · obtain ⟨L, a, b⟩ := S.l4
    exact ⟨L, a.set i4, b⟩
  · obtain ⟨L, a, b⟩ := S.l5
    exact ⟨L, a.set i5, b⟩
theorem Sv.mono (S : Sv τ h l k fd lf m kv wv s z dn fm) {m' : Nat} (a : m ≤ m') (b : m' ≤ 50) : Sv τ h l k fd lf m' kv wv s z dn fm := by
  refine { S with td := ?_, tl := ?_, sz := Nat.le_trans S.sz a, hm := b }
  · obtain ⟨df, p, q, r⟩ := S.td
    exact ⟨df, p, Nat.le_trans q a, r⟩
  · obtain ⟨le, p, q, r⟩ := S.tl
    exact ⟨le, p, Nat.le_trans q a, r⟩
theorem Sv.szb (S : Sv τ h l k fd lf m kv wv s z dn fm) : (frs kv).length ≤ 2000 ∧ (frs wv).length ≤ 2000 := by
  have h1 := nice_sz S.nk
  have h2 := nice_sz S.nw
  have h3 := S.sz
  have h4 := S.hm
  omega
end
noncomputable def t1 : SM := (asgM (tupM (consM (callM (consM (varM 1) (consM (cM (.int 9)) nilM)) (callF 2 [] (R__law_roll 5))) (consM (tupM (consM (cM (.str "r")) (consM (callM (consM (varM 1) (consM (cM (.int 999)) nilM)) (callF 2 [] (R__law_roll 5))) (consM (binM (cM (.str "x")) (callM (consM (varM 1) (consM (cM (.int 4)) nilM)) (callF 2 [] (R__law_roll 5))) repM) nilM)))) nilM))) (tupG ([10, 11].map nameG)))
noncomputable def t2 : SM := (ifSM (binM (varM 10) (cM (.int 0)) eqM) (seqM (setM 7 (callM (consM (varM 1) (consM (cM (.int 9)) nilM)) (callF 2 [] (R__law_roll 5)))) (exprM (methF "arm" 3 2 [] F_Disk_arm (varM 3) (consM (varM 7) nilM)))) (ifSM (binM (varM 10) (cM (.int 7)) ltM) (seqM (setM 8 (orM (varM 8) (binM (varM 7) (cM (.int 0)) eqM))) (seqM (setM 7 (ifM (orM (binM (varM 7) (cM .non) isM) (varM 8)) (varM 7) (binM (varM 7) (cM (.int 1)) subM))) (seqM (setM 12 (binM (cM (.str "ab")) (callM (consM (varM 1) (consM (cM (.int 2)) nilM)) (callF 2 [] (R__law_roll 5))) itM)) (seqM (setM 13 (toldM ci_StoreError "StoreError" (ifM (binM (varM 10) (cM (.int 4)) ltM) (methF "append" 3 2 [] F_Disk_append (varM 3) (consM (varM 11) nilM)) (ifM (binM (varM 10) (cM (.int 6)) ltM) (methF "sync" 3 1 [] F_Disk_sync (varM 3) nilM) (methF "replace" 3 4 [] F_Disk_replace (varM 3) (consM (varM 12) (consM (varM 11) (consM (slM (varM 4) .none (.some (cM (.int 1)))) nilM)))))))) (seqM (ifSM (binM (binM (varM 13) (cM (.str "StoreError")) eqM) (varM 8) neM) (retM (cM (.bl false))) passM) (ifSM (notM (varM 8)) (seqM (setM 9 (binM (varM 9) (callM (consM (binM (varM 10) (cM (.int 3)) gtM) nilM) intF) addM)) (seqM (asgM (ifM (binM (varM 10) (cM (.int 6)) eqM) (varM 11) (dg1M (varM 6) (varM 12))) (subG (varM 6) (varM 12) setDF)) (asgM (ifM (binM (varM 10) (cM (.int 4)) ltM) (tupM (consM (varM 4) (consM (binM (varM 5) (lstM (consM (varM 11) nilM)) addM) nilM))) (ifM (binM (varM 10) (cM (.int 6)) ltM) (tupM (consM (binM (varM 4) (varM 5) addM) (consM (lstM nilM) nilM))) (tupM (consM (slM (varM 4) .none (.some (cM (.int 1)))) (consM (lstM nilM) nilM))))) (tupG ([4, 5].map nameG))))) passM)))))) (ifSM (binM (varM 10) (cM (.int 7)) eqM) (seqM (setM 14 (callM (consM (varM 5) nilM) (callF 1 [] F__law_bytes))) (seqM (setM 15 (callM (consM (varM 1) (consM (binM (callM (consM (varM 14) nilM) lenF) (cM (.int 3)) addM) nilM)) (callF 2 [] (R__law_roll 5)))) (seqM (exprM (methF "crash" 3 2 [] F_Disk_crash (varM 3) (consM (varM 15) nilM))) (seqM (ifSM (orM (binM (unM (varM 3) (fldM "kept" cs_kept)) (binM (callM (consM (varM 4) nilM) (callF 1 [] F__law_bytes)) (slM (varM 14) .none (.some (varM 15))) addM) neM) (orM (binM (unM (varM 3) (fldM "waiting" cs_waiting)) (tupM nilM) neM) (notM (unM (unM (varM 3) (fldM "down" cs_down)) truM)))) (retM (cM (.bl false))) passM) (seqM (exprM (methF "restart" 3 1 [] F_Disk_restart (varM 3) nilM)) (seqM (setM 16 (lcQ (binM (callM (consM (varM 5) nilM) lenF) (cM (.int 1)) addM) rngIt1 (nameG 17) (some (binM (callM (consM (callM (consM (slM (varM 5) .none (.some (varM 17))) nilM) (callF 1 [] F__law_bytes)) nilM) lenF) (varM 15) leM)) (varM 17) [17])) (asgM (tupM (consM (binM (varM 4) (slM (varM 5) .none (.some (binM (varM 16) (binM (callM (consM (varM 16) nilM) lenF) (cM (.int 1)) subM) itM))) addM) (consM (lstM nilM) (consM (cM .non) (consM (cM (.bl false)) nilM))))) (tupG ([4, 5, 7, 8].map nameG))))))))) passM)))
noncomputable def t3 : SM := (ifSM (andM (binM (varM 10) (cM (.int 7)) eqM) (orM (binM (unM (varM 3) (fldM "kept" cs_kept)) (callM (consM (varM 4) nilM) (callF 1 [] F__law_bytes)) neM) (unM (unM (varM 3) (fldM "down" cs_down)) truM))) (retM (cM (.bl false))) passM)
noncomputable def t4 : SM := (ifSM (orM (binM (callM (consM (methF "records" 3 1 [] F_Disk_records (varM 3) nilM) nilM) listF) (binM (varM 4) (varM 5) addM) neM) (binM (tupM (consM (unM (varM 3) (fldM "down" cs_down)) (consM (unM (varM 3) (fldM "syncs" cs_syncs)) nilM))) (tupM (consM (varM 8) (consM (varM 9) nilM))) neM)) (retM (cM (.bl false))) passM)
noncomputable def t5 : SM := (ifSM (binM (lcQ (lstM (consM (cM (.str "a")) (consM (cM (.str "b")) nilM))) lstIt (nameG 12) (some (binM (methF "read_file" 3 2 [] F_Disk_read_file (varM 3) (consM (varM 12) nilM)) (dg1M (varM 6) (varM 12)) neM)) (varM 12) [12]) (lstM nilM) neM) (retM (cM (.bl false))) passM)
theorem law_f0b_eq : law_f0b = seqM t1 (seqM t2 (seqM t3 (seqM t4 (t5)))) := rfl
end K15
end

section
set_option Elab.async false
set_option linter.all false
set_option maxRecDepth 100000
set_option maxHeartbeats 2000000
namespace K15
open PySem L2 DD
noncomputable def bArm : SM := (seqM (setM 7 (callM (consM (varM 1) (consM (cM (.int 9)) nilM)) (callF 2 [] (R__law_roll 5)))) (exprM (methF "arm" 3 2 [] F_Disk_arm (varM 3) (consM (varM 7) nilM))))
noncomputable def bArm1 : SM := (setM 7 (callM (consM (varM 1) (consM (cM (.int 9)) nilM)) (callF 2 [] (R__law_roll 5))))
noncomputable def bArm2 : SM := (exprM (methF "arm" 3 2 [] F_Disk_arm (varM 3) (consM (varM 7) nilM)))
theorem bArm_eq : bArm = seqM bArm1 (bArm2) := rfl
noncomputable def bOp : SM := (seqM (setM 8 (orM (varM 8) (binM (varM 7) (cM (.int 0)) eqM))) (seqM (setM 7 (ifM (orM (binM (varM 7) (cM .non) isM) (varM 8)) (varM 7) (binM (varM 7) (cM (.int 1)) subM))) (seqM (setM 12 (binM (cM (.str "ab")) (callM (consM (varM 1) (consM (cM (.int 2)) nilM)) (callF 2 [] (R__law_roll 5))) itM)) (seqM (setM 13 (toldM ci_StoreError "StoreError" (ifM (binM (varM 10) (cM (.int 4)) ltM) (methF "append" 3 2 [] F_Disk_append (varM 3) (consM (varM 11) nilM)) (ifM (binM (varM 10) (cM (.int 6)) ltM) (methF "sync" 3 1 [] F_Disk_sync (varM 3) nilM) (methF "replace" 3 4 [] F_Disk_replace (varM 3) (consM (varM 12) (consM (varM 11) (consM (slM (varM 4) .none (.some (cM (.int 1)))) nilM)))))))) (seqM (ifSM (binM (binM (varM 13) (cM (.str "StoreError")) eqM) (varM 8) neM) (retM (cM (.bl false))) passM) (ifSM (notM (varM 8)) (seqM (setM 9 (binM (varM 9) (callM (consM (binM (varM 10) (cM (.int 3)) gtM) nilM) intF) addM)) (seqM (asgM (ifM (binM (varM 10) (cM (.int 6)) eqM) (varM 11) (dg1M (varM 6) (varM 12))) (subG (varM 6) (varM 12) setDF)) (asgM (ifM (binM (varM 10) (cM (.int 4)) ltM) (tupM (consM (varM 4) (consM (binM (varM 5) (lstM (consM (varM 11) nilM)) addM) nilM))) (ifM (binM (varM 10) (cM (.int 6)) ltM) (tupM (consM (binM (varM 4) (varM 5) addM) (consM (lstM nilM) nilM))) (tupM (consM (slM (varM 4) .none (.some (cM (.int 1)))) (consM (lstM nilM) nilM))))) (tupG ([4, 5].map nameG))))) passM))))))
noncomputable def bOp1 : SM := (setM 8 (orM (varM 8) (binM (varM 7) (cM (.int 0)) eqM)))
noncomputable def bOp2 : SM := (setM 7 (ifM (orM (binM (varM 7) (cM .non) isM) (varM 8)) (varM 7) (binM (varM 7) (cM (.int 1)) subM)))
noncomputable def bOp3 : SM := (setM 12 (binM (cM (.str "ab")) (callM (consM (varM 1) (consM (cM (.int 2)) nilM)) (callF 2 [] (R__law_roll 5))) itM))
noncomputable def bOp4 : SM := (setM 13 (toldM ci_StoreError "StoreError" (ifM (binM (varM 10) (cM (.int 4)) ltM) (methF "append" 3 2 [] F_Disk_append (varM 3) (consM (varM 11) nilM)) (ifM (binM (varM 10) (cM (.int 6)) ltM) (methF "sync" 3 1 [] F_Disk_sync (varM 3) nilM) (methF "replace" 3 4 [] F_Disk_replace (varM 3) (consM (varM 12) (consM (varM 11) (consM (slM (varM 4) .none (.some (cM (.int 1)))) nilM))))))))
noncomputable def bOp5 : SM := (ifSM (binM (binM (varM 13) (cM (.str "StoreError")) eqM) (varM 8) neM) (retM (cM (.bl false))) passM)
noncomputable def bOp6 : SM := (ifSM (notM (varM 8)) (seqM (setM 9 (binM (varM 9) (callM (consM (binM (varM 10) (cM (.int 3)) gtM) nilM) intF) addM)) (seqM (asgM (ifM (binM (varM 10) (cM (.int 6)) eqM) (varM 11) (dg1M (varM 6) (varM 12))) (subG (varM 6) (varM 12) setDF)) (asgM (ifM (binM (varM 10) (cM (.int 4)) ltM) (tupM (consM (varM 4) (consM (binM (varM 5) (lstM (consM (varM 11) nilM)) addM) nilM))) (ifM (binM (varM 10) (cM (.int 6)) ltM) (tupM (consM (binM (varM 4) (varM 5) addM) (consM (lstM nilM) nilM))) (tupM (consM (slM (varM 4) .none (.some (cM (.int 1)))) (consM (lstM nilM) nilM))))) (tupG ([4, 5].map nameG))))) passM)
theorem bOp_eq : bOp = seqM bOp1 (seqM bOp2 (seqM bOp3 (seqM bOp4 (seqM bOp5 (bOp6))))) := rfl
noncomputable def bCr : SM := (seqM (setM 14 (callM (consM (varM 5) nilM) (callF 1 [] F__law_bytes))) (seqM (setM 15 (callM (consM (varM 1) (consM (binM (callM (consM (varM 14) nilM) lenF) (cM (.int 3)) addM) nilM)) (callF 2 [] (R__law_roll 5)))) (seqM (exprM (methF "crash" 3 2 [] F_Disk_crash (varM 3) (consM (varM 15) nilM))) (seqM (ifSM (orM (binM (unM (varM 3) (fldM "kept" cs_kept)) (binM (callM (consM (varM 4) nilM) (callF 1 [] F__law_bytes)) (slM (varM 14) .none (.some (varM 15))) addM) neM) (orM (binM (unM (varM 3) (fldM "waiting" cs_waiting)) (tupM nilM) neM) (notM (unM (unM (varM 3) (fldM "down" cs_down)) truM)))) (retM (cM (.bl false))) passM) (seqM (exprM (methF "restart" 3 1 [] F_Disk_restart (varM 3) nilM)) (seqM (setM 16 (lcQ (binM (callM (consM (varM 5) nilM) lenF) (cM (.int 1)) addM) rngIt1 (nameG 17) (some (binM (callM (consM (callM (consM (slM (varM 5) .none (.some (varM 17))) nilM) (callF 1 [] F__law_bytes)) nilM) lenF) (varM 15) leM)) (varM 17) [17])) (asgM (tupM (consM (binM (varM 4) (slM (varM 5) .none (.some (binM (varM 16) (binM (callM (consM (varM 16) nilM) lenF) (cM (.int 1)) subM) itM))) addM) (consM (lstM nilM) (consM (cM .non) (consM (cM (.bl false)) nilM))))) (tupG ([4, 5, 7, 8].map nameG)))))))))
noncomputable def bCr1 : SM := (setM 14 (callM (consM (varM 5) nilM) (callF 1 [] F__law_bytes)))
noncomputable def bCr2 : SM := (setM 15 (callM (consM (varM 1) (consM (binM (callM (consM (varM 14) nilM) lenF) (cM (.int 3)) addM) nilM)) (callF 2 [] (R__law_roll 5))))
noncomputable def bCr3 : SM := (exprM (methF "crash" 3 2 [] F_Disk_crash (varM 3) (consM (varM 15) nilM)))
noncomputable def bCr4 : SM := (ifSM (orM (binM (unM (varM 3) (fldM "kept" cs_kept)) (binM (callM (consM (varM 4) nilM) (callF 1 [] F__law_bytes)) (slM (varM 14) .none (.some (varM 15))) addM) neM) (orM (binM (unM (varM 3) (fldM "waiting" cs_waiting)) (tupM nilM) neM) (notM (unM (unM (varM 3) (fldM "down" cs_down)) truM)))) (retM (cM (.bl false))) passM)
noncomputable def bCr5 : SM := (exprM (methF "restart" 3 1 [] F_Disk_restart (varM 3) nilM))
noncomputable def bCr6 : SM := (setM 16 (lcQ (binM (callM (consM (varM 5) nilM) lenF) (cM (.int 1)) addM) rngIt1 (nameG 17) (some (binM (callM (consM (callM (consM (slM (varM 5) .none (.some (varM 17))) nilM) (callF 1 [] F__law_bytes)) nilM) lenF) (varM 15) leM)) (varM 17) [17]))
noncomputable def bCr7 : SM := (asgM (tupM (consM (binM (varM 4) (slM (varM 5) .none (.some (binM (varM 16) (binM (callM (consM (varM 16) nilM) lenF) (cM (.int 1)) subM) itM))) addM) (consM (lstM nilM) (consM (cM .non) (consM (cM (.bl false)) nilM))))) (tupG ([4, 5, 7, 8].map nameG)))
theorem bCr_eq : bCr = seqM bCr1 (seqM bCr2 (seqM bCr3 (seqM bCr4 (seqM bCr5 (seqM bCr6 (bCr7)))))) := rfl
noncomputable def bUp : SM := (seqM (setM 9 (binM (varM 9) (callM (consM (binM (varM 10) (cM (.int 3)) gtM) nilM) intF) addM)) (seqM (asgM (ifM (binM (varM 10) (cM (.int 6)) eqM) (varM 11) (dg1M (varM 6) (varM 12))) (subG (varM 6) (varM 12) setDF)) (asgM (ifM (binM (varM 10) (cM (.int 4)) ltM) (tupM (consM (varM 4) (consM (binM (varM 5) (lstM (consM (varM 11) nilM)) addM) nilM))) (ifM (binM (varM 10) (cM (.int 6)) ltM) (tupM (consM (binM (varM 4) (varM 5) addM) (consM (lstM nilM) nilM))) (tupM (consM (slM (varM 4) .none (.some (cM (.int 1)))) (consM (lstM nilM) nilM))))) (tupG ([4, 5].map nameG)))))
noncomputable def bUp1 : SM := (setM 9 (binM (varM 9) (callM (consM (binM (varM 10) (cM (.int 3)) gtM) nilM) intF) addM))
noncomputable def bUp2 : SM := (asgM (ifM (binM (varM 10) (cM (.int 6)) eqM) (varM 11) (dg1M (varM 6) (varM 12))) (subG (varM 6) (varM 12) setDF))
noncomputable def bUp3 : SM := (asgM (ifM (binM (varM 10) (cM (.int 4)) ltM) (tupM (consM (varM 4) (consM (binM (varM 5) (lstM (consM (varM 11) nilM)) addM) nilM))) (ifM (binM (varM 10) (cM (.int 6)) ltM) (tupM (consM (binM (varM 4) (varM 5) addM) (consM (lstM nilM) nilM))) (tupM (consM (slM (varM 4) .none (.some (cM (.int 1)))) (consM (lstM nilM) nilM))))) (tupG ([4, 5].map nameG)))
theorem bUp_eq : bUp = seqM bUp1 (seqM bUp2 (bUp3)) := rfl
theorem t2_eq : t2 = ifSM (binM (varM 10) (cM (.int 0)) eqM) bArm (ifSM (binM (varM 10) (cM (.int 7)) ltM) bOp (ifSM (binM (varM 10) (cM (.int 7)) eqM) bCr passM)) := rfl
theorem bOp6_eq : bOp6 = ifSM (notM (varM 8)) bUp passM := rfl
section
variable {τ τ' : SL} {h h' : AH} {l k fd lf m m' : Nat} {kv wv kv' wv' : List Va} {s s' : Nat} {z z' : Option Nat} {dn dn' : Bool} {fm fm' : Str → Option Va}
theorem Sv.next (S : Sv τ h l k fd lf m kv wv s z dn fm) (len : τ'.length = 18) (s1 : Sl τ' 1 (.ref l)) (s3 : Sl τ' 3 (.ref k)) (s6 : Sl τ' 6 (.ref lf)) (s7 : Sl τ' 7 (fuD z')) (s8 : Sl τ' 8 (.bl dn')) (s9 : Sl τ' 9 (.int (s' : Int)))
    (l4 : ∃ L, Sl τ' 4 (.ref L) ∧ h'[L]? = some (.lst (toDs kv')) ∧ L ∉ [l, k, fd, lf]) (l5 : ∃ L, Sl τ' 5 (.ref L) ∧ h'[L]? = some (.lst (toDs wv')) ∧ L ∉ [l, k, fd, lf]) (F : Fs [k, fd, lf] h h')
    (gk : h'[k]? = some (DO (frs kv') (frs wv') fd s' z' dn')) (td : ∃ df, h'[fd]? = some (.dct df) ∧ df.length ≤ m' ∧ ∀ x, valK df (.inr x) = (fm' x).map fun v => D.tup (B (fr v)))
    (tl : ∃ le, h'[lf]? = some (.dct le) ∧ le.length ≤ m' ∧ ∀ x, (valK le (.inr x)).getD .non = ((fm' x).map Va.toD).getD .non)
    (nk : ∀ v ∈ kv', Nice v) (nw : ∀ v ∈ wv', Nice v) (nf : ∀ x v, fm' x = some v → Nice v) (sz : kv'.length + wv'.length ≤ m') (hm : m' ≤ 50) : Sv τ' h' l k fd lf m' kv' wv' s' z' dn' fm' := by
  refine ⟨len, s1, s3, s6, s7, s8, s9, l4, l5, ?_, gk, td, tl, nk, nw, nf, sz, hm, S.ne⟩
  obtain ⟨n1, n2, n3⟩ := S.ne
  obtain ⟨a, b, c, e⟩ := S.di
  refine ⟨a, b, c, F.get e ?_⟩
  simp only [List.mem_cons, List.not_mem_nil, or_false, not_or] at n1 n2 n3 ⊢
  exact ⟨fun q => n1 q.symm, fun q => n2.1 q.symm, fun q => n3.1 q.symm⟩
theorem t1_run (S : Sv τ h l k fd lf m kv wv s z dn fm) : ∃ (c n q : Nat) (h' : AH), t1 τ h = .nx ((τ.set 10 (some (.int (c : Int)))).set 11 (some (vl n q).toD)) h' ∧ c < 9 ∧ n < 999 ∧ q < 4 ∧ Dd l h h' := by
  obtain ⟨c, h1, a1, a2, a3⟩ := roll5 9 h l S.di (by decide) (rb _ (by decide)) (by decide)
  have a1' : R__law_roll 5 [.ref l, .int 9] h = .ok (.int (c : Int)) h1 := a1
  obtain ⟨n, h2, b1, b2, b3⟩ := roll5 999 h1 l a3.2 (by decide) (rb _ (by decide)) (by decide)
  have b1' : R__law_roll 5 [.ref l, .int 999] h1 = .ok (.int (n : Int)) h2 := b1
  obtain ⟨q, h3, c1, c2, c3⟩ := roll5 4 h2 l b3.2 (by decide) (rb _ (by decide)) (by decide)
  have c1' : R__law_roll 5 [.ref l, .int 4] h2 = .ok (.int (q : Int)) h3 := c1
  refine ⟨c, n, q, h3, ?_, a2, b2, c2, (a3.trans b3).trans c3⟩
  have er : repM (.str "x") (.int (q : Int)) h3 = .ok (.str (repS "x" q)) h3 := by
    simp only [repM]
    rw [if_pos ⟨by omega, by omega, by decide⟩, Int.toNat_natCast]
  unfold t1
  rw [vl_toD n q c2]
  simp only [varM_at S.s1, a1', b1', c1', er, sl23 (n := 0 + 1 + 1) (by decide), sl23 (n := 0 + 1 + 1 + 1) (by decide), tupG_e, unp2, DD.bind_ok, DD.bind_exc, DD.toS_ok, DD.toS_exc, DD.bindL_ok, DD.bindL_exc, DD.lbind_ok, DD.lbind_exc, DD.bindE_ok, DD.bindE_exc, DD.sbind_nx, DD.sbind_rt, DD.sbind_exc, DD.sbind_bk, DD.sbind_ct, DD.ret_nx, DD.ret_rt, DD.ret_exc, DD.varM_0, DD.varM_1, DD.varM_2, DD.varM_3, DD.varM_4, DD.varM_5, DD.cM_e, DD.binM_e, DD.unM_e, DD.seqM_e, DD.setM_e, DD.exprM_e, DD.retM_e, DD.raiseM_e, DD.passM_e, DD.brkM_e, DD.ifSM_e, DD.ifM_e, DD.andM_e, DD.orM_e, DD.notM_e, DD.nilM_e, DD.consM_e, DD.callM_e, DD.tupM_e, DD.lstM_e, DD.bmM_e, DD.smM_e, DD.asgM_e, DD.subG_e, DD.nameG_e, DD.slM_e, DD.om_none, DD.om_some, DD.fldSetM_e, DD.toldM_e, DD.add_ii, DD.add_tt, DD.sub_ii, DD.mul_ii, DD.lt_ii, DD.le_ii, DD.gt_ii, DD.ge_ii, DD.fdiv_ii, DD.mod_ii, DD.eq_ii, DD.ne_ii, DD.eq_ss, DD.ne_ss, DD.fld_e, DD.len_t, DD.len_s, DD.append_e, DD.extend_t, DD.extend_r, DD.tup_r, DD.it_t, DD.sl_t, DD.callF, List.length_append, List.length_cons, List.length_nil, List.append_nil, Nat.reduceAdd, List.set_cons_zero, List.set_cons_succ, ↓reduceIte, Bool.not_true, Bool.not_false, Nat.zero_le]
theorem arm_branch {c : Nat} (S : Sv τ h l k fd lf m kv wv s z dn fm) (s10 : Sl τ 10 (.int (c : Int))) : ∃ τ' h' z', bArm τ h = .nx τ' h' ∧ Sv τ' h' l k fd lf m kv wv s z' dn fm ∧ Fs [l, k, fd, lf] h h' ∧ Sl τ' 10 (.int (c : Int)) := by
  obtain ⟨r, h1, a1, a2, a3⟩ := roll5 9 h l S.di (by decide) (rb _ (by decide)) (by decide)
  have a1' : R__law_roll 5 [.ref l, .int 9] h = .ok (.int (r : Int)) h1 := a1
  have S1 := S.heap a3
  have e1 : bArm1 τ h = .nx (τ.set 7 (some (.int (r : Int)))) h1 := by
    unfold bArm1
    simp only [varM_at S.s1, a1', DD.bind_ok, DD.bind_exc, DD.toS_ok, DD.toS_exc, DD.bindL_ok, DD.bindL_exc, DD.lbind_ok, DD.lbind_exc, DD.bindE_ok, DD.bindE_exc, DD.sbind_nx, DD.sbind_rt, DD.sbind_exc, DD.sbind_bk, DD.sbind_ct, DD.ret_nx, DD.ret_rt, DD.ret_exc, DD.varM_0, DD.varM_1, DD.varM_2, DD.varM_3, DD.varM_4, DD.varM_5, DD.cM_e, DD.binM_e, DD.unM_e, DD.seqM_e, DD.setM_e, DD.exprM_e, DD.retM_e, DD.raiseM_e, DD.passM_e, DD.brkM_e, DD.ifSM_e, DD.ifM_e, DD.andM_e, DD.orM_e, DD.notM_e, DD.nilM_e, DD.consM_e, DD.callM_e, DD.tupM_e, DD.lstM_e, DD.bmM_e, DD.smM_e, DD.asgM_e, DD.subG_e, DD.nameG_e, DD.slM_e, DD.om_none, DD.om_some, DD.fldSetM_e, DD.toldM_e, DD.add_ii, DD.add_tt, DD.sub_ii, DD.mul_ii, DD.lt_ii, DD.le_ii, DD.gt_ii, DD.ge_ii, DD.fdiv_ii, DD.mod_ii, DD.eq_ii, DD.ne_ii, DD.eq_ss, DD.ne_ss, DD.fld_e, DD.len_t, DD.len_s, DD.append_e, DD.extend_t, DD.extend_r, DD.tup_r, DD.it_t, DD.sl_t, DD.callF, List.length_append, List.length_cons, List.length_nil, List.append_nil, Nat.reduceAdd, List.set_cons_zero, List.set_cons_succ, ↓reduceIte, Bool.not_true, Bool.not_false, Nat.zero_le]
  have len : (τ.set 7 (some (.int (r : Int)))).length = 18 := len_set S.len
  have t7 : Sl (τ.set 7 (some (.int (r : Int)))) 7 (fuD (some r)) := Sl.new (by rw [S.len]; decide)
  have t1 : Sl (τ.set 7 (some (.int (r : Int)))) 1 (.ref l) := S.s1.set (by decide)
  have t3 : Sl (τ.set 7 (some (.int (r : Int)))) 3 (.ref k) := S.s3.set (by decide)
  have t6 : Sl (τ.set 7 (some (.int (r : Int)))) 6 (.ref lf) := S.s6.set (by decide)
  have t8 : Sl (τ.set 7 (some (.int (r : Int)))) 8 (.bl dn) := S.s8.set (by decide)
  have t9 : Sl (τ.set 7 (some (.int (r : Int)))) 9 (.int (s : Int)) := S.s9.set (by decide)
  have t10 : Sl (τ.set 7 (some (.int (r : Int)))) 10 (.int (c : Int)) := s10.set (by decide)
  have l4 : ∃ L, Sl (τ.set 7 (some (.int (r : Int)))) 4 (.ref L) ∧ h1[L]? = some (.lst (toDs kv)) ∧ L ∉ [l, k, fd, lf] := by
    obtain ⟨L, p, q⟩ := S1.l4
    exact ⟨L, p.set (by decide), q⟩
  have l5 : ∃ L, Sl (τ.set 7 (some (.int (r : Int)))) 5 (.ref L) ∧ h1[L]? = some (.lst (toDs wv)) ∧ L ∉ [l, k, fd, lf] := by
    obtain ⟨L, p, q⟩ := S1.l5
    exact ⟨L, p.set (by decide), q⟩
  generalize τ.set 7 (some (.int (r : Int))) = τ1 at *
  have gk := S1.gk
  have ar := arm_run (z' := some r) gk
  have gk0 := gk
  unfold DO at gk0
  have kl := lt_of_get gk
  have e2 : bArm2 τ1 h1 = .nx τ1 (h1.set k (DO (frs kv) (frs wv) fd s (some r) dn)) := by
    unfold bArm2
    rw [exprM_e, meth_d gk0 rfl (varM_at t3), consM_e, varM_at t7, bindL_ok, nilM_e, lbind_ok, bindE_ok]
    simp only [callF, List.append_nil, List.length_cons, List.length_nil, Nat.zero_add, Nat.reduceAdd, ↓reduceIte]
    rw [ar, toS_ok]
  have F : Fs [k, fd, lf] h1 (h1.set k (DO (frs kv) (frs wv) fd s (some r) dn)) := Fs.set (by simp)
  obtain ⟨n1, n2, n3⟩ := S.ne
  have kf : k ≠ fd := fun q => n2 (by simp [q])
  have kl2 : k ≠ lf := fun q => n3 (by simp [q])
  refine ⟨τ1, _, some r, by rw [bArm_eq, seqM_e, e1, sbind_nx, e2], S1.next len t1 t3 t6 t7 t8 t9 ?_ ?_ F (get_set kl) ?_ ?_ S.nk S.nw S.nf S.sz S.hm, ?_, t10⟩
  · obtain ⟨L, p, q, r⟩ := l4
    exact ⟨L, p, F.get q (fun z => r (by simp at z ⊢; exact .inr z)), r⟩
  · obtain ⟨L, p, q, r⟩ := l5
    exact ⟨L, p, F.get q (fun z => r (by simp at z ⊢; exact .inr z)), r⟩
  · obtain ⟨df, p, q⟩ := S1.td
    exact ⟨df, by rw [get_set_ne kf]; exact p, q⟩
  · obtain ⟨le, p, q⟩ := S1.tl
    exact ⟨le, by rw [get_set_ne kl2]; exact p, q⟩
  · exact (Fs.of1 a3.1 (by simp)).trans (Fs.set (by simp))
end
end K15
end

section
set_option Elab.async false
set_option linter.all false
set_option maxRecDepth 100000
set_option maxHeartbeats 2000000
namespace DD
open PySem L2
theorem ne_bb' {a b : Bool} {h : AH} : neM (.bl a) (.bl b) h = .ok (.bl (!(a == b))) h := by
  simp [neM, eqB, plD, depD, eqD]
end DD
namespace K15
open PySem L2 DD
section
variable {τ τ' : SL} {h h' : AH} {l k fd lf m : Nat} {kv wv : List Va} {s : Nat} {z : Option Nat} {dn : Bool} {fm : Str → Option Va}
theorem eq_fu0 {h : AH} : eqM (fuD z) (.int 0) h = .ok (.bl (z == some 0)) h := by
  cases z with
  | none => rfl
  | some n =>
    show eqM (.int (n : Int)) (.int 0) h = _
    rw [eq_ii]
    congr 2
    cases n with
    | zero => rfl
    | succ n => rfl
theorem op1_run (s7 : Sl τ 7 (fuD z)) (s8 : Sl τ 8 (.bl dn)) : bOp1 τ h = .nx (τ.set 8 (some (.bl (stD z dn)))) h := by
  unfold bOp1 stD
  cases dn with
  | true => simp only [varM_at s8, Bool.true_or, DD.bind_ok, DD.bind_exc, DD.toS_ok, DD.toS_exc, DD.bindL_ok, DD.bindL_exc, DD.lbind_ok, DD.lbind_exc, DD.bindE_ok, DD.bindE_exc, DD.sbind_nx, DD.sbind_rt, DD.sbind_exc, DD.sbind_bk, DD.sbind_ct, DD.ret_nx, DD.ret_rt, DD.ret_exc, DD.varM_0, DD.varM_1, DD.varM_2, DD.varM_3, DD.varM_4, DD.varM_5, DD.cM_e, DD.binM_e, DD.unM_e, DD.seqM_e, DD.setM_e, DD.exprM_e, DD.retM_e, DD.raiseM_e, DD.passM_e, DD.brkM_e, DD.ifSM_e, DD.ifM_e, DD.andM_e, DD.orM_e, DD.notM_e, DD.nilM_e, DD.consM_e, DD.callM_e, DD.tupM_e, DD.lstM_e, DD.bmM_e, DD.smM_e, DD.asgM_e, DD.subG_e, DD.nameG_e, DD.slM_e, DD.om_none, DD.om_some, DD.fldSetM_e, DD.toldM_e, DD.add_ii, DD.add_tt, DD.sub_ii, DD.mul_ii, DD.lt_ii, DD.le_ii, DD.gt_ii, DD.ge_ii, DD.fdiv_ii, DD.mod_ii, DD.eq_ii, DD.ne_ii, DD.eq_ss, DD.ne_ss, DD.fld_e, DD.len_t, DD.len_s, DD.append_e, DD.extend_t, DD.extend_r, DD.tup_r, DD.it_t, DD.sl_t, DD.callF, List.length_append, List.length_cons, List.length_nil, List.append_nil, Nat.reduceAdd, List.set_cons_zero, List.set_cons_succ, ↓reduceIte, Bool.not_true, Bool.not_false, Nat.zero_le]
  | false => simp only [varM_at s8, varM_at s7, eq_fu0, Bool.false_or, DD.bind_ok, DD.bind_exc, DD.toS_ok, DD.toS_exc, DD.bindL_ok, DD.bindL_exc, DD.lbind_ok, DD.lbind_exc, DD.bindE_ok, DD.bindE_exc, DD.sbind_nx, DD.sbind_rt, DD.sbind_exc, DD.sbind_bk, DD.sbind_ct, DD.ret_nx, DD.ret_rt, DD.ret_exc, DD.varM_0, DD.varM_1, DD.varM_2, DD.varM_3, DD.varM_4, DD.varM_5, DD.cM_e, DD.binM_e, DD.unM_e, DD.seqM_e, DD.setM_e, DD.exprM_e, DD.retM_e, DD.raiseM_e, DD.passM_e, DD.brkM_e, DD.ifSM_e, DD.ifM_e, DD.andM_e, DD.orM_e, DD.notM_e, DD.nilM_e, DD.consM_e, DD.callM_e, DD.tupM_e, DD.lstM_e, DD.bmM_e, DD.smM_e, DD.asgM_e, DD.subG_e, DD.nameG_e, DD.slM_e, DD.om_none, DD.om_some, DD.fldSetM_e, DD.toldM_e, DD.add_ii, DD.add_tt, DD.sub_ii, DD.mul_ii, DD.lt_ii, DD.le_ii, DD.gt_ii, DD.ge_ii, DD.fdiv_ii, DD.mod_ii, DD.eq_ii, DD.ne_ii, DD.eq_ss, DD.ne_ss, DD.fld_e, DD.len_t, DD.len_s, DD.append_e, DD.extend_t, DD.extend_r, DD.tup_r, DD.it_t, DD.sl_t, DD.callF, List.length_append, List.length_cons, List.length_nil, List.append_nil, Nat.reduceAdd, List.set_cons_zero, List.set_cons_succ, ↓reduceIte, Bool.not_true, Bool.not_false, Nat.zero_le]
theorem op2_run (s7 : Sl τ 7 (fuD z)) (s8 : Sl τ 8 (.bl (stD z dn))) : bOp2 τ h = .nx (τ.set 7 (some (fuD (stZ z dn)))) h := by
  unfold bOp2 stZ
  cases hs : stD z dn with
  | true =>
    rw [hs] at s8
    cases z with
    | none => simp only [varM_at s7, varM_at s8, is_fu, Option.isNone_none, DD.bind_ok, DD.bind_exc, DD.toS_ok, DD.toS_exc, DD.bindL_ok, DD.bindL_exc, DD.lbind_ok, DD.lbind_exc, DD.bindE_ok, DD.bindE_exc, DD.sbind_nx, DD.sbind_rt, DD.sbind_exc, DD.sbind_bk, DD.sbind_ct, DD.ret_nx, DD.ret_rt, DD.ret_exc, DD.varM_0, DD.varM_1, DD.varM_2, DD.varM_3, DD.varM_4, DD.varM_5, DD.cM_e, DD.binM_e, DD.unM_e, DD.seqM_e, DD.setM_e, DD.exprM_e, DD.retM_e, DD.raiseM_e, DD.passM_e, DD.brkM_e, DD.ifSM_e, DD.ifM_e, DD.andM_e, DD.orM_e, DD.notM_e, DD.nilM_e, DD.consM_e, DD.callM_e, DD.tupM_e, DD.lstM_e, DD.bmM_e, DD.smM_e, DD.asgM_e, DD.subG_e, DD.nameG_e, DD.slM_e, DD.om_none, DD.om_some, DD.fldSetM_e, DD.toldM_e, DD.add_ii, DD.add_tt, DD.sub_ii, DD.mul_ii, DD.lt_ii, DD.le_ii, DD.gt_ii, DD.ge_ii, DD.fdiv_ii, DD.mod_ii, DD.eq_ii, DD.ne_ii, DD.eq_ss, DD.ne_ss, DD.fld_e, DD.len_t, DD.len_s, DD.append_e, DD.extend_t, DD.extend_r, DD.tup_r, DD.it_t, DD.sl_t, DD.callF, List.length_append, List.length_cons, List.length_nil, List.append_nil, Nat.reduceAdd, List.set_cons_zero, List.set_cons_succ, ↓reduceIte, Bool.not_true, Bool.not_false, Nat.zero_le]
    | some n => simp only [varM_at s7, varM_at s8, is_fu, Option.isNone_some, DD.bind_ok, DD.bind_exc, DD.toS_ok, DD.toS_exc, DD.bindL_ok, DD.bindL_exc, DD.lbind_ok, DD.lbind_exc, DD.bindE_ok, DD.bindE_exc, DD.sbind_nx, DD.sbind_rt, DD.sbind_exc, DD.sbind_bk, DD.sbind_ct, DD.ret_nx, DD.ret_rt, DD.ret_exc, DD.varM_0, DD.varM_1, DD.varM_2, DD.varM_3, DD.varM_4, DD.varM_5, DD.cM_e, DD.binM_e, DD.unM_e, DD.seqM_e, DD.setM_e, DD.exprM_e, DD.retM_e, DD.raiseM_e, DD.passM_e, DD.brkM_e, DD.ifSM_e, DD.ifM_e, DD.andM_e, DD.orM_e, DD.notM_e, DD.nilM_e, DD.consM_e, DD.callM_e, DD.tupM_e, DD.lstM_e, DD.bmM_e, DD.smM_e, DD.asgM_e, DD.subG_e, DD.nameG_e, DD.slM_e, DD.om_none, DD.om_some, DD.fldSetM_e, DD.toldM_e, DD.add_ii, DD.add_tt, DD.sub_ii, DD.mul_ii, DD.lt_ii, DD.le_ii, DD.gt_ii, DD.ge_ii, DD.fdiv_ii, DD.mod_ii, DD.eq_ii, DD.ne_ii, DD.eq_ss, DD.ne_ss, DD.fld_e, DD.len_t, DD.len_s, DD.append_e, DD.extend_t, DD.extend_r, DD.tup_r, DD.it_t, DD.sl_t, DD.callF, List.length_append, List.length_cons, List.length_nil, List.append_nil, Nat.reduceAdd, List.set_cons_zero, List.set_cons_succ, ↓reduceIte, Bool.not_true, Bool.not_false, Nat.zero_le]
  | false =>
    rw [hs] at s8
    cases z with
    | none => 
      simp only [varM_at s7, varM_at s8, is_fu, Option.isNone_none, DD.bind_ok, DD.bind_exc, DD.toS_ok, DD.toS_exc, DD.bindL_ok, DD.bindL_exc, DD.lbind_ok, DD.lbind_exc, DD.bindE_ok, DD.bindE_exc, DD.sbind_nx, DD.sbind_rt, DD.sbind_exc, DD.sbind_bk, DD.sbind_ct, DD.ret_nx, DD.ret_rt, DD.ret_exc, DD.varM_0, DD.varM_1, DD.varM_2, DD.varM_3, DD.varM_4, DD.varM_5, DD.cM_e, DD.binM_e, DD.unM_e, DD.seqM_e, DD.setM_e, DD.exprM_e, DD.retM_e, DD.raiseM_e, DD.passM_e, DD.brkM_e, DD.ifSM_e, DD.ifM_e, DD.andM_e, DD.orM_e, DD.notM_e, DD.nilM_e, DD.consM_e, DD.callM_e, DD.tupM_e, DD.lstM_e, DD.bmM_e, DD.smM_e, DD.asgM_e, DD.subG_e, DD.nameG_e, DD.slM_e, DD.om_none, DD.om_some, DD.fldSetM_e, DD.toldM_e, DD.add_ii, DD.add_tt, DD.sub_ii, DD.mul_ii, DD.lt_ii, DD.le_ii, DD.gt_ii, DD.ge_ii, DD.fdiv_ii, DD.mod_ii, DD.eq_ii, DD.ne_ii, DD.eq_ss, DD.ne_ss, DD.fld_e, DD.len_t, DD.len_s, DD.append_e, DD.extend_t, DD.extend_r, DD.tup_r, DD.it_t, DD.sl_t, DD.callF, List.length_append, List.length_cons, List.length_nil, List.append_nil, Nat.reduceAdd, List.set_cons_zero, List.set_cons_succ, ↓reduceIte, Bool.not_true, Bool.not_false, Nat.zero_le]
      rfl
    | some n =>
      have hn : n ≠ 0 := by
        intro q
        subst q
        unfold stD at hs
        simp at hs
      have e5 : (fuD (some n)) = .int (n : Int) := rfl
      have e6 : D.int ((n : Int) - 1) = fuD ((some n).map (· - 1)) := by
        show D.int ((n : Int) - 1) = .int ((n - 1 : Nat) : Int)
        congr 1
        omega
      rw [e5] at s7
      simp only [varM_at s7, varM_at s8, show isM (.int (n : Int)) .non h = .ok (.bl false) h from rfl, e6, DD.bind_ok, DD.bind_exc, DD.toS_ok, DD.toS_exc, DD.bindL_ok, DD.bindL_exc, DD.lbind_ok, DD.lbind_exc, DD.bindE_ok, DD.bindE_exc, DD.sbind_nx, DD.sbind_rt, DD.sbind_exc, DD.sbind_bk, DD.sbind_ct, DD.ret_nx, DD.ret_rt, DD.ret_exc, DD.varM_0, DD.varM_1, DD.varM_2, DD.varM_3, DD.varM_4, DD.varM_5, DD.cM_e, DD.binM_e, DD.unM_e, DD.seqM_e, DD.setM_e, DD.exprM_e, DD.retM_e, DD.raiseM_e, DD.passM_e, DD.brkM_e, DD.ifSM_e, DD.ifM_e, DD.andM_e, DD.orM_e, DD.notM_e, DD.nilM_e, DD.consM_e, DD.callM_e, DD.tupM_e, DD.lstM_e, DD.bmM_e, DD.smM_e, DD.asgM_e, DD.subG_e, DD.nameG_e, DD.slM_e, DD.om_none, DD.om_some, DD.fldSetM_e, DD.toldM_e, DD.add_ii, DD.add_tt, DD.sub_ii, DD.mul_ii, DD.lt_ii, DD.le_ii, DD.gt_ii, DD.ge_ii, DD.fdiv_ii, DD.mod_ii, DD.eq_ii, DD.ne_ii, DD.eq_ss, DD.ne_ss, DD.fld_e, DD.len_t, DD.len_s, DD.append_e, DD.extend_t, DD.extend_r, DD.tup_r, DD.it_t, DD.sl_t, DD.callF, List.length_append, List.length_cons, List.length_nil, List.append_nil, Nat.reduceAdd, List.set_cons_zero, List.set_cons_succ, ↓reduceIte, Bool.not_true, Bool.not_false, Nat.zero_le]
      rfl
theorem ab_at : ∀ r : Nat, r < 2 → ∃ c, atI ("ab" : Str).cps.toList (r : Int) = some c := by
  intro r hr
  match r, hr with
  | 0, _ => exact ⟨_, rfl⟩
  | 1, _ => exact ⟨_, rfl⟩
theorem op3_run (s1 : Sl τ 1 (.ref l)) (di : Di h l) : ∃ (x : Str) (h' : AH), bOp3 τ h = .nx (τ.set 12 (some (.str x))) h' ∧ Dd l h h' := by
  obtain ⟨r, h1, a1, a2, a3⟩ := roll5 2 h l di (by decide) (rb _ (by decide)) (by decide)
  have a1' : R__law_roll 5 [.ref l, .int 2] h = .ok (.int (r : Int)) h1 := a1
  obtain ⟨c, hc⟩ := ab_at r a2
  refine ⟨⟨#[c]⟩, h1, ?_, a3⟩
  unfold bOp3
  simp only [varM_at s1, a1', it_s, hc, show (Str.length "ab" ≤ sizeLine) = True from by rw [sizeLine_eq]; decide +kernel, DD.bind_ok, DD.bind_exc, DD.toS_ok, DD.toS_exc, DD.bindL_ok, DD.bindL_exc, DD.lbind_ok, DD.lbind_exc, DD.bindE_ok, DD.bindE_exc, DD.sbind_nx, DD.sbind_rt, DD.sbind_exc, DD.sbind_bk, DD.sbind_ct, DD.ret_nx, DD.ret_rt, DD.ret_exc, DD.varM_0, DD.varM_1, DD.varM_2, DD.varM_3, DD.varM_4, DD.varM_5, DD.cM_e, DD.binM_e, DD.unM_e, DD.seqM_e, DD.setM_e, DD.exprM_e, DD.retM_e, DD.raiseM_e, DD.passM_e, DD.brkM_e, DD.ifSM_e, DD.ifM_e, DD.andM_e, DD.orM_e, DD.notM_e, DD.nilM_e, DD.consM_e, DD.callM_e, DD.tupM_e, DD.lstM_e, DD.bmM_e, DD.smM_e, DD.asgM_e, DD.subG_e, DD.nameG_e, DD.slM_e, DD.om_none, DD.om_some, DD.fldSetM_e, DD.toldM_e, DD.add_ii, DD.add_tt, DD.sub_ii, DD.mul_ii, DD.lt_ii, DD.le_ii, DD.gt_ii, DD.ge_ii, DD.fdiv_ii, DD.mod_ii, DD.eq_ii, DD.ne_ii, DD.eq_ss, DD.ne_ss, DD.fld_e, DD.len_t, DD.len_s, DD.append_e, DD.extend_t, DD.extend_r, DD.tup_r, DD.it_t, DD.sl_t, DD.callF, List.length_append, List.length_cons, List.length_nil, List.append_nil, Nat.reduceAdd, List.set_cons_zero, List.set_cons_succ, ↓reduceIte, Bool.not_true, Bool.not_false, Nat.zero_le]
/-- what a deed does -/
def opK (c : Nat) (kv wv : List Va) : List Va := if c < 4 then kv else if c < 6 then kv ++ wv else kv.take 1
def opW (c : Nat) (wv : List Va) (v : Va) : List Va := if c < 4 then wv ++ [v] else []
def opS (c s : Nat) : Nat := if c < 4 then s else s + 1
def opD (c : Nat) (x : Str) (d : D) (df : List (Key × D)) : List (Key × D) := if c < 6 then df else putKD df (.inr x) d
theorem ci_st : ci_StoreError 2 = some true := rfl
theorem op4_run {c : Nat} {x : Str} {v : Va} {df : List (Key × D)} {L : Nat} (s3 : Sl τ 3 (.ref k)) (s4 : Sl τ 4 (.ref L)) (s10 : Sl τ 10 (.int (c : Int))) (s11 : Sl τ 11 v.toD) (s12 : Sl τ 12 (.str x)) (gk : h[k]? = some (DO (frs kv) (frs wv) fd s z dn)) (gf : h[fd]? = some (.dct df)) (gL : h[L]? = some (.lst (toDs kv)))
    (hf : df.length ≤ 1000) (nk : ∀ v ∈ kv, Nice v) (nw : ∀ v ∈ wv, Nice v) (nv : Nice v) (h1 : kv.length ≤ 100) (h2 : wv.length ≤ 100) :
    ∃ h', Fs [k, fd] h h' ∧ bOp4 τ h = .nx (τ.set 13 (some (if stD z dn = true then .str "StoreError" else .non))) h' ∧
      if stD z dn = true then h'[k]? = some (DO (frs kv) (frs wv) fd s (stZ z dn) true) ∧ h'[fd]? = some (.dct df)
      else h'[k]? = some (DO (frs (opK c kv wv)) (frs (opW c wv v)) fd (opS c s) (stZ z dn) false) ∧ h'[fd]? = some (.dct (opD c x (.tup (B (fr v))) df)) := by
  have zk := nice_sz nk
  have zw := nice_sz nw
  have zv := nv.2.2
  have nkf : k ≠ fd := fun e => by subst e; rw [gk] at gf; cases gf
  have g0 := gk
  unfold DO at g0
  unfold bOp4
  rw [setM_e, toldM_e, ifM_e, binM_e, varM_at s10, bind_ok, cM_e, bind_ok, lt_ii, bind_ok]
  by_cases c4 : c < 4
  · rw [show decide ((c : Int) < 4) = true from decide_eq_true (by omega)]
    obtain ⟨h', f, q⟩ := append_run (v := v) gk nv.1 nv.2.1 (by omega)
    have em : methF "append" 3 2 [] F_Disk_append (varM 3) (consM (varM 11) nilM) τ h = F_Disk_append [.ref k, v.toD] h := by
      rw [meth_d g0 rfl (varM_at s3), consM_e, varM_at s11, bindL_ok, nilM_e, lbind_ok, bindE_ok]
      rfl
    refine ⟨h', Fs.of1 f (by simp), ?_, ?_⟩
    · simp only []
      rw [em]
      by_cases hs : stD z dn = true
      · rw [if_pos hs] at q; rw [if_pos hs, q.1]; rfl
      · rw [if_neg hs] at q; rw [if_neg hs, q.1]; rfl
    · have ff := f.get gf (by simpa using nkf.symm)
      by_cases hs : stD z dn = true
      · rw [if_pos hs] at q; rw [if_pos hs]; exact ⟨q.2, ff⟩
      · rw [if_neg hs] at q; rw [if_neg hs]
        unfold opK opW opS opD
        rw [if_pos c4, if_pos c4, if_pos c4, if_pos (by omega), frs_one]
        exact ⟨q.2, ff⟩
  · rw [show decide ((c : Int) < 4) = false from decide_eq_false (by omega)]
    by_cases c6 : c < 6
    · obtain ⟨h', f, q⟩ := sync_run gk (by omega)
      have em : ifM (binM (varM 10) (cM (.int 6)) ltM) (methF "sync" 3 1 [] F_Disk_sync (varM 3) nilM) (methF "replace" 3 4 [] F_Disk_replace (varM 3) (consM (varM 12) (consM (varM 11) (consM (slM (varM 4) .none (.some (cM (.int 1)))) nilM)))) τ h = F_Disk_sync [.ref k] h := by
        rw [ifM_e, binM_e, varM_at s10, bind_ok, cM_e, bind_ok, lt_ii, bind_ok, show decide ((c : Int) < 6) = true from decide_eq_true (by omega)]
        simp only []
        rw [meth_d g0 rfl (varM_at s3), nilM_e, bindE_ok]
        rfl
      refine ⟨h', Fs.of1 f (by simp), ?_, ?_⟩
      · simp only []
        rw [em]
        by_cases hs : stD z dn = true
        · rw [if_pos hs] at q; rw [if_pos hs, q.1]; rfl
        · rw [if_neg hs] at q; rw [if_neg hs, q.1]; rfl
      · have ff := f.get gf (by simpa using nkf.symm)
        by_cases hs : stD z dn = true
        · rw [if_pos hs] at q; rw [if_pos hs]; exact ⟨q.2, ff⟩
        · rw [if_neg hs] at q; rw [if_neg hs]
          unfold opK opW opS opD
          rw [if_neg c4, if_neg c4, if_neg c4, if_pos c6, if_pos c6, frs_app]
          exact ⟨q.2, ff⟩
    · have F0 : Fs [k, fd] h (h ++ [O.lst (toDs (kv.take 1))]) := Fs.app
      obtain ⟨h', f, q⟩ := replace_run (h := h ++ [O.lst (toDs (kv.take 1))]) (x := x) (v := v) (rs := kv.take 1) (get_app gk) (get_app gf) get_new hf nv (fun w hw => nk w (List.mem_of_mem_take hw)) (by rw [List.length_take]; omega)
      have em : ifM (binM (varM 10) (cM (.int 6)) ltM) (methF "sync" 3 1 [] F_Disk_sync (varM 3) nilM) (methF "replace" 3 4 [] F_Disk_replace (varM 3) (consM (varM 12) (consM (varM 11) (consM (slM (varM 4) .none (.some (cM (.int 1)))) nilM)))) τ h = F_Disk_replace [.ref k, .str x, v.toD, .ref h.length] (h ++ [O.lst (toDs (kv.take 1))]) := by
        rw [ifM_e, binM_e, varM_at s10, bind_ok, cM_e, bind_ok, lt_ii, bind_ok, show decide ((c : Int) < 6) = false from decide_eq_false (by omega)]
        simp only []
        have es : slM (varM 4) .none (.some (cM (.int 1))) τ h = .ok (.ref h.length) (h ++ [O.lst (toDs (kv.take 1))]) := by
          rw [slM_e, varM_at s4, bind_ok, om_none, om_some, cM_e, bind_ok]
          simp only []
          rw [sl_r, gL]
          simp only []
          rw [show cutL (toDs kv) none (some (1 : Int)) = (toDs kv).take 1 from cut_n (b := 1), toDs_take]
        rw [meth_d g0 rfl (varM_at s3), consM_e, varM_at s12, bindL_ok, consM_e, varM_at s11, bindL_ok, consM_e, es, bindL_ok, nilM_e, lbind_ok, lbind_ok, lbind_ok, bindE_ok]
        rfl
      refine ⟨h', F0.trans f, ?_, ?_⟩
      · simp only []
        rw [em]
        by_cases hs : stD z dn = true
        · rw [if_pos hs] at q; rw [if_pos hs, q.1]; rfl
        · rw [if_neg hs] at q; rw [if_neg hs, q.1]; rfl
      · by_cases hs : stD z dn = true
        · rw [if_pos hs] at q; rw [if_pos hs]; exact q.2
        · rw [if_neg hs] at q; rw [if_neg hs]
          unfold opK opW opS opD
          rw [if_neg c4, if_neg c4, if_neg c4, if_neg c6, if_neg c6]
          exact q.2
theorem op5_run {hs : Bool} (s13 : Sl τ 13 (if hs = true then .str "StoreError" else .non)) (s8 : Sl τ 8 (.bl hs)) : bOp5 τ h = .nx τ h := by
  unfold bOp5
  cases hs with
  | true =>
    have s13' : Sl τ 13 (.str "StoreError") := s13
    simp only [varM_at s13', varM_at s8, beq_self_eq_true, ne_bb', DD.bind_ok, DD.bind_exc, DD.toS_ok, DD.toS_exc, DD.bindL_ok, DD.bindL_exc, DD.lbind_ok, DD.lbind_exc, DD.bindE_ok, DD.bindE_exc, DD.sbind_nx, DD.sbind_rt, DD.sbind_exc, DD.sbind_bk, DD.sbind_ct, DD.ret_nx, DD.ret_rt, DD.ret_exc, DD.varM_0, DD.varM_1, DD.varM_2, DD.varM_3, DD.varM_4, DD.varM_5, DD.cM_e, DD.binM_e, DD.unM_e, DD.seqM_e, DD.setM_e, DD.exprM_e, DD.retM_e, DD.raiseM_e, DD.passM_e, DD.brkM_e, DD.ifSM_e, DD.ifM_e, DD.andM_e, DD.orM_e, DD.notM_e, DD.nilM_e, DD.consM_e, DD.callM_e, DD.tupM_e, DD.lstM_e, DD.bmM_e, DD.smM_e, DD.asgM_e, DD.subG_e, DD.nameG_e, DD.slM_e, DD.om_none, DD.om_some, DD.fldSetM_e, DD.toldM_e, DD.add_ii, DD.add_tt, DD.sub_ii, DD.mul_ii, DD.lt_ii, DD.le_ii, DD.gt_ii, DD.ge_ii, DD.fdiv_ii, DD.mod_ii, DD.eq_ii, DD.ne_ii, DD.eq_ss, DD.ne_ss, DD.fld_e, DD.len_t, DD.len_s, DD.append_e, DD.extend_t, DD.extend_r, DD.tup_r, DD.it_t, DD.sl_t, DD.callF, List.length_append, List.length_cons, List.length_nil, List.append_nil, Nat.reduceAdd, List.set_cons_zero, List.set_cons_succ, ↓reduceIte, Bool.not_true, Bool.not_false, Nat.zero_le]
  | false =>
    have s13' : Sl τ 13 .non := s13
    have e : eqM .non (.str "StoreError") h = .ok (.bl false) h := rfl
    simp only [varM_at s13', varM_at s8, e, ne_bb', beq_self_eq_true, DD.bind_ok, DD.bind_exc, DD.toS_ok, DD.toS_exc, DD.bindL_ok, DD.bindL_exc, DD.lbind_ok, DD.lbind_exc, DD.bindE_ok, DD.bindE_exc, DD.sbind_nx, DD.sbind_rt, DD.sbind_exc, DD.sbind_bk, DD.sbind_ct, DD.ret_nx, DD.ret_rt, DD.ret_exc, DD.varM_0, DD.varM_1, DD.varM_2, DD.varM_3, DD.varM_4, DD.varM_5, DD.cM_e, DD.binM_e, DD.unM_e, DD.seqM_e, DD.setM_e, DD.exprM_e, DD.retM_e, DD.raiseM_e, DD.passM_e, DD.brkM_e, DD.ifSM_e, DD.ifM_e, DD.andM_e, DD.orM_e, DD.notM_e, DD.nilM_e, DD.consM_e, DD.callM_e, DD.tupM_e, DD.lstM_e, DD.bmM_e, DD.smM_e, DD.asgM_e, DD.subG_e, DD.nameG_e, DD.slM_e, DD.om_none, DD.om_some, DD.fldSetM_e, DD.toldM_e, DD.add_ii, DD.add_tt, DD.sub_ii, DD.mul_ii, DD.lt_ii, DD.le_ii, DD.gt_ii, DD.ge_ii, DD.fdiv_ii, DD.mod_ii, DD.eq_ii, DD.ne_ii, DD.eq_ss, DD.ne_ss, DD.fld_e, DD.len_t, DD.len_s, DD.append_e, DD.extend_t, DD.extend_r, DD.tup_r, DD.it_t, DD.sl_t, DD.callF, List.length_append, List.length_cons, List.length_nil, List.append_nil, Nat.reduceAdd, List.set_cons_zero, List.set_cons_succ, ↓reduceIte, Bool.not_true, Bool.not_false, Nat.zero_le]
end
end K15
end

section
set_option Elab.async false
set_option linter.all false
set_option maxRecDepth 100000
set_option maxHeartbeats 2000000
namespace DD
open PySem L2
theorem add_rr {i j : Nat} {xs ys : List D} {h : AH} (e1 : h[i]? = some (.lst xs)) (e2 : h[j]? = some (.lst ys)) (hz : xs.length + ys.length ≤ 16777216) : addM (.ref i) (.ref j) h = .ok (.ref h.length) (h ++ [.lst (xs ++ ys)]) := by
  simp only [addM, e1, e2]
  rw [if_pos (by rw [sizeLine_eq]; exact hz)]
end DD
namespace K15
open PySem L2 DD
section
variable {τ τ' : SL} {h h' : AH} {l k fd lf m : Nat} {kv wv : List Va} {s : Nat} {z : Option Nat} {dn : Bool} {fm : Str → Option Va}
theorem up1_run {c : Nat} (s9 : Sl τ 9 (.int (s : Int))) (s10 : Sl τ 10 (.int (c : Int))) : bUp1 τ h = .nx (τ.set 9 (some (.int (opS c s : Nat)))) h := by
  unfold bUp1 opS
  by_cases c4 : c < 4
  · simp only [varM_at s9, varM_at s10, show decide ((3 : Int) < (c : Int)) = false from decide_eq_false (by omega), int_b, DD.bind_ok, DD.bind_exc, DD.toS_ok, DD.toS_exc, DD.bindL_ok, DD.bindL_exc, DD.lbind_ok, DD.lbind_exc, DD.bindE_ok, DD.bindE_exc, DD.sbind_nx, DD.sbind_rt, DD.sbind_exc, DD.sbind_bk, DD.sbind_ct, DD.ret_nx, DD.ret_rt, DD.ret_exc, DD.varM_0, DD.varM_1, DD.varM_2, DD.varM_3, DD.varM_4, DD.varM_5, DD.cM_e, DD.binM_e, DD.unM_e, DD.seqM_e, DD.setM_e, DD.exprM_e, DD.retM_e, DD.raiseM_e, DD.passM_e, DD.brkM_e, DD.ifSM_e, DD.ifM_e, DD.andM_e, DD.orM_e, DD.notM_e, DD.nilM_e, DD.consM_e, DD.callM_e, DD.tupM_e, DD.lstM_e, DD.bmM_e, DD.smM_e, DD.asgM_e, DD.subG_e, DD.nameG_e, DD.slM_e, DD.om_none, DD.om_some, DD.fldSetM_e, DD.toldM_e, DD.add_ii, DD.add_tt, DD.sub_ii, DD.mul_ii, DD.lt_ii, DD.le_ii, DD.gt_ii, DD.ge_ii, DD.fdiv_ii, DD.mod_ii, DD.eq_ii, DD.ne_ii, DD.eq_ss, DD.ne_ss, DD.fld_e, DD.len_t, DD.len_s, DD.append_e, DD.extend_t, DD.extend_r, DD.tup_r, DD.it_t, DD.sl_t, DD.callF, List.length_append, List.length_cons, List.length_nil, List.append_nil, Nat.reduceAdd, List.set_cons_zero, List.set_cons_succ, ↓reduceIte, Bool.not_true, Bool.not_false, Nat.zero_le]
    rw [if_pos c4]
    simp
  · simp only [varM_at s9, varM_at s10, show decide ((3 : Int) < (c : Int)) = true from decide_eq_true (by omega), int_b, DD.bind_ok, DD.bind_exc, DD.toS_ok, DD.toS_exc, DD.bindL_ok, DD.bindL_exc, DD.lbind_ok, DD.lbind_exc, DD.bindE_ok, DD.bindE_exc, DD.sbind_nx, DD.sbind_rt, DD.sbind_exc, DD.sbind_bk, DD.sbind_ct, DD.ret_nx, DD.ret_rt, DD.ret_exc, DD.varM_0, DD.varM_1, DD.varM_2, DD.varM_3, DD.varM_4, DD.varM_5, DD.cM_e, DD.binM_e, DD.unM_e, DD.seqM_e, DD.setM_e, DD.exprM_e, DD.retM_e, DD.raiseM_e, DD.passM_e, DD.brkM_e, DD.ifSM_e, DD.ifM_e, DD.andM_e, DD.orM_e, DD.notM_e, DD.nilM_e, DD.consM_e, DD.callM_e, DD.tupM_e, DD.lstM_e, DD.bmM_e, DD.smM_e, DD.asgM_e, DD.subG_e, DD.nameG_e, DD.slM_e, DD.om_none, DD.om_some, DD.fldSetM_e, DD.toldM_e, DD.add_ii, DD.add_tt, DD.sub_ii, DD.mul_ii, DD.lt_ii, DD.le_ii, DD.gt_ii, DD.ge_ii, DD.fdiv_ii, DD.mod_ii, DD.eq_ii, DD.ne_ii, DD.eq_ss, DD.ne_ss, DD.fld_e, DD.len_t, DD.len_s, DD.append_e, DD.extend_t, DD.extend_r, DD.tup_r, DD.it_t, DD.sl_t, DD.callF, List.length_append, List.length_cons, List.length_nil, List.append_nil, Nat.reduceAdd, List.set_cons_zero, List.set_cons_succ, ↓reduceIte, Bool.not_true, Bool.not_false, Nat.zero_le]
    rw [if_neg c4]
    rfl
def upV (c : Nat) (x : Str) (v : Va) (le : List (Key × D)) : D := if c = 6 then v.toD else (valK le (.inr x)).getD .non
theorem up2_run {c : Nat} {x : Str} {v : Va} {le : List (Key × D)} (s6 : Sl τ 6 (.ref lf)) (s10 : Sl τ 10 (.int (c : Int))) (s11 : Sl τ 11 v.toD) (s12 : Sl τ 12 (.str x)) (gl : h[lf]? = some (.dct le)) (hl : le.length ≤ 1000) : bUp2 τ h = .nx τ (h.set lf (.dct (putKD le (.inr x) (upV c x v le)))) := by
  have es : ∀ d, setDF (.ref lf) (.str x) d h = some (h.set lf (.dct (putKD le (.inr x) d))) := fun d => by
    simp only [setDF, gl, keyD]
    rw [if_pos (by rw [sizeLine_eq]; omega)]
  unfold bUp2 upV
  rw [asgM_e, ifM_e, binM_e, varM_at s10, bind_ok, cM_e, bind_ok, eq_ii, bind_ok]
  by_cases c6 : c = 6
  · subst c6
    rw [show (((6 : Nat) : Int) == 6) = true from rfl, if_pos rfl]
    simp only []
    rw [varM_at s11, toS_ok, subG_e, varM_at s6, toS_ok, varM_at s12, toS_ok, es]
  · rw [show ((c : Int) == 6) = false from by rw [show (6 : Int) = ((6 : Nat) : Int) from rfl, eq_nat]; exact decide_eq_false c6, if_neg c6]
    simp only []
    have eg : dg1M (varM 6) (varM 12) τ h = .ok ((valK le (.inr x)).getD .non) h := by
      unfold dg1M
      simp only [varM_at s6, varM_at s12, bind_ok, gl, keyD]
    rw [eg, toS_ok, subG_e, varM_at s6, toS_ok, varM_at s12, toS_ok, es]
theorem up3_run {c L4 L5 : Nat} {v : Va} (s4 : Sl τ 4 (.ref L4)) (s5 : Sl τ 5 (.ref L5)) (s10 : Sl τ 10 (.int (c : Int))) (s11 : Sl τ 11 v.toD) (g4 : h[L4]? = some (.lst (toDs kv))) (g5 : h[L5]? = some (.lst (toDs wv))) (hk : kv.length ≤ 100) (hw : wv.length ≤ 100) :
    ∃ (M4 M5 : Nat) (gb : AH), bUp3 τ h = .nx ((τ.set 4 (some (.ref M4))).set 5 (some (.ref M5))) (h ++ gb) ∧ (h ++ gb)[M4]? = some (.lst (toDs (opK c kv wv))) ∧ (h ++ gb)[M5]? = some (.lst (toDs (opW c wv v))) ∧ (M4 = L4 ∨ h.length ≤ M4) ∧ h.length ≤ M5 := by
  unfold bUp3 opK opW
  rw [asgM_e, ifM_e, binM_e, varM_at s10, bind_ok, cM_e, bind_ok, lt_ii, bind_ok]
  by_cases c4 : c < 4
  · rw [show decide ((c : Int) < 4) = true from decide_eq_true (by omega), if_pos c4, if_pos c4]
    simp only []
    have e1 : lstM (consM (varM 11) nilM) τ h = .ok (.ref h.length) (h ++ [.lst [v.toD]]) := by
      rw [lstM_e, consM_e, varM_at s11, bindL_ok, nilM_e, lbind_ok, bindE_ok, if_pos (by rw [sizeLine_eq]; simp only [List.length_cons, List.length_nil]; omega)]
    have g5' : (h ++ [O.lst [v.toD]])[L5]? = some (.lst (toDs wv)) := get_app g5
    have e2 := add_rr (h := h ++ [O.lst [v.toD]]) g5' get_new (by rw [toDs_len]; simp only [List.length_cons, List.length_nil]; omega)
    refine ⟨L4, (h ++ [O.lst [v.toD]]).length, [.lst [v.toD], .lst (toDs wv ++ [v.toD])], ?_, ?_, ?_, .inl rfl, by simp⟩
    · rw [tupM_e, consM_e, varM_at s4, bindL_ok, consM_e, binM_e, varM_at s5, bind_ok, e1, bind_ok, e2, bindL_ok, nilM_e, lbind_ok, lbind_ok, bindE_ok, if_pos (by rw [sizeLine_eq]; simp only [List.length_cons, List.length_nil]; omega), toS_ok, tupG_e, unp2, List.append_assoc]
      rfl
    · exact get_app g4
    · have : (h ++ [O.lst [v.toD], .lst (toDs wv ++ [v.toD])]) = (h ++ [O.lst [v.toD]]) ++ [.lst (toDs wv ++ [v.toD])] := by simp
      rw [this, get_new, toDs_snoc]
  · rw [show decide ((c : Int) < 4) = false from decide_eq_false (by omega), if_neg c4, if_neg c4]
    simp only []
    rw [ifM_e, binM_e, varM_at s10, bind_ok, cM_e, bind_ok, lt_ii, bind_ok]
    by_cases c6 : c < 6
    · rw [show decide ((c : Int) < 6) = true from decide_eq_true (by omega), if_pos c6]
      simp only []
      have e1 := add_rr (h := h) g4 g5 (by rw [toDs_len, toDs_len]; omega)
      have e2 : lstM nilM τ (h ++ [O.lst (toDs kv ++ toDs wv)]) = .ok (.ref (h ++ [O.lst (toDs kv ++ toDs wv)]).length) ((h ++ [O.lst (toDs kv ++ toDs wv)]) ++ [.lst []]) := by
        rw [lstM_e, nilM_e, bindE_ok, if_pos (by simp)]
      refine ⟨h.length, (h ++ [O.lst (toDs kv ++ toDs wv)]).length, [.lst (toDs kv ++ toDs wv), .lst []], ?_, ?_, ?_, .inr (Nat.le_refl _), by simp⟩
      · rw [tupM_e, consM_e, binM_e, varM_at s4, bind_ok, varM_at s5, bind_ok, e1, bindL_ok, consM_e, e2, bindL_ok, nilM_e, lbind_ok, lbind_ok, bindE_ok, if_pos (by rw [sizeLine_eq]; simp only [List.length_cons, List.length_nil]; omega), toS_ok, tupG_e, unp2, List.append_assoc]
        rfl
      · rw [get_new, toDs_app]
      · have : (h ++ [O.lst (toDs kv ++ toDs wv), .lst []]) = (h ++ [O.lst (toDs kv ++ toDs wv)]) ++ [.lst []] := by simp
        rw [this, get_new]
        rfl
    · rw [show decide ((c : Int) < 6) = false from decide_eq_false (by omega), if_neg c6]
      simp only []
      have es : slM (varM 4) .none (.some (cM (.int 1))) τ h = .ok (.ref h.length) (h ++ [O.lst (toDs (kv.take 1))]) := by
        rw [slM_e, varM_at s4, bind_ok, om_none, om_some, cM_e, bind_ok]
        simp only []
        rw [sl_r, g4]
        simp only []
        rw [show cutL (toDs kv) none (some (1 : Int)) = (toDs kv).take 1 from cut_n (b := 1), toDs_take]
      have e2 : lstM nilM τ (h ++ [O.lst (toDs (kv.take 1))]) = .ok (.ref (h ++ [O.lst (toDs (kv.take 1))]).length) ((h ++ [O.lst (toDs (kv.take 1))]) ++ [.lst []]) := by
        rw [lstM_e, nilM_e, bindE_ok, if_pos (by simp)]
      refine ⟨h.length, (h ++ [O.lst (toDs (kv.take 1))]).length, [.lst (toDs (kv.take 1)), .lst []], ?_, ?_, ?_, .inr (Nat.le_refl _), by simp⟩
      · rw [tupM_e, consM_e, es, bindL_ok, consM_e, e2, bindL_ok, nilM_e, lbind_ok, lbind_ok, bindE_ok, if_pos (by rw [sizeLine_eq]; simp only [List.length_cons, List.length_nil]; omega), toS_ok, tupG_e, unp2, List.append_assoc]
        rfl
      · rw [get_new]
      · have : (h ++ [O.lst (toDs (kv.take 1)), .lst []]) = (h ++ [O.lst (toDs (kv.take 1))]) ++ [.lst []] := by simp
        rw [this, get_new]
        rfl
theorem op_branch {c : Nat} {v : Va} (S : Sv τ h l k fd lf m kv wv s z dn fm) (hm : m + 1 ≤ 50) (c7 : c < 7) (nv : Nice v) (s10 : Sl τ 10 (.int (c : Int))) (s11 : Sl τ 11 v.toD) :
    ∃ τ' h' kv' wv' s' z' dn' fm', bOp τ h = .nx τ' h' ∧ Sv τ' h' l k fd lf (m + 1) kv' wv' s' z' dn' fm' ∧ Fs [l, k, fd, lf] h h' ∧ Sl τ' 10 (.int (c : Int)) := by
  obtain ⟨n1, n2, n3⟩ := S.ne
  have nkf : k ≠ fd := fun q => n2 (by simp [q])
  have nkl : k ≠ lf := fun q => n3 (by simp [q])
  have nfl : fd ≠ lf := fun q => n3 (by simp [q])
  have e1 := op1_run (h := h) S.s7 S.s8
  -- down
  have A1 : (τ.set 8 (some (.bl (stD z dn)))).length = 18 := len_set S.len
  have A8 : Sl (τ.set 8 (some (.bl (stD z dn)))) 8 (.bl (stD z dn)) := Sl.new (by rw [S.len]; decide)
  have A7 : Sl (τ.set 8 (some (.bl (stD z dn)))) 7 (fuD z) := S.s7.set (by decide)
  have Ak : ∀ i d, i ≠ 8 → Sl τ i d → Sl (τ.set 8 (some (.bl (stD z dn)))) i d := fun i d n e => e.set n.symm
  generalize τ.set 8 (some (.bl (stD z dn))) = τ1 at *
  have e2 := op2_run (h := h) (dn := dn) A7 A8
  have B1 : (τ1.set 7 (some (fuD (stZ z dn)))).length = 18 := len_set A1
  have B7 : Sl (τ1.set 7 (some (fuD (stZ z dn)))) 7 (fuD (stZ z dn)) := Sl.new (by rw [A1]; decide)
  have B8 : Sl (τ1.set 7 (some (fuD (stZ z dn)))) 8 (.bl (stD z dn)) := A8.set (by decide)
  have Bk : ∀ i d, i ≠ 8 → i ≠ 7 → Sl τ i d → Sl (τ1.set 7 (some (fuD (stZ z dn)))) i d := fun i d n n' e => (Ak i d n e).set n'.symm
  generalize τ1.set 7 (some (fuD (stZ z dn))) = τ2 at *
  obtain ⟨x, h1, e3, d1⟩ := op3_run (h := h) (Bk 1 _ (by decide) (by decide) S.s1) S.di
  have C1 : (τ2.set 12 (some (.str x))).length = 18 := len_set B1
  have C12 : Sl (τ2.set 12 (some (.str x))) 12 (.str x) := Sl.new (by rw [B1]; decide)
  have C7 : Sl (τ2.set 12 (some (.str x))) 7 (fuD (stZ z dn)) := B7.set (by decide)
  have C8 : Sl (τ2.set 12 (some (.str x))) 8 (.bl (stD z dn)) := B8.set (by decide)
  have Ck : ∀ i d, i ≠ 8 → i ≠ 7 → i ≠ 12 → Sl τ i d → Sl (τ2.set 12 (some (.str x))) i d := fun i d n n' n'' e => (Bk i d n n' e).set n''.symm
  generalize τ2.set 12 (some (.str x)) = τ3 at *
  have S1 := S.heap d1
  obtain ⟨L4, p4, q4, r4⟩ := S1.l4
  obtain ⟨L5, p5, q5, r5⟩ := S1.l5
  obtain ⟨df, tf1, tf2, tf3⟩ := S1.td
  obtain ⟨le, tl1, tl2, tl3⟩ := S1.tl
  have sz := S.sz
  obtain ⟨h2, F2, e4, q⟩ := op4_run (Ck 3 _ (by decide) (by decide) (by decide) S.s3) (Ck 4 _ (by decide) (by decide) (by decide) p4) (Ck 10 _ (by decide) (by decide) (by decide) s10) (Ck 11 _ (by decide) (by decide) (by decide) s11) C12 S1.gk tf1 q4 (by omega) S.nk S.nw nv (by omega) (by omega)
  have D1 : (τ3.set 13 (some (if stD z dn = true then D.str "StoreError" else .non))).length = 18 := len_set C1
  have D13 : Sl (τ3.set 13 (some (if stD z dn = true then D.str "StoreError" else .non))) 13 (if stD z dn = true then D.str "StoreError" else .non) := Sl.new (by rw [C1]; decide)
  have D7 : Sl (τ3.set 13 (some (if stD z dn = true then D.str "StoreError" else .non))) 7 (fuD (stZ z dn)) := C7.set (by decide)
  have D8 : Sl (τ3.set 13 (some (if stD z dn = true then D.str "StoreError" else .non))) 8 (.bl (stD z dn)) := C8.set (by decide)
  have D12 : Sl (τ3.set 13 (some (if stD z dn = true then D.str "StoreError" else .non))) 12 (.str x) := C12.set (by decide)
  have Dk : ∀ i d, i ≠ 8 → i ≠ 7 → i ≠ 12 → i ≠ 13 → Sl τ i d → Sl (τ3.set 13 (some (if stD z dn = true then D.str "StoreError" else .non))) i d := fun i d n n' n'' n''' e => (Ck i d n n' n'' e).set n'''.symm
  generalize τ3.set 13 (some (if stD z dn = true then D.str "StoreError" else .non)) = τ4 at *
  have e5 := op5_run (h := h2) D13 D8
  have G4 : h2[L4]? = some (.lst (toDs kv)) := F2.get q4 (fun z => r4 (by simp at z ⊢; rcases z with z | z <;> simp [z]))
  have G5 : h2[L5]? = some (.lst (toDs wv)) := F2.get q5 (fun z => r5 (by simp at z ⊢; rcases z with z | z <;> simp [z]))
  have Gl : h2[lf]? = some (.dct le) := F2.get tl1 (by simp; exact ⟨nkl.symm, nfl.symm⟩)
  have F2' : Fs [k, fd, lf] h1 h2 := F2.mono (by intro a ha; simp at ha ⊢; rcases ha with ha | ha <;> simp [ha])
  have F1 : Fs [l, k, fd, lf] h h1 := Fs.of1 d1.1 (by simp)
  have F2'' : Fs [l, k, fd, lf] h1 h2 := F2.mono (by intro a ha; simp at ha ⊢; rcases ha with ha | ha <;> simp [ha])
  have S1m := S1.mono (m' := m + 1) (by omega) hm
  cases hs : stD z dn with
  | true =>
    rw [hs] at q D8
    rw [if_pos rfl] at q
    refine ⟨τ4, h2, kv, wv, s, stZ z dn, true, fm, ?_, S1m.next D1 (Dk 1 _ (by decide) (by decide) (by decide) (by decide) S.s1) (Dk 3 _ (by decide) (by decide) (by decide) (by decide) S.s3) (Dk 6 _ (by decide) (by decide) (by decide) (by decide) S.s6) D7 D8 (Dk 9 _ (by decide) (by decide) (by decide) (by decide) S.s9) ⟨L4, Dk 4 _ (by decide) (by decide) (by decide) (by decide) p4, G4, r4⟩ ⟨L5, Dk 5 _ (by decide) (by decide) (by decide) (by decide) p5, G5, r5⟩ F2' q.1 ⟨df, q.2, by omega, tf3⟩ ⟨le, Gl, by omega, tl3⟩ S.nk S.nw S.nf (by omega) hm, F1.trans F2'', Dk 10 _ (by decide) (by decide) (by decide) (by decide) s10⟩
    have e6 : bOp6 τ4 h2 = .nx τ4 h2 := by
      rw [bOp6_eq, ifSM_e, notM_e, varM_at D8, bind_ok]
      rfl
    rw [bOp_eq, seqM_e, e1, sbind_nx, seqM_e, e2, sbind_nx, seqM_e, e3, sbind_nx, seqM_e, e4, sbind_nx, seqM_e, e5, sbind_nx, e6]
  | false =>
    rw [hs] at q D8
    rw [if_neg (by decide)] at q
    have u1 := up1_run (h := h2) (c := c) (Dk 9 _ (by decide) (by decide) (by decide) (by decide) S.s9) (Dk 10 _ (by decide) (by decide) (by decide) (by decide) s10)
    have E1 : (τ4.set 9 (some (.int (opS c s : Nat)))).length = 18 := len_set D1
    have E9 : Sl (τ4.set 9 (some (.int (opS c s : Nat)))) 9 (.int (opS c s : Nat)) := Sl.new (by rw [D1]; decide)
    have E7 : Sl (τ4.set 9 (some (.int (opS c s : Nat)))) 7 (fuD (stZ z dn)) := D7.set (by decide)
    have E8 : Sl (τ4.set 9 (some (.int (opS c s : Nat)))) 8 (.bl false) := D8.set (by decide)
    have E12 : Sl (τ4.set 9 (some (.int (opS c s : Nat)))) 12 (.str x) := D12.set (by decide)
    have Ek : ∀ i d, i ≠ 8 → i ≠ 7 → i ≠ 12 → i ≠ 13 → i ≠ 9 → Sl τ i d → Sl (τ4.set 9 (some (.int (opS c s : Nat)))) i d := fun i d n n' n'' n''' n4 e => (Dk i d n n' n'' n''' e).set n4.symm
    generalize τ4.set 9 (some (.int (opS c s : Nat))) = τ5 at *
    have u2 := up2_run (h := h2) (c := c) (v := v) (Ek 6 _ (by decide) (by decide) (by decide) (by decide) (by decide) S.s6) (Ek 10 _ (by decide) (by decide) (by decide) (by decide) (by decide) s10) (Ek 11 _ (by decide) (by decide) (by decide) (by decide) (by decide) s11) E12 Gl (by omega)
    have lfl := lt_of_get Gl
    have Q1 : (h2.set lf (.dct (putKD le (.inr x) (upV c x v le))))[k]? = some (DO (frs (opK c kv wv)) (frs (opW c wv v)) fd (opS c s) (stZ z dn) false) := by rw [get_set_ne nkl.symm]; exact q.1
    have Q2 : (h2.set lf (.dct (putKD le (.inr x) (upV c x v le))))[fd]? = some (.dct (opD c x (.tup (B (fr v))) df)) := by rw [get_set_ne nfl.symm]; exact q.2
    have Q3 : (h2.set lf (.dct (putKD le (.inr x) (upV c x v le))))[lf]? = some (.dct (putKD le (.inr x) (upV c x v le))) := get_set lfl
    have Q4 : (h2.set lf (.dct (putKD le (.inr x) (upV c x v le))))[L4]? = some (.lst (toDs kv)) := by rw [get_set_ne (fun q => r4 (by simp [q]))]; exact G4
    have Q5 : (h2.set lf (.dct (putKD le (.inr x) (upV c x v le))))[L5]? = some (.lst (toDs wv)) := by rw [get_set_ne (fun q => r5 (by simp [q]))]; exact G5
    have F3 : Fs [k, fd, lf] h2 (h2.set lf (.dct (putKD le (.inr x) (upV c x v le)))) := Fs.set (by simp)
    have F3' : Fs [l, k, fd, lf] h2 (h2.set lf (.dct (putKD le (.inr x) (upV c x v le)))) := Fs.set (by simp)
    generalize h2.set lf (.dct (putKD le (.inr x) (upV c x v le))) = h3 at *
    obtain ⟨M4, M5, gb, u3, w4, w5, o4, o5⟩ := up3_run (h := h3) (c := c) (v := v) (Ek 4 _ (by decide) (by decide) (by decide) (by decide) (by decide) p4) (Ek 5 _ (by decide) (by decide) (by decide) (by decide) (by decide) p5) (Ek 10 _ (by decide) (by decide) (by decide) (by decide) (by decide) s10) (Ek 11 _ (by decide) (by decide) (by decide) (by decide) (by decide) s11) Q4 Q5 (by omega) (by omega)
    have T1 : ((τ5.set 4 (some (.ref M4))).set 5 (some (.ref M5))).length = 18 := len_set (len_set E1)
    have T4 : Sl ((τ5.set 4 (some (.ref M4))).set 5 (some (.ref M5))) 4 (.ref M4) := (Sl.new (by rw [E1]; decide)).set (by decide)
    have T5 : Sl ((τ5.set 4 (some (.ref M4))).set 5 (some (.ref M5))) 5 (.ref M5) := Sl.new (by rw [List.length_set, E1]; decide)
    have T7 : Sl ((τ5.set 4 (some (.ref M4))).set 5 (some (.ref M5))) 7 (fuD (stZ z dn)) := (E7.set (by decide)).set (by decide)
    have T8 : Sl ((τ5.set 4 (some (.ref M4))).set 5 (some (.ref M5))) 8 (.bl false) := (E8.set (by decide)).set (by decide)
    have T9 : Sl ((τ5.set 4 (some (.ref M4))).set 5 (some (.ref M5))) 9 (.int (opS c s : Nat)) := (E9.set (by decide)).set (by decide)
    have Tk : ∀ i d, i ∉ [4, 5, 7, 8, 9, 12, 13] → Sl τ i d → Sl ((τ5.set 4 (some (.ref M4))).set 5 (some (.ref M5))) i d := fun i d n e => by
      simp only [List.mem_cons, List.not_mem_nil, or_false, not_or] at n
      obtain ⟨m4, m5, m7, m8, m9, m12, m13⟩ := n
      exact ((Ek i d m8 m7 m12 m13 m9 e).set (fun z => m4 z.symm)).set (fun z => m5 z.symm)
    generalize (τ5.set 4 (some (.ref M4))).set 5 (some (.ref M5)) = τ6 at *
    have l3 : l < h3.length ∧ k < h3.length ∧ fd < h3.length ∧ lf < h3.length := by
      have a1 := lt_of_get Q1
      have a2 := lt_of_get Q2
      have a3 := lt_of_get Q3
      obtain ⟨_, _, _, e⟩ := S1.di
      have a4 := lt_of_get e
      have := F2.1
      have := F3.1
      omega
    have inM : ∀ M, h3.length ≤ M → M ∉ [l, k, fd, lf] := fun M hM z => by simp at z; omega
    have in4 : M4 ∉ [l, k, fd, lf] := by
      rcases o4 with o4 | o4
      · rw [o4]; exact r4
      · exact inM _ o4
    have FF : Fs [k, fd, lf] h1 (h3 ++ gb) := (F2'.trans F3).trans Fs.app
    refine ⟨τ6, h3 ++ gb, opK c kv wv, opW c wv v, opS c s, stZ z dn, false, fun y => if c = 6 ∧ y = x then some v else fm y, ?_, S1m.next T1 (Tk 1 _ (by decide) S.s1) (Tk 3 _ (by decide) S.s3) (Tk 6 _ (by decide) S.s6) T7 T8 T9 ⟨M4, T4, w4, in4⟩ ⟨M5, T5, w5, inM _ o5⟩ FF (get_app Q1) ⟨_, get_app Q2, ?_, ?_⟩ ⟨_, get_app Q3, ?_, ?_⟩ ?_ ?_ ?_ ?_ hm, F1.trans ((F2''.trans F3').trans Fs.app), Tk 10 _ (by decide) s10⟩
    · have e6 : bOp6 τ4 h2 = .nx τ6 (h3 ++ gb) := by
        rw [bOp6_eq, ifSM_e, notM_e, varM_at D8, bind_ok, toS_ok]
        simp only [Bool.not_false]
        rw [bUp_eq, seqM_e, u1, sbind_nx, seqM_e, u2, sbind_nx, u3]
      rw [bOp_eq, seqM_e, e1, sbind_nx, seqM_e, e2, sbind_nx, seqM_e, e3, sbind_nx, seqM_e, e4, sbind_nx, seqM_e, e5, sbind_nx, e6]
    · unfold opD
      split
      · omega
      · have := putKD_len df (.inr x) (.tup (B (fr v)))
        omega
    · intro y
      unfold opD
      by_cases c6 : c < 6
      · rw [if_pos c6, if_neg (fun q => by omega)]
        exact tf3 y
      · have : c = 6 := by omega
        rw [if_neg c6, valK_put]
        by_cases hy : y = x
        · subst hy
          rw [if_pos rfl, if_pos ⟨this, rfl⟩]
          rfl
        · rw [if_neg (fun q => hy (by injection q)), if_neg (fun q => hy q.2)]
          exact tf3 y
    · have := putKD_len le (.inr x) (upV c x v le)
      omega
    · intro y
      rw [valK_put]
      by_cases hy : y = x
      · subst hy
        rw [if_pos rfl]
        unfold upV
        by_cases c6 : c = 6
        · rw [if_pos c6, if_pos ⟨c6, rfl⟩]
          rfl
        · rw [if_neg c6, if_neg (fun q => c6 q.1)]
          exact tl3 y
      · rw [if_neg (fun q => hy (by injection q)), if_neg (fun q => hy q.2)]
        exact tl3 y
    · intro w hw
      unfold opK at hw
      split at hw
      · exact S.nk w hw
      · split at hw
        · rcases List.mem_append.mp hw with hw | hw
          · exact S.nk w hw
          · exact S.nw w hw
        · exact S.nk w (List.mem_of_mem_take hw)
    · intro w hw
      unfold opW at hw
      split at hw
      · rcases List.mem_append.mp hw with hw | hw
        · exact S.nw w hw
        · rw [List.mem_singleton] at hw
          subst hw
          exact nv
      · simp at hw
    · intro y w hw
      split at hw
      · cases hw; exact nv
      · exact S.nf y w hw
    · unfold opK opW
      by_cases c4 : c < 4
      · rw [if_pos c4, if_pos c4, List.length_append]
        simp only [List.length_cons, List.length_nil]
        omega
      · rw [if_neg c4, if_neg c4]
        split
        · rw [List.length_append]
          simp only [List.length_nil]
          omega
        · rw [List.length_take]
          simp only [List.length_nil]
          omega
end
end K15
end

section
set_option Elab.async false
set_option linter.all false
set_option maxRecDepth 100000
set_option maxHeartbeats 2000000
namespace DD
open PySem L2
theorem unp4 {i j u w : Nat} {a b c d : D} {τ : SL} {h : AH} : unpackG ([i, j, u, w].map nameG) [a, b, c, d] τ h = .nx ((((τ.set i (some a)).set j (some b)).set u (some c)).set w (some d)) h := Eq.trans rfl rfl
end DD
namespace K15
open PySem L2 DD
section
variable {τ τ' : SL} {h h' : AH} {l k fd lf m : Nat} {kv wv : List Va} {s : Nat} {z : Option Nat} {dn : Bool} {fm : Str → Option Va}
/-- of records that are cut just the whole ones -/
theorem cut_whole {P : List Nat} {vs : List Va} {c K : Nat} (nv : ∀ v ∈ vs, Nice v) (k1 : K ≤ vs.length) (k2 : (frs (vs.take K)).length ≤ c) (k3 : ∀ k, k < vs.length → ((frs (vs.take (k + 1))).length ≤ c ↔ k + 1 ≤ K)) :
    ∃ tail, P ++ (frs vs).take c = (P ++ frs (vs.take K)) ++ tail ∧ re (P ++ (frs vs).take c) (P ++ frs (vs.take K)).length = none := by
  by_cases hK : K = vs.length
  · subst hK
    rw [List.take_length] at k2 ⊢
    rw [List.take_of_length_le k2]
    exact ⟨[], by simp, re_end⟩
  · have hlt : K < vs.length := by omega
    have es1 : vs = vs.take K ++ vs[K] :: vs.drop (K + 1) := by
      rw [← List.drop_eq_getElem_cons hlt, List.take_append_drop]
    have e2 : frs vs = frs (vs.take K) ++ (fr vs[K] ++ frs (vs.drop (K + 1))) := by
      conv => lhs; rw [es1, frs_app]
      rfl
    have e3 : (frs vs).take c = frs (vs.take K) ++ (fr vs[K] ++ frs (vs.drop (K + 1))).take (c - (frs (vs.take K)).length) := by
      conv => lhs; rw [e2]
      rw [List.take_append, List.take_of_length_le (by omega)]
    refine ⟨(fr vs[K] ++ frs (vs.drop (K + 1))).take (c - (frs (vs.take K)).length), by rw [e3, List.append_assoc], ?_⟩
    have e4 : (P ++ (frs vs).take c).drop (P ++ frs (vs.take K)).length = (fr vs[K] ++ frs (vs.drop (K + 1))).take (c - (frs (vs.take K)).length) := by
      rw [e3, ← List.append_assoc, List.drop_left' rfl]
    have hm : vs[K] ∈ vs := List.getElem_mem hlt
    have n3 := (not_congr (k3 K hlt)).mpr (by omega)
    have e5 : (frs (vs.take (K + 1))).length = (frs (vs.take K)).length + (fr vs[K]).length := by
      rw [List.take_succ, List.getElem?_eq_getElem hlt, frs_app, List.length_append]
      show _ + (fr vs[K] ++ []).length = _
      rw [List.append_nil]
    have zz := (nv _ hm).2.2
    have fl := fr_len vs[K]
    refine re_cut (v := vs[K]) (more := frs (vs.drop (K + 1))) ?_ e4 (by omega) (by omega)
    rw [e3]
    simp only [List.length_append]
    omega
theorem cr1_run {L5 : Nat} (s5 : Sl τ 5 (.ref L5)) (g5 : h[L5]? = some (.lst (toDs wv))) (nw : ∀ v ∈ wv, Nice v) (hw : wv.length ≤ 1000) : ∃ h', bCr1 τ h = .nx (τ.set 14 (some (.tup (B (frs wv))))) h' ∧ Fr none h h' := by
  obtain ⟨h', a1, a2⟩ := bytes_run nw hw g5
  refine ⟨h', ?_, a2⟩
  unfold bCr1
  simp only [varM_at s5, a1, DD.bind_ok, DD.bind_exc, DD.toS_ok, DD.toS_exc, DD.bindL_ok, DD.bindL_exc, DD.lbind_ok, DD.lbind_exc, DD.bindE_ok, DD.bindE_exc, DD.sbind_nx, DD.sbind_rt, DD.sbind_exc, DD.sbind_bk, DD.sbind_ct, DD.ret_nx, DD.ret_rt, DD.ret_exc, DD.varM_0, DD.varM_1, DD.varM_2, DD.varM_3, DD.varM_4, DD.varM_5, DD.cM_e, DD.binM_e, DD.unM_e, DD.seqM_e, DD.setM_e, DD.exprM_e, DD.retM_e, DD.raiseM_e, DD.passM_e, DD.brkM_e, DD.ifSM_e, DD.ifM_e, DD.andM_e, DD.orM_e, DD.notM_e, DD.nilM_e, DD.consM_e, DD.callM_e, DD.tupM_e, DD.lstM_e, DD.bmM_e, DD.smM_e, DD.asgM_e, DD.subG_e, DD.nameG_e, DD.slM_e, DD.om_none, DD.om_some, DD.fldSetM_e, DD.toldM_e, DD.add_ii, DD.add_tt, DD.sub_ii, DD.mul_ii, DD.lt_ii, DD.le_ii, DD.gt_ii, DD.ge_ii, DD.fdiv_ii, DD.mod_ii, DD.eq_ii, DD.ne_ii, DD.eq_ss, DD.ne_ss, DD.fld_e, DD.len_t, DD.len_s, DD.append_e, DD.extend_t, DD.extend_r, DD.tup_r, DD.it_t, DD.sl_t, DD.callF, List.length_append, List.length_cons, List.length_nil, List.append_nil, Nat.reduceAdd, List.set_cons_zero, List.set_cons_succ, ↓reduceIte, Bool.not_true, Bool.not_false, Nat.zero_le]
theorem cr2_run {data : List Nat} (s1 : Sl τ 1 (.ref l)) (s14 : Sl τ 14 (.tup (B data))) (di : Di h l) (hz : data.length ≤ 1000000) : ∃ (c : Nat) (h' : AH), bCr2 τ h = .nx (τ.set 15 (some (.int (c : Int)))) h' ∧ Dd l h h' := by
  obtain ⟨r, h1, a1, a2, a3⟩ := roll5 (data.length + 3) h l di (by omega) (rb _ (by omega)) (by omega)
  have a1' : R__law_roll 5 [.ref l, .int ((data.length : Int) + 3)] h = .ok (.int (r : Int)) h1 := a1
  refine ⟨r, h1, ?_, a3⟩
  unfold bCr2
  simp only [varM_at s1, varM_at s14, B_len, a1', DD.bind_ok, DD.bind_exc, DD.toS_ok, DD.toS_exc, DD.bindL_ok, DD.bindL_exc, DD.lbind_ok, DD.lbind_exc, DD.bindE_ok, DD.bindE_exc, DD.sbind_nx, DD.sbind_rt, DD.sbind_exc, DD.sbind_bk, DD.sbind_ct, DD.ret_nx, DD.ret_rt, DD.ret_exc, DD.varM_0, DD.varM_1, DD.varM_2, DD.varM_3, DD.varM_4, DD.varM_5, DD.cM_e, DD.binM_e, DD.unM_e, DD.seqM_e, DD.setM_e, DD.exprM_e, DD.retM_e, DD.raiseM_e, DD.passM_e, DD.brkM_e, DD.ifSM_e, DD.ifM_e, DD.andM_e, DD.orM_e, DD.notM_e, DD.nilM_e, DD.consM_e, DD.callM_e, DD.tupM_e, DD.lstM_e, DD.bmM_e, DD.smM_e, DD.asgM_e, DD.subG_e, DD.nameG_e, DD.slM_e, DD.om_none, DD.om_some, DD.fldSetM_e, DD.toldM_e, DD.add_ii, DD.add_tt, DD.sub_ii, DD.mul_ii, DD.lt_ii, DD.le_ii, DD.gt_ii, DD.ge_ii, DD.fdiv_ii, DD.mod_ii, DD.eq_ii, DD.ne_ii, DD.eq_ss, DD.ne_ss, DD.fld_e, DD.len_t, DD.len_s, DD.append_e, DD.extend_t, DD.extend_r, DD.tup_r, DD.it_t, DD.sl_t, DD.callF, List.length_append, List.length_cons, List.length_nil, List.append_nil, Nat.reduceAdd, List.set_cons_zero, List.set_cons_succ, ↓reduceIte, Bool.not_true, Bool.not_false, Nat.zero_le]
theorem cr3_run {c : Nat} {a b : List Nat} (s3 : Sl τ 3 (.ref k)) (s15 : Sl τ 15 (.int (c : Int))) (g : h[k]? = some (DO a b fd s z dn)) (hz : a.length + b.length ≤ 15000000) : bCr3 τ h = .nx τ (h.set k (DO (a ++ b.take c) [] fd s z true)) := by
  have cr := crash_run (m := c) g hz
  have g0 := g
  unfold DO at g0
  unfold bCr3
  rw [exprM_e, meth_d g0 rfl (varM_at s3), consM_e, varM_at s15, bindL_ok, nilM_e, lbind_ok, bindE_ok]
  simp only [callF, List.append_nil, List.length_cons, List.length_nil, Nat.zero_add, Nat.reduceAdd, ↓reduceIte]
  rw [cr, toS_ok]
theorem ne_BBn {x : List Nat} {h : AH} : neM (.tup (B [])) (.tup []) h = .ok (.bl false) h := rfl
theorem cr4_run {c L4 : Nat} {b : List Nat} (s3 : Sl τ 3 (.ref k)) (s4 : Sl τ 4 (.ref L4)) (s14 : Sl τ 14 (.tup (B b))) (s15 : Sl τ 15 (.int (c : Int))) (g : h[k]? = some (DO (frs kv ++ b.take c) [] fd s z true)) (g4 : h[L4]? = some (.lst (toDs kv))) (nk : ∀ v ∈ kv, Nice v) (hk : kv.length ≤ 1000) (hb : b.length ≤ 1000000) : ∃ h', bCr4 τ h = .nx τ h' ∧ Fr none h h' := by
  obtain ⟨h', a1, a2⟩ := bytes_run nk hk g4
  refine ⟨h', ?_, a2⟩
  have sz := nice_sz nk
  have g' := a2.getN g
  unfold DO at g g'
  have ev : binM (callM (consM (varM 4) nilM) (callF 1 [] F__law_bytes)) (slM (varM 14) .none (.some (varM 15))) addM τ h = .ok (.tup (B (frs kv ++ b.take c))) h' := by
    have lt : (b.take c).length ≤ b.length := by rw [List.length_take]; omega
    simp only [varM_at s4, a1, varM_at s14, varM_at s15, cut_n, B_take, B_len, show ((frs kv).length + (b.take c).length ≤ sizeLine) = True from by rw [sizeLine_eq]; exact eq_true (by omega), B_app, DD.bind_ok, DD.bind_exc, DD.toS_ok, DD.toS_exc, DD.bindL_ok, DD.bindL_exc, DD.lbind_ok, DD.lbind_exc, DD.bindE_ok, DD.bindE_exc, DD.sbind_nx, DD.sbind_rt, DD.sbind_exc, DD.sbind_bk, DD.sbind_ct, DD.ret_nx, DD.ret_rt, DD.ret_exc, DD.varM_0, DD.varM_1, DD.varM_2, DD.varM_3, DD.varM_4, DD.varM_5, DD.cM_e, DD.binM_e, DD.unM_e, DD.seqM_e, DD.setM_e, DD.exprM_e, DD.retM_e, DD.raiseM_e, DD.passM_e, DD.brkM_e, DD.ifSM_e, DD.ifM_e, DD.andM_e, DD.orM_e, DD.notM_e, DD.nilM_e, DD.consM_e, DD.callM_e, DD.tupM_e, DD.lstM_e, DD.bmM_e, DD.smM_e, DD.asgM_e, DD.subG_e, DD.nameG_e, DD.slM_e, DD.om_none, DD.om_some, DD.fldSetM_e, DD.toldM_e, DD.add_ii, DD.add_tt, DD.sub_ii, DD.mul_ii, DD.lt_ii, DD.le_ii, DD.gt_ii, DD.ge_ii, DD.fdiv_ii, DD.mod_ii, DD.eq_ii, DD.ne_ii, DD.eq_ss, DD.ne_ss, DD.fld_e, DD.len_t, DD.len_s, DD.append_e, DD.extend_t, DD.extend_r, DD.tup_r, DD.it_t, DD.sl_t, DD.callF, List.length_append, List.length_cons, List.length_nil, List.append_nil, Nat.reduceAdd, List.set_cons_zero, List.set_cons_succ, ↓reduceIte, Bool.not_true, Bool.not_false, Nat.zero_le]
  unfold bCr4
  rw [ifSM_e, orM_e, binM_e, unM_e, varM_at s3, bind_ok, fr1 g, bind_ok, ev, bind_ok, ne_BB, decide_eq_true rfl, bind_ok]
  simp only [Bool.not_true]
  have et : tupM nilM τ h' = .ok (.tup []) h' := by rw [tupM_e, nilM_e, bindE_ok, if_pos (by simp)]
  rw [orM_e, binM_e, unM_e, varM_at s3, bind_ok, fr2 g', bind_ok, et, bind_ok, ne_BBn (x := []), bind_ok]
  simp only []
  rw [notM_e, unM_e, unM_e, varM_at s3, bind_ok, fr6 g', bind_ok, tru_bl, bind_ok, toS_ok]
  simp only [Bool.not_true]
  rw [passM_e]
theorem cr5_run {vs : List Va} {a b tail : List Nat} (s3 : Sl τ 3 (.ref k)) (g : h[k]? = some (DO a b fd s z dn)) (hn : ∀ v ∈ vs, Nice v) (hl : vs.length ≤ 1000) (hz : a.length ≤ 1000000) (hx : ∀ x ∈ a, x < 256) (ea : a = frs vs ++ tail) (er : re a (frs vs).length = none) :
    ∃ h', bCr5 τ h = .nx τ h' ∧ Fr (some k) h h' ∧ h'[k]? = some (DO (frs vs) b fd s none false) := by
  obtain ⟨h', a1, a2, a3⟩ := restart_run g hn hl hz hx ea er
  refine ⟨h', ?_, a2, a3⟩
  unfold DO at g
  unfold bCr5
  rw [exprM_e, meth_d g rfl (varM_at s3), nilM_e, bindE_ok]
  simp only [callF, List.append_nil, List.length_cons, List.length_nil, Nat.zero_add, ↓reduceIte]
  rw [a1, toS_ok]
/-- [k for k in range(len(waiting) + 1) if len(bytes(waiting[:k])) <= many] -/
theorem cr6_run {c K L5 : Nat} (hl : τ.length = 18) (s5 : Sl τ 5 (.ref L5)) (s15 : Sl τ 15 (.int (c : Int))) (g5 : h[L5]? = some (.lst (toDs wv))) (nw : ∀ v ∈ wv, Nice v) (hw : wv.length ≤ 1000) (k1 : K ≤ wv.length) (k3 : ∀ k, k < wv.length → ((frs (wv.take (k + 1))).length ≤ c ↔ k + 1 ≤ K)) :
    ∃ h', bCr6 τ h = .nx (τ.set 16 (some (.ref h.length))) h' ∧ Fr none h h' ∧ h'[h.length]? = some (.lst (rngL 0 (K + 1))) := by
  have key := lc_run (mc := some (binM (callM (consM (callM (consM (slM (varM 5) .none (.some (varM 17))) nilM) (callF 1 [] F__law_bytes)) nilM) lenF) (varM 15) leM)) (me := varM 17) (own := [17]) (τ := τ) (L := h.length) (j := 17) (ds := rngL 0 (wv.length + 1))
    (fun k acc hh => acc = rngL 0 (min k (K + 1)) ∧ Fr none h hh ∧ hh[h.length]? = some (.lst acc)) (fun k d acc hh hk p => by
      obtain ⟨rfl, p4, p5⟩ := p
      obtain ⟨hk', rfl⟩ := rngL_get hk
      have w17 : Sl ((wipeD τ [17]).set 17 (some (.int (0 + (k : Int))))) 17 (.int (0 + (k : Int))) := Sl.new (by
        show 17 < (τ.set 17 none).length
        rw [List.length_set, hl]; decide)
      have w5 : Sl ((wipeD τ [17]).set 17 (some (.int (0 + (k : Int))))) 5 (.ref L5) := (show Sl (τ.set 17 none) 5 (.ref L5) from s5.set (by decide)).set (by decide)
      have w15 : Sl ((wipeD τ [17]).set 17 (some (.int (0 + (k : Int))))) 15 (.int (c : Int)) := (show Sl (τ.set 17 none) 15 (.int (c : Int)) from s15.set (by decide)).set (by decide)
      have G5 := p4.getN g5
      have es : slM (varM 5) .none (.some (varM 17)) ((wipeD τ [17]).set 17 (some (.int (0 + (k : Int))))) hh = .ok (.ref hh.length) (hh ++ [.lst (toDs (wv.take k))]) := by
        rw [slM_e, varM_at w5, bind_ok, om_none, om_some, varM_at w17, bind_ok]
        simp only []
        rw [sl_r, G5]
        simp only []
        rw [show (0 + (k : Int)) = (k : Int) from by omega, cut_n, toDs_take]
      obtain ⟨h2, b1, b2⟩ := bytes_run (h := hh ++ [.lst (toDs (wv.take k))]) (vs := wv.take k) (fun v hv => nw v (List.mem_of_mem_take hv)) (by rw [List.length_take]; omega) get_new
      have F2 : Fr none hh h2 := Fr.app.trans b2
      have le : decide (((frs (wv.take k)).length : Int) ≤ (c : Int)) = decide (k < K + 1) := by
        by_cases q : k < K + 1
        · rw [decide_eq_true q]
          refine decide_eq_true ?_
          cases k with
          | zero => simp [frs]
          | succ j => have := (k3 j (by omega)).mpr (by omega); omega
        · rw [decide_eq_false q]
          refine decide_eq_false ?_
          cases k with
          | zero => omega
          | succ j => have := (not_congr (k3 j (by omega))).mpr (by omega); omega
      refine ⟨decide (k < K + 1), h2, ?_, fun z => ?_, fun z => ?_⟩
      · show binM (callM (consM (callM (consM (slM (varM 5) .none (.some (varM 17))) nilM) (callF 1 [] F__law_bytes)) nilM) lenF) (varM 15) leM _ hh = _
        rw [binM_e, callM_e, consM_e, callM_e, consM_e, es, bindL_ok, nilM_e, lbind_ok, bindE_ok]
        simp only [callF, List.append_nil, List.length_cons, List.length_nil, Nat.zero_add, ↓reduceIte]
        rw [b1, bindL_ok, nilM_e, lbind_ok, bindE_ok, len_t, B_len, bind_ok, varM_at w15, bind_ok, le_ii, le]
      · have := of_decide_eq_false z
        have e : min (k + 1) (K + 1) = min k (K + 1) := by omega
        rw [e]
        exact ⟨rfl, p4.trans F2, F2.getN p5⟩
      · have q := of_decide_eq_true z
        have e : min (k + 1) (K + 1) = min k (K + 1) + 1 := by omega
        have e2 : min k (K + 1) = k := by omega
        have p5' := F2.getN p5
        refine ⟨.int (0 + (k : Int)), h2, varM_at w17, p5', by rw [rngL_length]; omega, ?_, (p4.trans F2).setN (Nat.le_refl _), get_set (lt_of_get p5')⟩
        rw [e, rngL_snoc, e2, Int.zero_add]) (rngL 0 (wv.length + 1)) 0 [] (h ++ [.lst []]) rfl (Nat.zero_le _) ⟨by simp [rngL], Fr.app, get_new⟩
  obtain ⟨acc', h', ⟨rfl, k5, k6⟩, k7⟩ := key
  rw [rngL_length] at k6
  have em : min (wv.length + 1) (K + 1) = K + 1 := Nat.min_eq_right (by omega)
  rw [em] at k6
  refine ⟨h', ?_, k5, k6⟩
  have e0 : binM (callM (consM (varM 5) nilM) lenF) (cM (.int 1)) addM τ h = .ok (.int ((wv.length + 1 : Nat) : Int)) h := by
    rw [binM_e, callM_e, consM_e, varM_at s5, bindL_ok, nilM_e, lbind_ok, bindE_ok, len_r g5, toDs_len, bind_ok, cM_e, bind_ok, add_ii]
    rfl
  unfold bCr6
  rw [setM_e, lcQ_e, lcM_of e0 (rng1_e (j := wv.length + 1) (h := h) (by omega)), k7, noexc_ok, toS_ok]
theorem cr7_run {K L4 L5 L6 : Nat} (s4 : Sl τ 4 (.ref L4)) (s5 : Sl τ 5 (.ref L5)) (s16 : Sl τ 16 (.ref L6)) (g4 : h[L4]? = some (.lst (toDs kv))) (g5 : h[L5]? = some (.lst (toDs wv))) (g6 : h[L6]? = some (.lst (rngL 0 (K + 1)))) (hk : kv.length ≤ 1000) (hw : wv.length ≤ 1000) :
    ∃ (M4 M5 : Nat) (gb : AH), bCr7 τ h = .nx ((((τ.set 4 (some (.ref M4))).set 5 (some (.ref M5))).set 7 (some .non)).set 8 (some (.bl false))) (h ++ gb) ∧ (h ++ gb)[M4]? = some (.lst (toDs (kv ++ wv.take K))) ∧ (h ++ gb)[M5]? = some (.lst (toDs [])) ∧ h.length ≤ M4 ∧ h.length ≤ M5 := by
  have ei : binM (varM 16) (binM (callM (consM (varM 16) nilM) lenF) (cM (.int 1)) subM) itM τ h = .ok (.int (K : Int)) h := by
    have ll : lenF [.ref L6] h = .ok (.int ((K + 1 : Nat) : Int)) h := by rw [len_r g6, rngL_length]
    have ea : atI (rngL 0 (K + 1)) (((K + 1 : Nat) : Int) - 1) = some (.int (K : Int)) := by
      rw [show ((K + 1 : Nat) : Int) - 1 = (K : Int) from by omega, atI_k (by rw [rngL_length]; omega), rngL_snoc, List.getElem?_append_right (by rw [rngL_length]; omega), rngL_length, Nat.sub_self]
      rfl
    rw [binM_e, varM_at s16, bind_ok, binM_e, callM_e, consM_e, varM_at s16, bindL_ok, nilM_e, lbind_ok, bindE_ok, ll, bind_ok, cM_e, bind_ok, sub_ii, bind_ok, it_r, g6]
    simp only [ea]
  have es : slM (varM 5) .none (.some (binM (varM 16) (binM (callM (consM (varM 16) nilM) lenF) (cM (.int 1)) subM) itM)) τ h = .ok (.ref h.length) (h ++ [.lst (toDs (wv.take K))]) := by
    rw [slM_e, varM_at s5, bind_ok, om_none, om_some, ei, bind_ok]
    simp only []
    rw [sl_r, g5]
    simp only []
    rw [cut_n, toDs_take]
  have g4' : (h ++ [O.lst (toDs (wv.take K))])[L4]? = some (.lst (toDs kv)) := get_app g4
  have e1 := add_rr (h := h ++ [O.lst (toDs (wv.take K))]) g4' get_new (by rw [toDs_len, toDs_len, List.length_take]; omega)
  have e2 : lstM nilM τ ((h ++ [O.lst (toDs (wv.take K))]) ++ [O.lst (toDs kv ++ toDs (wv.take K))]) = .ok (.ref ((h ++ [O.lst (toDs (wv.take K))]) ++ [O.lst (toDs kv ++ toDs (wv.take K))]).length) (((h ++ [O.lst (toDs (wv.take K))]) ++ [O.lst (toDs kv ++ toDs (wv.take K))]) ++ [.lst []]) := by
    rw [lstM_e, nilM_e, bindE_ok, if_pos (by simp)]
  refine ⟨(h ++ [O.lst (toDs (wv.take K))]).length, ((h ++ [O.lst (toDs (wv.take K))]) ++ [O.lst (toDs kv ++ toDs (wv.take K))]).length, [.lst (toDs (wv.take K)), .lst (toDs kv ++ toDs (wv.take K)), .lst []], ?_, ?_, ?_, by simp, by simp⟩
  · unfold bCr7
    rw [asgM_e, tupM_e, consM_e, binM_e, varM_at s4, bind_ok, es, bind_ok, e1, bindL_ok, consM_e, e2, bindL_ok, consM_e, cM_e, bindL_ok, consM_e, cM_e, bindL_ok, nilM_e, lbind_ok, lbind_ok, lbind_ok, lbind_ok, bindE_ok, if_pos (by rw [sizeLine_eq]; simp only [List.length_cons, List.length_nil]; omega), toS_ok, tupG_e, unp4]
    simp only [List.append_assoc]
    rfl
  · have : (h ++ [O.lst (toDs (wv.take K)), .lst (toDs kv ++ toDs (wv.take K)), .lst []]) = (h ++ [O.lst (toDs (wv.take K))]) ++ .lst (toDs kv ++ toDs (wv.take K)) :: [.lst []] := by simp
    rw [this, get_new, toDs_app]
  · have : (h ++ [O.lst (toDs (wv.take K)), .lst (toDs kv ++ toDs (wv.take K)), .lst []]) = ((h ++ [O.lst (toDs (wv.take K))]) ++ [.lst (toDs kv ++ toDs (wv.take K))]) ++ [.lst []] := by simp
    rw [this, get_new]
    rfl
end
end K15
end

section
set_option Elab.async false
set_option linter.all false
set_option maxRecDepth 100000
set_option maxHeartbeats 2000000
namespace K15
open PySem L2 DD
section
variable {τ τ' : SL} {h h' : AH} {l k fd lf m : Nat} {kv wv : List Va} {s : Nat} {z : Option Nat} {dn : Bool} {fm : Str → Option Va}
theorem Fs.keep {us vs : List Nat} {i : Nat} {o : O} (F : Fs us h h') (e : h[i]? = some o) (hu : i ∉ vs) (hs : ∀ x ∈ us, x ∈ vs) : h'[i]? = some o := F.get e fun z => hu (hs i z)
theorem cr_branch {c : Nat} (S : Sv τ h l k fd lf m kv wv s z dn fm) (s10 : Sl τ 10 (.int (c : Int))) :
    ∃ τ' h' kv', bCr τ h = .nx τ' h' ∧ Sv τ' h' l k fd lf m kv' [] s none false fm ∧ Fs [l, k, fd, lf] h h' ∧ Sl τ' 10 (.int (c : Int)) := by
  obtain ⟨n1, n2, n3⟩ := S.ne
  have sz := S.sz
  have hm := S.hm
  obtain ⟨L5, p5, q5, r5⟩ := S.l5
  obtain ⟨szk, szw⟩ := S.szb
  obtain ⟨h1, e1, f1⟩ := cr1_run p5 q5 S.nw (by omega)
  have S1 := (S.frame f1).set (i := 14) (o := some (.tup (B (frs wv)))) (by decide)
  have A14 : Sl (τ.set 14 (some (.tup (B (frs wv))))) 14 (.tup (B (frs wv))) := Sl.new (by rw [S.len]; decide)
  have A10 : Sl (τ.set 14 (some (.tup (B (frs wv))))) 10 (.int (c : Int)) := s10.set (by decide)
  generalize τ.set 14 (some (.tup (B (frs wv)))) = τ1 at *
  obtain ⟨mn, h2, e2, d2⟩ := cr2_run S1.s1 A14 S1.di (by omega)
  have S2 := (S1.heap d2).set (i := 15) (o := some (.int (mn : Int))) (by decide)
  have B15 : Sl (τ1.set 15 (some (.int (mn : Int)))) 15 (.int (mn : Int)) := Sl.new (by rw [S1.len]; decide)
  have B14 : Sl (τ1.set 15 (some (.int (mn : Int)))) 14 (.tup (B (frs wv))) := A14.set (by decide)
  have B10 : Sl (τ1.set 15 (some (.int (mn : Int)))) 10 (.int (c : Int)) := A10.set (by decide)
  generalize τ1.set 15 (some (.int (mn : Int))) = τ2 at *
  have e3 := cr3_run S2.s3 B15 S2.gk (by omega)
  obtain ⟨L4, p4, q4, r4⟩ := S2.l4
  obtain ⟨L5', p5', q5', r5'⟩ := S2.l5
  have kl := lt_of_get S2.gk
  have k4 : k ≠ L4 := fun q => r4 (by simp [q])
  have k5 : k ≠ L5' := fun q => r5' (by simp [q])
  have G3 : (h2.set k (DO (frs kv ++ (frs wv).take mn) [] fd s z true))[k]? = some (DO (frs kv ++ (frs wv).take mn) [] fd s z true) := get_set kl
  have G4 : (h2.set k (DO (frs kv ++ (frs wv).take mn) [] fd s z true))[L4]? = some (.lst (toDs kv)) := by rw [get_set_ne k4]; exact q4
  have F3 : Fs [k] h2 (h2.set k (DO (frs kv ++ (frs wv).take mn) [] fd s z true)) := Fs.set (by simp)
  generalize h2.set k (DO (frs kv ++ (frs wv).take mn) [] fd s z true) = h3 at *
  obtain ⟨h4, e4, f4⟩ := cr4_run S2.s3 p4 B14 B15 G3 G4 S.nk (by omega) (by omega)
  obtain ⟨K, k1, k2, k3⟩ := cut_ex wv mn
  obtain ⟨tail, w1, w2⟩ := cut_whole (P := frs kv) S.nw k1 k2 k3
  rw [← frs_app] at w1 w2
  have nkw : ∀ v ∈ kv ++ wv.take K, Nice v := fun v hv => by
    rcases List.mem_append.mp hv with hv | hv
    · exact S.nk v hv
    · exact S.nw v (List.mem_of_mem_take hv)
  have lkw : (kv ++ wv.take K).length ≤ kv.length + wv.length := by rw [List.length_append, List.length_take]; omega
  obtain ⟨h5, e5, f5, G5⟩ := cr5_run (vs := kv ++ wv.take K) (tail := tail) S2.s3 (f4.getN G3) nkw (by omega) (by rw [List.length_append, List.length_take]; omega) (fun x hx => by
    rcases List.mem_append.mp hx with hx | hx
    · exact frs_lt kv (Wfs_of S.nk) x hx
    · exact frs_lt wv (Wfs_of S.nw) x (List.mem_of_mem_take hx)) w1 w2
  have F5 : Fs [k] h2 h5 := (F3.trans (Fs.of f4)).trans (Fs.of1 f5 (by simp))
  have q5c : h5[L5']? = some (.lst (toDs wv)) := F5.get q5' (by simpa using k5.symm)
  have q4c : h5[L4]? = some (.lst (toDs kv)) := F5.get q4 (by simpa using k4.symm)
  obtain ⟨h6, e6, f6, G6⟩ := cr6_run (h := h5) S2.len p5' B15 q5c S.nw (by omega) k1 k3
  have C1 : (τ2.set 16 (some (.ref h5.length))).length = 18 := len_set S2.len
  have C16 : Sl (τ2.set 16 (some (.ref h5.length))) 16 (.ref h5.length) := Sl.new (by rw [S2.len]; decide)
  have Ck : ∀ i d, i ≠ 16 → Sl τ2 i d → Sl (τ2.set 16 (some (.ref h5.length))) i d := fun i d n e => e.set n.symm
  generalize τ2.set 16 (some (.ref h5.length)) = τ3 at *
  obtain ⟨M4, M5, gb, e7, G7, G8, o4, o5⟩ := cr7_run (h := h6) (K := K) (Ck 4 _ (by decide) p4) (Ck 5 _ (by decide) p5') C16 (f6.getN q4c) (f6.getN q5c) G6 (by omega) (by omega)
  have F7 : Fs [k] h2 (h6 ++ gb) := (F5.trans (Fs.of f6)).trans Fs.app
  have F7' : Fs [k, fd, lf] h2 (h6 ++ gb) := F7.mono (by intro a ha; simp at ha ⊢; exact .inl ha)
  have F7'' : Fs [l, k, fd, lf] h2 (h6 ++ gb) := F7.mono (by intro a ha; simp at ha ⊢; exact .inr (.inl ha))
  have D1 : ((((τ3.set 4 (some (.ref M4))).set 5 (some (.ref M5))).set 7 (some .non)).set 8 (some (.bl false))).length = 18 := len_set (len_set (len_set (len_set C1)))
  have D8 : Sl ((((τ3.set 4 (some (.ref M4))).set 5 (some (.ref M5))).set 7 (some .non)).set 8 (some (.bl false))) 8 (.bl false) := Sl.new (by simp only [List.length_set, C1]; decide)
  have D7 : Sl ((((τ3.set 4 (some (.ref M4))).set 5 (some (.ref M5))).set 7 (some .non)).set 8 (some (.bl false))) 7 (fuD none) := (Sl.new (d := .non) (by simp only [List.length_set, C1]; decide)).set (by decide)
  have D5 : Sl ((((τ3.set 4 (some (.ref M4))).set 5 (some (.ref M5))).set 7 (some .non)).set 8 (some (.bl false))) 5 (.ref M5) := ((Sl.new (by simp only [List.length_set, C1]; decide)).set (by decide)).set (by decide)
  have D4 : Sl ((((τ3.set 4 (some (.ref M4))).set 5 (some (.ref M5))).set 7 (some .non)).set 8 (some (.bl false))) 4 (.ref M4) := (((Sl.new (by rw [C1]; decide)).set (by decide)).set (by decide)).set (by decide)
  have Dk : ∀ i d, i ∉ [4, 5, 7, 8, 16] → Sl τ2 i d → Sl ((((τ3.set 4 (some (.ref M4))).set 5 (some (.ref M5))).set 7 (some .non)).set 8 (some (.bl false))) i d := fun i d n e => by
    simp only [List.mem_cons, List.not_mem_nil, or_false, not_or] at n
    obtain ⟨m4, m5, m7, m8, m16⟩ := n
    exact ((((Ck i d m16 e).set (fun z => m4 z.symm)).set (fun z => m5 z.symm)).set (fun z => m7 z.symm)).set (fun z => m8 z.symm)
  generalize (((τ3.set 4 (some (.ref M4))).set 5 (some (.ref M5))).set 7 (some .non)).set 8 (some (.bl false)) = τ4 at *
  have hl6 : h2.length ≤ h6.length := Nat.le_trans F5.1 f6.1
  have l2 : l < h2.length ∧ k < h2.length ∧ fd < h2.length ∧ lf < h2.length := by
    obtain ⟨_, a2, _⟩ := S2.td
    obtain ⟨_, a3, _⟩ := S2.tl
    obtain ⟨_, _, _, e⟩ := S2.di
    exact ⟨lt_of_get e, kl, lt_of_get a2, lt_of_get a3⟩
  have inM : ∀ M, h6.length ≤ M → M ∉ [l, k, fd, lf] := fun M hM z => by simp at z; omega
  have kf : fd ∉ [k] := fun q => n2 (by simp at q ⊢; exact .inr q)
  have kl2 : lf ∉ [k] := fun q => n3 (by simp at q ⊢; exact .inr (.inl q))
  refine ⟨τ4, h6 ++ gb, kv ++ wv.take K, ?_, S2.next D1 (Dk 1 _ (by decide) S2.s1) (Dk 3 _ (by decide) S2.s3) (Dk 6 _ (by decide) S2.s6) D7 D8 (Dk 9 _ (by decide) S2.s9) ⟨M4, D4, G7, inM _ o4⟩ ⟨M5, D5, G8, inM _ o5⟩ F7' (get_app (f6.getN G5)) ?_ ?_ nkw (by simp) S.nf (by simp only [List.length_nil]; omega) hm, ((Fs.of f1).trans (Fs.of1 d2.1 (by simp))).trans F7'', Dk 10 _ (by decide) B10⟩
  · rw [bCr_eq, seqM_e, e1, sbind_nx, seqM_e, e2, sbind_nx, seqM_e, e3, sbind_nx, seqM_e, e4, sbind_nx, seqM_e, e5, sbind_nx, seqM_e, e6, sbind_nx, e7]
  · obtain ⟨df, a, b⟩ := S2.td
    exact ⟨df, F7.get a kf, b⟩
  · obtain ⟨le, a, b⟩ := S2.tl
    exact ⟨le, F7.get a kl2, b⟩
/-- the deed -/
theorem t2_run {c : Nat} {v : Va} (S : Sv τ h l k fd lf m kv wv s z dn fm) (hm : m + 1 ≤ 50) (hc : c < 9) (nv : Nice v) (s10 : Sl τ 10 (.int (c : Int))) (s11 : Sl τ 11 v.toD) :
    ∃ τ' h' kv' wv' s' z' dn' fm', t2 τ h = .nx τ' h' ∧ Sv τ' h' l k fd lf (m + 1) kv' wv' s' z' dn' fm' ∧ Fs [l, k, fd, lf] h h' ∧ Sl τ' 10 (.int (c : Int)) ∧ (c = 7 → dn' = false ∧ wv' = []) := by
  have eqc : ∀ n : Nat, eqM (.int (c : Int)) (.int (n : Int)) h = .ok (.bl (decide (c = n))) h := fun n => by rw [eq_ii, eq_nat]
  have eq0 : eqM (.int (c : Int)) (.int 0) h = .ok (.bl (decide (c = 0))) h := eqc 0
  have eq7 : eqM (.int (c : Int)) (.int 7) h = .ok (.bl (decide (c = 7))) h := eqc 7
  rw [t2_eq, ifSM_e, binM_e, varM_at s10, bind_ok, cM_e, bind_ok, eq0, toS_ok]
  by_cases c0 : c = 0
  · rw [decide_eq_true c0]
    obtain ⟨τ', h', z', a, b, f, g⟩ := arm_branch S s10
    exact ⟨τ', h', kv, wv, s, z', dn, fm, a, b.mono (by omega) hm, f, g, fun q => by omega⟩
  · rw [decide_eq_false c0]
    simp only []
    rw [ifSM_e, binM_e, varM_at s10, bind_ok, cM_e, bind_ok, lt_ii, toS_ok]
    by_cases c7 : c < 7
    · rw [show decide ((c : Int) < 7) = true from decide_eq_true (by omega)]
      obtain ⟨τ', h', kv', wv', s', z', dn', fm', a, b, f, g⟩ := op_branch S hm c7 nv s10 s11
      exact ⟨τ', h', kv', wv', s', z', dn', fm', a, b, f, g, fun q => by omega⟩
    · rw [show decide ((c : Int) < 7) = false from decide_eq_false (by omega)]
      simp only []
      rw [ifSM_e, binM_e, varM_at s10, bind_ok, cM_e, bind_ok, eq7, toS_ok]
      by_cases e7 : c = 7
      · rw [decide_eq_true e7]
        obtain ⟨τ', h', kv', a, b, f, g⟩ := cr_branch S s10
        exact ⟨τ', h', kv', [], s, none, false, fm, a, b.mono (by omega) hm, f, g, fun _ => ⟨rfl, rfl⟩⟩
      · rw [decide_eq_false e7]
        exact ⟨τ, h, kv, wv, s, z, dn, fm, passM_e, S.mono (by omega) hm, Fs.refl, s10, fun q => absurd q e7⟩
end
end K15
end

section
set_option Elab.async false
set_option linter.all false
set_option maxRecDepth 100000
set_option maxHeartbeats 2000000
namespace DD
open PySem L2
mutual
theorem eqD_self : ∀ d : D, plD d = true → eqD d d = true
  | .non, _ => rfl
  | .bl b, _ => by simp [eqD]
  | .int i, _ => by simp [eqD]
  | .str x, _ => by simp [eqD]
  | .tup xs, h => by
    simp only [eqD]
    exact eqDs_self xs (by simpa [plD] using h)
  | .ref _, h => by simp [plD] at h
  | .con _, h => by simp [plD] at h
  | .fls _, h => by simp [plD] at h
theorem eqDs_self : ∀ ds : List D, plDs ds = true → eqDs ds ds = true
  | [], _ => rfl
  | d :: ds, h => by
    simp only [plDs, Bool.and_eq_true] at h
    simp only [eqDs, eqD_self d h.1, eqDs_self ds h.2, Bool.and_self]
end
/-- a plain value is not other than itself -/
theorem ne_self {d : D} {h : AH} (hp : plD d = true) (hd : depD d ≤ 64) : neM d d h = .ok (.bl false) h := by
  have e : eqB h d d = if (plD d && plD d && decide (min (depD d) (depD d) ≤ 64)) = true then some (eqD d d) else none := by
    cases d <;> first | rfl | (simp [plD] at hp)
  unfold neM
  rw [e, hp, Nat.min_self, decide_eq_true hd, eqD_self d hp]
  rfl
theorem ne_lists {i j : Nat} {xs : List D} {h : AH} (e1 : h[i]? = some (.lst xs)) (e2 : h[j]? = some (.lst xs)) (hp : plDs xs = true) (hd : depDs xs < 64) : neM (.ref i) (.ref j) h = .ok (.bl false) h := by
  have e : eqB h (.ref i) (.ref j) = if (plDs xs && plDs xs && decide (min (depDs xs) (depDs xs) < 64)) = true then some (eqDs xs xs) else none := by
    simp only [eqB, e1, e2]
  unfold neM
  rw [e, hp, Nat.min_self, decide_eq_true hd, eqDs_self xs hp]
  rfl
end DD
namespace K15
open PySem L2 DD
mutual
theorem depD_va : ∀ v : Va, depD v.toD ≤ dep v + 1
  | .non => by show 0 ≤ _; omega
  | .bl _ => by show 0 ≤ _; omega
  | .int _ => by show 0 ≤ _; omega
  | .txt _ => by show 0 ≤ _; omega
  | .row vs => by
    show depDs (toDs vs) + 1 ≤ deps vs + 1
    have := depDs_va vs
    omega
theorem depDs_va : ∀ vs : List Va, depDs (toDs vs) ≤ deps vs
  | [] => by show 0 ≤ _; omega
  | v :: vs => by
    show max (depD v.toD) (depDs (toDs vs)) ≤ max (dep v + 1) (deps vs)
    have h1 := depD_va v
    have h2 := depDs_va vs
    omega
end
theorem deps_nice : ∀ {vs : List Va}, (∀ v ∈ vs, Nice v) → deps vs ≤ 31
  | [], _ => by simp [deps]
  | v :: vs, h => by
    have h1 := (h v (by simp)).2.1
    have h2 := deps_nice (vs := vs) fun w hw => h w (by simp [hw])
    simp only [deps]
    omega
section
variable {τ τ' : SL} {h h' : AH} {l k fd lf m : Nat} {kv wv : List Va} {s : Nat} {z : Option Nat} {dn : Bool} {fm : Str → Option Va}
theorem t3_run {c : Nat} (S : Sv τ h l k fd lf m kv wv s z dn fm) (s10 : Sl τ 10 (.int (c : Int))) (h7 : c = 7 → dn = false) : ∃ h', t3 τ h = .nx τ h' ∧ Fr none h h' := by
  have eq7 : eqM (.int (c : Int)) (.int 7) h = .ok (.bl (decide (c = 7))) h := by rw [eq_ii, show (7 : Int) = ((7 : Nat) : Int) from rfl, eq_nat]
  have sz := S.sz
  have hm := S.hm
  unfold t3
  rw [ifSM_e, andM_e, binM_e, varM_at s10, bind_ok, cM_e, bind_ok, eq7, bind_ok]
  by_cases c7 : c = 7
  · rw [decide_eq_true c7]
    obtain ⟨L4, p4, q4, r4⟩ := S.l4
    obtain ⟨h', a1, a2⟩ := bytes_run S.nk (by omega) q4
    refine ⟨h', ?_, a2⟩
    have gk := S.gk
    have gk' := a2.getN gk
    have hd := h7 c7
    subst hd
    unfold DO at gk gk'
    simp only []
    have ev : callM (consM (varM 4) nilM) (callF 1 [] F__law_bytes) τ h = .ok (.tup (B (frs kv))) h' := by simp only [varM_at p4, a1, DD.bind_ok, DD.bind_exc, DD.toS_ok, DD.toS_exc, DD.bindL_ok, DD.bindL_exc, DD.lbind_ok, DD.lbind_exc, DD.bindE_ok, DD.bindE_exc, DD.sbind_nx, DD.sbind_rt, DD.sbind_exc, DD.sbind_bk, DD.sbind_ct, DD.ret_nx, DD.ret_rt, DD.ret_exc, DD.varM_0, DD.varM_1, DD.varM_2, DD.varM_3, DD.varM_4, DD.varM_5, DD.cM_e, DD.binM_e, DD.unM_e, DD.seqM_e, DD.setM_e, DD.exprM_e, DD.retM_e, DD.raiseM_e, DD.passM_e, DD.brkM_e, DD.ifSM_e, DD.ifM_e, DD.andM_e, DD.orM_e, DD.notM_e, DD.nilM_e, DD.consM_e, DD.callM_e, DD.tupM_e, DD.lstM_e, DD.bmM_e, DD.smM_e, DD.asgM_e, DD.subG_e, DD.nameG_e, DD.slM_e, DD.om_none, DD.om_some, DD.fldSetM_e, DD.toldM_e, DD.add_ii, DD.add_tt, DD.sub_ii, DD.mul_ii, DD.lt_ii, DD.le_ii, DD.gt_ii, DD.ge_ii, DD.fdiv_ii, DD.mod_ii, DD.eq_ii, DD.ne_ii, DD.eq_ss, DD.ne_ss, DD.fld_e, DD.len_t, DD.len_s, DD.append_e, DD.extend_t, DD.extend_r, DD.tup_r, DD.it_t, DD.sl_t, DD.callF, List.length_append, List.length_cons, List.length_nil, List.append_nil, Nat.reduceAdd, List.set_cons_zero, List.set_cons_succ, ↓reduceIte, Bool.not_true, Bool.not_false, Nat.zero_le]
    rw [orM_e, binM_e, unM_e, varM_at S.s3, bind_ok, fr1 gk, bind_ok, ev, bind_ok, ne_BB, decide_eq_true rfl, bind_ok]
    simp only [Bool.not_true]
    rw [unM_e, unM_e, varM_at S.s3, bind_ok, fr6 gk', bind_ok, tru_bl, toS_ok]
    simp only []
    rw [passM_e]
  · rw [decide_eq_false c7]
    refine ⟨h, ?_, Fr.refl⟩
    simp only []
    rw [toS_ok]
    simp only []
    rw [passM_e]
theorem t4_run (S : Sv τ h l k fd lf m kv wv s z dn fm) : ∃ h', t4 τ h = .nx τ h' ∧ Fr none h h' := by
  have sz := S.sz
  have hm := S.hm
  obtain ⟨L4, p4, q4, r4⟩ := S.l4
  obtain ⟨L5, p5, q5, r5⟩ := S.l5
  have nkw : ∀ v ∈ kv ++ wv, Nice v := fun v hv => by
    rcases List.mem_append.mp hv with hv | hv
    · exact S.nk v hv
    · exact S.nw v hv
  obtain ⟨r, h1, a1, a2, a3⟩ := records_run S.gk (frs_app kv wv).symm nkw (by rw [List.length_append]; omega)
  have gk := S.gk
  unfold DO at gk
  have er : callM (consM (methF "records" 3 1 [] F_Disk_records (varM 3) nilM) nilM) listF τ h = .ok (.ref h1.length) (h1 ++ [.lst (toDs (kv ++ wv))]) := by
    rw [callM_e, consM_e, meth_d gk rfl (varM_at S.s3), nilM_e, bindE_ok]
    simp only [callF, List.append_nil, List.length_cons, List.length_nil, Nat.zero_add, ↓reduceIte]
    rw [a1, bindL_ok, nilM_e, lbind_ok, bindE_ok]
    simp only [listF, a3]
  have g4 : (h1 ++ [O.lst (toDs (kv ++ wv))])[L4]? = some (.lst (toDs kv)) := get_app (a2.getN q4)
  have g5 : (h1 ++ [O.lst (toDs (kv ++ wv))])[L5]? = some (.lst (toDs wv)) := get_app (a2.getN q5)
  have gN : (h1 ++ [O.lst (toDs (kv ++ wv))])[h1.length]? = some (.lst (toDs (kv ++ wv))) := get_new
  have F1 : Fr none h (h1 ++ [O.lst (toDs (kv ++ wv))]) := a2.trans Fr.app
  generalize h1 ++ [O.lst (toDs (kv ++ wv))] = h2 at *
  have ea := add_rr g4 g5 (by rw [toDs_len, toDs_len]; omega)
  rw [toDs_app] at ea
  have en : neM (.ref h1.length) (.ref h2.length) (h2 ++ [O.lst (toDs (kv ++ wv))]) = .ok (.bl false) (h2 ++ [O.lst (toDs (kv ++ wv))]) := ne_lists (get_app gN) get_new (plDs_va _) (by have := depDs_va (kv ++ wv); have := deps_nice nkw; omega)
  have F2 : Fr none h (h2 ++ [O.lst (toDs (kv ++ wv))]) := F1.trans Fr.app
  have gk2 : (h2 ++ [O.lst (toDs (kv ++ wv))])[k]? = some (.ins 3 (FL (.tup (B (frs kv))) (.tup (B (frs wv))) (.ref fd) (.int s) (fuD z) (.bl dn))) := F2.getN gk
  refine ⟨h2 ++ [O.lst (toDs (kv ++ wv))], ?_, F2⟩
  have et : neM (.tup [.bl dn, .int (s : Int)]) (.tup [.bl dn, .int (s : Int)]) (h2 ++ [O.lst (toDs (kv ++ wv))]) = .ok (.bl false) (h2 ++ [O.lst (toDs (kv ++ wv))]) := ne_self rfl (by simp [depD, depDs])
  have l2 : (([D.bl dn, D.int (s : Int)] : List D).length ≤ sizeLine) := by rw [sizeLine_eq]; simp only [List.length_cons, List.length_nil]; omega
  unfold t4
  rw [ifSM_e, orM_e, binM_e, er, bind_ok, binM_e, varM_at p4, bind_ok, varM_at p5, bind_ok, ea, bind_ok, en, bind_ok]
  simp only []
  rw [binM_e, tupM_e, consM_e, unM_e, varM_at S.s3, bind_ok, fr6 gk2, bindL_ok, consM_e, unM_e, varM_at S.s3, bind_ok, fr4 gk2, bindL_ok, nilM_e, lbind_ok, lbind_ok, bindE_ok, if_pos l2, bind_ok, tupM_e, consM_e, varM_at S.s8, bindL_ok, consM_e, varM_at S.s9, bindL_ok, nilM_e, lbind_ok, lbind_ok, bindE_ok, if_pos l2, bind_ok, et, toS_ok]
  simp only []
  rw [passM_e]
theorem file_loop {La : Nat} {ys : List Str} (S : Sv τ h l k fd lf m kv wv s z dn fm) (g : h[La]? = some (.lst (ys.map D.str))) : ∀ (rest : List Str) (hh : AH) (L : Nat), Fr none h hh →
    ∃ h', lcLoop (isLst La (ys.map D.str)) (nameG 12) (some (binM (methF "read_file" 3 2 [] F_Disk_read_file (varM 3) (consM (varM 12) nilM)) (dg1M (varM 6) (varM 12)) neM)) (varM 12) [12] τ L (rest.map D.str) hh = .ok (.ref L) h' ∧ Fr none hh h'
  | [], hh, L, f => ⟨hh, lcL_nilC (isLst_mk (f.getN g)), Fr.refl⟩
  | x :: rest, hh, L, f => by
    have w12 : Sl ((wipeD τ [12]).set 12 (some (.str x))) 12 (.str x) := Sl.new (by
      show 12 < (τ.set 12 none).length
      rw [List.length_set, S.len]; decide)
    have w3 : Sl ((wipeD τ [12]).set 12 (some (.str x))) 3 (.ref k) := (show Sl (τ.set 12 none) 3 (.ref k) from S.s3.set (by decide)).set (by decide)
    have w6 : Sl ((wipeD τ [12]).set 12 (some (.str x))) 6 (.ref lf) := (show Sl (τ.set 12 none) 6 (.ref lf) from S.s6.set (by decide)).set (by decide)
    have gk := f.getN S.gk
    obtain ⟨df, d1, d2, d3⟩ := S.td
    obtain ⟨le, e1, e2, e3⟩ := S.tl
    have d1' := f.getN d1
    have gk0 := gk
    unfold DO at gk0
    have rd : ∃ h2 d, F_Disk_read_file [.ref k, .str x] hh = .ok d h2 ∧ Fr none hh h2 ∧ d = ((fm x).map Va.toD).getD .non ∧ plD d = true ∧ depD d ≤ 64 := by
      have q := d3 x
      cases ef : fm x with
      | none =>
        rw [ef] at q
        exact ⟨hh, .non, read_none gk d1' q, Fr.refl, rfl, rfl, by decide⟩
      | some v =>
        rw [ef] at q
        have nv := S.nf x v ef
        obtain ⟨h2, a1, a2⟩ := read_some gk d1' q nv
        exact ⟨h2, v.toD, a1, a2, rfl, plD_va v, by have := depD_va v; have := nv.2.1; omega⟩
    obtain ⟨h2, d, a1, a2, a3, a4, a5⟩ := rd
    have e1' := (f.trans a2).getN e1
    have ec : binM (methF "read_file" 3 2 [] F_Disk_read_file (varM 3) (consM (varM 12) nilM)) (dg1M (varM 6) (varM 12)) neM ((wipeD τ [12]).set 12 (some (.str x))) hh = .ok (.bl false) h2 := by
      rw [binM_e, meth_d gk0 rfl (varM_at w3), consM_e, varM_at w12, bindL_ok, nilM_e, lbind_ok, bindE_ok]
      simp only [callF, List.append_nil, List.length_cons, List.length_nil, Nat.zero_add, Nat.reduceAdd, ↓reduceIte]
      rw [a1, bind_ok]
      have eg : dg1M (varM 6) (varM 12) ((wipeD τ [12]).set 12 (some (.str x))) h2 = .ok ((valK le (.inr x)).getD .non) h2 := by
        unfold dg1M
        simp only [varM_at w6, varM_at w12, bind_ok, e1', keyD]
      rw [eg, bind_ok, e3 x, ← a3]
      exact ne_self a4 a5
    obtain ⟨h', c1, c2⟩ := file_loop S g rest h2 L (f.trans a2)
    refine ⟨h', ?_, a2.trans c2⟩
    rw [List.map_cons, lcL_skip (isLst_mk (f.getN g)) ec]
    exact c1
theorem t5_run (S : Sv τ h l k fd lf m kv wv s z dn fm) : ∃ h', t5 τ h = .nx τ h' ∧ Fr none h h' := by
  have e1 : lstM (consM (cM (.str "a")) (consM (cM (.str "b")) nilM)) τ h = .ok (.ref h.length) (h ++ [.lst ((["a", "b"] : List Str).map D.str)]) := by
    rw [lstM_e, consM_e, cM_e, bindL_ok, consM_e, cM_e, bindL_ok, nilM_e, lbind_ok, lbind_ok, bindE_ok, if_pos (by rw [sizeLine_eq]; simp only [List.length_cons, List.length_nil]; omega)]
    rfl
  have S1 := S.frame (h' := h ++ [.lst ((["a", "b"] : List Str).map D.str)]) Fr.app
  have g1 : (h ++ [O.lst ((["a", "b"] : List Str).map D.str)])[h.length]? = some (.lst ((["a", "b"] : List Str).map D.str)) := get_new
  generalize hh : h ++ [O.lst ((["a", "b"] : List Str).map D.str)] = h1 at *
  have F0 : Fr none h h1 := by rw [← hh]; exact Fr.app
  obtain ⟨h2, a1, a2⟩ := file_loop S1 g1 ["a", "b"] (h1 ++ [.lst []]) h1.length Fr.app
  have el : lcQ (lstM (consM (cM (.str "a")) (consM (cM (.str "b")) nilM))) lstIt (nameG 12) (some (binM (methF "read_file" 3 2 [] F_Disk_read_file (varM 3) (consM (varM 12) nilM)) (dg1M (varM 6) (varM 12)) neM)) (varM 12) [12] τ h = .ok (.ref h1.length) h2 := by
    rw [lcQ_e, lcM_of e1 (lstIt_e g1), a1, noexc_ok]
  have gN : (h2 ++ [O.lst []])[h1.length]? = some (.lst []) := get_app (a2.getN get_new)
  have nn : neM (.ref h1.length) (.ref h2.length) (h2 ++ [O.lst []]) = .ok (.bl false) (h2 ++ [O.lst []]) := ne_nilnil gN get_new
  have ll : lstM nilM τ h2 = .ok (.ref h2.length) (h2 ++ [.lst []]) := by rw [lstM_e, nilM_e, bindE_ok, if_pos (by simp)]
  refine ⟨h2 ++ [.lst []], ?_, ((F0.trans Fr.app).trans a2).trans Fr.app⟩
  unfold t5
  rw [ifSM_e, binM_e, el, bind_ok, ll, bind_ok, nn, toS_ok]
  simp only []
  rw [passM_e]
/-- one turn of the law -/
theorem step_total (S : Sv τ h l k fd lf m kv wv s z dn fm) (hm : m + 1 ≤ 50) : ∃ τ' h' kv' wv' s' z' dn' fm', law_f0b τ h = .nx τ' h' ∧ Sv τ' h' l k fd lf (m + 1) kv' wv' s' z' dn' fm' ∧ Fs [l, k, fd, lf] h h' := by
  rw [law_f0b_eq]
  obtain ⟨c, n, q, h1, e1, hc, hn, hq, d1⟩ := t1_run S
  have S1 := ((S.heap d1).set (i := 10) (o := some (.int (c : Int))) (by decide)).set (i := 11) (o := some (vl n q).toD) (by decide)
  have s10 : Sl ((τ.set 10 (some (.int (c : Int)))).set 11 (some (vl n q).toD)) 10 (.int (c : Int)) := (Sl.new (by rw [S.len]; decide)).set (by decide)
  have s11 : Sl ((τ.set 10 (some (.int (c : Int)))).set 11 (some (vl n q).toD)) 11 (vl n q).toD := Sl.new (by rw [List.length_set, S.len]; decide)
  generalize (τ.set 10 (some (.int (c : Int)))).set 11 (some (vl n q).toD) = τ1 at *
  obtain ⟨τ2, h2, kv', wv', s', z', dn', fm', e2, S2, F2, s10', h7⟩ := t2_run S1 hm hc (vl_nice n q hn hq) s10 s11
  obtain ⟨h3, e3, F3⟩ := t3_run S2 s10' (fun e => (h7 e).1)
  obtain ⟨h4, e4, F4⟩ := t4_run (S2.frame F3)
  obtain ⟨h5, e5, F5⟩ := t5_run ((S2.frame F3).frame F4)
  refine ⟨τ2, h5, kv', wv', s', z', dn', fm', ?_, ((S2.frame F3).frame F4).frame F5, ((((Fs.of1 d1.1 (by simp)).trans F2).trans (Fs.of F3)).trans (Fs.of F4)).trans (Fs.of F5)⟩
  rw [seqM_e, e1, sbind_nx, seqM_e, e2, sbind_nx, seqM_e, e3, sbind_nx, seqM_e, e4, sbind_nx, e5]
theorem steps_loop : ∀ (ds : List D) (τ : SL) (h : AH) (m : Nat) (kv wv : List Va) (s : Nat) (z : Option Nat) (dn : Bool) (fm : Str → Option Va), m + ds.length ≤ 50 → Sv τ h l k fd lf m kv wv s z dn fm →
    ∃ τ' h', loopM (fun _ => true) (nameG 2) law_f0b ds τ h = .nx τ' h' ∧ τ'.length = 18 ∧ Fs [l, k, fd, lf] h h'
  | [], τ, h, m, kv, wv, s, z, dn, fm, hm, S => ⟨τ, h, loop_nil, S.len, Fs.refl⟩
  | d :: ds, τ, h, m, kv, wv, s, z, dn, fm, hm, S => by
    rw [List.length_cons] at hm
    obtain ⟨τ1, h1, kv', wv', s', z', dn', fm', e1, S1, F1⟩ := step_total (S.set (i := 2) (o := some d) (by decide)) (by omega)
    obtain ⟨τ2, h2, e2, l2, F2⟩ := steps_loop ds τ1 h1 (m + 1) kv' wv' s' z' dn' fm' (by omega) S1
    refine ⟨τ2, h2, ?_, l2, F1.trans F2⟩
    rw [loop_cons, nameG_e, sbind_nx, e1, next_nx, e2]
end
end K15
end

section
set_option Elab.async false
set_option linter.all false
set_option maxRecDepth 100000
set_option maxHeartbeats 2000000
namespace DD
open PySem L2
theorem unp7 {a b c d e f g : D} {i1 i2 i3 i4 i5 i6 i7 : Nat} {τ : SL} {h : AH} : unpackG ([i1, i2, i3, i4, i5, i6, i7].map nameG) [a, b, c, d, e, f, g] τ h = .nx (((((((τ.set i1 (some a)).set i2 (some b)).set i3 (some c)).set i4 (some d)).set i5 (some e)).set i6 (some f)).set i7 (some g)) h := Eq.trans rfl rfl
theorem Fs.new {us vs : List Nat} {h0 h1 h2 : AH} (a : Fs us h0 h1) (b : Fs vs h1 h2) (hs : ∀ x ∈ vs, x ∈ us ∨ h0.length ≤ x) : Fs us h0 h2 :=
  ⟨Nat.le_trans a.1 b.1, fun i hi hu => (b.2 i (Nat.lt_of_lt_of_le hi a.1) (fun z => by rcases hs i z with q | q; exact hu q; omega)).trans (a.2 i hi hu)⟩
end DD
namespace K15
open PySem L2 DD
section
variable {τ : SL} {h : AH} {l : Nat}
theorem turn_run (hl : τ.length = 18) (s1 : Sl τ 1 (.ref l)) (di : Di h l) : ∃ τ' h', law_f1b τ h = .nx τ' h' ∧ τ'.length = 18 ∧ Fs [l] h h' := by
  obtain ⟨h1, i1, i2, i3, i4⟩ := init_run h
  have em : callM nilM (makeF 3 1 [] F_Disk_init) τ h = .ok (.ref h.length) h1 := by
    rw [callM_e, nilM_e, bindE_ok]
    unfold makeF
    simp only [callF, List.append_nil, List.length_cons, List.length_nil, Nat.zero_add, ↓reduceIte]
    rw [i1, bind_ok]
  have l1 : ∀ hh : AH, lstM nilM τ hh = .ok (.ref hh.length) (hh ++ [.lst []]) := fun hh => by rw [lstM_e, nilM_e, bindE_ok, if_pos (by simp)]
  have d1 : ∀ hh : AH, dnewM τ hh = .ok (.ref hh.length) (hh ++ [.dct []]) := fun hh => rfl
  have et : tupM (consM (callM nilM (makeF 3 1 [] F_Disk_init)) (consM (lstM nilM) (consM (lstM nilM) (consM dnewM (consM (cM .non) (consM (cM (.bl false)) (consM (cM (.int 0)) nilM))))))) τ h = .ok (.tup [.ref h.length, .ref h1.length, .ref (h1 ++ [O.lst []]).length, .ref ((h1 ++ [O.lst []]) ++ [O.lst []]).length, .non, .bl false, .int 0]) (((h1 ++ [O.lst []]) ++ [O.lst []]) ++ [.dct []]) := by
    rw [tupM_e, consM_e, em, bindL_ok, consM_e, l1, bindL_ok, consM_e, l1, bindL_ok, consM_e, d1, bindL_ok, consM_e, cM_e, bindL_ok, consM_e, cM_e, bindL_ok, consM_e, cM_e, bindL_ok, nilM_e, lbind_ok, lbind_ok, lbind_ok, lbind_ok, lbind_ok, lbind_ok, lbind_ok, bindE_ok, if_pos (by rw [sizeLine_eq]; simp only [List.length_cons, List.length_nil]; omega)]
  have g4 : (((h1 ++ [O.lst []]) ++ [O.lst []]) ++ [O.dct []])[h1.length]? = some (.lst (toDs [])) := get_app (get_app get_new)
  have g5 : (((h1 ++ [O.lst []]) ++ [O.lst []]) ++ [O.dct []])[(h1 ++ [O.lst []]).length]? = some (.lst (toDs [])) := get_app get_new
  have g6 : (((h1 ++ [O.lst []]) ++ [O.lst []]) ++ [O.dct []])[((h1 ++ [O.lst []]) ++ [O.lst []]).length]? = some (.dct []) := get_new
  have gk : (((h1 ++ [O.lst []]) ++ [O.lst []]) ++ [O.dct []])[h.length]? = some (DO (frs []) (frs []) (h.length + 1) 0 none false) := get_app (get_app (get_app i3))
  have gf : (((h1 ++ [O.lst []]) ++ [O.lst []]) ++ [O.dct []])[h.length + 1]? = some (.dct []) := get_app (get_app (get_app i4))
  have F0 : Fr none h (((h1 ++ [O.lst []]) ++ [O.lst []]) ++ [O.dct []]) := ((i2.trans Fr.app).trans Fr.app).trans Fr.app
  have e4 : (h1 ++ [O.lst []]).length = h1.length + 1 := by simp
  have e5 : ((h1 ++ [O.lst []]) ++ [O.lst []]).length = h1.length + 2 := by simp
  have ll : h.length + 1 < h1.length := lt_of_get i4
  obtain ⟨da, db, dc, de⟩ := di
  have hll := lt_of_get de
  have Di2 : Di (((h1 ++ [O.lst []]) ++ [O.lst []]) ++ [O.dct []]) l := ⟨da, db, dc, F0.getN de⟩
  generalize ((h1 ++ [O.lst []]) ++ [O.lst []]) ++ [O.dct []] = h2 at *
  rw [e4] at g5 et
  rw [e5] at g6 et
  have hset : ∃ τ', law_f1b τ h = DD.forM (callM (consM (varM 1) (consM (cM (.int 41)) nilM)) (callF 2 [] (R__law_roll 5))) rngIt1 (nameG 2) (law_f0b) τ' h2 ∧ Sv τ' h2 l h.length (h.length + 1) (h1.length + 2) 0 [] [] 0 none false (fun _ => none) := by
    refine ⟨_, by unfold law_f1b; rw [seqM_e, asgM_e, et, toS_ok, tupG_e, unp7, sbind_nx], ?_⟩
    refine ⟨by simp only [List.length_set]; exact hl, ?_, ?_, ?_, ?_, ?_, ?_, ⟨h1.length, ?_, g4, ?_⟩, ⟨h1.length + 1, ?_, g5, ?_⟩, Di2, gk, ⟨[], gf, by simp, fun x => rfl⟩, ⟨[], g6, by simp, fun x => rfl⟩, by simp, by simp, fun x v e => (by cases e), by simp, by omega, ?_⟩
    · exact (((((((s1.set (by decide)).set (by decide)).set (by decide)).set (by decide)).set (by decide)).set (by decide)).set (by decide))
    · exact ((((((Sl.new (by omega)).set (by decide)).set (by decide)).set (by decide)).set (by decide)).set (by decide)).set (by decide)
    · exact (((Sl.new (by simp only [List.length_set]; omega)).set (by decide)).set (by decide)).set (by decide)
    · exact ((Sl.new (d := .non) (by simp only [List.length_set]; omega)).set (by decide)).set (by decide)
    · exact (Sl.new (by simp only [List.length_set]; omega)).set (by decide)
    · exact Sl.new (d := .int 0) (by simp only [List.length_set]; omega)
    · exact (((((Sl.new (by simp only [List.length_set]; omega)).set (by decide)).set (by decide)).set (by decide)).set (by decide)).set (by decide)
    · simp only [List.mem_cons, List.not_mem_nil, or_false, not_or]
      omega
    · exact ((((Sl.new (by simp only [List.length_set]; omega)).set (by decide)).set (by decide)).set (by decide)).set (by decide)
    · simp only [List.mem_cons, List.not_mem_nil, or_false, not_or]
      omega
    · simp only [List.mem_cons, List.not_mem_nil, or_false, not_or]
      omega
  obtain ⟨τ', e1, S⟩ := hset
  obtain ⟨r, h3, a1, a2, a3⟩ := roll5 41 h2 l S.di (by decide) (rb _ (by decide)) (by decide)
  have a1' : R__law_roll 5 [.ref l, .int 41] h2 = .ok (.int (r : Int)) h3 := a1
  obtain ⟨τ2, h4, b1, b2, b3⟩ := steps_loop (rngL 0 r) τ' h3 0 [] [] 0 none false (fun _ => none) (by rw [rngL_length]; omega) (S.heap a3)
  refine ⟨τ2, h4, ?_, b2, ?_⟩
  · have ec : callM (consM (varM 1) (consM (cM (.int 41)) nilM)) (callF 2 [] (R__law_roll 5)) τ' h2 = .ok (.int (r : Int)) h3 := by simp only [varM_at S.s1, a1', DD.bind_ok, DD.bind_exc, DD.toS_ok, DD.toS_exc, DD.bindL_ok, DD.bindL_exc, DD.lbind_ok, DD.lbind_exc, DD.bindE_ok, DD.bindE_exc, DD.sbind_nx, DD.sbind_rt, DD.sbind_exc, DD.sbind_bk, DD.sbind_ct, DD.ret_nx, DD.ret_rt, DD.ret_exc, DD.varM_0, DD.varM_1, DD.varM_2, DD.varM_3, DD.varM_4, DD.varM_5, DD.cM_e, DD.binM_e, DD.unM_e, DD.seqM_e, DD.setM_e, DD.exprM_e, DD.retM_e, DD.raiseM_e, DD.passM_e, DD.brkM_e, DD.ifSM_e, DD.ifM_e, DD.andM_e, DD.orM_e, DD.notM_e, DD.nilM_e, DD.consM_e, DD.callM_e, DD.tupM_e, DD.lstM_e, DD.bmM_e, DD.smM_e, DD.asgM_e, DD.subG_e, DD.nameG_e, DD.slM_e, DD.om_none, DD.om_some, DD.fldSetM_e, DD.toldM_e, DD.add_ii, DD.add_tt, DD.sub_ii, DD.mul_ii, DD.lt_ii, DD.le_ii, DD.gt_ii, DD.ge_ii, DD.fdiv_ii, DD.mod_ii, DD.eq_ii, DD.ne_ii, DD.eq_ss, DD.ne_ss, DD.fld_e, DD.len_t, DD.len_s, DD.append_e, DD.extend_t, DD.extend_r, DD.tup_r, DD.it_t, DD.sl_t, DD.callF, List.length_append, List.length_cons, List.length_nil, List.append_nil, Nat.reduceAdd, List.set_cons_zero, List.set_cons_succ, ↓reduceIte, Bool.not_true, Bool.not_false, Nat.zero_le]
    rw [e1, forM_e, ec, toS_ok, rng1_e (j := r) (h := h3) (by omega)]
    exact b1
  · have F3 : Fs [l] h h3 := (Fs.of F0).trans (Fs.of1 a3.1 (by simp))
    refine F3.new b3 fun x hx => ?_
    simp only [List.mem_cons, List.not_mem_nil, or_false] at hx ⊢
    omega
theorem math (ns : List Int) (hl : ns.length ≤ 63) (hb : ∀ z ∈ ns, Builtin.Int.intBits z ≤ 1048576) (d : D) (h : AH) (s : Scr ns d h) : ∃ h', F_law [d] h = .ok (.bl true) h' := by
  obtain ⟨L, D1, h1, a, b, c, r1, r2, r3, r4⟩ := rounds_run s
  unfold F_law m_law
  have hlen : (startD N_law.length [d]).length = 18 := rfl
  have s0 : Sl (startD N_law.length [d]) 0 d := rfl
  generalize startD N_law.length [d] = τ0 at *
  have L1 : (τ0.set 1 (some (.ref D1))).length = 18 := len_set hlen
  have t1 : Sl (τ0.set 1 (some (.ref D1))) 1 (.ref D1) := Sl.new (by omega)
  obtain ⟨τ1, h2, b1, b2, b3⟩ := turn_run (h := h1) L1 t1 ⟨a, b, c, r3⟩
  have g2 : h2[L]? = some (.lst [.ref D1]) := b3.get r2 (by simpa using fun z => r4 z.symm)
  refine ⟨h2, ?_⟩
  have er : callM (consM (varM 0) (consM (cM (.int 1)) nilM)) (callF 2 [] F__law_rounds) τ0 h = .ok (.ref L) h1 := by simp only [varM_at s0, r1, DD.bind_ok, DD.bind_exc, DD.toS_ok, DD.toS_exc, DD.bindL_ok, DD.bindL_exc, DD.lbind_ok, DD.lbind_exc, DD.bindE_ok, DD.bindE_exc, DD.sbind_nx, DD.sbind_rt, DD.sbind_exc, DD.sbind_bk, DD.sbind_ct, DD.ret_nx, DD.ret_rt, DD.ret_exc, DD.varM_0, DD.varM_1, DD.varM_2, DD.varM_3, DD.varM_4, DD.varM_5, DD.cM_e, DD.binM_e, DD.unM_e, DD.seqM_e, DD.setM_e, DD.exprM_e, DD.retM_e, DD.raiseM_e, DD.passM_e, DD.brkM_e, DD.ifSM_e, DD.ifM_e, DD.andM_e, DD.orM_e, DD.notM_e, DD.nilM_e, DD.consM_e, DD.callM_e, DD.tupM_e, DD.lstM_e, DD.bmM_e, DD.smM_e, DD.asgM_e, DD.subG_e, DD.nameG_e, DD.slM_e, DD.om_none, DD.om_some, DD.fldSetM_e, DD.toldM_e, DD.add_ii, DD.add_tt, DD.sub_ii, DD.mul_ii, DD.lt_ii, DD.le_ii, DD.gt_ii, DD.ge_ii, DD.fdiv_ii, DD.mod_ii, DD.eq_ii, DD.ne_ii, DD.eq_ss, DD.ne_ss, DD.fld_e, DD.len_t, DD.len_s, DD.append_e, DD.extend_t, DD.extend_r, DD.tup_r, DD.it_t, DD.sl_t, DD.callF, List.length_append, List.length_cons, List.length_nil, List.append_nil, Nat.reduceAdd, List.set_cons_zero, List.set_cons_succ, ↓reduceIte, Bool.not_true, Bool.not_false, Nat.zero_le]
  rw [seqM_e, forM_e, er, toS_ok, lstIt_e r2]
  simp only []
  rw [loopL_cons (isLst_mk r2), nameG_e, sbind_nx, b1, next_nx, loopL_nil (isLst_mk g2), sbind_nx, retM_e, cM_e, toS_ok, ret_rt]
end
end K15
end

section
set_option Elab.async false
set_option linter.all false
set_option maxRecDepth 100000
set_option maxHeartbeats 0
namespace K15
open PySem L2 DD
end K15
open PySem PySem.W PyProof.Rows
theorem PySem.Challenge.cw_shardstack_k15_disks_that_go_down_holds : PySem.Challenge.rw_shardstack_k15_disks_that_go_down.Holds := by
  w_on; o_law; k_head; (case hw => w_witness2)
  k_fill
  refine LamX.walk_ofTsE (l := PySem.Challenge.rw_shardstack_k15_disks_that_go_down) (n := 63) (k := 48) (x := "script") (CX := fun w => L2.CX PySem.Challenge.pw_shardstack_k15_disks_that_go_down w) rfl (by decide) rfl ⟨rfl, by decide, by decide⟩ ?F ?C
  case C =>
    intro w H s e s' z
    obtain ⟨_, _, _, _, _, _, _, _, _, _, _, _, z⟩ := z
    exact z
  case F =>
    intro w mg fa h Y G hmg
    refine ⟨_, PySem.W.km_in_of Y, ?_⟩
    refine K15.lawAt (l := PySem.Challenge.rw_shardstack_k15_disks_that_go_down) (PySem.W.km_in_of Y) (PySem.W.km_tabs_of Y) G hmg ?c ?lb ?nd K15.math
    case c => show He.obsD K15.fa K15.fn _ = He.valD K15.fn; kernel_rfl
    case lb => kernel_rfl
    case nd => unfold K15.lams; simp
end
