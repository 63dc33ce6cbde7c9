import PyProof.Rows.All
import Wide.All
import OpenK.AllK
import Wide.FinOn
import HandS.ForMost
import HandS.ForExc
import HandS.Iter
import HandS.ExcOwn
import HandS.TryOnly
import HandS.TryMany
import HandS.TupAny
import HandS.Zip
import HandS.Wide
import HandS.IsInst
import HandS.Style
import HandS.TupLe
import HandS.Lambda
import HandS.Conv
import HandS.Flow
import HandS.DictComp
import HandS.Small
import KE.DataEq
import HandS.CallSlots
import HandS.RaiseMore
import HandS.TupMul
import HandS.WideBits
import HandS.Defaults
import HandS.HeadHook2
import HandS.EndTab
import HandS.HeadWalk
import KE.KNestM
import HandS.Dict
import PyProof.StrOps2
import HandS.Deep
import HandS.More
import HandS.SortInts
import PyProof.Rows.SortStr
import PyProof.Rows.StrMeet
import HandS.SetKeys
import HandS.SetBool
import HandS.Set
import PySem.Challenge.RW_shardstack_k08_who_hears_of_whom
section
set_option Elab.async false
set_option linter.all false
set_option maxRecDepth 100000
/-! Deep values over the hand layer: a mirror of expressions and statements by plain functions. -/
namespace DD
open PySem L2

/-- a value to its depth; ref: the l-th of the objects that may change; con: a named constant (a class, a def); fls: a list that nobody writes -/
inductive D where
  | non | bl (b : Bool) | int (i : Int) | str (x : Str) | tup (xs : List D) | ref (l : Nat) | con (c : Nat) | fls (xs : List D)
/-- an object that may change -/
inductive O where
  | lst (xs : List D) | dct (kvs : List (Key × D)) | ins (c : Nat) (fs : List (Str × D)) | lam (i : Nat)
abbrev AH := List O
abbrev SL := List (Option D)
/-- the written part, the constants by number, the tables of code objects -/
structure LamI where
  q : Str
  params : Arguments
  body : Expr
  scope : Scope
structure G where
  K : PySem.W.Frag
  cl : Nat → Addr
  T : List (Addr × Str)
  L : Nat → Option LamI := fun _ => none
/-- a lambda that captures nothing -/
def LamO (f : Addr) (q : Str) (params : Arguments) (body : Expr) (scope : Scope) (pm : Value) (c : Addr) (ct : Value) : HO := .ext fun h => h.get? f = some (PySem.W.kla_obj "<lambda>" q params body scope [] pm c ct)

/-- a list that nobody writes -/
def FzL (K : PySem.W.Frag) (H : Hp) (a : Addr) (xs : List V) : Prop := (∃ o, H a = some (.frz o (.lst xs))) ∨
    ∃ (o : Obj) (its : Array Value) (n : Nat), K.lookup a = some o ∧ o.cls = .type "list" ∧ o.dict = none ∧ o.data = .seq its n ∧ its.size ≤ sizeLine ∧ Vals xs its.toList
mutual
inductive Den (g : G) (α : List Addr) (H : Hp) : D → V → Prop
  | non : Den g α H .non .non
  | bl (b : Bool) : Den g α H (.bl b) (.bl b)
  | int (i : Int) : Den g α H (.int i) (.int i)
  | str (x : Str) : Den g α H (.str x) (.str x)
  | tup {a : Addr} {ds : List D} {vs : List V} : SqT g.K H a vs → DenL g α H ds vs → Den g α H (.tup ds) (.ref a)
  | ref {l : Nat} {a : Addr} : α[l]? = some a → Den g α H (.ref l) (.ref a)
  | con {c : Nat} : Den g α H (.con c) (.ref (g.cl c))
  | fls {a : Addr} {ds : List D} {vs : List V} : FzL g.K H a vs → DenL g α H ds vs → Den g α H (.fls ds) (.ref a)
inductive DenL (g : G) (α : List Addr) (H : Hp) : List D → List V → Prop
  | nil : DenL g α H [] []
  | cons {d : D} {ds : List D} {v : V} {vs : List V} : Den g α H d v → DenL g α H ds vs → DenL g α H (d :: ds) (v :: vs)
end

/-- what stays of (α, H) in (α', H') -/
structure Ext (α : List Addr) (H : Hp) (α' : List Addr) (H' : Hp) : Prop where
  pre : ∀ (l : Nat) (a : Addr), α[l]? = some a → α'[l]? = some a
  tup : ∀ b xs, Rd H b (.tup xs) → Rd H' b (.tup xs)
  frl : ∀ b o xs, H b = some (.frz o (.lst xs)) → H' b = some (.frz o (.lst xs))
  ext : ∀ c p, H c = some (.ext p) → H' c = some (.ext p)
/-- what values and objects lean on -/
structure ExtW (α : List Addr) (H : Hp) (α' : List Addr) (H' : Hp) : Prop where
  pre : ∀ (l : Nat) (a : Addr), α[l]? = some a → α'[l]? = some a
  tup : ∀ b xs, Rd H b (.tup xs) → Rd H' b (.tup xs)
  frl : ∀ b o xs, H b = some (.frz o (.lst xs)) → H' b = some (.frz o (.lst xs))
  cod : ∀ c q, H c = some (LamX.CodeO c q) → H' c = some (LamX.CodeO c q)

section
variable {g : G} {α α' α'' : List Addr} {H H' H'' : Hp} {d : D} {v : V} {ds es : List D} {vs ws : List V}
theorem Ext.refl : Ext α H α H := ⟨fun _ _ h => h, fun _ _ h => h, fun _ _ _ h => h, fun _ _ h => h⟩
theorem Ext.trans (a : Ext α H α' H') (b : Ext α' H' α'' H'') : Ext α H α'' H'' :=
  ⟨fun l x h => b.pre l x (a.pre l x h), fun c xs h => b.tup c xs (a.tup c xs h), fun c o xs h => b.frl c o xs (a.frl c o xs h), fun c q h => b.ext c q (a.ext c q h)⟩
theorem Ext.w (e : Ext α H α' H') : ExtW α H α' H' := ⟨e.pre, e.tup, e.frl, fun c q h => e.ext c _ h⟩
theorem ExtW.sqT {K : PySem.W.Frag} {a : Addr} {xs : List V} (e : ExtW α H α' H') (h : SqT K H a xs) : SqT K H' a xs := by
  rcases h with h | h
  · exact .inl (e.tup _ _ h)
  · exact .inr h
theorem ExtW.fzL {K : PySem.W.Frag} {a : Addr} {xs : List V} (e : ExtW α H α' H') (h : FzL K H a xs) : FzL K H' a xs := by
  rcases h with ⟨o, h⟩ | h
  · exact .inl ⟨o, e.frl _ _ _ h⟩
  · exact .inr h
theorem FzL.seq {K : PySem.W.Frag} {a : Addr} {xs : List V} (h : FzL K H a xs) : SqL K H a xs := by
  rcases h with ⟨o, h⟩ | h
  · exact .inl (.inr ⟨o, h⟩)
  · exact .inr h
mutual
theorem Den.extW (e : ExtW α H α' H') : ∀ (d : D) (v : V), Den g α H d v → Den g α' H' d v
  | .non, _, h => by cases h; exact .non
  | .bl _, _, h => by cases h; exact .bl _
  | .int _, _, h => by cases h; exact .int _
  | .str _, _, h => by cases h; exact .str _
  | .tup ds, _, h => by
    cases h with
    | tup hs hl => exact .tup (e.sqT hs) (DenL.extW e ds _ hl)
  | .ref _, _, h => by
    cases h with
    | ref hl => exact .ref (e.pre _ _ hl)
  | .con _, _, h => by cases h; exact .con
  | .fls ds, _, h => by
    cases h with
    | fls hs hl => exact .fls (e.fzL hs) (DenL.extW e ds _ hl)
theorem DenL.extW (e : ExtW α H α' H') : ∀ (ds : List D) (vs : List V), DenL g α H ds vs → DenL g α' H' ds vs
  | [], _, h => by cases h; exact .nil
  | d :: ds, _, h => by
    cases h with
    | cons h1 h2 => exact .cons (Den.extW e d _ h1) (DenL.extW e ds _ h2)
end
theorem Ext.sqT {K : PySem.W.Frag} {a : Addr} {xs : List V} (e : Ext α H α' H') (h : SqT K H a xs) : SqT K H' a xs := e.w.sqT h
theorem Ext.fzL {K : PySem.W.Frag} {a : Addr} {xs : List V} (e : Ext α H α' H') (h : FzL K H a xs) : FzL K H' a xs := e.w.fzL h
theorem Den.ext (e : Ext α H α' H') (d : D) (v : V) (h : Den g α H d v) : Den g α' H' d v := Den.extW e.w d v h
theorem DenL.ext (e : Ext α H α' H') (ds : List D) (vs : List V) (h : DenL g α H ds vs) : DenL g α' H' ds vs := DenL.extW e.w ds vs h
theorem DenL.length : ∀ {ds : List D} {vs : List V}, DenL g α H ds vs → ds.length = vs.length
  | [], _, h => by cases h; rfl
  | d :: ds, _, h => by
    cases h with
    | cons h1 h2 => simp [DenL.length h2]
theorem DenL.append : ∀ {ds es : List D} {vs ws : List V}, DenL g α H ds vs → DenL g α H es ws → DenL g α H (ds ++ es) (vs ++ ws)
  | [], _, _, _, h, k => by cases h; exact k
  | d :: ds, _, _, _, h, k => by
    cases h with
    | cons h1 h2 => exact .cons h1 (DenL.append h2 k)
theorem DenL.take : ∀ (n : Nat) {ds : List D} {vs : List V}, DenL g α H ds vs → DenL g α H (ds.take n) (vs.take n)
  | 0, _, _, _ => by simp only [List.take_zero]; exact .nil
  | n + 1, [], _, h => by cases h; exact .nil
  | n + 1, d :: ds, _, h => by
    cases h with
    | cons h1 h2 => exact .cons h1 (DenL.take n h2)
theorem DenL.drop : ∀ (n : Nat) {ds : List D} {vs : List V}, DenL g α H ds vs → DenL g α H (ds.drop n) (vs.drop n)
  | 0, _, _, h => h
  | n + 1, [], _, h => by cases h; exact .nil
  | n + 1, d :: ds, _, h => by
    cases h with
    | cons h1 h2 => exact DenL.drop n h2
theorem DenL.get : ∀ {ds : List D} {vs : List V} {i : Nat} {d : D}, DenL g α H ds vs → ds[i]? = some d → ∃ v, vs[i]? = some v ∧ Den g α H d v
  | [], _, _, _, h, e => by simp at e
  | d :: ds, _, 0, _, h, e => by
    cases h with
    | cons h1 h2 => simp at e; subst e; exact ⟨_, rfl, h1⟩
  | d :: ds, _, i + 1, _, h, e => by
    cases h with
    | cons h1 h2 =>
      obtain ⟨v, q, r⟩ := DenL.get (i := i) h2 (by simpa using e)
      exact ⟨v, by simpa using q, r⟩
theorem DenL.set : ∀ {ds : List D} {vs : List V} (i : Nat) {d : D} {v : V}, DenL g α H ds vs → Den g α H d v → DenL g α H (ds.set i d) (vs.set i v)
  | [], _, _, _, _, h, k => by cases h; exact .nil
  | d :: ds, _, 0, _, _, h, k => by
    cases h with
    | cons h1 h2 => exact .cons k h2
  | d :: ds, _, i + 1, _, _, h, k => by
    cases h with
    | cons h1 h2 => exact .cons h1 (DenL.set i h2 k)
theorem DenL.eraseIdx : ∀ {ds : List D} {vs : List V} (i : Nat), DenL g α H ds vs → DenL g α H (ds.eraseIdx i) (vs.eraseIdx i)
  | [], _, _, h => by cases h; exact .nil
  | d :: ds, _, 0, h => by
    cases h with
    | cons h1 h2 => exact h2
  | d :: ds, _, i + 1, h => by
    cases h with
    | cons h1 h2 => exact .cons h1 (DenL.eraseIdx i h2)
theorem DenL.snoc (h : DenL g α H ds vs) (k : Den g α H d v) : DenL g α H (ds ++ [d]) (vs ++ [v]) := h.append (.cons k .nil)
end

/-- what the mirrors write -/
def MutS : HO → Prop
  | .lst _ => True
  | .dK _ => True
  | .ins _ _ _ => True
  | _ => False
theorem MutS.mut {u : HO} (m : MutS u) : Mut (some u) := by cases u <;> first | exact True.intro | exact m.elim
/-- an object of the abstract heap at an address -/
def RepO (g : G) (α : List Addr) (H : Hp) (a : Addr) : O → Prop
  | .lst ds => ∃ vs, H a = some (.lst vs) ∧ DenL g α H ds vs
  | .dct kvs => ∃ ws : List (Key × V), H a = some (.dK ws) ∧ ws.map (·.1) = kvs.map (·.1) ∧ DenL g α H (kvs.map (·.2)) (ws.map (·.2))
  | .lam i => ∃ I pm c ct, g.L i = some I ∧ H a = some (LamO a I.q I.params I.body I.scope pm c ct) ∧ H c = some (LamX.CodeO c I.q)
  | .ins c fs => ∃ dx, ∃ ws : List (Str × V), H a = some (.ins (g.cl c) dx ws) ∧ ws.map (·.1) = fs.map (·.1) ∧ DenL g α H (fs.map (·.2)) (ws.map (·.2))
structure Rep (g : G) (α : List Addr) (h : AH) (H : Hp) : Prop where
  len : α.length = h.length
  nd : α.Nodup
  tabs : LamX.Tabs g.T H
  ob : ∀ (l : Nat) (o : O) (a : Addr), h[l]? = some o → α[l]? = some a → RepO g α H a o
/-- slots -/
structure DenS (g : G) (α : List Addr) (H : Hp) (τ : SL) (σ : St) : Prop where
  len : τ.length = σ.length
  at_ : ∀ (i : Nat) (d : D), τ[i]? = some (some d) → ∃ v, σ[i]? = some (some v) ∧ Den g α H d v

section
variable {g : G} {α α' α'' : List Addr} {H H' H'' : Hp} {d : D} {v : V} {ds es : List D} {vs ws : List V} {h : AH} {a : Addr} {o : O} {l : Nat}
theorem DenS.ext {τ : SL} {σ : St} (s : DenS g α H τ σ) (e : Ext α H α' H') : DenS g α' H' τ σ :=
  ⟨s.len, fun i d q => let ⟨v, h1, h2⟩ := s.at_ i d q; ⟨v, h1, Den.ext e _ _ h2⟩⟩
theorem DenS.set {τ : SL} {σ : St} (s : DenS g α H τ σ) (i : Nat) (k : Den g α H d v) : DenS g α H (τ.set i (some d)) (σ.set i (some v)) := by
  refine ⟨by simp [s.len], fun j e q => ?_⟩
  by_cases hj : i = j
  · subst hj
    by_cases hi : i < τ.length
    · rw [List.getElem?_set_self hi] at q
      cases q
      exact ⟨v, by rw [List.getElem?_set_self (by rw [← s.len]; exact hi)], k⟩
    · rw [List.getElem?_eq_none (by simp; omega)] at q
      cases q
  · rw [List.getElem?_set_ne hj] at q
    obtain ⟨w, h1, h2⟩ := s.at_ j e q
    exact ⟨w, by rw [List.getElem?_set_ne hj]; exact h1, h2⟩
theorem Rep.addr (r : Rep g α h H) (e : h[l]? = some o) : ∃ a, α[l]? = some a ∧ RepO g α H a o := by
  obtain ⟨hl, _⟩ := List.getElem?_eq_some_iff.mp e
  have hl' : l < α.length := by rw [r.len]; exact hl
  exact ⟨α[l], List.getElem?_eq_getElem hl', r.ob l o _ e (List.getElem?_eq_getElem hl')⟩
theorem nodup_at {β : Type} : ∀ {l : List β} {i j : Nat} {x : β}, l.Nodup → l[i]? = some x → l[j]? = some x → i = j
  | [], i, j, x, _, h, _ => by simp at h
  | b :: l, 0, 0, x, _, _, _ => rfl
  | b :: l, 0, j + 1, x, n, h1, h2 => by
    simp at h1 h2
    subst h1
    exact absurd (List.mem_of_getElem? h2) (List.nodup_cons.mp n).1
  | b :: l, i + 1, 0, x, n, h1, h2 => by
    simp at h1 h2
    subst h2
    exact absurd (List.mem_of_getElem? h1) (List.nodup_cons.mp n).1
  | b :: l, i + 1, j + 1, x, n, h1, h2 => by
    have := nodup_at (i := i) (j := j) (List.nodup_cons.mp n).2 (by simpa using h1) (by simpa using h2)
    omega
theorem Rep.inj (r : Rep g α h H) {i j : Nat} (h1 : α[i]? = some a) (h2 : α[j]? = some a) : i = j := nodup_at r.nd h1 h2
theorem RepO.extW (x : RepO g α H a o) (e : ExtW α H α' H') (k : H' a = H a ) : RepO g α' H' a o := by
  cases o with
  | lst ds => obtain ⟨vs, h1, h2⟩ := x; exact ⟨vs, k.trans h1, DenL.extW e _ _ h2⟩
  | dct kvs => obtain ⟨ws, h1, h2, h3⟩ := x; exact ⟨ws, k.trans h1, h2, DenL.extW e _ _ h3⟩
  | ins c fs => obtain ⟨dx, ws, h1, h2, h3⟩ := x; exact ⟨dx, ws, k.trans h1, h2, DenL.extW e _ _ h3⟩
  | lam i => obtain ⟨I, pm, c, ct, h0, h1, h2⟩ := x; exact ⟨I, pm, c, ct, h0, k.trans h1, e.cod _ _ h2⟩
theorem RepO.ext (x : RepO g α H a o) (e : Ext α H α' H') (k : H' a = H a ) : RepO g α' H' a o := x.extW e.w k
/-- no table of code objects -/
def NotT (u : HO) : Prop := ∀ ps, u ≠ .tbl ps
theorem RepO.some_of (x : RepO g α H a o) : ∃ u, H a = some u ∧ NotT u := by
  cases o with
  | lst ds => obtain ⟨vs, h1, h2⟩ := x; exact ⟨_, h1, fun ps z => by cases z⟩
  | dct kvs => obtain ⟨ws, h1, h2, h3⟩ := x; exact ⟨_, h1, fun ps z => by cases z⟩
  | ins c fs => obtain ⟨dx, ws, h1, h2, h3⟩ := x; exact ⟨_, h1, fun ps z => by cases z⟩
  | lam i => obtain ⟨I, pm, c, ct, h0, h1, h2⟩ := x; exact ⟨_, h1, fun ps z => by unfold LamO at z; cases z⟩
end

/-! ### outcomes -/
inductive EO where
  | ok (d : D) (h : AH) | exc (c : Nat) (h : AH) | bad
abbrev EM := SL → AH → EO
inductive SO where
  | nx (τ : SL) (h : AH) | rt (d : D) (h : AH) | bk (τ : SL) (h : AH) | ct (τ : SL) (h : AH) | exc (c : Nat) (τ : SL) (h : AH) | bad
abbrev SM := SL → AH → SO
def EO.bind : EO → (D → AH → EO) → EO
  | .ok d h, f => f d h
  | .exc c h, _ => .exc c h
  | .bad, _ => .bad

def PostE (g : G) (W : WX) (α : List Addr) (H : Hp) (σ : St) (Q : VK) : EO → Prop
  | .ok d h' => ∀ α' H' v, Ext α H α' H' → Rep g α' h' H' → Den g α' H' d v → Q v H'
  | .exc c h' => ∀ α' H', Ext α H α' H' → Rep g α' h' H' → W (.ref (g.cl c)) none σ H'
  | .bad => False
def tE (g : G) (W : WX) (m : EM) : TE := fun σ H Q => ∃ α h τ, Rep g α h H ∧ DenS g α H τ σ ∧ PostE g W α H σ Q (m τ h)

section
variable {g : G} {W : WX} {α α' α'' : List Addr} {H H' H'' : Hp} {σ : St} {Q Q' : VK} {o : EO} {f : D → AH → EO}
theorem PostE.mono (p : PostE g W α H σ Q o) (e : Ext α H α' H') : PostE g W α' H' σ Q o := by
  cases o with
  | ok d h => exact fun α2 H2 v e2 r d => p α2 H2 v (e.trans e2) r d
  | exc c h => exact fun α2 H2 e2 r => p α2 H2 (e.trans e2) r
  | bad => exact p
theorem PostE.imp (p : PostE g W α H σ Q o) (k : ∀ v H', Q v H' → Q' v H') : PostE g W α H σ Q' o := by
  cases o with
  | ok d h => exact fun α2 H2 v e2 r d => k _ _ (p α2 H2 v e2 r d)
  | exc c h => exact p
  | bad => exact p
theorem PostE.bind (p : PostE g W α H σ Q (o.bind f)) :
    PostE g W α H σ (fun v H1 => ∃ α1 d h1, Ext α H α1 H1 ∧ Rep g α1 h1 H1 ∧ Den g α1 H1 d v ∧ PostE g W α1 H1 σ Q (f d h1)) o := by
  cases o with
  | ok d h => exact fun α2 H2 v e2 r dd => ⟨α2, d, h, e2, r, dd, PostE.mono p e2⟩
  | exc c h => exact p
  | bad => exact p
end

theorem PE.imp {X : Cx} {e : Expr} {t t' : TE} (h : PE X e t) (k : ∀ σ H Q, t' σ H Q → t σ H Q) : PE X e t' :=
  ⟨fun pins s σ H Q I q => h.run pins s σ H Q I (k σ H Q q)⟩
theorem PT.imp {X : Cx} {e : Expr} {t t' : TT} (h : PT X e t) (k : ∀ σ H Q, t' σ H Q → t σ H Q) : PT X e t' :=
  ⟨fun pins s σ H Q I q => h.run pins s σ H Q I (k σ H Q q)⟩
theorem PS.imp {X : Cx} {e : Stmt} {t t' : TS} (h : PS X e t) (k : ∀ D σ H, t' D σ H → t D σ H) : PS X e t' :=
  ⟨fun pins s σ H Q I q => h.run pins s σ H Q I (k Q σ H q)⟩
theorem PSs.imp {X : Cx} {e : List Stmt} {t t' : TS} (h : PSs X e t) (k : ∀ D σ H, t' D σ H → t D σ H) : PSs X e t' :=
  ⟨fun pins s σ H Q I q => h.run pins s σ H Q I (k Q σ H q)⟩

/-! ### new objects, written objects -/
section
variable {g : G} {α α' α'' : List Addr} {H H' H'' : Hp} {d : D} {v : V} {ds es : List D} {vs ws : List V} {h : AH} {a p : Addr} {o : O} {l : Nat} {u u' : HO}
/-- a new thing at p -/
theorem Ext.new (hp : H p = none) : Ext α H α (upd H p u) := by
  refine ⟨fun _ _ h => h, fun b xs r => ?_, fun b o xs e => by rw [upd_ne (ne_of_none e hp)]; exact e, fun c q e => by rw [upd_ne (ne_of_none e hp)]; exact e⟩
  rcases r with r | ⟨ob, r⟩
  · exact .inl (by rw [upd_ne (ne_of_none r hp)]; exact r)
  · exact .inr ⟨ob, by rw [upd_ne (ne_of_none r hp)]; exact r⟩
theorem tabs_new {T : List (Addr × Str)} (t : LamX.Tabs T H) (hp : H p = none) : LamX.Tabs T (upd H p u) := t.ext fun b o e => by rw [upd_ne (ne_of_none e hp)]; exact e
theorem tabs_put {T : List (Addr × Str)} (t : LamX.Tabs T H) (ha : H a = some u) (m : MutS u) : LamX.Tabs T (upd H a u') := fun q hq => by
  obtain ⟨ps, h1, h2, h3⟩ := t q hq
  have n1 : q.1 ≠ a := fun z => by rw [z, ha] at h1; cases h1; exact m
  refine ⟨ps, by rw [upd_ne n1]; exact h1, h2, fun pos cv hc => ?_⟩
  obtain ⟨c, e1, e2⟩ := h3 pos cv hc
  refine ⟨c, e1, ?_⟩
  have n2 : c ≠ a := fun z => by
    rw [z, ha] at e2
    have e3 := Option.some.inj e2
    unfold LamX.CodeO at e3
    rw [e3] at m
    exact m
  rw [upd_ne n2]
  exact e2
theorem Ext.put (ha : H a = some u) (m' : MutS u) : Ext α H α (upd H a u') := by
  have m := m'.mut
  have nt : ∀ b x, H b = some x → ¬ Mut (some x) → b ≠ a := fun b x e nm z => by subst z; rw [ha] at e; cases e; exact nm m
  refine ⟨fun _ _ h => h, fun b xs r => ?_, fun b o xs e => by rw [upd_ne (nt b _ e (fun z => z))]; exact e, fun c q e => ?_⟩
  · rcases r with r | ⟨ob, r⟩
    · exact .inl (by rw [upd_ne (nt b _ r (fun z => z))]; exact r)
    · exact .inr ⟨ob, by rw [upd_ne (nt b _ r (fun z => z))]; exact r⟩
  · have n2 : c ≠ a := fun z => by
      rw [z, ha] at e
      have e3 := Option.some.inj e
      rw [e3] at m'
      exact m'
    rw [upd_ne n2]
    exact e
theorem Ext.app (b : List Addr) : Ext α H (α ++ b) H := ⟨fun l a e => by
  obtain ⟨hl, _⟩ := List.getElem?_eq_some_iff.mp e
  rw [List.getElem?_append_left hl]; exact e, fun _ _ h => h, fun _ _ _ h => h, fun _ _ h => h⟩
/-- an immutable thing is laid: the abstract heap is as it was -/
theorem Rep.new (r : Rep g α h H) (hp : H p = none) : Rep g α h (upd H p u) := by
  refine ⟨r.len, r.nd, tabs_new r.tabs hp, fun l o a h1 h2 => ?_⟩
  have x := r.ob l o a h1 h2
  obtain ⟨z, e, _⟩ := x.some_of
  exact x.ext (Ext.new hp) (upd_ne (ne_of_none e hp))
theorem Rep.ne_new (r : Rep g α h H) (hp : H p = none) : p ∉ α := fun hm => by
  obtain ⟨i, hi, e⟩ := List.getElem_of_mem hm
  have h1 : α[i]? = some p := by rw [List.getElem?_eq_getElem hi, e]
  have hl : i < h.length := by rw [← r.len]; exact hi
  obtain ⟨z, e2, _⟩ := (r.ob i _ p (List.getElem?_eq_getElem hl) h1).some_of
  rw [hp] at e2; cases e2
/-- a thing that may change is laid at p -/
theorem Rep.push (r : Rep g α h H) (hp : H p = none) (x : RepO g (α ++ [p]) (upd H p u) p o) : Rep g (α ++ [p]) (h ++ [o]) (upd H p u) ∧ Ext α H (α ++ [p]) (upd H p u) := by
  have e : Ext α H (α ++ [p]) (upd H p u) := (Ext.new hp).trans (Ext.app _)
  refine ⟨⟨by simp [r.len], ?_, tabs_new r.tabs hp, fun l o' a h1 h2 => ?_⟩, e⟩
  · rw [List.nodup_append]
    refine ⟨r.nd, by simp, fun b hb c hc => ?_⟩
    rw [List.mem_singleton] at hc
    subst hc
    intro q
    subst q
    exact r.ne_new hp hb
  · by_cases hl : l < h.length
    · rw [List.getElem?_append_left hl] at h1
      rw [List.getElem?_append_left (by rw [r.len]; exact hl)] at h2
      have y := r.ob l o' a h1 h2
      obtain ⟨z, e3, _⟩ := y.some_of
      exact y.ext e (upd_ne (ne_of_none e3 hp))
    · have hle : l < (h ++ [o]).length := (List.getElem?_eq_some_iff.mp h1).1
      have : l = h.length := by rw [List.length_append, List.length_singleton] at hle; omega
      subst this
      rw [List.getElem?_append_right (Nat.le_refl _), Nat.sub_self] at h1
      rw [← r.len, List.getElem?_append_right (Nat.le_refl _), Nat.sub_self] at h2
      cases h1
      cases h2
      exact x
/-- what stands at l is written -/
theorem Rep.write (r : Rep g α h H) (hl : α[l]? = some a) (ha : H a = some u) (m : MutS u) (x : RepO g α (upd H a u') a o) : Rep g α (h.set l o) (upd H a u') ∧ Ext α H α (upd H a u') := by
  have e : Ext α H α (upd H a u') := Ext.put ha m
  refine ⟨⟨by simp [r.len], r.nd, tabs_put r.tabs ha m, fun j o' b h1 h2 => ?_⟩, e⟩
  by_cases hj : l = j
  · subst hj
    rw [hl] at h2
    cases h2
    have hlt : l < h.length := by rw [← r.len]; exact (List.getElem?_eq_some_iff.mp hl).1
    rw [List.getElem?_set_self hlt] at h1
    cases h1
    exact x
  · rw [List.getElem?_set_ne hj] at h1
    have y := r.ob j o' b h1 h2
    refine y.ext e (upd_ne fun q => hj ?_)
    subst q
    exact (r.inj h2 hl).symm
end
end DD
end

section
set_option Elab.async false
set_option linter.all false
set_option maxRecDepth 100000
/-! Expressions. -/
namespace DD
open PySem L2
open PyProof.Rows (b2i)

/-! ### mirrors of expressions -/
def varM (i : Nat) : EM := fun τ h => match τ[i]? with
  | some (some d) => .ok d h
  | _ => .bad
def cM (d : D) : EM := fun _ h => .ok d h
def binM (a b : EM) (f : D → D → AH → EO) : EM := fun τ h => (a τ h).bind fun x h1 => (b τ h1).bind fun y h2 => f x y h2
def unM (a : EM) (f : D → AH → EO) : EM := fun τ h => (a τ h).bind fun x h1 => f x h1

section
variable {X : Cx} {g : G} {W : WX} {a b c e : Expr} {ma mb mc : EM} {pos : Pos} {σ : St} {H : Hp} {Q : VK}

theorem tE_var {i : Nat} (p : tE g W (varM i) σ H Q) : tVar i σ H Q := by
  obtain ⟨α, h, τ, r, s, p⟩ := p
  unfold varM at p
  split at p
  · rename_i d e
    obtain ⟨v, h1, h2⟩ := s.at_ i d e
    exact ⟨v, h1, p α H v .refl r h2⟩
  · exact p.elim
theorem tE_c {d : D} {v : V} (hd : ∀ α H, Den g α H d v) (p : tE g W (cM d) σ H Q) : tC v σ H Q := by
  obtain ⟨α, h, τ, r, s, p⟩ := p
  exact p α H v .refl r (hd α H)
theorem de_var {i : Nat} (h : PE X e (tVar i)) : PE X e (tE g W (varM i)) := PE.imp h fun _ _ _ => tE_var
theorem de_c {d : D} {v : V} (hd : ∀ α H, Den g α H d v) (h : PE X e (tC v)) : PE X e (tE g W (cM d)) := PE.imp h fun _ _ _ => tE_c hd

/-- an operation by values keeps what f says -/
def RS2 (g : G) (W : WX) (r : R2) (f : D → D → AH → EO) : Prop :=
  ∀ (α : List Addr) (h : AH) (H : Hp) (σ : St) (x y : V) (dx dy : D) (Q : VK), Rep g α h H → Den g α H dx x → Den g α H dy y → PostE g W α H σ Q (f dx dy h) → r x y H Q
def RS1 (g : G) (W : WX) (r : V → Hp → VK → Prop) (f : D → AH → EO) : Prop :=
  ∀ (α : List Addr) (h : AH) (H : Hp) (σ : St) (x : V) (dx : D) (Q : VK), Rep g α h H → Den g α H dx x → PostE g W α H σ Q (f dx h) → r x H Q
theorem tE_bin {r : R2} {f : D → D → AH → EO} (rs : RS2 g W r f) (p : tE g W (binM ma mb f) σ H Q) : tOp r (tE g W ma) (tE g W mb) σ H Q := by
  obtain ⟨α, h, τ, R, s, p⟩ := p
  refine ⟨α, h, τ, R, s, PostE.imp (PostE.bind p) ?_⟩
  rintro v H1 ⟨α1, d, h1, E1, R1, D1, p1⟩
  refine ⟨α1, h1, τ, R1, s.ext E1, PostE.imp (PostE.bind p1) ?_⟩
  rintro w H2 ⟨α2, d2, h2, E2, R2, D2, p2⟩
  exact rs α2 h2 H2 σ v w d d2 Q R2 (Den.ext E2 _ _ D1) D2 p2
theorem tE_un {r : V → Hp → VK → Prop} {f : D → AH → EO} (rs : RS1 g W r f) (p : tE g W (unM ma f) σ H Q) : tUn r (tE g W ma) σ H Q := by
  obtain ⟨α, h, τ, R, s, p⟩ := p
  refine ⟨α, h, τ, R, s, PostE.imp (PostE.bind p) ?_⟩
  rintro v H1 ⟨α1, d, h1, E1, R1, D1, p1⟩
  exact rs α1 h1 H1 σ v d Q R1 D1 p1
theorem de_op {op : Operator} {r : R2} {f : D → D → AH → EO} (ho : OpR X (binaryOp op) r) (rs : RS2 g W r f) (ha : PE X a (tE g W ma)) (hb : PE X b (tE g W mb)) : PE X (.BinOp a op b pos) (tE g W (binM ma mb f)) :=
  PE.imp (pe_op ho ha hb) fun _ _ _ => tE_bin rs
theorem de_un {op : UnaryOp} {r : V → Hp → VK → Prop} {f : D → AH → EO} (ho : UnR X (unaryOp op) r) (rs : RS1 g W r f) (ha : PE X a (tE g W ma)) : PE X (.UnaryOp op a pos) (tE g W (unM ma f)) :=
  PE.imp (pe_un ho ha) fun _ _ _ => tE_un rs
theorem de_cmp {op : CmpOp} {r : R2} {f : D → D → AH → EO} (ho : OpR X (compareOp op) r) (rs : RS2 g W r f) (ha : PE X a (tE g W ma)) (hb : PE X b (tE g W mb)) (hm : behindInMarks op b = false) : PE X (.Compare a [op] [b] pos) (tE g W (binM ma mb f)) :=
  PE.imp (pe_cmpR ho ha hb hm) fun _ _ _ => tE_bin rs
theorem de_ix {r : R2} {f : D → D → AH → EO} (ho : IxR X r) (rs : RS2 g W r f) (ha : PE X a (tE g W ma)) (hb : PE X b (tE g W mb)) (hm : PlainIx b) : PE X (.Subscript a b pos) (tE g W (binM ma mb f)) :=
  PE.imp (pe_ix ho ha hb hm) fun _ _ _ => tE_bin rs

/-! ### ints -/
def iiM (C : Int → Int → Bool) (k : Int → Int → D) : D → D → AH → EO
  | .int i, .int j, h => if C i j = true then .ok (k i j) h else .bad
  | _, _, _ => .bad
theorem rs_rI {C : Int → Int → Prop} {Cb : Int → Int → Bool} {gv : Int → Int → V} {k : Int → Int → D} (hC : ∀ i j, Cb i j = true → C i j) (hd : ∀ i j α H, Den g α H (k i j) (gv i j)) : RS2 g W (rI C gv) (iiM Cb k) := by
  intro α h H σ x y dx dy Q R hx hy p
  cases hx <;> cases hy <;> try exact False.elim p
  rename_i i j
  simp only [iiM] at p
  by_cases hc : Cb i j = true
  · rw [if_pos hc] at p
    exact ⟨i, j, rfl, rfl, hC i j hc, p α H _ .refl R (hd i j α H)⟩
  · rw [if_neg hc] at p
    exact p.elim
theorem rs_rI0 {gv : Int → Int → V} {k : Int → Int → D} (hd : ∀ i j α H, Den g α H (k i j) (gv i j)) : RS2 g W (rI0 gv) (iiM (fun _ _ => true) k) := by
  intro α h H σ x y dx dy Q R hx hy p
  cases hx <;> cases hy <;> try exact False.elim p
  rename_i i j
  exact ⟨i, j, rfl, rfl, p α H _ .refl R (hd i j α H)⟩
theorem den_int {i j : Int} {α : List Addr} : Den g α H (.int i) (.int i) := .int i
theorem den_bl {i : Bool} {α : List Addr} : Den g α H (.bl i) (.bl i) := .bl i
abbrev ltM : D → D → AH → EO := iiM (fun _ _ => true) fun i j => .bl (decide (i < j))
abbrev leM : D → D → AH → EO := iiM (fun _ _ => true) fun i j => .bl (decide (i ≤ j))
abbrev gtM : D → D → AH → EO := iiM (fun _ _ => true) fun i j => .bl (decide (j < i))
abbrev geM : D → D → AH → EO := iiM (fun _ _ => true) fun i j => .bl (decide (j ≤ i))
abbrev subM : D → D → AH → EO := iiM (fun _ _ => true) fun i j => .int (i - j)
def CMb (i j : Int) : Bool := (decide (-(2 ^ 64) < i) && decide (i < 2 ^ 64)) || (decide (-(2 ^ 64) < j) && decide (j < 2 ^ 64))
def CDb (i j : Int) : Bool := decide (0 < j) && decide (j < 2 ^ 128)
def CPb (i j : Int) : Bool := decide (0 ≤ j) && decide (j ≤ 1000000) && decide (i.natAbs < 2 ^ 64)
abbrev fdivM : D → D → AH → EO := iiM CDb fun i j => .int (i / j)
abbrev modM : D → D → AH → EO := iiM (fun _ j => decide (0 < j)) fun i j => .int (i % j)
abbrev powM : D → D → AH → EO := iiM CPb fun i j => .int (i ^ j.toNat)
theorem rs_lt : RS2 g W (rI0 fun i j => .bl (decide (i < j))) ltM := rs_rI0 fun _ _ _ _ => .bl _
theorem rs_le : RS2 g W (rI0 fun i j => .bl (decide (i ≤ j))) leM := rs_rI0 fun _ _ _ _ => .bl _
theorem rs_gt : RS2 g W (rI0 fun i j => .bl (decide (j < i))) gtM := rs_rI0 fun _ _ _ _ => .bl _
theorem rs_ge : RS2 g W (rI0 fun i j => .bl (decide (j ≤ i))) geM := rs_rI0 fun _ _ _ _ => .bl _
theorem rs_sub : RS2 g W (rI0 fun i j => .int (i - j)) subM := rs_rI0 fun _ _ _ _ => .int _
theorem rs_mod : RS2 g W (rI (fun _ j => 0 < j) fun i j => .int (i % j)) modM := rs_rI (fun _ _ h => of_decide_eq_true h) fun _ _ _ _ => .int _
theorem cdiv_ok (i j : Int) (h : CDb i j = true) : CDivW i j := by
  unfold CDb at h
  rw [Bool.and_eq_true, decide_eq_true_eq, decide_eq_true_eq] at h
  exact wide_div h.1 (b := 128) (by omega) (by decide) (by decide)
theorem rs_fdiv : RS2 g W (rI CDivW fun i j => .int (i / j)) fdivM := rs_rI cdiv_ok fun _ _ _ _ => .int _
theorem cpow_ok (i j : Int) (h : CPb i j = true) : CPow i j := by
  unfold CPb at h
  rw [Bool.and_eq_true, Bool.and_eq_true, decide_eq_true_eq, decide_eq_true_eq, decide_eq_true_eq] at h
  exact ⟨h.1.1, h.1.2, h.2⟩
theorem rs_pow : RS2 g W (rI CPow fun i j => .int (i ^ j.toNat)) powM := rs_rI cpow_ok fun _ _ _ _ => .int _

/-! ### + -/
def addM : D → D → AH → EO
  | .int i, .int j, h => .ok (.int (i + j)) h
  | .int i, .bl k, h => .ok (.int (i + b2i k)) h
  | .str x, .str y, h => if x.length + y.length ≤ sizeLine then .ok (.str (x ++ y)) h else .bad
  | .tup xs, .tup ys, h => if xs.length + ys.length ≤ sizeLine then .ok (.tup (xs ++ ys)) h else .bad
  | .ref i, .ref j, h => match h[i]?, h[j]? with
    | some (.lst xs), some (.lst ys) => if xs.length + ys.length ≤ sizeLine then .ok (.ref h.length) (h ++ [.lst (xs ++ ys)]) else .bad
    | _, _ => .bad
  | _, _, _ => .bad
def rAddAny (K : PySem.W.Frag) : R2 := fun x y H Q =>
  (∃ i j, x = .int i ∧ y = .int j ∧ Q (.int (i + j)) H) ∨ (∃ i k, x = .int i ∧ y = .bl k ∧ Q (.int (i + b2i k)) H) ∨
  (∃ i j, x = .str i ∧ y = .str j ∧ i.length + j.length ≤ sizeLine ∧ Q (.str (i ++ j)) H) ∨ rCatA K x y H Q ∨ rCat x y H Q
theorem op_addAny : OpR X (binaryOp .Add) (rAddAny X.K) := OpR.or op_add (OpR.or op_add_ib (OpR.or op_add_str (OpR.or op_catA op_cat)))
theorem rs_add : RS2 g W (rAddAny g.K) addM := by
  intro α h H σ x y dx dy Q R hx hy p
  cases hx <;> cases hy <;> try exact False.elim p
  · rename_i i k
    exact .inr (.inl ⟨i, k, rfl, rfl, p α H _ .refl R (.int _)⟩)
  · rename_i i j
    exact .inl ⟨i, j, rfl, rfl, p α H _ .refl R (.int _)⟩
  · rename_i i j
    simp only [addM] at p
    split at p
    · rename_i hl
      exact .inr (.inr (.inl ⟨i, j, rfl, rfl, hl, p α H _ .refl R (.str _)⟩))
    · exact p.elim
  · rename_i a ds vs h1 h2 b es ws h3 h4
    simp only [addM] at p
    split at p
    · rename_i hl
      refine .inr (.inr (.inr (.inl ⟨a, b, vs, ws, rfl, rfl, h1, h3, by rw [← h2.length, ← h4.length]; exact hl, fun e => ?_, fun e1 e2 => ?_, fun e1 e2 q hq => ?_⟩)))
      · subst e
        cases h2
        exact p α H _ .refl R (.tup h3 h4)
      · subst e2
        cases h4
        exact p α H _ .refl R (by simpa using Den.tup h1 h2)
      · refine p α _ _ (Ext.new hq) (R.new hq) (.tup (SqT.of upd_same) ?_)
        exact (DenL.ext (Ext.new hq) _ _ h2).append (DenL.ext (Ext.new hq) _ _ h4)
    · exact p.elim
  · rename_i l1 a1 e1 l2 a2 e2
    simp only [addM] at p
    split at p
    · rename_i xs ys h1 h2
      split at p
      · rename_i hl
        obtain ⟨vs, q1, q2⟩ := R.ob _ _ _ h1 e1
        obtain ⟨ws, q3, q4⟩ := R.ob _ _ _ h2 e2
        refine .inr (.inr (.inr (.inr ⟨a1, a2, vs, ws, rfl, rfl, q1, q3, by rw [← q2.length, ← q4.length]; exact hl, fun z hz => ?_⟩)))
        have E := (Ext.new (u := .lst (vs ++ ws)) hz).trans (Ext.app (α := α) [z])
        have x : RepO g (α ++ [z]) (upd H z (.lst (vs ++ ws))) z (.lst (xs ++ ys)) := ⟨_, upd_same, (DenL.ext E _ _ q2).append (DenL.ext E _ _ q4)⟩
        obtain ⟨R', E'⟩ := R.push hz x
        exact p _ _ _ E' R' (.ref (by rw [← R.len]; simp))
      · exact p.elim
    · exact p.elim
end
end DD
end

section
set_option Elab.async false
set_option linter.all false
set_option maxRecDepth 100000
namespace DD
open PySem L2
open PyProof.Rows (b2i)

/-! ### data to compare -/
mutual
def toP : D → PyData
  | .non => .none
  | .bl b => .bool b
  | .int i => .int i
  | .str x => .str x
  | .tup xs => .tuple (toPs xs)
  | .ref _ => .none
  | .con _ => .none
  | .fls _ => .none
def toPs : List D → List PyData
  | [] => []
  | d :: ds => toP d :: toPs ds
end
mutual
/-- no list, no object within -/
def plD : D → Bool
  | .non => true
  | .bl _ => true
  | .int _ => true
  | .str _ => true
  | .tup xs => plDs xs
  | .ref _ => false
  | .con _ => false
  | .fls _ => false
def plDs : List D → Bool
  | [] => true
  | d :: ds => plD d && plDs ds
end
mutual
def depD : D → Nat
  | .tup xs => depDs xs + 1
  | .non => 0
  | .bl _ => 0
  | .int _ => 0
  | .str _ => 0
  | .ref _ => 0
  | .con _ => 0
  | .fls _ => 0
def depDs : List D → Nat
  | [] => 0
  | d :: ds => max (depD d) (depDs ds)
end
mutual
/-- x == y -/
def eqD : D → D → Bool
  | .non, .non => true
  | .bl a, .bl b => a == b
  | .bl a, .int j => (if a then 1 else 0) == j
  | .int i, .bl b => i == (if b then 1 else 0)
  | .int i, .int j => i == j
  | .str x, .str y => x == y
  | .tup xs, .tup ys => eqDs xs ys
  | _, _ => false
def eqDs : List D → List D → Bool
  | [], [] => true
  | x :: xs, y :: ys => eqD x y && eqDs xs ys
  | _, _ => false
end
mutual
theorem eqD_toP : ∀ (x y : D), plD x = true → plD y = true → PyData.eqv (toP x) (toP y) = eqD x y
  | .non, y, _, h => by cases y <;> simp_all [toP, eqD, PyData.eqv, plD]
  | .bl _, y, _, h => by cases y <;> simp_all [toP, eqD, PyData.eqv, plD]
  | .int _, y, _, h => by cases y <;> simp_all [toP, eqD, PyData.eqv, plD]
  | .str _, y, _, h => by cases y <;> simp_all [toP, eqD, PyData.eqv, plD]
  | .tup xs, y, h0, h => by
    cases y with
    | tup ys =>
      simp only [toP, eqD, PyData.eqv]
      exact eqDs_toP xs ys (by simpa [plD] using h0) (by simpa [plD] using h)
    | _ => simp_all [toP, eqD, PyData.eqv, plD]
  | .ref _, _, h, _ => by simp [plD] at h
  | .con _, _, h, _ => by simp [plD] at h
  | .fls _, _, h, _ => by simp [plD] at h
theorem eqDs_toP : ∀ (xs ys : List D), plDs xs = true → plDs ys = true → PyData.eqvAll (toPs xs) (toPs ys) = eqDs xs ys
  | [], [], _, _ => by simp [toPs, eqDs, PyData.eqvAll]
  | [], _ :: _, _, _ => by simp [toPs, eqDs, PyData.eqvAll]
  | _ :: _, [], _, _ => by simp [toPs, eqDs, PyData.eqvAll]
  | x :: xs, y :: ys, h1, h2 => by
    simp only [plDs, Bool.and_eq_true] at h1 h2
    simp only [toPs, eqDs, PyData.eqvAll]
    rw [eqD_toP x y h1.1 h2.1, eqDs_toP xs ys h1.2 h2.2]
end
mutual
theorem depD_toP : ∀ (x : D), (toP x).depth = depD x
  | .non => by simp [toP, depD, PyData.depth]
  | .bl _ => by simp [toP, depD, PyData.depth]
  | .int _ => by simp [toP, depD, PyData.depth]
  | .str _ => by simp [toP, depD, PyData.depth]
  | .ref _ => by simp [toP, depD, PyData.depth]
  | .con _ => by simp [toP, depD, PyData.depth]
  | .fls _ => by simp [toP, depD, PyData.depth]
  | .tup xs => by simp only [toP, depD, PyData.depth]; rw [depDs_toP xs]
theorem depDs_toP : ∀ (xs : List D), PyData.depthAll (toPs xs) = depDs xs
  | [] => by simp [toPs, depDs, PyData.depthAll]
  | x :: xs => by simp only [toPs, depDs, PyData.depthAll]; rw [depD_toP x, depDs_toP xs]
end
mutual
theorem plain_toP : ∀ (x : D), (toP x).plain = true
  | .non => by simp [toP, PyData.plain]
  | .bl _ => by simp [toP, PyData.plain]
  | .int _ => by simp [toP, PyData.plain]
  | .str _ => by simp [toP, PyData.plain]
  | .ref _ => by simp [toP, PyData.plain]
  | .con _ => by simp [toP, PyData.plain]
  | .fls _ => by simp [toP, PyData.plain]
  | .tup xs => by simp only [toP, PyData.plain]; exact plains_toP xs
theorem plains_toP : ∀ (xs : List D), PyData.plainAll (toPs xs) = true
  | [] => by simp [toPs, PyData.plainAll]
  | x :: xs => by simp only [toPs, PyData.plainAll]; rw [plain_toP x, plains_toP xs]; rfl
end
section
variable {g : G} {α : List Addr} {H : Hp}
mutual
theorem toP_den : ∀ (d : D) (v : V), Den g α H d v → plD d = true → Dp g.K H v (toP d)
  | .non, _, h, _ => by cases h; exact .non
  | .bl _, _, h, _ => by cases h; exact .bl _
  | .int _, _, h, _ => by cases h; exact .int _
  | .str _, _, h, _ => by cases h; exact .str _
  | .tup ds, _, h, q => by
    cases h with
    | tup hs hl => exact .tup hs (toPs_den ds _ hl (by simpa [plD] using q))
  | .ref _, _, _, q => by simp [plD] at q
  | .con _, _, _, q => by simp [plD] at q
  | .fls _, _, _, q => by simp [plD] at q
theorem toPs_den : ∀ (ds : List D) (vs : List V), DenL g α H ds vs → plDs ds = true → DpAll g.K H vs (toPs ds)
  | [], _, h, _ => by cases h; exact .nil
  | d :: ds, _, h, q => by
    cases h with
    | cons h1 h2 =>
      simp only [plDs, Bool.and_eq_true] at q
      exact .cons (toP_den d _ h1 q.1) (toPs_den ds _ h2 q.2)
end
end
/-- lists by their items, all else by itself -/
def eqB (h : AH) (x y : D) : Option Bool := match x, y with
  | .ref i, .ref j => match h[i]?, h[j]? with
    | some (.lst xs), some (.lst ys) => if (plDs xs && plDs ys && decide (min (depDs xs) (depDs ys) < 64)) = true then some (eqDs xs ys) else none
    | _, _ => none
  | a, b => if (plD a && plD b && decide (min (depD a) (depD b) ≤ 64)) = true then some (eqD a b) else none
def eqM (x y : D) (h : AH) : EO := match eqB h x y with
  | some b => .ok (.bl b) h
  | none => .bad
def neM (x y : D) (h : AH) : EO := match eqB h x y with
  | some b => .ok (.bl (!b)) h
  | none => .bad
def rEqAny (K : PySem.W.Frag) : R2 := fun x y H Q => ∃ d e, Dp K H x d ∧ Dp K H y e ∧ d.plain = true ∧ e.plain = true ∧ min d.depth e.depth ≤ 64 ∧ Q (.bl (PyData.eqv d e)) H
def rNeAny (K : PySem.W.Frag) : R2 := fun x y H Q => ∃ d e, Dp K H x d ∧ Dp K H y e ∧ d.plain = true ∧ e.plain = true ∧ min d.depth e.depth ≤ 64 ∧ Q (.bl (!PyData.eqv d e)) H
section
variable {X : Cx} {g : G} {W : WX} {a b c e : Expr} {ma mb mc : EM} {pos : Pos} {σ : St} {H : Hp} {Q : VK}
theorem op_eqAny (hu : X.A.units + 64 < cLine) : OpR X (compareOp .Eq) (rEqAny X.K) := by
  intro pins s σ H x y v u Q I rx ry h
  obtain ⟨d, e, hd, he, pd, pe, hz, q⟩ := h
  obtain ⟨as, r1⟩ := Dp.reads I d x v hd rx
  obtain ⟨bs, r2⟩ := Dp.reads I e y u he ry
  exact SeqAt.eq_plain r1 r2 pd pe (by omega) ⟨.bl _, H, I, rfl, q⟩
theorem op_neAny (hu : X.A.units + 64 < cLine) : OpR X (compareOp .NotEq) (rNeAny X.K) := by
  intro pins s σ H x y v u Q I rx ry h
  obtain ⟨d, e, hd, he, pd, pe, hz, q⟩ := h
  obtain ⟨as, r1⟩ := Dp.reads I d x v hd rx
  obtain ⟨bs, r2⟩ := Dp.reads I e y u he ry
  exact SeqAt.ne_plain r1 r2 pd pe (by omega) ⟨.bl _, H, I, rfl, q⟩
theorem eqB_den {α : List Addr} {h : AH} {x y : V} {dx dy : D} {k : Bool} (R : Rep g α h H) (hx : Den g α H dx x) (hy : Den g α H dy y) (q : eqB h dx dy = some k) : ∃ d e, Dp g.K H x d ∧ Dp g.K H y e ∧ d.plain = true ∧ e.plain = true ∧ min d.depth e.depth ≤ 64 ∧ PyData.eqv d e = k := by
  unfold eqB at q
  split at q
  · split at q
    · rename_i xs ys h1 h2
      split at q
      · rename_i hc
        simp only [Bool.and_eq_true, decide_eq_true_eq] at hc
        cases q
        cases hx with
        | ref ha =>
          cases hy with
          | ref hb =>
            obtain ⟨vs, a1, a2⟩ := R.ob _ _ _ h1 ha
            obtain ⟨ws, b1, b2⟩ := R.ob _ _ _ h2 hb
            refine ⟨.list (toPs xs), .list (toPs ys), .lst (SqL.of a1) (toPs_den xs _ a2 hc.1.1), .lst (SqL.of b1) (toPs_den ys _ b2 hc.1.2), by simp only [PyData.plain]; exact plains_toP xs, by simp only [PyData.plain]; exact plains_toP ys, ?_, ?_⟩
            · simp only [PyData.depth, depDs_toP]
              omega
            · simp only [PyData.eqv]
              exact eqDs_toP xs ys hc.1.1 hc.1.2
      · cases q
    · cases q
  · split at q
    · rename_i hc
      simp only [Bool.and_eq_true, decide_eq_true_eq] at hc
      cases q
      exact ⟨toP dx, toP dy, toP_den _ _ hx hc.1.1, toP_den _ _ hy hc.1.2, plain_toP _, plain_toP _, by rw [depD_toP, depD_toP]; exact hc.2, eqD_toP _ _ hc.1.1 hc.1.2⟩
    · cases q
theorem rs_eq : RS2 g W (rEqAny g.K) eqM := by
  intro α h H σ x y dx dy Q R hx hy p
  unfold eqM at p
  split at p
  · rename_i k hk
    obtain ⟨d, e, h1, h2, h3, h4, h5, h6⟩ := eqB_den R hx hy hk
    exact ⟨d, e, h1, h2, h3, h4, h5, by rw [h6]; exact p α H _ .refl R (.bl _)⟩
  · exact p.elim
theorem rs_ne : RS2 g W (rNeAny g.K) neM := by
  intro α h H σ x y dx dy Q R hx hy p
  unfold neM at p
  split at p
  · rename_i k hk
    obtain ⟨d, e, h1, h2, h3, h4, h5, h6⟩ := eqB_den R hx hy hk
    exact ⟨d, e, h1, h2, h3, h4, h5, by rw [h6]; exact p α H _ .refl R (.bl _)⟩
  · exact p.elim

/-! ### is -/
def isC : D → D → Option Bool
  | .non, .non => some true
  | .bl a, .bl b => some (decide (a = b))
  | _, .non => some false
  | .non, .bl _ => some false
  | .int _, .bl _ => some false
  | .str _, .bl _ => some false
  | .tup _, .bl _ => some false
  | .ref _, .bl _ => some false
  | _, _ => none
def isM (x y : D) (h : AH) : EO := match isC x y with
  | some b => .ok (.bl b) h
  | none => .bad
def isnotM (x y : D) (h : AH) : EO := match isC x y with
  | some b => .ok (.bl (!b)) h
  | none => .bad
theorem is_bool_gen {M : Model} {A : Around} {E : Value → Shared → Prop} {s : Shared} {c : Bool} {Q : Value → Shared → Prop} {v : Value} (hv : ∀ id, v ≠ .builtin id) (h : Q (.bool (v == .bool c)) s) : wpAny M A (compareOp .Is v (.bool c)) Q E s := by
  cases v <;> first | exact wpAny_pure h | exact absurd rfl (hv _)
theorem isnot_bool_gen {M : Model} {A : Around} {E : Value → Shared → Prop} {s : Shared} {c : Bool} {Q : Value → Shared → Prop} {v : Value} (hv : ∀ id, v ≠ .builtin id) (h : Q (.bool (!(v == .bool c))) s) : wpAny M A (compareOp .IsNot v (.bool c)) Q E s := by
  cases v <;> first | exact wpAny_pure h | exact absurd rfl (hv _)
def rIsB2 : R2 := fun x y H Q => ∃ b : Bool, y = .bl b ∧ Q (.bl (decide (x = .bl b))) H
def rIsnB2 : R2 := fun x y H Q => ∃ b : Bool, y = .bl b ∧ Q (.bl (!decide (x = .bl b))) H
theorem op_isB2 : OpR X (compareOp .Is) rIsB2 := by
  intro pins s σ H x y v u Q I rx ry h
  obtain ⟨b, rfl, q⟩ := h
  cases ry
  refine is_bool_gen (by intro id e; subst e; cases x <;> simp [RelV] at rx) (fin_bl I q ?_)
  cases x <;> first
    | (cases rx; rename_i k; cases k <;> cases b <;> rfl)
    | (cases rx; rfl)
    | (obtain ⟨t, rfl⟩ := rx; rfl)
theorem op_isnB2 : OpR X (compareOp .IsNot) rIsnB2 := by
  intro pins s σ H x y v u Q I rx ry h
  obtain ⟨b, rfl, q⟩ := h
  cases ry
  refine isnot_bool_gen (by intro id e; subst e; cases x <;> simp [RelV] at rx) (fin_bl I q ?_)
  cases x <;> first
    | (cases rx; rename_i k; cases k <;> cases b <;> rfl)
    | (cases rx; rfl)
    | (obtain ⟨t, rfl⟩ := rx; rfl)
def rIsAny : R2 := fun x y H Q => (y = .non ∧ Q (.bl (decide (x = .non))) H) ∨ rIsB2 x y H Q
def rIsnAny : R2 := fun x y H Q => (y = .non ∧ Q (.bl (!decide (x = .non))) H) ∨ rIsnB2 x y H Q
theorem op_isAny : OpR X (compareOp .Is) rIsAny := OpR.or op_isN op_isB2
theorem op_isnAny : OpR X (compareOp .IsNot) rIsnAny := OpR.or op_notN op_isnB2
theorem rs_is : RS2 g W rIsAny isM := by
  intro α h H σ x y dx dy Q R hx hy p
  cases hx <;> cases hy <;> simp only [isM, isC] at p <;> first
    | exact False.elim p
    | (refine .inl ⟨rfl, ?_⟩; have := p α H _ .refl R (.bl _); simpa using this)
    | (refine .inr ⟨_, rfl, ?_⟩; have := p α H _ .refl R (.bl _); simpa using this)
theorem rs_isn : RS2 g W rIsnAny isnotM := by
  intro α h H σ x y dx dy Q R hx hy p
  cases hx <;> cases hy <;> simp only [isnotM, isC] at p <;> first
    | exact False.elim p
    | (refine .inl ⟨rfl, ?_⟩; have := p α H _ .refl R (.bl _); simpa using this)
    | (refine .inr ⟨_, rfl, ?_⟩; have := p α H _ .refl R (.bl _); simpa using this)

/-! ### tests -/
/-- a test, by a mirror that gives a truth -/
abbrev tT (g : G) (W : WX) (m : EM) : TT := tB (tE g W m)
def andM (a b : EM) : EM := fun τ h => (a τ h).bind fun d h1 => match d with
  | .bl true => b τ h1
  | .bl false => .ok (.bl false) h1
  | _ => .bad
def orM (a b : EM) : EM := fun τ h => (a τ h).bind fun d h1 => match d with
  | .bl false => b τ h1
  | .bl true => .ok (.bl true) h1
  | _ => .bad
def notM (a : EM) : EM := fun τ h => (a τ h).bind fun d h1 => match d with
  | .bl b => .ok (.bl (!b)) h1
  | _ => .bad
def ifM (c a b : EM) : EM := fun τ h => (c τ h).bind fun d h1 => match d with
  | .bl true => a τ h1
  | .bl false => b τ h1
  | _ => .bad
/-- truth of a value -/
def truM (d : D) (h : AH) : EO := match d with
  | .non => .ok (.bl false) h
  | .bl b => .ok (.bl b) h
  | .int i => .ok (.bl (i != 0)) h
  | .tup xs => .ok (.bl (!xs.isEmpty)) h
  | .str y => if y.length ≤ sizeLine then .ok (.bl ((y.length : Int) != 0)) h else .bad
  | .ref l => match h[l]? with
    | some (.lst xs) => .ok (.bl (!xs.isEmpty)) h
    | some (.dct xs) => .ok (.bl (!xs.isEmpty)) h
    | _ => .bad
  | _ => .bad
theorem tE_start {f : D → AH → EO} (p : tE g W (fun τ h => (ma τ h).bind f) σ H Q) : tE g W ma σ H fun v H1 => ∃ α1 d h1 τ, Rep g α1 h1 H1 ∧ DenS g α1 H1 τ σ ∧ Den g α1 H1 d v ∧ PostE g W α1 H1 σ Q (f d h1) := by
  obtain ⟨α, h, τ, R, s, p⟩ := p
  refine ⟨α, h, τ, R, s, PostE.imp (PostE.bind p) ?_⟩
  rintro v H1 ⟨α1, d, h1, E1, R1, D1, p1⟩
  exact ⟨α1, d, h1, τ, R1, s.ext E1, D1, p1⟩
/-- .. where what follows leans on the slots too -/
theorem tE_startS {f : SL → D → AH → EO} (p : tE g W (fun τ h => (ma τ h).bind (f τ)) σ H Q) : tE g W ma σ H fun v H1 => ∃ α1 d h1 τ, Rep g α1 h1 H1 ∧ DenS g α1 H1 τ σ ∧ Den g α1 H1 d v ∧ PostE g W α1 H1 σ Q (f τ d h1) := by
  obtain ⟨α, h, τ, R, s, p⟩ := p
  refine ⟨α, h, τ, R, s, PostE.imp (PostE.bind p) ?_⟩
  rintro v H1 ⟨α1, d, h1, E1, R1, D1, p1⟩
  exact ⟨α1, d, h1, τ, R1, s.ext E1, D1, p1⟩
theorem tE_and (p : tE g W (andM ma mb) σ H Q) : tAndV (tE g W ma) (tE g W mb) σ H Q := by
  obtain ⟨α, h, τ, R, s, p⟩ := tE_startS (f := fun τ d h1 => match d with | .bl true => mb τ h1 | .bl false => .ok (.bl false) h1 | _ => .bad) p
  refine ⟨α, h, τ, R, s, PostE.imp p ?_⟩
  rintro v H1 ⟨α1, d, h1, τ1, R1, s1, D1, p1⟩
  cases D1 <;> try exact False.elim p1
  rename_i b
  refine ⟨b, rfl, ?_⟩
  cases b
  · exact iteF (p1 α1 H1 _ .refl R1 (.bl _))
  · exact iteT ⟨α1, h1, τ1, R1, s1, p1⟩
theorem tE_or (p : tE g W (orM ma mb) σ H Q) : tOrV (tE g W ma) (tE g W mb) σ H Q := by
  obtain ⟨α, h, τ, R, s, p⟩ := tE_startS (f := fun τ d h1 => match d with | .bl false => mb τ h1 | .bl true => .ok (.bl true) h1 | _ => .bad) p
  refine ⟨α, h, τ, R, s, PostE.imp p ?_⟩
  rintro v H1 ⟨α1, d, h1, τ1, R1, s1, D1, p1⟩
  cases D1 <;> try exact False.elim p1
  rename_i b
  refine ⟨b, rfl, ?_⟩
  cases b
  · exact iteF ⟨α1, h1, τ1, R1, s1, p1⟩
  · exact iteT (p1 α1 H1 _ .refl R1 (.bl _))
theorem tE_not (p : tE g W (notM ma) σ H Q) : tNotV (tE g W ma) σ H Q := by
  obtain ⟨α, h, τ, R, s, p⟩ := tE_start p
  refine ⟨α, h, τ, R, s, PostE.imp p ?_⟩
  rintro v H1 ⟨α1, d, h1, τ1, R1, s1, D1, p1⟩
  cases D1 <;> try exact False.elim p1
  rename_i b
  exact ⟨b, rfl, p1 α1 H1 _ .refl R1 (.bl _)⟩
theorem tT_if {Q : VK} (p : tE g W (ifM mc ma mb) σ H Q) : tIf (tT g W mc) (tE g W ma) (tE g W mb) σ H Q := by
  obtain ⟨α, h, τ, R, s, p⟩ := tE_startS (f := fun τ d h1 => match d with | .bl true => ma τ h1 | .bl false => mb τ h1 | _ => .bad) p
  refine ⟨α, h, τ, R, s, PostE.imp p ?_⟩
  rintro v H1 ⟨α1, d, h1, τ1, R1, s1, D1, p1⟩
  cases D1 <;> try exact False.elim p1
  rename_i b
  refine ⟨b, rfl, ?_⟩
  cases b
  · exact iteF ⟨α1, h1, τ1, R1, s1, p1⟩
  · exact iteT ⟨α1, h1, τ1, R1, s1, p1⟩
theorem de_and {rest : List Expr} (ha : PE X a (tE g W ma)) (hb : PE X (.BoolOp .And (b :: rest) pos) (tE g W mb)) : PE X (.BoolOp .And (a :: b :: rest) pos) (tE g W (andM ma mb)) := PE.imp (pe_and ha hb) fun _ _ _ => tE_and
theorem de_or {rest : List Expr} (ha : PE X a (tE g W ma)) (hb : PE X (.BoolOp .Or (b :: rest) pos) (tE g W mb)) : PE X (.BoolOp .Or (a :: b :: rest) pos) (tE g W (orM ma mb)) := PE.imp (pe_or ha hb) fun _ _ _ => tE_or
theorem de_not (ha : PE X a (tE g W ma)) : PE X (.UnaryOp .Not a pos) (tE g W (notM ma)) := PE.imp (pe_not ha) fun _ _ _ => tE_not
theorem de_if (hc : PT X c (tT g W mc)) (ha : PE X a (tE g W ma)) (hb : PE X b (tE g W mb)) : PE X (.IfExp c a b pos) (tE g W (ifM mc ma mb)) := PE.imp (pe_ifExp hc ha hb) fun _ _ _ => tT_if
theorem dt_val (ha : PE X a (tE g W ma)) (he : ∀ whole, isTrue a X.env whole = (do let v ← whole; standAt a.pos; holding [v] (truthy v)) := by intro _; rfl) : PT X a (tT g W ma) := pt_val ha he
/-- any value's truth -/
theorem dt_tru (ha : PE X a (tE g W ma)) (hK : g.K = X.K) (he : ∀ whole, isTrue a X.env whole = (do let v ← whole; standAt a.pos; holding [v] (truthy v)) := by intro _; rfl) : PT X a (tT g W (unM ma truM)) := by
  refine PT.imp (pt_truth ha he) fun σ H Q p => ?_
  obtain ⟨α, h, τ, R, s, p⟩ := tE_start (f := truM) p
  refine ⟨α, h, τ, R, s, PostE.imp p ?_⟩
  rintro v H1 ⟨α1, d, h1, τ1, R1, s1, D1, p1⟩
  have fin : ∀ {k : Bool}, PostE g W α1 H1 σ (fun x H' => ∃ c, x = V.bl c ∧ Q c H') (.ok (.bl k) h1) → Q k H1 := fun {k} p => by
    obtain ⟨c, e, q⟩ := p α1 H1 (.bl k) .refl R1 (.bl k)
    cases e
    exact q
  rw [← hK]
  cases D1 with
  | non => exact ⟨_, rfl, fin p1⟩
  | bl b => exact ⟨_, rfl, fin p1⟩
  | int i => exact ⟨_, rfl, fin p1⟩
  | str x =>
    simp only [truM] at p1
    split at p1
    · rename_i hl
      exact ⟨_, ⟨hl, rfl⟩, fin p1⟩
    · exact p1.elim
  | tup hs hl =>
    rename_i ds vs
    have e : (!ds.isEmpty) = !vs.isEmpty := by cases hl <;> rfl
    exact ⟨_, .inr (.inl ⟨_, hs, rfl⟩), by rw [← e]; exact fin p1⟩
  | ref hl =>
    simp only [truM] at p1
    split at p1
    · rename_i xs hx
      obtain ⟨vs, a1, a2⟩ := R1.ob _ _ _ hx hl
      have e : (!xs.isEmpty) = !vs.isEmpty := by cases a2 <;> rfl
      exact ⟨_, .inl ⟨_, SqL.of a1, rfl⟩, by rw [← e]; exact fin p1⟩
    · rename_i xs hx
      obtain ⟨ws, a1, a2, a3⟩ := R1.ob _ _ _ hx hl
      have e : (!xs.isEmpty) = !ws.isEmpty := by cases xs <;> cases ws <;> simp at a2 <;> rfl
      exact ⟨_, .inr (.inr ⟨_, a1, rfl⟩), by rw [← e]; exact fin p1⟩
    · exact p1.elim
  | con => exact p1.elim
  | fls _ _ => exact p1.elim
theorem tT_and {tA tB' : EM} {Q : Bool → Hp → Prop} (p : tT g W (andM tA tB') σ H Q) : tAnd (tT g W tA) (tT g W tB') σ H Q := by
  obtain ⟨α, h, τ, R, s, p⟩ := tE_startS (f := fun τ d h1 => match d with | .bl true => tB' τ h1 | .bl false => .ok (.bl false) h1 | _ => .bad) p
  refine ⟨α, h, τ, R, s, PostE.imp p ?_⟩
  rintro v H1 ⟨α1, d, h1, τ1, R1, s1, D1, p1⟩
  cases D1 <;> try exact False.elim p1
  rename_i b
  refine ⟨b, rfl, ?_⟩
  cases b
  · refine iteF ?_
    obtain ⟨c, e, q⟩ := p1 α1 H1 _ .refl R1 (.bl _)
    cases e
    exact q
  · exact iteT ⟨α1, h1, τ1, R1, s1, p1⟩
theorem tT_or {tA tB' : EM} {Q : Bool → Hp → Prop} (p : tT g W (orM tA tB') σ H Q) : tOr (tT g W tA) (tT g W tB') σ H Q := by
  obtain ⟨α, h, τ, R, s, p⟩ := tE_startS (f := fun τ d h1 => match d with | .bl false => tB' τ h1 | .bl true => .ok (.bl true) h1 | _ => .bad) p
  refine ⟨α, h, τ, R, s, PostE.imp p ?_⟩
  rintro v H1 ⟨α1, d, h1, τ1, R1, s1, D1, p1⟩
  cases D1 <;> try exact False.elim p1
  rename_i b
  refine ⟨b, rfl, ?_⟩
  cases b
  · exact iteF ⟨α1, h1, τ1, R1, s1, p1⟩
  · refine iteT ?_
    obtain ⟨c, e, q⟩ := p1 α1 H1 _ .refl R1 (.bl _)
    cases e
    exact q
theorem dw_and {rest : List Expr} (ha : PT X a (tT g W ma)) (hb : PW X (.BoolOp .And (b :: rest) pos) (tT g W mb)) : PW X (.BoolOp .And (a :: b :: rest) pos) (tT g W (andM ma mb)) :=
  ⟨fun wh pins s σ H Q I h => (pw_and ha hb).run wh pins s σ H Q I (tT_and h)⟩
theorem dw_or {rest : List Expr} (ha : PT X a (tT g W ma)) (hb : PW X (.BoolOp .Or (b :: rest) pos) (tT g W mb)) : PW X (.BoolOp .Or (a :: b :: rest) pos) (tT g W (orM ma mb)) :=
  ⟨fun wh pins s σ H Q I h => (pw_or ha hb).run wh pins s σ H Q I (tT_or h)⟩
theorem dt_not (ha : PT X a (tT g W ma)) : PT X (.UnaryOp .Not a pos) (tT g W (notM ma)) := by
  refine PT.imp (pt_not ha) fun σ H Q p => ?_
  obtain ⟨α, h, τ, R, s, p⟩ := tE_start p
  refine ⟨α, h, τ, R, s, PostE.imp p ?_⟩
  rintro v H1 ⟨α1, d, h1, τ1, R1, s1, D1, p1⟩
  cases D1 <;> try exact False.elim p1
  rename_i b
  obtain ⟨c, e, q⟩ := p1 α1 H1 _ .refl R1 (.bl _)
  cases e
  exact ⟨b, rfl, q⟩
/-- a test that is a comparison -/
theorem dt_cmp {op : CmpOp} {r : R2} {f : D → D → AH → EO} (ho : OpR X (compareOp op) r) (rs : RS2 g W r f) (ha : PE X a (tE g W ma)) (hb : PE X b (tE g W mb)) (hm : behindInMarks op b = false) : PT X (.Compare a [op] [b] pos) (tT g W (binM ma mb f)) :=
  PT.imp (pt_cmpR ho ha hb hm) fun _ _ _ p => tE_bin rs p
/-- a < b < c -/
def chainM (a b c : EM) (f f' : D → D → AH → EO) : EM := fun τ h => (a τ h).bind fun x h1 => (b τ h1).bind fun y h2 => (f x y h2).bind fun d h3 => match d with
  | .bl true => (c τ h3).bind fun z h4 => f' y z h4
  | .bl false => .ok (.bl false) h3
  | _ => .bad
theorem tE_chain {r r' : R2} {f f' : D → D → AH → EO} (rs : RS2 g W r f) (rs' : RS2 g W r' f') (p : tE g W (chainM ma mb mc f f') σ H Q) : tChain r r' (tE g W ma) (tE g W mb) (tE g W mc) σ H Q := by
  obtain ⟨α, h, τ, R, s, p⟩ := p
  refine ⟨α, h, τ, R, s, PostE.imp (PostE.bind p) ?_⟩
  rintro v H1 ⟨α1, d, h1, E1, R1, D1, p1⟩
  refine ⟨α1, h1, τ, R1, s.ext E1, PostE.imp (PostE.bind p1) ?_⟩
  rintro w H2 ⟨α2, d2, h2, E2, R2, D2, p2⟩
  refine rs α2 h2 H2 σ v w d d2 _ R2 (Den.ext E2 _ _ D1) D2 (PostE.imp (PostE.bind p2) ?_)
  rintro z H3 ⟨α3, d3, h3, E3, R3, D3, p3⟩
  cases D3 <;> try exact False.elim p3
  rename_i b
  refine ⟨b, rfl, ?_⟩
  cases b
  · exact iteF (p3 α3 H3 _ .refl R3 (.bl _))
  · refine iteT ⟨α3, h3, τ, R3, ((s.ext E1).ext E2).ext E3, PostE.imp (PostE.bind p3) ?_⟩
    rintro y H4 ⟨α4, d4, h4, E4, R4, D4, p4⟩
    exact rs' α4 h4 H4 σ w y d2 d4 Q R4 (Den.ext E4 _ _ (Den.ext E3 _ _ D2)) D4 p4
theorem de_chain {op op' : CmpOp} {r r' : R2} {f f' : D → D → AH → EO} (ho : OpR X (compareOp op) r) (ho' : OpR X (compareOp op') r') (rs : RS2 g W r f) (rs' : RS2 g W r' f') (ha : PE X a (tE g W ma)) (hb : PE X b (tE g W mb)) (hc : PE X c (tE g W mc))
    (hm : lastMarks [op, op'] [b, c] = false := by with_unfolding_all rfl) : PE X (.Compare a [op, op'] [b, c] pos) (tE g W (chainM ma mb mc f f')) :=
  PE.imp (pe_chain ho ho' ha hb hc hm) fun _ _ _ => tE_chain rs rs'
theorem dt_chain {op op' : CmpOp} {r r' : R2} {f f' : D → D → AH → EO} (ho : OpR X (compareOp op) r) (ho' : OpR X (compareOp op') r') (rs : RS2 g W r f) (rs' : RS2 g W r' f') (ha : PE X a (tE g W ma)) (hb : PE X b (tE g W mb)) (hc : PE X c (tE g W mc))
    (hm : lastMarks [op, op'] [b, c] = false := by with_unfolding_all rfl) : PT X (.Compare a [op, op'] [b, c] pos) (tT g W (chainM ma mb mc f f')) :=
  PT.imp (pt_chain ho ho' ha hb hc hm) fun _ _ _ p => tE_chain rs rs' p
end
end DD
end

section
set_option Elab.async false
set_option linter.all false
set_option maxRecDepth 100000
namespace DD
open PySem L2
open PyProof.Rows (b2i)

/-! ### items, slices -/
def itM : D → D → AH → EO
  | .tup xs, .int i, h => match atI xs i with
    | some d => .ok d h
    | none => .bad
  | .str z, .int i, h => if z.length ≤ sizeLine then match atI z.cps.toList i with
    | some c => .ok (.str ⟨#[c]⟩) h
    | none => .bad else .bad
  | .ref l, .int i, h => match h[l]? with
    | some (.lst xs) => match atI xs i with
      | some d => .ok d h
      | none => .bad
    | _ => .bad
  | _, _, _ => .bad
def cutL {β : Type} (xs : List β) (lo hi : Option Int) : List β := (xs.drop (HT.sIx xs.length 0 lo)).take (HT.sIx xs.length xs.length hi - HT.sIx xs.length 0 lo)
def sliceM : D → Option Int → Option Int → AH → EO
  | .tup xs, lo, hi, h => .ok (.tup (cutL xs lo hi)) h
  | .fls xs, lo, hi, h => .ok (.ref h.length) (h ++ [.lst (cutL xs lo hi)])
  | .ref l, lo, hi, h => match h[l]? with
    | some (.lst xs) => .ok (.ref h.length) (h ++ [.lst (cutL xs lo hi)])
    | _ => .bad
  | _, _, _, _ => .bad
section
variable {X : Cx} {g : G} {W : WX} {a b c e : Expr} {ma mb mc : EM} {pos : Pos} {σ : St} {H : Hp} {Q : VK}
theorem DenL.atI {α : List Addr} {ds : List D} {vs : List V} {i : Int} {d : D} (h : DenL g α H ds vs) (q : atI ds i = some d) : ∃ v, L2.atI vs i = some v ∧ Den g α H d v := by
  unfold L2.atI at q ⊢
  rw [h.length] at q
  cases e : ixN vs.length i with
  | none => rw [e] at q; cases q
  | some j =>
    rw [e] at q
    obtain ⟨v, h1, h2⟩ := h.get (show ds[j]? = some d from q)
    exact ⟨v, h1, h2⟩
theorem rs_it : RS2 g W (rIx g.K) itM := by
  intro α h H σ x y dx dy Q R hx hy p
  cases hx <;> cases hy <;> try exact False.elim p
  · rename_i z i
    simp only [itM] at p
    split at p
    · rename_i hz
      split at p
      · rename_i c hc
        exact .inr (.inr ⟨z, i, c, rfl, rfl, hz, hc, p α H _ .refl R (.str _)⟩)
      · exact p.elim
    · exact p.elim
  · rename_i a ds vs hs hl i
    simp only [itM] at p
    split at p
    · rename_i d hd
      obtain ⟨v, h1, h2⟩ := hl.atI hd
      exact .inr (.inl ⟨a, vs, i, v, rfl, rfl, hs, h1, p α H _ .refl R h2⟩)
    · exact p.elim
  · rename_i l a hl i
    simp only [itM] at p
    split at p
    · rename_i xs hx
      split at p
      · rename_i d hd
        obtain ⟨vs, a1, a2⟩ := R.ob _ _ _ hx hl
        obtain ⟨v, h1, h2⟩ := a2.atI hd
        exact .inl ⟨a, vs, i, v, rfl, rfl, SqL.of a1, h1, p α H _ .refl R h2⟩
      · exact p.elim
    · exact p.elim
theorem DenL.cut {α : List Addr} {ds : List D} {vs : List V} {lo hi : Option Int} (h : DenL g α H ds vs) : DenL g α H (cutL ds lo hi) (cutV vs lo hi) := by
  unfold cutL cutV
  rw [h.length]
  exact (h.drop _).take _
def rSlAny (K : PySem.W.Frag) : V → Option Int → Option Int → Hp → VK → Prop := fun x lo hi H Q => rSlA K x lo hi H Q ∨ rSlL K x lo hi H Q
theorem sl_any : SlR X (rSlAny X.K) := SlR.or sl_tupA sl_list
theorem whole_cut {xs : List V} {lo hi : Option Int} (h : HT.sIx xs.length 0 lo = 0 ∧ HT.sIx xs.length xs.length hi = xs.length) : cutV xs lo hi = xs := by
  unfold cutV
  rw [h.1, h.2, List.drop_zero, Nat.sub_zero, List.take_length]
/-- the bounds of a slice -/
inductive OM where
  | none | some (m : EM)
def OM.run : OM → SL → AH → (Option Int → AH → EO) → EO
  | .none, _, h, f => f Option.none h
  | .some m, τ, h, f => (m τ h).bind fun d h1 => match d with
    | .int i => f (Option.some i) h1
    | _ => .bad
def slM (a : EM) (lo hi : OM) : EM := fun τ h => (a τ h).bind fun x h1 => lo.run τ h1 fun l h2 => hi.run τ h2 fun u h3 => sliceM x l u h3
def tO (g : G) (W : WX) : OM → TO
  | .none => tNoPart
  | .some m => tPart (tE g W m)
theorem tO_run {o : OM} {f : Option Int → AH → EO} {α : List Addr} {h : AH} {τ : SL} (R : Rep g α h H) (s : DenS g α H τ σ) (p : PostE g W α H σ Q (o.run τ h f)) :
    tO g W o σ H fun i H1 => ∃ α1 h1, Ext α H α1 H1 ∧ Rep g α1 h1 H1 ∧ PostE g W α1 H1 σ Q (f i h1) := by
  cases o with
  | none => exact ⟨α, h, .refl, R, p⟩
  | some m =>
    refine ⟨α, h, τ, R, s, PostE.imp (PostE.bind p) ?_⟩
    rintro v H1 ⟨α1, d, h1, E1, R1, D1, p1⟩
    cases D1 <;> try exact False.elim p1
    exact ⟨_, rfl, α1, h1, E1, R1, p1⟩
theorem TO.imp_of {g : G} {W : WX} {o : OM} {Q Q' : Option Int → Hp → Prop} (p : tO g W o σ H Q) (k : ∀ i H1, Q i H1 → Q' i H1) : tO g W o σ H Q' := by
  cases o with
  | none => exact k _ _ p
  | some m =>
    obtain ⟨α, h, τ, R, s, p⟩ := p
    exact ⟨α, h, τ, R, s, PostE.imp p fun v H1 ⟨i, e, q⟩ => ⟨i, e, k _ _ q⟩⟩
theorem de_slice {lo hi : Option Expr} {ol oh : OM} {p2 : Pos} (hK : g.K = X.K) (ha : PE X a (tE g W ma)) (hl : PO X lo (tO g W ol)) (hh : PO X hi (tO g W oh)) : PE X (.Subscript a (.Slice lo hi none p2) pos) (tE g W (slM ma ol oh)) := by
  refine PE.imp (pe_slice sl_any ha hl hh) fun σ H Q p => ?_
  obtain ⟨α, h, τ, R, s, p⟩ := p
  refine ⟨α, h, τ, R, s, PostE.imp (PostE.bind p) ?_⟩
  rintro v H1 ⟨α1, d, h1, E1, R1, D1, p1⟩
  refine TO.imp_of (tO_run R1 (s.ext E1) p1) ?_
  rintro l H2 ⟨α2, h2, E2, R2, p2⟩
  refine TO.imp_of (tO_run R2 ((s.ext E1).ext E2) p2) ?_
  rintro u H3 ⟨α3, h3, E3, R3, p3⟩
  have D3 := Den.ext E3 _ _ (Den.ext E2 _ _ D1)
  rw [← hK]
  cases D3 <;> try exact False.elim p3
  · rename_i a ds vs hs hl
    refine .inl ⟨a, vs, rfl, hs, fun w => ?_, fun w z hz => ?_⟩
    · refine p3 α3 H3 _ .refl R3 (.tup hs ?_)
      have := hl.cut (lo := l) (hi := u)
      rw [whole_cut w] at this
      exact this
    · exact p3 α3 _ _ (Ext.new hz) (R3.new hz) (.tup (SqT.of upd_same) (DenL.ext (Ext.new hz) _ _ hl.cut))
  · rename_i i a hl
    simp only [sliceM] at p3
    split at p3
    · rename_i xs hx
      obtain ⟨vs, a1, a2⟩ := R3.ob _ _ _ hx hl
      refine .inr ⟨a, vs, rfl, SqL.of a1, fun z hz => ?_⟩
      have E := (Ext.new (u := .lst (cutV vs l u)) hz).trans (Ext.app (α := α3) [z])
      obtain ⟨R', E'⟩ := R3.push hz (o := .lst (cutL xs l u)) (u := .lst (cutV vs l u)) ⟨_, upd_same, DenL.ext E _ _ a2.cut⟩
      exact p3 _ _ _ E' R' (.ref (by rw [← R3.len]; simp))
    · exact p3.elim
  · rename_i a ds vs hs hl
    refine .inr ⟨a, vs, rfl, hs.seq, fun z hz => ?_⟩
    have E := (Ext.new (u := .lst (cutV vs l u)) hz).trans (Ext.app (α := α3) [z])
    obtain ⟨R', E'⟩ := R3.push hz (o := .lst (cutL ds l u)) (u := .lst (cutV vs l u)) ⟨_, upd_same, DenL.ext E _ _ hl.cut⟩
    exact p3 _ _ _ E' R' (.ref (by rw [← R3.len]; simp))
theorem do_none : PO X none (tO g W .none) := po_none
theorem do_some (ha : PE X a (tE g W ma)) : PO X (some a) (tO g W (.some ma)) := po_some ha

/-! ### argument lists -/
inductive LO where
  | ok (ds : List D) (h : AH) | exc (c : Nat) (h : AH) | bad
abbrev LM := SL → AH → LO
def PostL (g : G) (W : WX) (α : List Addr) (H : Hp) (σ : St) (Q : List V → Hp → Prop) : LO → Prop
  | .ok ds h' => ∀ α' H' vs, Ext α H α' H' → Rep g α' h' H' → DenL g α' H' ds vs → Q vs H'
  | .exc c h' => ∀ α' H', Ext α H α' H' → Rep g α' h' H' → W (.ref (g.cl c)) none σ H'
  | .bad => False
def tL (g : G) (W : WX) (m : LM) : TA := fun σ H Q => ∃ α h τ, Rep g α h H ∧ DenS g α H τ σ ∧ PostL g W α H σ Q (m τ h)
def EO.bindL : EO → (D → AH → LO) → LO
  | .ok d h, f => f d h
  | .exc c h, _ => .exc c h
  | .bad, _ => .bad
def LO.bind : LO → (List D → AH → LO) → LO
  | .ok d h, f => f d h
  | .exc c h, _ => .exc c h
  | .bad, _ => .bad
def LO.bindE : LO → (List D → AH → EO) → EO
  | .ok d h, f => f d h
  | .exc c h, _ => .exc c h
  | .bad, _ => .bad
theorem PostL.mono {α α' : List Addr} {H' : Hp} {o : LO} {Q : List V → Hp → Prop} (p : PostL g W α H σ Q o) (e : Ext α H α' H') : PostL g W α' H' σ Q o := by
  cases o with
  | ok d h => exact fun α2 H2 v e2 r d => p α2 H2 v (e.trans e2) r d
  | exc c h => exact fun α2 H2 e2 r => p α2 H2 (e.trans e2) r
  | bad => exact p
theorem PostL.imp {α : List Addr} {o : LO} {Q Q' : List V → Hp → Prop} (p : PostL g W α H σ Q o) (k : ∀ v H', Q v H' → Q' v H') : PostL g W α H σ Q' o := by
  cases o with
  | ok d h => exact fun α2 H2 v e2 r d => k _ _ (p α2 H2 v e2 r d)
  | exc c h => exact p
  | bad => exact p
theorem PostE.bindL {α : List Addr} {o : EO} {f : D → AH → LO} {Q : List V → Hp → Prop} (p : PostL g W α H σ Q (o.bindL f)) :
    PostE g W α H σ (fun v H1 => ∃ α1 d h1, Ext α H α1 H1 ∧ Rep g α1 h1 H1 ∧ Den g α1 H1 d v ∧ PostL g W α1 H1 σ Q (f d h1)) o := by
  cases o with
  | ok d h => exact fun α2 H2 v e2 r dd => ⟨α2, d, h, e2, r, dd, PostL.mono p e2⟩
  | exc c h => exact p
  | bad => exact p
theorem PostL.bind {α : List Addr} {o : LO} {f : List D → AH → LO} {Q : List V → Hp → Prop} (p : PostL g W α H σ Q (o.bind f)) :
    PostL g W α H σ (fun vs H1 => ∃ α1 ds h1, Ext α H α1 H1 ∧ Rep g α1 h1 H1 ∧ DenL g α1 H1 ds vs ∧ PostL g W α1 H1 σ Q (f ds h1)) o := by
  cases o with
  | ok d h => exact fun α2 H2 v e2 r dd => ⟨α2, d, h, e2, r, dd, PostL.mono p e2⟩
  | exc c h => exact p
  | bad => exact p
theorem PostL.bindE {α : List Addr} {o : LO} {f : List D → AH → EO} {Q : VK} (p : PostE g W α H σ Q (o.bindE f)) :
    PostL g W α H σ (fun vs H1 => ∃ α1 ds h1, Ext α H α1 H1 ∧ Rep g α1 h1 H1 ∧ DenL g α1 H1 ds vs ∧ PostE g W α1 H1 σ Q (f ds h1)) o := by
  cases o with
  | ok d h => exact fun α2 H2 v e2 r dd => ⟨α2, d, h, e2, r, dd, PostE.mono p e2⟩
  | exc c h => exact p
  | bad => exact p
def nilM : LM := fun _ h => .ok [] h
def consM (a : EM) (r : LM) : LM := fun τ h => (a τ h).bindL fun d h1 => (r τ h1).bind fun ds h2 => .ok (d :: ds) h2
theorem PA.imp {es : List Expr} {t t' : TA} (h : PA X es t) (k : ∀ σ H Q, t' σ H Q → t σ H Q) : PA X es t' :=
  ⟨fun pos pins s σ H Q I q => h.run pos pins s σ H Q I (k σ H Q q)⟩
theorem dl_nil : PA X [] (tL g W nilM) := PA.imp pa_nil fun σ H Q ⟨α, h, τ, R, s, p⟩ => p α H _ .refl R .nil
theorem dl_cons {es : List Expr} {mr : LM} (ha : PE X a (tE g W ma)) (hr : PA X es (tL g W mr)) (hs : starEach (a :: es) X.env = (false, eval a X.env) :: starEach es X.env := by rfl) : PA X (a :: es) (tL g W (consM ma mr)) := by
  refine PA.imp (pa_cons ha hr hs) fun σ H Q p => ?_
  obtain ⟨α, h, τ, R, s, p⟩ := p
  refine ⟨α, h, τ, R, s, PostE.imp (PostE.bindL p) ?_⟩
  rintro v H1 ⟨α1, d, h1, E1, R1, D1, p1⟩
  refine ⟨α1, h1, τ, R1, s.ext E1, PostL.imp (PostL.bind p1) ?_⟩
  rintro vs H2 ⟨α2, ds, h2, E2, R2, D2, p2⟩
  exact p2 α2 H2 _ .refl R2 (.cons (Den.ext E2 _ _ D1) D2)
def tupM (m : LM) : EM := fun τ h => (m τ h).bindE fun ds h1 => if ds.length ≤ sizeLine then .ok (.tup ds) h1 else .bad
def lstM (m : LM) : EM := fun τ h => (m τ h).bindE fun ds h1 => if ds.length ≤ sizeLine then .ok (.ref h1.length) (h1 ++ [.lst ds]) else .bad
theorem new_list {α : List Addr} {h : AH} {ds : List D} {vs : List V} {z : Addr} (R : Rep g α h H) (d : DenL g α H ds vs) (hz : H z = none) :
    Rep g (α ++ [z]) (h ++ [.lst ds]) (upd H z (.lst vs)) ∧ Ext α H (α ++ [z]) (upd H z (.lst vs)) ∧ Den g (α ++ [z]) (upd H z (.lst vs)) (.ref h.length) (.ref z) := by
  have E := (Ext.new (u := .lst vs) hz).trans (Ext.app (α := α) [z])
  obtain ⟨R', E'⟩ := R.push hz (o := .lst ds) (u := .lst vs) ⟨_, upd_same, DenL.ext E _ _ d⟩
  exact ⟨R', E', .ref (by rw [← R.len]; simp)⟩
theorem new_tup {α : List Addr} {h : AH} {ds : List D} {vs : List V} {z : Addr} (R : Rep g α h H) (d : DenL g α H ds vs) (hz : H z = none) :
    Rep g α h (upd H z (.tup vs)) ∧ Ext α H α (upd H z (.tup vs)) ∧ Den g α (upd H z (.tup vs)) (.tup ds) (.ref z) :=
  ⟨R.new hz, Ext.new hz, .tup (SqT.of upd_same) (DenL.ext (Ext.new hz) _ _ d)⟩
theorem de_tup {es : List Expr} {m : LM} {x1} (hl : PA X es (tL g W m)) : PE X (.Tuple es x1 pos) (tE g W (tupM m)) := by
  refine PE.imp (pe_tup hl) fun σ H Q p => ?_
  obtain ⟨α, h, τ, R, s, p⟩ := p
  refine ⟨α, h, τ, R, s, PostL.imp (PostL.bindE p) ?_⟩
  rintro vs H1 ⟨α1, ds, h1, E1, R1, D1, p1⟩
  split at p1
  · rename_i hl
    refine ⟨by rw [← D1.length]; exact hl, fun z hz => ?_⟩
    obtain ⟨a1, a2, a3⟩ := new_tup R1 D1 hz
    exact p1 _ _ _ a2 a1 a3
  · exact p1.elim
theorem de_lst {es : List Expr} {m : LM} (hl : PA X es (tL g W m)) : PE X (.List es pos) (tE g W (lstM m)) := by
  refine PE.imp (pe_lst hl) fun σ H Q p => ?_
  obtain ⟨α, h, τ, R, s, p⟩ := p
  refine ⟨α, h, τ, R, s, PostL.imp (PostL.bindE p) ?_⟩
  rintro vs H1 ⟨α1, ds, h1, E1, R1, D1, p1⟩
  split at p1
  · rename_i hl
    refine ⟨by rw [← D1.length]; exact hl, fun z hz => ?_⟩
    obtain ⟨a1, a2, a3⟩ := new_list R1 D1 hz
    exact p1 _ _ _ a2 a1 a3
  · exact p1.elim

/-! ### built-in functions -/
def RSn (g : G) (W : WX) (r : List V → Hp → VK → Prop) (f : List D → AH → EO) : Prop :=
  ∀ (α : List Addr) (h : AH) (H : Hp) (σ : St) (vs : List V) (ds : List D) (Q : VK), Rep g α h H → DenL g α H ds vs → PostE g W α H σ Q (f ds h) → r vs H Q
def callM (m : LM) (f : List D → AH → EO) : EM := fun τ h => (m τ h).bindE f
theorem tL_call {r : List V → Hp → VK → Prop} {f : List D → AH → EO} {m : LM} (rs : RSn g W r f) (p : tE g W (callM m f) σ H Q) : tCB r (tL g W m) σ H Q := by
  obtain ⟨α, h, τ, R, s, p⟩ := p
  refine ⟨α, h, τ, R, s, PostL.imp (PostL.bindE p) ?_⟩
  rintro vs H1 ⟨α1, ds, h1, E1, R1, D1, p1⟩
  exact rs α1 h1 H1 σ vs ds Q R1 D1 p1
theorem de_callB {r : List V → Hp → VK → Prop} {f : List D → AH → EO} {m : LM} {id : String} {x : Str} {p : Pos} {es : List Expr} (hc : CallR X (.builtin id) r) (rs : RSn g W r f) (hg : Gl X x) (hm : X.mg x = none) (hv : bootBuiltins x = some (.builtin id)) (ha : PA X (e :: es) (tL g W m)) (hn : x ≠ "__name__" := by decide) (hdb : (x == ("__debug__" : Str)) = false := by decide)
    (he : starEach (e :: es) X.env = (false, eval e X.env) :: starEach es X.env := by rfl) (hpl : (backTo pos (starEach es X.env)).any (·.1) = false := by rfl) : PE X (.Call (.Name x p) (e :: es) [] pos) (tE g W (callM m f)) :=
  PE.imp (pe_callB hc hg hm hv ha hn hdb he hpl) fun _ _ _ => tL_call rs
theorem de_callTy {r : List V → Hp → VK → Prop} {f : List D → AH → EO} {m : LM} {T : String} {x : Str} {p : Pos} {es : List Expr} (hc : CallR X (.type T) r) (rs : RSn g W r f) (hg : Gl X x) (hm : X.mg x = none) (hv : bootBuiltins x = some (.type T)) (ha : PA X (e :: es) (tL g W m)) (hn : x ≠ "__name__" := by decide) (hdb : (x == ("__debug__" : Str)) = false := by decide)
    (he : starEach (e :: es) X.env = (false, eval e X.env) :: starEach es X.env := by rfl) (hpl : (backTo pos (starEach es X.env)).any (·.1) = false := by rfl) : PE X (.Call (.Name x p) (e :: es) [] pos) (tE g W (callM m f)) :=
  PE.imp (pe_callTy hc hg hm hv ha hn hdb he hpl) fun _ _ _ => tL_call rs
/-- len -/
def lenF : List D → AH → EO
  | [.str z], h => if z.length ≤ sizeLine then .ok (.int z.length) h else .bad
  | [.tup xs], h => .ok (.int xs.length) h
  | [.ref l], h => match h[l]? with
    | some (.lst xs) => .ok (.int xs.length) h
    | some (.dct xs) => .ok (.int xs.length) h
    | _ => .bad
  | _, _ => .bad
def rLenAny (K : PySem.W.Frag) : List V → Hp → VK → Prop := fun xs H Q => (∃ x n, xs = [x] ∧ LenV K x H n ∧ Q (.int n) H) ∨ (∃ a kvs, xs = [V.ref a] ∧ H a = some (.dK kvs) ∧ Q (.int kvs.length) H)
theorem call_lenAny : CallR X (.builtin "len") (rLenAny X.K) := CallR.or call_len call_lenD
theorem rs_len : RSn g W (rLenAny g.K) lenF := by
  intro α h H σ vs ds Q R hd p
  cases hd with
  | nil => exact p.elim
  | cons h1 h2 =>
    cases h2 with
    | cons _ _ => cases h1 <;> exact False.elim p
    | nil =>
      cases h1 <;> try exact False.elim p
      · simp only [lenF] at p
        split at p
        · rename_i hz
          exact .inl ⟨_, _, rfl, ⟨hz, rfl⟩, p α H _ .refl R (.int _)⟩
        · exact p.elim
      · rename_i hs hl
        exact .inl ⟨_, _, rfl, .inr ⟨_, hs, rfl⟩, p α H _ .refl R (by rw [hl.length]; exact .int _)⟩
      · rename_i l a hl
        simp only [lenF] at p
        split at p
        · rename_i xs hx
          obtain ⟨vs, a1, a2⟩ := R.ob _ _ _ hx hl
          exact .inl ⟨_, _, rfl, .inl ⟨_, SqL.of a1, rfl⟩, p α H _ .refl R (by rw [a2.length]; exact .int _)⟩
        · rename_i xs hx
          obtain ⟨ws, a1, a2, a3⟩ := R.ob _ _ _ hx hl
          have e : xs.length = ws.length := by have := congrArg List.length a2; simpa using this.symm
          exact .inr ⟨_, _, rfl, a1, p α H _ .refl R (by rw [e]; exact .int _)⟩
        · exact p.elim
/-- abs, int -/
def absF : List D → AH → EO
  | [.int i], h => .ok (.int (if i < 0 then -i else i)) h
  | _, _ => .bad
def intF : List D → AH → EO
  | [.int i], h => .ok (.int i) h
  | [.bl k], h => .ok (.int (if k then 1 else 0)) h
  | _, _ => .bad
theorem rs_abs : RSn g W (fun xs H Q => ∃ i, xs = [.int i] ∧ Q (.int (if i < 0 then -i else i)) H) absF := by
  intro α h H σ vs ds Q R hd p
  cases hd with
  | nil => exact p.elim
  | cons h1 h2 =>
    cases h2 with
    | cons _ _ => cases h1 <;> exact False.elim p
    | nil =>
      cases h1 <;> try exact False.elim p
      exact ⟨_, rfl, p α H _ .refl R (.int _)⟩
theorem rs_int : RSn g W (fun xs H Q => (∃ i, xs = [.int i] ∧ Q (.int i) H) ∨ ∃ k, xs = [.bl k] ∧ Q (.int (if k then 1 else 0)) H) intF := by
  intro α h H σ vs ds Q R hd p
  cases hd with
  | nil => exact p.elim
  | cons h1 h2 =>
    cases h2 with
    | cons _ _ => cases h1 <;> exact False.elim p
    | nil =>
      cases h1 <;> try exact False.elim p
      · exact .inr ⟨_, rfl, p α H _ .refl R (.int _)⟩
      · exact .inl ⟨_, rfl, p α H _ .refl R (.int _)⟩
/-- min, max of two -/
def maxF : List D → AH → EO
  | [.int i, .int j], h => .ok (.int (if j > i then j else i)) h
  | _, _ => .bad
def minF : List D → AH → EO
  | [.int i, .int j], h => .ok (.int (if j < i then j else i)) h
  | _, _ => .bad
theorem rs_max2 : RSn g W (fun xs H Q => ∃ i j, xs = [.int i, .int j] ∧ Q (.int (if j > i then j else i)) H) maxF := by
  intro α h H σ vs ds Q R hd p
  cases hd with
  | nil => exact p.elim
  | cons h1 h2 =>
    cases h2 with
    | nil => cases h1 <;> exact False.elim p
    | cons h2 h3 =>
      cases h3 with
      | cons _ _ => cases h1 <;> cases h2 <;> exact False.elim p
      | nil =>
        cases h1 <;> cases h2 <;> try exact False.elim p
        exact ⟨_, _, rfl, p α H _ .refl R (.int _)⟩
theorem rs_min2 : RSn g W (fun xs H Q => ∃ i j, xs = [.int i, .int j] ∧ Q (.int (if j < i then j else i)) H) minF := by
  intro α h H σ vs ds Q R hd p
  cases hd with
  | nil => exact p.elim
  | cons h1 h2 =>
    cases h2 with
    | nil => cases h1 <;> exact False.elim p
    | cons h2 h3 =>
      cases h3 with
      | cons _ _ => cases h1 <;> cases h2 <;> exact False.elim p
      | nil =>
        cases h1 <;> cases h2 <;> try exact False.elim p
        exact ⟨_, _, rfl, p α H _ .refl R (.int _)⟩
/-- tuple(x), list(x) -/
def tupF (d : D) (h : AH) : EO := match d with
  | .tup xs => .ok (.tup xs) h
  | .ref l => match h[l]? with
    | some (.lst xs) => .ok (.tup xs) h
    | _ => .bad
  | _ => .bad
theorem de_tuple {p pos : Pos} (hK : g.K = X.K) (hg : Gl X "tuple") (hm : X.mg "tuple" = none) (ha : PE X a (tE g W ma)) (na : starEach [a] X.env = (false, eval a X.env) :: starEach [] X.env := by rfl) :
    PE X (.Call (.Name "tuple" p) [a] [] pos) (tE g W (unM ma tupF)) := by
  refine PE.imp (pe_tupleOf hg hm ha na) fun σ H Q p => ?_
  obtain ⟨α, h, τ, R, s, p⟩ := tE_start (f := tupF) p
  refine ⟨α, h, τ, R, s, PostE.imp p ?_⟩
  rintro v H1 ⟨α1, d, h1, τ1, R1, s1, D1, p1⟩
  rw [← hK]
  cases D1 <;> try exact False.elim p1
  · rename_i hs hl
    exact .inr ⟨_, _, rfl, hs, p1 α1 H1 _ .refl R1 (.tup hs hl)⟩
  · rename_i l a hl
    simp only [tupF] at p1
    split at p1
    · rename_i xs hx
      obtain ⟨vs, a1, a2⟩ := R1.ob _ _ _ hx hl
      refine .inl ⟨_, _, rfl, SqL.of a1, fun q hq => ?_⟩
      obtain ⟨b1, b2, b3⟩ := new_tup R1 a2 hq
      exact p1 _ _ _ b2 b1 b3
    · exact p1.elim
def listF : List D → AH → EO
  | [.tup xs], h => .ok (.ref h.length) (h ++ [.lst xs])
  | [.ref l], h => match h[l]? with
    | some (.lst xs) => .ok (.ref h.length) (h ++ [.lst xs])
    | _ => .bad
  | _, _ => .bad
theorem rs_list : RSn g W (fun xs H Q => ∃ p ys, xs = [.ref p] ∧ (SqL g.K H p ys ∨ SqT g.K H p ys) ∧ ∀ l, H l = none → Q (.ref l) (upd H l (.lst ys))) listF := by
  intro α h H σ vs ds Q R hd p
  cases hd with
  | nil => exact p.elim
  | cons h1 h2 =>
    cases h2 with
    | cons _ _ => cases h1 <;> exact False.elim p
    | nil =>
      cases h1 <;> try exact False.elim p
      · rename_i hs hl
        refine ⟨_, _, rfl, .inr hs, fun q hq => ?_⟩
        obtain ⟨b1, b2, b3⟩ := new_list R hl hq
        exact p _ _ _ b2 b1 b3
      · rename_i l a hl
        simp only [listF] at p
        split at p
        · rename_i xs hx
          obtain ⟨vs, a1, a2⟩ := R.ob _ _ _ hx hl
          refine ⟨_, _, rfl, .inl (SqL.of a1), fun q hq => ?_⟩
          obtain ⟨b1, b2, b3⟩ := new_list R a2 hq
          exact p _ _ _ b2 b1 b3
        · exact p.elim
/-- any, all of a list of truths -/
def blsOf : List D → Option (List Bool)
  | [] => some []
  | .bl b :: r => (blsOf r).map (b :: ·)
  | _ :: _ => none
theorem blsOf_den {α : List Addr} : ∀ {ds : List D} {vs : List V} {bs : List Bool}, DenL g α H ds vs → blsOf ds = some bs → vs = bs.map V.bl
  | [], _, _, h, q => by cases h; cases q; rfl
  | d :: ds, _, bs, h, q => by
    cases h with
    | cons h1 h2 =>
      cases h1 <;> simp only [blsOf, reduceCtorEq] at q
      simp only [Option.map_eq_some_iff] at q
      obtain ⟨r, q1, rfl⟩ := q
      rw [blsOf_den h2 q1]
      rfl
def anyF : List D → AH → EO
  | [.ref l], h => match h[l]? with
    | some (.lst xs) => match blsOf xs with
      | some bs => .ok (.bl (bs.any id)) h
      | none => .bad
    | _ => .bad
  | _, _ => .bad
def allF : List D → AH → EO
  | [.ref l], h => match h[l]? with
    | some (.lst xs) => match blsOf xs with
      | some bs => .ok (.bl (bs.all id)) h
      | none => .bad
    | _ => .bad
  | _, _ => .bad
theorem rs_any : RSn g W (rAny g.K) anyF := by
  intro α h H σ vs ds Q R hd p
  cases hd with
  | nil => exact p.elim
  | cons h1 h2 =>
    cases h2 with
    | cons _ _ => cases h1 <;> exact False.elim p
    | nil =>
      cases h1 <;> try exact False.elim p
      rename_i l a hl
      simp only [anyF] at p
      split at p
      · rename_i xs hx
        obtain ⟨vs, a1, a2⟩ := R.ob _ _ _ hx hl
        split at p
        · rename_i bs hb
          exact ⟨a, bs, rfl, by rw [← blsOf_den a2 hb]; exact SqL.of a1, p α H _ .refl R (.bl _)⟩
        · exact p.elim
      · exact p.elim
theorem rs_all : RSn g W (rAll g.K) allF := by
  intro α h H σ vs ds Q R hd p
  cases hd with
  | nil => exact p.elim
  | cons h1 h2 =>
    cases h2 with
    | cons _ _ => cases h1 <;> exact False.elim p
    | nil =>
      cases h1 <;> try exact False.elim p
      rename_i l a hl
      simp only [allF] at p
      split at p
      · rename_i xs hx
        obtain ⟨vs, a1, a2⟩ := R.ob _ _ _ hx hl
        split at p
        · rename_i bs hb
          exact ⟨a, bs, rfl, by rw [← blsOf_den a2 hb]; exact SqL.of a1, p α H _ .refl R (.bl _)⟩
        · exact p.elim
      · exact p.elim
end
end DD
end

section
set_option Elab.async false
set_option linter.all false
set_option maxRecDepth 100000
namespace DD
open PySem L2
open PyProof.Rows (b2i)

/-! ### statements -/
def PostS (g : G) (W : WX) (α : List Addr) (H : Hp) (Dn : Ends) : SO → Prop
  | .nx τ' h' => ∀ α' H' σ', Ext α H α' H' → Rep g α' h' H' → DenS g α' H' τ' σ' → Dn.nx σ' H'
  | .rt d h' => ∀ α' H' v, Ext α H α' H' → Rep g α' h' H' → Den g α' H' d v → Dn.rt v H'
  | .bk τ' h' => ∀ α' H' σ', Ext α H α' H' → Rep g α' h' H' → DenS g α' H' τ' σ' → Dn.bk σ' H'
  | .ct τ' h' => ∀ α' H' σ', Ext α H α' H' → Rep g α' h' H' → DenS g α' H' τ' σ' → Dn.ct σ' H'
  | .exc c τ' h' => ∀ α' H' σ', Ext α H α' H' → Rep g α' h' H' → DenS g α' H' τ' σ' → W (.ref (g.cl c)) none σ' H'
  | .bad => False
def tS (g : G) (W : WX) (m : SM) : TS := fun Dn σ H => ∃ α h τ, Rep g α h H ∧ DenS g α H τ σ ∧ PostS g W α H Dn (m τ h)
def EO.toS : EO → SL → (D → AH → SO) → SO
  | .ok d h, _, f => f d h
  | .exc c h, τ, _ => .exc c τ h
  | .bad, _, _ => .bad
def SO.bind : SO → (SL → AH → SO) → SO
  | .nx τ h, f => f τ h
  | o, _ => o
def seqM (a b : SM) : SM := fun τ h => (a τ h).bind b
def passM : SM := fun τ h => .nx τ h
def brkM : SM := fun τ h => .bk τ h
def contM : SM := fun τ h => .ct τ h
def exprM (e : EM) : SM := fun τ h => (e τ h).toS τ fun _ h1 => .nx τ h1
def retM (e : EM) : SM := fun τ h => (e τ h).toS τ fun d h1 => .rt d h1
def retNM : SM := fun _ h => .rt .non h
def setM (i : Nat) (e : EM) : SM := fun τ h => (e τ h).toS τ fun d h1 => .nx (τ.set i (some d)) h1
def raiseM (c : Nat) : SM := fun τ h => .exc c τ h
def ifSM (c : EM) (a b : SM) : SM := fun τ h => (c τ h).toS τ fun d h1 => match d with
  | .bl true => a τ h1
  | .bl false => b τ h1
  | _ => .bad
section
variable {X : Cx} {g : G} {W : WX} {a b c e : Expr} {ma mb mc : EM} {pos : Pos} {σ : St} {H H' : Hp} {Q : VK} {Dn : Ends} {α α' : List Addr} {o : SO} {τ : SL} {sa sb : SM} {st : Stmt} {rest : List Stmt}
theorem PostS.mono (p : PostS g W α H Dn o) (e : Ext α H α' H') : PostS g W α' H' Dn o := by
  cases o with
  | nx τ h => exact fun α2 H2 σ2 e2 r d => p α2 H2 σ2 (e.trans e2) r d
  | rt d h => exact fun α2 H2 v e2 r d => p α2 H2 v (e.trans e2) r d
  | bk τ h => exact fun α2 H2 σ2 e2 r d => p α2 H2 σ2 (e.trans e2) r d
  | ct τ h => exact fun α2 H2 σ2 e2 r d => p α2 H2 σ2 (e.trans e2) r d
  | exc c τ h => exact fun α2 H2 σ2 e2 r d => p α2 H2 σ2 (e.trans e2) r d
  | bad => exact p
theorem PostS.toS {f : D → AH → SO} {o : EO} (p : PostS g W α H Dn (o.toS τ f)) (s : DenS g α H τ σ) :
    PostE g W α H σ (fun v H1 => ∃ α1 d h1, Ext α H α1 H1 ∧ Rep g α1 h1 H1 ∧ Den g α1 H1 d v ∧ DenS g α1 H1 τ σ ∧ PostS g W α1 H1 Dn (f d h1)) o := by
  cases o with
  | ok d h => exact fun α2 H2 v e2 r dd => ⟨α2, d, h, e2, r, dd, s.ext e2, PostS.mono p e2⟩
  | exc c h => exact fun α2 H2 e2 r => p α2 H2 σ e2 r (s.ext e2)
  | bad => exact p
theorem PostS.bind {f : SL → AH → SO} (p : PostS g W α H Dn (o.bind f)) :
    PostS g W α H { Dn with nx := fun σ1 H1 => ∃ α1 τ1 h1, Ext α H α1 H1 ∧ Rep g α1 h1 H1 ∧ DenS g α1 H1 τ1 σ1 ∧ PostS g W α1 H1 Dn (f τ1 h1) } o := by
  cases o with
  | nx τ h => exact fun α2 H2 σ2 e2 r d => ⟨α2, τ, h, e2, r, d, PostS.mono p e2⟩
  | rt d h => exact p
  | bk τ h => exact p
  | ct τ h => exact p
  | exc c τ h => exact p
  | bad => exact p
theorem PostS.imp {Dn' : Ends} (p : PostS g W α H Dn o) (k1 : ∀ σ H, Dn.nx σ H → Dn'.nx σ H) (k2 : ∀ v H, Dn.rt v H → Dn'.rt v H) (k3 : ∀ σ H, Dn.bk σ H → Dn'.bk σ H) (k4 : ∀ σ H, Dn.ct σ H → Dn'.ct σ H) : PostS g W α H Dn' o := by
  cases o with
  | nx τ h => exact fun α2 H2 σ2 e2 r d => k1 _ _ (p α2 H2 σ2 e2 r d)
  | rt d h => exact fun α2 H2 v e2 r d => k2 _ _ (p α2 H2 v e2 r d)
  | bk τ h => exact fun α2 H2 σ2 e2 r d => k3 _ _ (p α2 H2 σ2 e2 r d)
  | ct τ h => exact fun α2 H2 σ2 e2 r d => k4 _ _ (p α2 H2 σ2 e2 r d)
  | exc c τ h => exact p
  | bad => exact p
theorem tS_e {f : SL → D → AH → SO} (p : tS g W (fun τ h => (ma τ h).toS τ (f τ)) Dn σ H) : tE g W ma σ H fun v H1 => ∃ α1 d h1 τ, Rep g α1 h1 H1 ∧ DenS g α1 H1 τ σ ∧ Den g α1 H1 d v ∧ PostS g W α1 H1 Dn (f τ d h1) := by
  obtain ⟨α, h, τ, R, s, p⟩ := p
  refine ⟨α, h, τ, R, s, PostE.imp (PostS.toS p s) ?_⟩
  rintro v H1 ⟨α1, d, h1, E1, R1, D1, s1, p1⟩
  exact ⟨α1, d, h1, τ, R1, s1, D1, p1⟩
theorem dss_nil : PSs X [] (tS g W passM) := PSs.imp pss_nil fun Dn σ H ⟨α, h, τ, R, s, p⟩ => p α H σ .refl R s
theorem dss_cons (h1 : PS X st (tS g W sa)) (h2 : PSs X rest (tS g W sb)) : PSs X (st :: rest) (tS g W (seqM sa sb)) := by
  refine PSs.imp (pss_cons h1 h2) fun Dn σ H p => ?_
  obtain ⟨α, h, τ, R, s, p⟩ := p
  refine ⟨α, h, τ, R, s, PostS.imp (PostS.bind p) (fun σ1 H1 q => ?_) (fun _ _ q => q) (fun _ _ q => q) fun _ _ q => q⟩
  obtain ⟨α1, τ1, h1, E1, R1, s1, p1⟩ := q
  exact ⟨α1, h1, τ1, R1, s1, p1⟩
theorem dss_one (h1 : PS X st (tS g W sa)) : PSs X [st] (tS g W sa) := pss_one h1
theorem ds_pass : PS X (.Pass pos) (tS g W passM) := PS.imp ps_pass fun Dn σ H ⟨α, h, τ, R, s, p⟩ => p α H σ .refl R s
theorem ds_break : PS X (.Break pos) (tS g W brkM) := PS.imp ps_break fun Dn σ H ⟨α, h, τ, R, s, p⟩ => p α H σ .refl R s
theorem ds_continue : PS X (.Continue pos) (tS g W contM) := PS.imp ps_continue fun Dn σ H ⟨α, h, τ, R, s, p⟩ => p α H σ .refl R s
theorem ds_expr (he : PE X e (tE g W ma)) (hs : swapsWith e none pos.line X.env = pure false := by rfl) : PS X (.Expr e pos) (tS g W (exprM ma)) := by
  refine PS.imp (ps_expr he hs) fun Dn σ H p => ?_
  obtain ⟨α, h, τ, R, s, p⟩ := tS_e (f := fun τ _ h1 => .nx τ h1) p
  refine ⟨α, h, τ, R, s, PostE.imp p ?_⟩
  rintro v H1 ⟨α1, d, h1, τ1, R1, s1, D1, p1⟩
  exact p1 α1 H1 σ .refl R1 s1
theorem ds_ret (he : PE X e (tE g W ma)) : PS X (.Return (some e) pos) (tS g W (retM ma)) := by
  refine PS.imp (ps_ret he) fun Dn σ H p => ?_
  obtain ⟨α, h, τ, R, s, p⟩ := tS_e (f := fun τ d h1 => .rt d h1) p
  refine ⟨α, h, τ, R, s, PostE.imp p ?_⟩
  rintro v H1 ⟨α1, d, h1, τ1, R1, s1, D1, p1⟩
  exact p1 α1 H1 v .refl R1 D1
theorem ds_retN : PS X (.Return none pos) (tS g W retNM) := PS.imp ps_retN fun Dn σ H ⟨α, h, τ, R, s, p⟩ => p α H .non .refl R .non
theorem ds_set {i : Nat} {x : Str} {pos' : Pos} (hN : X.N.Nodup) (hi : X.N[i]? = some x) (hx : Loc X.env.scope x) (he : PE X e (tE g W ma)) (hs : swapsWith e (some (.Name x pos')) pos.line X.env = pure false := by rfl) (hf : X.fn x = true ∨ X.env.scope.names.lookup x = some .local := by first | exact .inl rfl | exact .inr rfl | assumption) :
    PS X (.Assign [.Name x pos'] e pos) (tS g W (setM i ma)) := by
  refine PS.imp (ps_set hN hi hx he hs hf) fun Dn σ H p => ?_
  obtain ⟨α, h, τ, R, s, p⟩ := tS_e (f := fun τ d h1 => .nx (τ.set i (some d)) h1) p
  refine ⟨α, h, τ, R, s, PostE.imp p ?_⟩
  rintro v H1 ⟨α1, d, h1, τ1, R1, s1, D1, p1⟩
  exact p1 α1 H1 _ .refl R1 (s1.set i D1)
theorem ds_if {p q : List Stmt} (hc : PT X c (tT g W mc)) (hp : PSs X p (tS g W sa)) (hq : PSs X q (tS g W sb)) : PS X (.If c p q pos) (tS g W (ifSM mc sa sb)) := by
  refine PS.imp (ps_if hc hp hq) fun Dn σ H p => ?_
  obtain ⟨α, h, τ, R, s, p⟩ := tS_e (f := fun τ d h1 => match d with | .bl true => sa τ h1 | .bl false => sb τ h1 | _ => .bad) p
  refine ⟨α, h, τ, R, s, PostE.imp p ?_⟩
  rintro v H1 ⟨α1, d, h1, τ1, R1, s1, D1, p1⟩
  cases D1 <;> try exact False.elim p1
  rename_i k
  refine ⟨k, rfl, ?_⟩
  cases k
  · exact iteF ⟨α1, h1, τ1, R1, s1, p1⟩
  · exact iteT ⟨α1, h1, τ1, R1, s1, p1⟩

/-! ### targets -/
abbrev TM := D → SL → AH → SO
/-- an end that goes on alone -/
def nxE (Q : St → Hp → Prop) : Ends := { nx := Q, rt := fun _ _ => False }
def RG (g : G) (W : WX) (t : TG) (f : TM) : Prop := ∀ (α : List Addr) (h : AH) (H : Hp) (τ : SL) (σ : St) (v : V) (d : D) (Q : St → Hp → Prop), Rep g α h H → DenS g α H τ σ → Den g α H d v → PostS g W α H (nxE Q) (f d τ h) → t v σ H Q
def nameG (i : Nat) : TM := fun d τ h => .nx (τ.set i (some d)) h
def unpackG (fs : List TM) : List D → SL → AH → SO := match fs with
  | [] => fun ds τ h => match ds with
    | [] => .nx τ h
    | _ => .bad
  | f :: fs => fun ds τ h => match ds with
    | d :: ds => (f d τ h).bind fun τ1 h1 => unpackG fs ds τ1 h1
    | _ => .bad
def tupG (fs : List TM) : TM := fun d τ h => match d with
  | .tup ds => unpackG fs ds τ h
  | _ => .bad
theorem rg_name {i : Nat} : RG g W (gName i) (nameG i) := fun α h H τ σ v d Q R s hd p => p α H _ .refl R (s.set i hd)
def RGs (g : G) (W : WX) (t : TGs) (fs : List TM) : Prop := ∀ (α : List Addr) (h : AH) (H : Hp) (τ : SL) (σ : St) (vs : List V) (ds : List D) (Q : St → Hp → Prop), Rep g α h H → DenS g α H τ σ → DenL g α H ds vs → PostS g W α H (nxE Q) (unpackG fs ds τ h) → t vs σ H Q
theorem rgs_nil : RGs g W gNil [] := fun α h H τ σ vs ds Q R s hd p => by
  cases hd with
  | nil => exact ⟨rfl, p α H σ .refl R s⟩
  | cons _ _ => exact p.elim
theorem rgs_cons {t : TG} {u : TGs} {f : TM} {fs : List TM} (h1 : RG g W t f) (h2 : RGs g W u fs) : RGs g W (gCons t u) (f :: fs) := fun α h H τ σ vs ds Q R s hd p => by
  cases hd with
  | nil => exact p.elim
  | cons k1 k2 =>
    refine ⟨_, _, rfl, h1 α h H τ σ _ _ _ R s k1 (PostS.imp (PostS.bind p) (fun σ1 H1 q => ?_) (fun _ _ q => q) (fun _ _ q => q) fun _ _ q => q)⟩
    obtain ⟨α1, τ1, h1', E1, R1, s1, p1⟩ := q
    exact h2 α1 h1' H1 τ1 σ1 _ _ Q R1 s1 (DenL.ext E1 _ _ k2) p1
theorem unpack_len {fs : List TM} : ∀ {ds : List D} {τ : SL} {h : AH} {Q : St → Hp → Prop}, PostS g W α H (nxE Q) (unpackG fs ds τ h) → (∀ f ∈ fs, ∀ d τ h α H Q, PostS g W α H (nxE Q) (f d τ h) → ∃ τ' h', f d τ h = .nx τ' h') → ds.length = fs.length := by
  induction fs with
  | nil => intro ds τ h Q p _; cases ds with
    | nil => rfl
    | cons _ _ => exact p.elim
  | cons f fs ih => intro ds τ h Q p k; cases ds with
    | nil => exact p.elim
    | cons d ds =>
      obtain ⟨τ', h', e⟩ : ∃ τ' h', f d τ h = .nx τ' h' := k f List.mem_cons_self d τ h α H _ (PostS.imp (PostS.bind p) (fun _ _ q => q) (fun _ _ q => q) (fun _ _ q => q) fun _ _ q => q)
      have p' : PostS g W α H (nxE Q) ((f d τ h).bind fun τ1 h1 => unpackG fs ds τ1 h1) := p
      rw [e] at p'
      have := ih (ds := ds) (τ := τ') (h := h') (Q := Q) p' (fun f hf => k f (List.mem_cons_of_mem _ hf))
      simp [this]
/-- a tuple of names -/
theorem rg_names {t : TGs} {is : List Nat} (hr : RGs g W t (is.map nameG)) : RG g W (gTup g.K is.length t) (tupG (is.map nameG)) := fun α h H τ σ v d Q R s hd p => by
  cases hd <;> try exact False.elim p
  rename_i a ds vs hs hl
  have e := unpack_len (fs := is.map nameG) (ds := ds) (τ := τ) (h := h) (Q := Q) p (fun f hf d τ h α H Q q => by
    obtain ⟨i, _, rfl⟩ := List.mem_map.mp hf
    exact ⟨_, _, rfl⟩)
  refine ⟨a, vs, rfl, hs, by rw [← hl.length, e, List.length_map], hr α h H τ σ vs ds Q R s hl p⟩
def asgM (e : EM) (f : TM) : SM := fun τ h => (e τ h).toS τ fun d h1 => f d τ h1
theorem ds_asg {tg : Expr} {t : TG} {f : TM} (he : PE X e (tE g W ma)) (hg : PG X tg t) (rg : RG g W t f) (hf : ∀ d τ h Q α H Dn, PostS g W α H Dn (f d τ h) → (∀ σ H, Dn.nx σ H → Q σ H) → PostS g W α H (nxE Q) (f d τ h)) (hs : swapsWithSole [tg] e pos.line X.env = pure false := by rfl) (hw : swappedStores [tg] e X.env = pure none := by rfl)
    (h1 : (assignEach [tg] X.env).map (·.2) = [assign tg X.env] := by rfl) : PS X (.Assign [tg] e pos) (tS g W (asgM ma f)) := by
  refine PS.imp (ps_asg he hg hs hw h1) fun Dn σ H p => ?_
  obtain ⟨α, h, τ, R, s, p⟩ := tS_e (f := fun τ d h1 => f d τ h1) p
  refine ⟨α, h, τ, R, s, PostE.imp p ?_⟩
  rintro v H1 ⟨α1, d, h1, τ1, R1, s1, D1, p1⟩
  exact rg α1 h1 H1 τ1 σ v d _ R1 s1 D1 (hf d τ1 h1 _ α1 H1 Dn p1 fun _ _ q => q)
/-- a mirror of a target goes on, or raises, or is bad -/
def Goes (f : TM) : Prop := ∀ d τ h, (∃ τ' h', f d τ h = .nx τ' h') ∨ (∃ c τ' h', f d τ h = .exc c τ' h') ∨ f d τ h = .bad
theorem Goes.post {f : TM} (k : Goes f) (d : D) (τ : SL) (h : AH) (Q : St → Hp → Prop) (α : List Addr) (H : Hp) (Dn : Ends) (p : PostS g W α H Dn (f d τ h)) (q : ∀ σ H, Dn.nx σ H → Q σ H) : PostS g W α H (nxE Q) (f d τ h) := by
  rcases k d τ h with ⟨τ', h', e⟩ | ⟨c, τ', h', e⟩ | e
  · rw [e] at p ⊢; exact fun α2 H2 σ2 e2 r d => q _ _ (p α2 H2 σ2 e2 r d)
  · rw [e] at p ⊢; exact p
  · rw [e] at p; exact p.elim
theorem goes_name {i : Nat} : Goes (nameG i) := fun d τ h => .inl ⟨_, _, rfl⟩
theorem goes_unpack : ∀ (fs : List TM), (∀ f ∈ fs, Goes f) → ∀ ds τ h, (∃ τ' h', unpackG fs ds τ h = .nx τ' h') ∨ (∃ c τ' h', unpackG fs ds τ h = .exc c τ' h') ∨ unpackG fs ds τ h = .bad
  | [], _, [], τ, h => .inl ⟨_, _, rfl⟩
  | [], _, _ :: _, τ, h => .inr (.inr rfl)
  | f :: fs, k, [], τ, h => .inr (.inr rfl)
  | f :: fs, k, d :: ds, τ, h => by
    have e0 : unpackG (f :: fs) (d :: ds) τ h = (f d τ h).bind fun τ1 h1 => unpackG fs ds τ1 h1 := rfl
    rcases k f List.mem_cons_self d τ h with ⟨τ', h', e⟩ | ⟨c, τ', h', e⟩ | e
    · rw [e0, e]; exact goes_unpack fs (fun f hf => k f (List.mem_cons_of_mem _ hf)) ds τ' h'
    · rw [e0, e]; exact .inr (.inl ⟨_, _, _, rfl⟩)
    · rw [e0, e]; exact .inr (.inr rfl)
theorem goes_tup {fs : List TM} (k : ∀ f ∈ fs, Goes f) : Goes (tupG fs) := fun d τ h => by
  cases d <;> first | exact .inr (.inr rfl) | exact goes_unpack fs k _ τ h
theorem goes_names {is : List Nat} : Goes (tupG (is.map nameG)) := goes_tup fun f hf => by
  obtain ⟨i, _, rfl⟩ := List.mem_map.mp hf
  exact goes_name
/-- a, b = x, y -/
def parM (i j : Nat) (m : LM) : SM := fun τ h => match m τ h with
  | .ok [d, e] h1 => .nx ((τ.set i (some d)).set j (some e)) h1
  | .exc c h1 => .exc c τ h1
  | _ => .bad
theorem ds_par {i j : Nat} {x y : Str} {a b : Expr} {m : LM} {px py pt : Pos} {kt k2 pt2} (hc : X.calm = true) (hN : X.N.Nodup) (hi : X.N[i]? = some x) (hj : X.N[j]? = some y) (hij : i ≠ j)
    (hx : X.env.scope.names.lookup x = some .local) (hy : X.env.scope.names.lookup y = some .local) (ha : PA X [a, b] (tL g W m))
    (hw : swappedStores [.Tuple [.Name x px, .Name y py] kt pt] (.Tuple [a, b] k2 pt2) X.env = pure (some [x, y]))
    (hs : swapsWithSole [.Tuple [.Name x px, .Name y py] kt pt] (.Tuple [a, b] k2 pt2) pos.line X.env = pure false := by rfl) :
    PS X (.Assign [.Tuple [.Name x px, .Name y py] kt pt] (.Tuple [a, b] k2 pt2) pos) (tS g W (parM i j m)) := by
  refine PS.imp (ps_par hc hN hi hj hij hx hy ha hw hs) fun Dn σ H p => ?_
  obtain ⟨α, h, τ, R, s, p⟩ := p
  refine ⟨α, h, τ, R, s, ?_⟩
  unfold parM at p
  split at p
  · rename_i d e h1 e1
    rw [e1]
    rintro α' H' vs E R' dl
    cases dl with
    | cons d1 dl =>
      cases dl with
      | cons d2 dl =>
        cases dl
        exact ⟨_, _, rfl, p α' H' _ E R' (((s.ext E).set i d1).set j d2)⟩
  · rename_i c h1 e1
    rw [e1]
    exact fun α' H' E R' => p α' H' σ E R' (s.ext E)
  · exact p.elim

/-! ### while -/
def whileN (c : EM) (b : SM) : Nat → SM
  | 0 => fun _ _ => .bad
  | n + 1 => fun τ h => (c τ h).toS τ fun d h1 => match d with
    | .bl true => match b τ h1 with
      | .nx τ' h' => whileN c b n τ' h'
      | .ct τ' h' => whileN c b n τ' h'
      | .bk τ' h' => .nx τ' h'
      | r => r
    | .bl false => .nx τ h1
    | _ => .bad
open Classical in
noncomputable def whileM (c : EM) (b : SM) : SM := fun τ h => if H : ∃ n, whileN c b n τ h ≠ .bad then whileN c b (Classical.choose H) τ h else .bad
theorem whileN_mono {c : EM} {b : SM} : ∀ (n k : Nat) (τ : SL) (h : AH), whileN c b n τ h ≠ .bad → whileN c b (n + k) τ h = whileN c b n τ h
  | 0, k, τ, h, q => absurd rfl q
  | n + 1, k, τ, h, q => by
    rw [show n + 1 + k = (n + k) + 1 by omega]
    simp only [whileN] at q ⊢
    cases e : c τ h with
    | ok d h1 =>
      rw [e] at q
      simp only [EO.toS] at q ⊢
      cases d with
      | bl t =>
        cases t with
        | true =>
          simp only at q ⊢
          cases e2 : b τ h1 with
          | nx τ' h' => rw [e2] at q; exact whileN_mono n k τ' h' q
          | ct τ' h' => rw [e2] at q; exact whileN_mono n k τ' h' q
          | bk τ' h' => rfl
          | rt d h' => rfl
          | exc c τ' h' => rfl
          | bad => rfl
        | false => rfl
      | _ => rfl
    | exc c h1 => rfl
    | bad => rfl
theorem whileM_of {c : EM} {b : SM} {n : Nat} {τ : SL} {h : AH} (q : whileN c b n τ h ≠ .bad) : whileM c b τ h = whileN c b n τ h := by
  have H : ∃ n, whileN c b n τ h ≠ .bad := ⟨n, q⟩
  unfold whileM
  rw [dif_pos H]
  have h1 := Classical.choose_spec H
  have e1 := whileN_mono (Classical.choose H) n τ h h1
  have e2 := whileN_mono n (Classical.choose H) τ h q
  rw [Nat.add_comm] at e2
  exact e1.symm.trans e2
/-- one turn -/
def turnM (c : EM) (b : SM) (k : SM) : SM := fun τ h => (c τ h).toS τ fun d h1 => match d with
    | .bl true => match b τ h1 with
      | .nx τ' h' => k τ' h'
      | .ct τ' h' => k τ' h'
      | .bk τ' h' => .nx τ' h'
      | r => r
    | .bl false => .nx τ h1
    | _ => .bad
theorem whileM_eq {c : EM} {b : SM} (τ : SL) (h : AH) : whileM c b τ h = turnM c b (whileM c b) τ h := by
  by_cases H : ∃ n, whileN c b n τ h ≠ .bad
  · obtain ⟨n, q⟩ := H
    rw [whileM_of q]
    cases n with
    | zero => exact absurd rfl q
    | succ n =>
      simp only [whileN, turnM] at q ⊢
      cases e : c τ h with
      | ok d h1 =>
        rw [e] at q
        simp only [EO.toS] at q ⊢
        cases d with
        | bl t =>
          cases t with
          | true =>
            simp only at q ⊢
            cases e2 : b τ h1 with
            | nx τ' h' => rw [e2] at q; exact (whileM_of q).symm
            | ct τ' h' => rw [e2] at q; exact (whileM_of q).symm
            | bk τ' h' => rfl
            | rt d h' => rfl
            | exc c τ' h' => rfl
            | bad => rfl
          | false => rfl
        | _ => rfl
      | exc c h1 => rfl
      | bad => rfl
  · have e0 : whileM c b τ h = .bad := by unfold whileM; rw [dif_neg H]
    rw [e0]
    have H' : ∀ n, whileN c b n τ h = .bad := fun n => Classical.byContradiction fun q => H ⟨n, q⟩
    simp only [turnM]
    cases e : c τ h with
    | ok d h1 =>
      simp only [EO.toS]
      have H1 := H' 1
      simp only [whileN, e, EO.toS] at H1
      cases d with
      | bl t =>
        cases t with
        | true =>
          simp only at H1 ⊢
          cases e2 : b τ h1 with
          | nx τ' h' =>
            simp only
            have : ¬ ∃ n, whileN c b n τ' h' ≠ .bad := fun ⟨n, q⟩ => q (by have := H' (n + 1); simp only [whileN, e, EO.toS, e2] at this; exact this)
            unfold whileM; rw [dif_neg this]
          | ct τ' h' =>
            simp only
            have : ¬ ∃ n, whileN c b n τ' h' ≠ .bad := fun ⟨n, q⟩ => q (by have := H' (n + 1); simp only [whileN, e, EO.toS, e2] at this; exact this)
            unfold whileM; rw [dif_neg this]
          | bk τ' h' => rw [e2] at H1; exact absurd H1 (by simp)
          | rt d h' => rw [e2] at H1; exact absurd H1 (by simp)
          | exc c τ' h' => rw [e2] at H1; exact absurd H1 (by simp)
          | bad => rfl
        | false => exact absurd H1 (by simp)
      | _ => rfl
    | exc c h1 => have H1 := H' 1; simp only [whileN, e, EO.toS] at H1; exact absurd H1 (by simp)
    | bad => rfl
theorem ds_while {body : List Stmt} (hp : PassesOwn (model X.prog X.w) X.A X.env X.xe) (hc : PT X c (tT g W mc)) (hb : PSs X body (tS g W sb)) : PS X (.While c body [] pos) (tS g W (whileM mc sb)) := by
  refine PS.imp (ps_while hp hc hb) fun Dn σ H p => ?_
  obtain ⟨α, h, τ, R, s, p⟩ := p
  by_cases HB : ∃ n, whileN mc sb n τ h ≠ .bad
  · obtain ⟨n, q⟩ := HB
    rw [whileM_of q] at p
    refine ⟨fun m σ H => ∃ α h τ, Rep g α h H ∧ DenS g α H τ σ ∧ PostS g W α H Dn (whileN mc sb m τ h), ⟨n, α, h, τ, R, s, p⟩, ?_⟩
    rintro m σ H ⟨α, h, τ, R, s, p⟩
    cases m with
    | zero => exact p.elim
    | succ m =>
      simp only [whileN] at p
      refine ⟨α, h, τ, R, s, PostE.imp (PostS.toS p s) ?_⟩
      rintro v H1 ⟨α1, d, h1, E1, R1, D1, s1, p1⟩
      cases D1 <;> try exact False.elim p1
      rename_i k
      refine ⟨k, rfl, ?_⟩
      cases k
      · exact iteF (p1 α1 H1 σ .refl R1 s1)
      · refine iteT ⟨fun σ' H' => ∃ α h τ, Rep g α h H' ∧ DenS g α H' τ σ' ∧ PostS g W α H' Dn (whileN mc sb m τ h), fun σ' H' w => ⟨m, Nat.lt_succ_self m, w⟩, α1, h1, τ, R1, s1, ?_⟩
        simp only at p1
        cases e : sb τ h1 with
        | nx τ' h' => rw [e] at p1; exact fun α2 H2 σ2 e2 r d => ⟨α2, h', τ', r, d, PostS.mono p1 e2⟩
        | ct τ' h' => rw [e] at p1; exact fun α2 H2 σ2 e2 r d => ⟨α2, h', τ', r, d, PostS.mono p1 e2⟩
        | bk τ' h' => rw [e] at p1; exact p1
        | rt d h' => rw [e] at p1; exact p1
        | exc c τ' h' => rw [e] at p1; exact p1
        | bad => rw [e] at p1; exact p1
  · exfalso
    unfold whileM at p
    rw [dif_neg HB] at p
    exact p
end
end DD
end

section
set_option Elab.async false
set_option linter.all false
set_option maxRecDepth 100000
namespace DD
open PySem L2
open PyProof.Rows (b2i)

/-! ### for -/
/-- what the body leaves for the next turn -/
def nextM (o : SO) (k : SM) : SO := match o with
  | .nx τ' h' => k τ' h'
  | .ct τ' h' => k τ' h'
  | .bk τ' h' => .nx τ' h'
  | r => r
/-- turn by turn; live tells whether what is walked stands as it stood -/
def loopM (live : AH → Bool) (f : TM) (b : SM) : List D → SM
  | [] => fun τ h => if live h = true then .nx τ h else .bad
  | d :: ds => fun τ h => if live h = true then (f d τ h).bind fun τ1 h1 => nextM (b τ1 h1) (loopM live f b ds) else .bad
section
variable {X : Cx} {g : G} {W : WX} {a b c e : Expr} {ma mb mc : EM} {pos : Pos} {σ : St} {H H' : Hp} {Q : VK} {Dn : Ends} {α α' : List Addr} {o : SO} {τ : SL} {sa sb : SM} {st : Stmt} {rest : List Stmt}
/-- the loop over any walk J that yields the values of ds in order -/
theorem loop_core {J : It} {tgt : TG} {f : TM} {live : AH → Bool} {ds : List D} {h : AH} (rg : RG g W tgt f) (gf : Goes f) (R : Rep g α h H) (s : DenS g α H τ σ) (p : PostS g W α H Dn (loopM live f sb ds τ h))
    (stop : ∀ α' H' h', Ext α H α' H' → Rep g α' h' H' → live h' = true → ∀ i, ds.length ≤ i → J.stop i H')
    (go : ∀ α' H' h', Ext α H α' H' → Rep g α' h' H' → live h' = true → ∀ i d, ds[i]? = some d → J.go i H')
    (yld : ∀ α' H' h' x H2, Ext α H α' H' → Rep g α' h' H' → live h' = true → ∀ i d, ds[i]? = some d → J.yld i H' x H2 → Ext α' H' α' H2 ∧ Rep g α' h' H2 ∧ Den g α' H2 d x) :
    ∃ W' : Nat → Nat → St → Hp → Prop, (∃ m, W' 0 m σ H) ∧ ∀ i m σ H, W' i m σ H → (J.stop i H ∧ Dn.nx σ H) ∨
      (J.go i H ∧ ∃ N : St → Hp → Prop, (∀ σ' H', N σ' H' → ∃ m', m' < m ∧ W' (i + 1) m' σ' H') ∧ ∀ x H', J.yld i H x H' → tgt x σ H' fun σ2 H2 => tS g W sb { Dn with nx := N, ct := N, bk := Dn.nx } σ2 H2) := by
  refine ⟨fun i m σ' H' => m = ds.length - i ∧ ∃ α' h' τ', Ext α H α' H' ∧ Rep g α' h' H' ∧ DenS g α' H' τ' σ' ∧ PostS g W α' H' Dn (loopM live f sb (ds.drop i) τ' h'), ⟨ds.length, by simp, α, h, τ, .refl, R, s, p⟩, ?_⟩
  rintro i m σ1 H1 ⟨rfl, α1, h1, τ1, E1, R1, s1, p1⟩
  by_cases hi : i < ds.length
  · have hd : ds.drop i = ds[i] :: ds.drop (i + 1) := by rw [List.drop_eq_getElem_cons hi]
    have hg : ds[i]? = some ds[i] := List.getElem?_eq_getElem hi
    rw [hd] at p1
    simp only [loopM] at p1
    split at p1
    · rename_i hl
      refine .inr ⟨go α1 H1 h1 E1 R1 hl i _ hg, fun σ' H' => ∃ α' h' τ', Ext α H α' H' ∧ Rep g α' h' H' ∧ DenS g α' H' τ' σ' ∧ PostS g W α' H' Dn (loopM live f sb (ds.drop (i + 1)) τ' h'), fun σ' H' w => ⟨ds.length - (i + 1), by omega, rfl, w⟩, fun x H2 hy => ?_⟩
      obtain ⟨E2, R2, D2⟩ := yld α1 H1 h1 x H2 E1 R1 hl i _ hg hy
      have p2 := PostS.mono p1 E2
      refine rg α1 h1 H2 τ1 σ1 x _ _ R2 (s1.ext E2) D2 (gf.post _ _ _ _ _ _ _ (PostS.bind p2) fun σ3 H3 w => ?_)
      obtain ⟨α3, τ3, h3, E3, R3, s3, p3⟩ := w
      refine ⟨α3, h3, τ3, R3, s3, ?_⟩
      have EE := (E1.trans E2).trans E3
      cases e : sb τ3 h3 with
      | nx τ' h' => rw [e] at p3; exact fun α4 H4 σ4 e4 r d => ⟨α4, h', τ', EE.trans e4, r, d, PostS.mono p3 e4⟩
      | ct τ' h' => rw [e] at p3; exact fun α4 H4 σ4 e4 r d => ⟨α4, h', τ', EE.trans e4, r, d, PostS.mono p3 e4⟩
      | bk τ' h' => rw [e] at p3; exact p3
      | rt d h' => rw [e] at p3; exact p3
      | exc c τ' h' => rw [e] at p3; exact p3
      | bad => rw [e] at p3; exact p3
    · exact p1.elim
  · have hd : ds.drop i = [] := List.drop_eq_nil_of_le (by omega)
    rw [hd] at p1
    simp only [loopM] at p1
    split at p1
    · rename_i hl
      exact .inl ⟨stop α1 H1 h1 E1 R1 hl i (by omega), p1 α1 H1 σ1 .refl R1 s1⟩
    · exact p1.elim
end
/-- what a for walks: a mirror of the iterable gives the values and the test of life -/
def forM (e : EM) (items : D → AH → Option (List D × (AH → Bool))) (f : TM) (b : SM) : SM := fun τ h => (e τ h).toS τ fun d h1 => match items d h1 with
  | some (ds, live) => loopM live f b ds τ h1
  | none => .bad
mutual
def D.beq : D → D → Bool
  | .non, .non => true
  | .bl a, .bl b => a == b
  | .int a, .int b => a == b
  | .str a, .str b => decide (a = b)
  | .tup a, .tup b => D.beqs a b
  | .ref a, .ref b => a == b
  | .con a, .con b => a == b
  | .fls a, .fls b => D.beqs a b
  | _, _ => false
def D.beqs : List D → List D → Bool
  | [], [] => true
  | a :: as, b :: bs => D.beq a b && D.beqs as bs
  | _, _ => false
end
mutual
theorem D.eq_of_beq : ∀ {a b : D}, D.beq a b = true → a = b
  | .non, b, h => by cases b <;> simp [D.beq] at h ⊢
  | .bl _, b, h => by cases b <;> simp [D.beq] at h ⊢; exact h
  | .int _, b, h => by cases b <;> simp [D.beq] at h ⊢; exact h
  | .str _, b, h => by cases b <;> simp [D.beq] at h ⊢; exact h
  | .tup xs, b, h => by
    cases b <;> simp [D.beq] at h ⊢
    exact D.eq_of_beqs h
  | .ref _, b, h => by cases b <;> simp [D.beq] at h ⊢; exact h
  | .con _, b, h => by cases b <;> simp [D.beq] at h ⊢; exact h
  | .fls xs, b, h => by
    cases b <;> simp [D.beq] at h ⊢
    exact D.eq_of_beqs h
theorem D.eq_of_beqs : ∀ {a b : List D}, D.beqs a b = true → a = b
  | [], b, h => by cases b <;> simp [D.beqs] at h ⊢
  | x :: xs, b, h => by
    cases b <;> simp [D.beqs] at h ⊢
    exact ⟨D.eq_of_beq h.1, D.eq_of_beqs h.2⟩
end
mutual
theorem D.beq_self : ∀ (a : D), D.beq a a = true
  | .non => by simp [D.beq]
  | .bl _ => by simp [D.beq]
  | .int _ => by simp [D.beq]
  | .str _ => by simp [D.beq]
  | .tup xs => by simp [D.beq, D.beqs_self xs]
  | .ref _ => by simp [D.beq]
  | .con _ => by simp [D.beq]
  | .fls xs => by simp [D.beq, D.beqs_self xs]
theorem D.beqs_self : ∀ (a : List D), D.beqs a a = true
  | [] => by simp [D.beqs]
  | x :: xs => by simp [D.beqs, D.beq_self x, D.beqs_self xs]
end
/-- the list at l is xs -/
def isLst (l : Nat) (xs : List D) (h : AH) : Bool := match h[l]? with
  | some (.lst ys) => D.beqs ys xs
  | _ => false
theorem isLst_of {l : Nat} {xs : List D} {h : AH} (e : isLst l xs h = true) : h[l]? = some (.lst xs) := by
  unfold isLst at e
  split at e
  · rename_i ys q
    rw [q, D.eq_of_beqs e]
  · cases e
theorem isLst_mk {l : Nat} {xs : List D} {h : AH} (e : h[l]? = some (.lst xs)) : isLst l xs h = true := by
  unfold isLst
  rw [e]
  exact D.beqs_self xs
def seqIt (d : D) (h : AH) : Option (List D × (AH → Bool)) := match d with
  | .tup xs => some (xs, fun _ => true)
  | .ref l => match h[l]? with
    | some (.lst xs) => some (xs, isLst l xs)
    | _ => none
  | _ => none
def tupIt (d : D) (_ : AH) : Option (List D × (AH → Bool)) := match d with
  | .tup xs => some (xs, fun _ => true)
  | _ => none
def lstIt (d : D) (h : AH) : Option (List D × (AH → Bool)) := match d with
  | .ref l => match h[l]? with
    | some (.lst xs) => some (xs, isLst l xs)
    | _ => none
  | _ => none
/-- the signs of a text -/
def signs (x : Str) : List D := x.cps.toList.map fun c => .str ⟨#[c]⟩
def strIt (d : D) (_ : AH) : Option (List D × (AH → Bool)) := match d with
  | .str x => some (signs x, fun _ => true)
  | _ => none
/-- lo, lo + 1, .. n of them -/
def rngL (lo : Int) (n : Nat) : List D := (List.range n).map fun (k : Nat) => .int (lo + (k : Int))
def rngIt1 (d : D) (_ : AH) : Option (List D × (AH → Bool)) := match d with
  | .int j => if -(2 ^ 62) ≤ j ∧ j < 2 ^ 62 then some (rngL 0 j.toNat, fun _ => true) else none
  | _ => none
def rngIt2 (d : D) (_ : AH) : Option (List D × (AH → Bool)) := match d with
  | .tup [.int i, .int j] => if -(2 ^ 62) ≤ i ∧ i < 2 ^ 62 ∧ -(2 ^ 62) ≤ j ∧ j < 2 ^ 62 then some (rngL i (j - i).toNat, fun _ => true) else none
  | _ => none
theorem rngL_get {lo : Int} {n i : Nat} {d : D} (h : (rngL lo n)[i]? = some d) : i < n ∧ d = .int (lo + (i : Int)) := by
  unfold rngL at h
  rw [List.getElem?_map] at h
  cases e : (List.range n)[i]? with
  | none => rw [e] at h; cases h
  | some k =>
    rw [e] at h
    have hi := (List.getElem?_eq_some_iff.mp e).1
    rw [List.length_range] at hi
    rw [List.getElem?_range hi] at e
    cases e
    exact ⟨hi, (Option.some.inj h).symm⟩
theorem rngL_length {lo : Int} {n : Nat} : (rngL lo n).length = n := by simp [rngL]
section
variable {X : Cx} {g : G} {W : WX} {a b c e : Expr} {ma mb mc : EM} {pos : Pos} {σ : St} {H H' : Hp} {Q : VK} {Dn : Ends} {α α' : List Addr} {o : SO} {τ : SL} {sa sb : SM} {st : Stmt} {rest : List Stmt} {body : List Stmt} {tg : Expr} {t : TG} {f : TM}
theorem den_rng {lo : Int} : ∀ (n : Nat), ∃ vs, DenL g α H (rngL lo n) vs := fun n => by
  unfold rngL
  generalize List.range n = l
  induction l with
  | nil => exact ⟨[], .nil⟩
  | cons k l ih => obtain ⟨vs, h⟩ := ih; exact ⟨.int (lo + (k : Int)) :: vs, .cons (.int _) h⟩
theorem den_signs {x : Str} : ∃ vs, DenL g α H (signs x) vs := by
  unfold signs
  generalize x.cps.toList = l
  induction l with
  | nil => exact ⟨[], .nil⟩
  | cons k l ih => obtain ⟨vs, h⟩ := ih; exact ⟨.str ⟨#[k]⟩ :: vs, .cons (.str _) h⟩
/-- a value, or the values of some arguments -/
def DenW (g : G) (α : List Addr) (H : Hp) (d : D) : Prop := (∃ v, Den g α H d v) ∨ ∃ ds vs, d = .tup ds ∧ DenL g α H ds vs
/-- a walk J over the values ds while live holds -/
def WalkOf (g : G) (α1 : List Addr) (H1 : Hp) (ds : List D) (live : AH → Bool) (J : It) : Prop :=
  (∀ α' H' h', Ext α1 H1 α' H' → Rep g α' h' H' → live h' = true → ∀ i, ds.length ≤ i → J.stop i H') ∧
  (∀ α' H' h', Ext α1 H1 α' H' → Rep g α' h' H' → live h' = true → ∀ (i : Nat) (d : D), ds[i]? = some d → J.go i H') ∧
  (∀ α' H' h' x H2, Ext α1 H1 α' H' → Rep g α' h' H' → live h' = true → ∀ (i : Nat) (d : D), ds[i]? = some d → J.yld i H' x H2 → Ext α' H' α' H2 ∧ Rep g α' h' H2 ∧ Den g α' H2 d x)
def PostI (g : G) (W : WX) (items : D → AH → Option (List D × (AH → Bool))) (α : List Addr) (H : Hp) (σ : St) (R : It → Hp → Prop) : EO → Prop
  | .ok d h' => ∀ α' H', Ext α H α' H' → Rep g α' h' H' → DenW g α' H' d → ∃ ds live, items d h' = some (ds, live) ∧ ∀ J, WalkOf g α' H' ds live J → R J H'
  | .exc c h' => ∀ α' H', Ext α H α' H' → Rep g α' h' H' → W (.ref (g.cl c)) none σ H'
  | .bad => False
/-- an iterable's reading comes to its values and to a walk over them -/
def IterOk (g : G) (W : WX) (wi : TI) (ma : EM) (items : D → AH → Option (List D × (AH → Bool))) : Prop :=
  ∀ σ H R, (∃ α h τ, Rep g α h H ∧ DenS g α H τ σ ∧ PostI g W items α H σ R (ma τ h)) → wi σ H R
theorem ds_for {iter : Expr} {wi : TI} {items : D → AH → Option (List D × (AH → Bool))} (io : IterOk g W wi ma items) (hi : PI X tg iter wi) (hp : PassesOwn (model X.prog X.w) X.A X.env X.xe) (hc : X.calm = true) (hg : PG X tg t) (rg : RG g W t f) (gf : Goes f) (hb : PSs X body (tS g W sb))
    (hs : ∀ x, foldedSetIterable iter X.env x = pure x := by intro _; rfl) : PS X (.For tg iter body [] pos) (tS g W (forM ma items f sb)) := by
  refine PS.imp (ps_for hp hc hi hg hb hs) fun Dn σ H p => ?_
  refine io σ H _ ?_
  obtain ⟨α, h, τ, R, s, p⟩ := p
  refine ⟨α, h, τ, R, s, ?_⟩
  unfold forM at p
  cases e : ma τ h with
  | ok d h1 =>
    rw [e] at p
    intro α1 H1 E1 R1 _
    have p1 := PostS.mono p E1
    simp only [EO.toS] at p1
    split at p1
    · rename_i ds live hit
      exact ⟨ds, live, hit, fun J w => loop_core rg gf R1 (s.ext E1) p1 w.1 w.2.1 w.2.2⟩
    · exact p1.elim
  | exc c h1 =>
    rw [e] at p
    exact fun α1 H1 E1 R1 => p α1 H1 σ E1 R1 (s.ext E1)
  | bad => rw [e] at p; exact p
theorem PostI.toE {items : D → AH → Option (List D × (AH → Bool))} {R : It → Hp → Prop} {o : EO} (q : PostI g W items α H σ R o) :
    PostE g W α H σ (fun v H1 => ∃ α1 d h1, Ext α H α1 H1 ∧ Rep g α1 h1 H1 ∧ Den g α1 H1 d v ∧ ∃ ds live, items d h1 = some (ds, live) ∧ ∀ J, WalkOf g α1 H1 ds live J → R J H1) o := by
  cases o with
  | ok d h => exact fun α1 H1 v E1 R1 D1 => ⟨α1, d, h, E1, R1, D1, q α1 H1 E1 R1 (.inl ⟨v, D1⟩)⟩
  | exc c h => exact q
  | bad => exact q
theorem it_tup {K : PySem.W.Frag} (hK : g.K = K) : IterOk g W (iTup K (tE g W ma)) ma tupIt := by
  rintro σ H R ⟨α, h, τ, R1, s, p⟩
  refine ⟨α, h, τ, R1, s, PostE.imp (PostI.toE p) ?_⟩
  rintro v H1 ⟨α1, d, h1, E1, R2, D1, ds, live, hit, k⟩
  cases D1 <;> simp only [tupIt, reduceCtorEq] at hit
  rename_i a ds' vs hs' hl
  cases hit
  refine ⟨a, rfl, ⟨vs, by rw [← hK]; exact hs'⟩, k _ ⟨fun α' H' h' E r l i hi => ⟨vs, by rw [← hK]; exact E.sqT hs', by rw [← hl.length]; exact hi⟩, fun α' H' h' E r l i d hd => ?_, fun α' H' h' x H2 E r l i d hd hy => ?_⟩⟩
  · obtain ⟨v, q1, q2⟩ := hl.get hd
    exact ⟨vs, v, by rw [← hK]; exact E.sqT hs', q1⟩
  · obtain ⟨rfl, q⟩ := hy
    obtain ⟨v, q1, q2⟩ := hl.get hd
    have := q vs (by rw [← hK]; exact E.sqT hs')
    rw [q1] at this
    cases this
    exact ⟨.refl, r, Den.ext E _ _ q2⟩
theorem it_lst {K : PySem.W.Frag} (hK : g.K = K) : IterOk g W (iList K (tE g W ma)) ma lstIt := by
  rintro σ H R ⟨α, h, τ, R1, s, p⟩
  refine ⟨α, h, τ, R1, s, PostE.imp (PostI.toE p) ?_⟩
  rintro v H1 ⟨α1, d, h1, E1, R2, D1, ds, live, hit, k⟩
  cases D1 <;> simp only [lstIt, reduceCtorEq] at hit
  rename_i l a hl
  split at hit
  · rename_i xs hx
    cases hit
    obtain ⟨vs, a1, a2⟩ := R2.ob _ _ _ hx hl
    have at_ : ∀ {α' : List Addr} {H' : Hp} {h' : AH}, Ext α1 H1 α' H' → Rep g α' h' H' → isLst l ds h' = true → ∃ vs', H' a = some (.lst vs') ∧ DenL g α' H' ds vs' := fun {α' H' h'} E r lv => r.ob _ _ _ (isLst_of lv) (E.pre _ _ hl)
    refine ⟨a, rfl, ⟨vs, SqL.of a1⟩, k _ ⟨fun α' H' h' E r lv i hi => ?_, fun α' H' h' E r lv i d hd => ?_, fun α' H' h' x H2 E r lv i d hd hy => ?_⟩⟩
    · obtain ⟨vs', b1, b2⟩ := at_ E r lv
      exact ⟨vs', SqL.of b1, by rw [← b2.length]; exact hi⟩
    · obtain ⟨vs', b1, b2⟩ := at_ E r lv
      obtain ⟨v, q1, q2⟩ := b2.get hd
      exact ⟨vs', v, SqL.of b1, q1⟩
    · obtain ⟨vs', b1, b2⟩ := at_ E r lv
      obtain ⟨rfl, q⟩ := hy
      obtain ⟨v, q1, q2⟩ := b2.get hd
      have := q vs' (SqL.of b1)
      rw [q1] at this
      cases this
      exact ⟨.refl, r, q2⟩
  · cases hit
theorem it_str : IterOk g W (iStr (tE g W ma)) ma strIt := by
  rintro σ H R ⟨α, h, τ, R1, s, p⟩
  refine ⟨α, h, τ, R1, s, PostE.imp (PostI.toE p) ?_⟩
  rintro v H1 ⟨α1, d, h1, E1, R2, D1, ds, live, hit, k⟩
  cases D1 <;> simp only [strIt, reduceCtorEq] at hit
  rename_i x
  cases hit
  have sz : (signs x).length = x.cps.size := by simp [signs]
  refine ⟨x, rfl, k _ ⟨fun α' H' h' E r lv i hi => by rw [sz] at hi; exact hi, fun α' H' h' E r lv i d hd => ?_, fun α' H' h' y H2 E r lv i d hd hy => ?_⟩⟩
  · have := (List.getElem?_eq_some_iff.mp hd).1
    rw [sz] at this
    exact this
  · obtain ⟨rfl, c, hc, rfl⟩ := hy
    unfold signs at hd
    rw [List.getElem?_map, Array.getElem?_toList, hc] at hd
    cases hd
    exact ⟨.refl, r, .str _⟩
theorem walk_rng {lo : Int} {n : Nat} : WalkOf g α H (rngL lo n) (fun _ => true) (Itr lo n) :=
  ⟨fun α' H' h' E r lv i hi => by rw [rngL_length] at hi; exact hi, fun α' H' h' E r lv i d hd => (rngL_get hd).1, fun α' H' h' y H2 E r lv i d hd hy => by
    obtain ⟨rfl, rfl⟩ := hy
    obtain ⟨_, rfl⟩ := rngL_get hd
    exact ⟨.refl, r, .int _⟩⟩
theorem it_rng1 : IterOk g W (iRng1 (tCons (tE g W ma) tNil)) ma rngIt1 := by
  rintro σ H R ⟨α, h, τ, R1, s, p⟩
  refine ⟨α, h, τ, R1, s, PostE.imp (PostI.toE p) ?_⟩
  rintro v H1 ⟨α1, d, h1, E1, R2, D1, ds, live, hit, k⟩
  cases D1 <;> simp only [rngIt1, reduceCtorEq] at hit
  rename_i j
  split at hit
  · rename_i hj
    cases hit
    exact ⟨j, rfl, hj.1, hj.2, k _ walk_rng⟩
  · cases hit
/-- two arguments, told as a pair that is nowhere -/
def pairM (a b : EM) : EM := fun τ h => (a τ h).bind fun x h1 => (b τ h1).bind fun y h2 => .ok (.tup [x, y]) h2
theorem PostI.pair {items : D → AH → Option (List D × (AH → Bool))} {R : It → Hp → Prop} {h : AH} (R1 : Rep g α h H) (s : DenS g α H τ σ) (q : PostI g W items α H σ R (pairM ma mb τ h)) :
    tCons (tE g W ma) (tCons (tE g W mb) tNil) σ H fun vs H1 => ∃ α1 d e x y h1, vs = [x, y] ∧ Ext α H α1 H1 ∧ Rep g α1 h1 H1 ∧ Den g α1 H1 d x ∧ Den g α1 H1 e y ∧ ∃ ds live, items (.tup [d, e]) h1 = some (ds, live) ∧ ∀ J, WalkOf g α1 H1 ds live J → R J H1 := by
  refine ⟨α, h, τ, R1, s, ?_⟩
  unfold pairM at q
  cases e1 : ma τ h with
  | ok d h1 =>
    rw [e1] at q
    intro α1 H1 x E1 R2 D1
    refine ⟨α1, h1, τ, R2, s.ext E1, ?_⟩
    simp only [EO.bind] at q
    cases e2 : mb τ h1 with
    | ok e h2 =>
      rw [e2] at q
      intro α2 H2 y E2 R3 D2
      have D1' := Den.ext E2 _ _ D1
      exact ⟨α2, d, e, x, y, h2, rfl, E1.trans E2, R3, D1', D2, q α2 H2 (E1.trans E2) R3 (.inr ⟨_, _, rfl, .cons D1' (.cons D2 .nil)⟩)⟩
    | exc c h2 => rw [e2] at q; exact fun α2 H2 E2 R3 => q α2 H2 (E1.trans E2) R3
    | bad => rw [e2] at q; exact q
  | exc c h1 => rw [e1] at q; exact q
  | bad => rw [e1] at q; exact q
theorem it_rng2 : IterOk g W (iRng2 (tCons (tE g W ma) (tCons (tE g W mb) tNil))) (pairM ma mb) rngIt2 := by
  rintro σ H R ⟨α, h, τ, R1, s, p⟩
  obtain ⟨α', h', τ', a1, a2, a3⟩ := PostI.pair R1 s p
  refine ⟨α', h', τ', a1, a2, PostE.imp a3 ?_⟩
  rintro x H1 ⟨α2, h2, τ2, b1, b2, b3⟩
  refine ⟨α2, h2, τ2, b1, b2, PostE.imp b3 ?_⟩
  rintro y H2 ⟨α1, d, e, x', y', h1, ev, E1, R2, D1, D2, ds, live, hit, k⟩
  cases ev
  cases D1 <;> simp only [rngIt2, reduceCtorEq] at hit
  cases D2 <;> simp only [reduceCtorEq] at hit
  rename_i i j
  split at hit
  · rename_i hj
    cases hit
    exact ⟨i, j, rfl, hj, k _ walk_rng⟩
  · cases hit
/-- zip of two lists, of two tuples -/
def zipL : List D → List D → List D
  | x :: xs, y :: ys => .tup [x, y] :: zipL xs ys
  | _, _ => []
def zipIt (d : D) (h : AH) : Option (List D × (AH → Bool)) := match d with
  | .tup [.tup xs, .tup ys] => some (zipL xs ys, fun _ => true)
  | .tup [.ref i, .ref j] => match h[i]?, h[j]? with
    | some (.lst xs), some (.lst ys) => some (zipL xs ys, fun h => isLst i xs h && isLst j ys h)
    | _, _ => none
  | _ => none
theorem zipL_get : ∀ {xs ys : List D} {i : Nat} {d : D}, (zipL xs ys)[i]? = some d → ∃ x y, xs[i]? = some x ∧ ys[i]? = some y ∧ d = .tup [x, y]
  | [], _, _, _, h => by simp [zipL] at h
  | _ :: _, [], _, _, h => by simp [zipL] at h
  | x :: xs, y :: ys, 0, _, h => by simp [zipL] at h; exact ⟨x, y, rfl, rfl, h.symm⟩
  | x :: xs, y :: ys, i + 1, _, h => by
    obtain ⟨a, b, h1, h2, h3⟩ := zipL_get (xs := xs) (ys := ys) (i := i) (by simpa [zipL] using h)
    exact ⟨a, b, by simpa using h1, by simpa using h2, h3⟩
theorem zipL_length : ∀ (xs ys : List D), (zipL xs ys).length = min xs.length ys.length
  | [], ys => by simp [zipL]
  | _ :: _, [] => by simp [zipL]
  | x :: xs, y :: ys => by simp [zipL, zipL_length xs ys]
theorem it_zip {K : PySem.W.Frag} (hK : g.K = K) : IterOk g W (RZ.iZipA K (tCons (tE g W ma) (tCons (tE g W mb) tNil))) (pairM ma mb) zipIt := by
  rintro σ H R ⟨α, h, τ, R1, s, p⟩
  obtain ⟨α', h', τ', a1, a2, a3⟩ := PostI.pair R1 s p
  refine ⟨α', h', τ', a1, a2, PostE.imp a3 ?_⟩
  rintro x H1 ⟨α2, h2, τ2, b1, b2, b3⟩
  refine ⟨α2, h2, τ2, b1, b2, PostE.imp b3 ?_⟩
  rintro y H2 ⟨α1, d, e, x', y', h1, ev, E1, R2, D1, D2, ds, live, hit, k⟩
  cases ev
  cases D1 <;> simp only [zipIt, reduceCtorEq] at hit
  · cases D2 <;> simp only [reduceCtorEq] at hit
    rename_i a xs vs hs hl b ys ws hs2 hl2
    cases hit
    refine ⟨a, b, vs, ws, rfl, .inr ⟨by rw [← hK]; exact hs, by rw [← hK]; exact hs2, k _ ⟨fun α' H' h' E r lv i hi => ?_, fun α' H' h' E r lv i d hd => ?_, fun α' H' h' z H2 E r lv i d hd hy => ?_⟩⟩⟩
    · rw [zipL_length, hl.length, hl2.length] at hi
      exact ⟨vs, ws, by rw [← hK]; exact E.sqT hs, by rw [← hK]; exact E.sqT hs2, by omega⟩
    · obtain ⟨x, y, q1, q2, rfl⟩ := zipL_get hd
      obtain ⟨v, r1, r2⟩ := hl.get q1
      obtain ⟨w, r3, r4⟩ := hl2.get q2
      exact ⟨vs, ws, v, w, by rw [← hK]; exact E.sqT hs, by rw [← hK]; exact E.sqT hs2, r1, r3⟩
    · obtain ⟨x, y, q1, q2, rfl⟩ := zipL_get hd
      obtain ⟨v, r1, r2⟩ := hl.get q1
      obtain ⟨w, r3, r4⟩ := hl2.get q2
      obtain ⟨T, v', w', rfl, hT, rfl, k1, k2⟩ := hy
      have e1 := k1 vs (by rw [← hK]; exact E.sqT hs)
      have e2 := k2 ws (by rw [← hK]; exact E.sqT hs2)
      rw [r1] at e1
      rw [r3] at e2
      cases e1
      cases e2
      exact ⟨Ext.new hT, r.new hT, .tup (SqT.of upd_same) (.cons (Den.ext (E.trans (Ext.new hT)) _ _ r2) (.cons (Den.ext (E.trans (Ext.new hT)) _ _ r4) .nil))⟩
  · cases D2 <;> simp only [reduceCtorEq] at hit
    rename_i i a hl j b hl2
    split at hit
    · rename_i xs ys hx hy
      cases hit
      obtain ⟨vs, c1, c2⟩ := R2.ob _ _ _ hx hl
      obtain ⟨ws, c3, c4⟩ := R2.ob _ _ _ hy hl2
      have at_ : ∀ {α' : List Addr} {H' : Hp} {h' : AH}, Ext α1 H2 α' H' → Rep g α' h' H' → (isLst i xs h' && isLst j ys h') = true → (∃ vs', H' a = some (.lst vs') ∧ DenL g α' H' xs vs') ∧ ∃ ws', H' b = some (.lst ws') ∧ DenL g α' H' ys ws' := fun {α' H' h'} E r lv => by
        rw [Bool.and_eq_true] at lv
        exact ⟨r.ob _ _ _ (isLst_of lv.1) (E.pre _ _ hl), r.ob _ _ _ (isLst_of lv.2) (E.pre _ _ hl2)⟩
      refine ⟨a, b, vs, ws, rfl, .inl ⟨SqL.of c1, SqL.of c3, k _ ⟨fun α' H' h' E r lv n hn => ?_, fun α' H' h' E r lv n d hd => ?_, fun α' H' h' z H2 E r lv n d hd hy => ?_⟩⟩⟩
      · obtain ⟨⟨vs', d1, d2⟩, ws', d3, d4⟩ := at_ E r lv
        rw [zipL_length, d2.length, d4.length] at hn
        exact ⟨vs', ws', SqL.of d1, SqL.of d3, by omega⟩
      · obtain ⟨⟨vs', d1, d2⟩, ws', d3, d4⟩ := at_ E r lv
        obtain ⟨x, y, q1, q2, rfl⟩ := zipL_get hd
        obtain ⟨v, r1, r2⟩ := d2.get q1
        obtain ⟨w, r3, r4⟩ := d4.get q2
        exact ⟨vs', ws', v, w, SqL.of d1, SqL.of d3, r1, r3⟩
      · obtain ⟨⟨vs', d1, d2⟩, ws', d3, d4⟩ := at_ E r lv
        obtain ⟨x, y, q1, q2, rfl⟩ := zipL_get hd
        obtain ⟨v, r1, r2⟩ := d2.get q1
        obtain ⟨w, r3, r4⟩ := d4.get q2
        obtain ⟨T, v', w', rfl, hT, rfl, k1, k2⟩ := hy
        have e1 := k1 vs' (SqL.of d1)
        have e2 := k2 ws' (SqL.of d3)
        rw [r1] at e1
        rw [r3] at e2
        cases e1
        cases e2
        exact ⟨Ext.new hT, r.new hT, .tup (SqT.of upd_same) (.cons (Den.ext (Ext.new hT) _ _ r2) (.cons (Den.ext (Ext.new hT) _ _ r4) .nil))⟩
    · cases hit
/-- enumerate of a list, from 0 on -/
def enumL (xs : List D) : List D := (List.range xs.length).zipWith (fun i x => .tup [.int (i : Nat), x]) xs
def enumIt (d : D) (h : AH) : Option (List D × (AH → Bool)) := match d with
  | .ref l => match h[l]? with
    | some (.lst xs) => some (enumL xs, isLst l xs)
    | _ => none
  | _ => none
theorem enumL_get {xs : List D} {i : Nat} {d : D} (h : (enumL xs)[i]? = some d) : ∃ x, xs[i]? = some x ∧ d = .tup [.int (i : Nat), x] := by
  unfold enumL at h
  rw [List.getElem?_zipWith] at h
  cases e1 : xs[i]? with
  | none => rw [e1] at h; cases h2 : (List.range xs.length)[i]? <;> rw [h2] at h <;> cases h
  | some x =>
    have hi := (List.getElem?_eq_some_iff.mp e1).1
    rw [e1, List.getElem?_range hi] at h
    cases h
    exact ⟨x, rfl, rfl⟩
theorem enumL_length (xs : List D) : (enumL xs).length = xs.length := by simp [enumL]
theorem it_enum {K : PySem.W.Frag} : IterOk g W (iEnum K (tCons (tE g W ma) tNil)) ma enumIt := by
  rintro σ H R ⟨α, h, τ, R1, s, p⟩
  refine ⟨α, h, τ, R1, s, PostE.imp (PostI.toE p) ?_⟩
  rintro v H1 ⟨α1, d, h1, E1, R2, D1, ds, live, hit, k⟩
  cases D1 <;> simp only [enumIt, reduceCtorEq] at hit
  rename_i l a hl
  split at hit
  · rename_i xs hx
    cases hit
    obtain ⟨vs, a1, a2⟩ := R2.ob _ _ _ hx hl
    have at_ : ∀ {α' : List Addr} {H' : Hp} {h' : AH}, Ext α1 H1 α' H' → Rep g α' h' H' → isLst l xs h' = true → ∃ vs', H' a = some (.lst vs') ∧ DenL g α' H' xs vs' := fun {α' H' h'} E r lv => r.ob _ _ _ (isLst_of lv) (E.pre _ _ hl)
    refine ⟨a, vs, rfl, SqL.of a1, k _ ⟨fun α' H' h' E r lv i hi => ?_, fun α' H' h' E r lv i d hd => ?_, fun α' H' h' x H2 E r lv i d hd hy => ?_⟩⟩
    · obtain ⟨vs', b1, b2⟩ := at_ E r lv
      rw [enumL_length] at hi
      exact ⟨vs', SqL.of b1, by rw [← b2.length]; exact hi⟩
    · obtain ⟨vs', b1, b2⟩ := at_ E r lv
      obtain ⟨x, q0, rfl⟩ := enumL_get hd
      obtain ⟨v, q1, q2⟩ := b2.get q0
      exact ⟨vs', v, SqL.of b1, q1⟩
    · obtain ⟨vs', b1, b2⟩ := at_ E r lv
      obtain ⟨x, q0, rfl⟩ := enumL_get hd
      obtain ⟨v, q1, q2⟩ := b2.get q0
      obtain ⟨T, w, rfl, hT, rfl, k1⟩ := hy
      have := k1 vs' (SqL.of b1)
      rw [q1] at this
      cases this
      exact ⟨Ext.new hT, r.new hT, .tup (SqT.of upd_same) (.cons (.int _) (.cons (Den.ext (Ext.new hT) _ _ q2) .nil))⟩
  · cases hit

/-! ### attributes -/
def fldM (f : Str) (cs : List Nat) (d : D) (h : AH) : EO := match d with
  | .ref l => match h[l]? with
    | some (.ins c fs) => if c ∈ cs then match fs.lookup f with
      | some v => .ok v h
      | none => .bad else .bad
    | _ => .bad
  | _ => .bad
theorem lookup_den {ws : List (Str × V)} : ∀ {fs : List (Str × D)} {ws : List (Str × V)} {x : Str} {d : D}, ws.map (·.1) = fs.map (·.1) → DenL g α H (fs.map (·.2)) (ws.map (·.2)) → fs.lookup x = some d → ∃ v, ws.lookup x = some v ∧ Den g α H d v
  | [], _, _, _, _, _, q => by simp at q
  | (n, d0) :: fs, [], _, _, e, _, _ => by simp at e
  | (n, d0) :: fs, (m, v0) :: ws, x, d, e, hl, q => by
    simp only [List.map_cons, List.cons.injEq] at e hl
    obtain ⟨rfl, e⟩ := e
    cases hl with
    | cons h1 h2 =>
      rw [List.lookup_cons] at q ⊢
      cases hb : x == m with
      | true => rw [hb] at q; cases q; exact ⟨v0, rfl, h1⟩
      | false => rw [hb] at q; exact lookup_den (ws := ws) e h2 q
theorem de_fld {fl : Str} {cs : List Nat} (hK : g.K = X.K) (hc : ∀ c ∈ cs, Cls X.K (g.cl c) ∧ NoAttr X.K (g.cl c) fl) (he : PE X e (tE g W ma)) (hb : attributeBase e fl X.env (eval e X.env) = eval e X.env := by rfl) : PE X (.Attribute e fl pos) (tE g W (unM ma (fldM fl cs))) := by
  refine PE.imp (pe_fld he hb) fun σ H Q p => ?_
  obtain ⟨α, h, τ, R, s, p⟩ := tE_start (f := fldM fl cs) p
  refine ⟨α, h, τ, R, s, PostE.imp p ?_⟩
  rintro v H1 ⟨α1, d, h1, τ1, R1, s1, D1, p1⟩
  cases D1 <;> try exact False.elim p1
  rename_i l a hl
  simp only [fldM] at p1
  split at p1
  · rename_i c fs hx
    split at p1
    · rename_i hm
      split at p1
      · rename_i v hv
        obtain ⟨dx, ws, b1, b2, b3⟩ := R1.ob _ _ _ hx hl
        obtain ⟨w, q1, q2⟩ := lookup_den (ws := ws) b2 b3 hv
        exact ⟨a, _, dx, ws, w, rfl, b1, (hc c hm).1, (hc c hm).2, q1, p1 α1 H1 w .refl R1 q2⟩
      · exact p1.elim
    · exact p1.elim
  · exact p1.elim
/-- a field is set -/
def putD (f : Str) (v : D) : List (Str × D) → List (Str × D)
  | [] => [(f, v)]
  | (k, w) :: r => if k = f then (k, v) :: r else (k, w) :: putD f v r
def fldSetM (f : Str) (cs : List Nat) (o v : EM) : SM := fun τ h => (v τ h).toS τ fun y h1 => (o τ h1).toS τ fun d h2 => match d with
  | .ref l => match h2[l]? with
    | some (.ins c fs) => if c ∈ cs ∧ fs.length < 1000 then .nx τ (h2.set l (.ins c (putD f y fs))) else .bad
    | _ => .bad
  | _ => .bad
theorem putF_den {fl : Str} {y : D} {yv : V} (hy : Den g α H y yv) : ∀ {fs : List (Str × D)} {ws : List (Str × V)}, ws.map (·.1) = fs.map (·.1) → DenL g α H (fs.map (·.2)) (ws.map (·.2)) →
    (putF fl yv ws).map (·.1) = (putD fl y fs).map (·.1) ∧ DenL g α H ((putD fl y fs).map (·.2)) ((putF fl yv ws).map (·.2))
  | [], [], _, _ => ⟨rfl, .cons hy .nil⟩
  | [], _ :: _, e, _ => by simp at e
  | _ :: _, [], e, _ => by simp at e
  | (n, d0) :: fs, (m, v0) :: ws, e, hl => by
    simp only [List.map_cons, List.cons.injEq] at e
    obtain ⟨rfl, e⟩ := e
    cases hl with
    | cons h1 h2 =>
      unfold putF putD
      by_cases hk : m = fl
      · rw [if_pos hk, if_pos hk]
        exact ⟨by simp [e], .cons hy h2⟩
      · rw [if_neg hk, if_neg hk]
        obtain ⟨q1, q2⟩ := putF_den hy e h2
        exact ⟨by simp [q1], .cons h1 q2⟩
theorem ds_fld {fl : Str} {cs : List Nat} {pos' : Pos} {o value : Expr} {mo mv : EM} (hc : ∀ c ∈ cs, Cls X.K (g.cl c) ∧ NoAttr X.K (g.cl c) fl) (ho : PE X o (tE g W mo)) (hv : PE X value (tE g W mv)) (hs : swapsWith value (some (.Attribute o fl pos')) pos.line X.env = pure false := by rfl) :
    PS X (.Assign [.Attribute o fl pos'] value pos) (tS g W (fldSetM fl cs mo mv)) := by
  refine PS.imp (ps_fld ho hv hs) fun Dn σ H p => ?_
  obtain ⟨α, h, τ, R, s, p⟩ := tS_e (f := fun τ y h1 => (mo τ h1).toS τ fun d h2 => match d with
    | .ref l => match h2[l]? with
      | some (.ins c fs) => if c ∈ cs ∧ fs.length < 1000 then .nx τ (h2.set l (.ins c (putD fl y fs))) else .bad
      | _ => .bad
    | _ => .bad) p
  refine ⟨α, h, τ, R, s, PostE.imp p ?_⟩
  rintro v H1 ⟨α1, y, h1, τ1, R1, s1, D1, p1⟩
  refine ⟨α1, h1, τ1, R1, s1, PostE.imp (PostS.toS p1 s1) ?_⟩
  rintro w H2 ⟨α2, d, h2, E2, R2, D2, s2, p2⟩
  cases D2 <;> try exact False.elim p2
  rename_i l a hl
  simp only at p2
  split at p2
  · rename_i c fs hx
    split at p2
    · rename_i hm
      obtain ⟨dx, ws, b1, b2, b3⟩ := R2.ob _ _ _ hx hl
      have el : ws.length = fs.length := by have := congrArg List.length b2; simpa using this
      refine ⟨a, _, dx, ws, rfl, b1, (hc c hm.1).1, (hc c hm.1).2, by rw [el]; exact hm.2, ?_⟩
      have D1' := Den.ext E2 _ _ D1
      have E3 : Ext α2 H2 α2 (upd H2 a (.ins (g.cl c) dx (putF fl v ws))) := Ext.put b1 True.intro
      obtain ⟨q1, q2⟩ := putF_den (fl := fl) (Den.ext E3 _ _ D1') b2 (DenL.ext E3 _ _ b3)
      obtain ⟨R3, _⟩ := R2.write hl b1 True.intro (u' := .ins (g.cl c) dx (putF fl v ws)) (o := .ins c (putD fl y fs)) ⟨dx, _, upd_same, q1, q2⟩
      exact p2 α2 _ σ E3 R3 (s2.ext E3)
    · exact p2.elim
  · exact p2.elim
end
end DD
end

section
set_option Elab.async false
set_option linter.all false
set_option maxRecDepth 100000
namespace DD
open PySem L2
open PyProof.Rows (b2i)

/-! ### defs -/
def retOf : SO → EO
  | .nx _ h => .ok .non h
  | .rt d h => .ok d h
  | .exc c _ h => .exc c h
  | _ => .bad
def startD (n : Nat) (ds : List D) : SL := ds.map some ++ List.replicate (n - ds.length) none
/-- the promise of a def by a function -/
def spD (g : G) (n : Nat) (c : List D → AH → EO) : Sp := fun vs H Q E => ∃ α h ds, Rep g α h H ∧ DenL g α H ds vs ∧ ds.length = n ∧ PostE g (fun cls d _ H => E cls d H) α H [] Q (c ds h)
/-- a call by a promise: n parameters, the last of them given by the defaults dfl -/
def callF (n : Nat) (dfl : List D) (c : List D → AH → EO) : List D → AH → EO := fun ds h => if (ds ++ dfl).length = n then c (ds ++ dfl) h else .bad
section
variable {X : Cx} {g : G} {W : WX} {a b c e o : Expr} {es : List Expr} {ma mb mc mo : EM} {m : LM} {pos p apos : Pos} {σ : St} {H H' : Hp} {Q : VK} {Dn : Ends} {α α' : List Addr} {τ : SL} {sa sb : SM} {st : Stmt} {rest : List Stmt} {body : List Stmt}
variable {k n : Nat} {f C : Addr} {fd : FuncData} {ps : List Str} {x : Str} {dfl : List D} {dvs : List V} {dus : List Value} {cf : List D → AH → EO}
/-- what a call lets out is as wished -/
def Pas (X : Cx) (W : WX) : Prop := ∀ σ, PassesAt (L2.CX X.prog X.w) X σ (WE W σ)
theorem Pas.of (tk : Takes X W) : Pas X W := fun σ => passAt tk σ
theorem PostE.toSp {o : EO} (q : PostE g W α H σ Q o) : PostE g (fun cls d _ H => WE W σ cls d H) α H [] Q o := by
  cases o with
  | ok d h => exact q
  | exc c h => exact q
  | bad => exact q
theorem de_call (F : FnOk X.prog X.w X.K X.mg X.base (L2.CX X.prog X.w) k f fd ps (spD g n cf)) (tk : Pas X W) (hr : Room k X.A) (hg : Gl X x) (hm : X.mg x = some (.ref f)) (hk : PySem.W.keepIn X.K (.ref f) = true) (hb : Binds X.K fd ps dus) (hd : Vals dvs dus) (hdd : ∀ α H, DenL g α H dfl dvs)
    (ha : PA X (e :: es) (tL g W m)) (hdb : (x == ("__debug__" : Str)) = false := by decide) (he : starEach (e :: es) X.env = (false, eval e X.env) :: starEach es X.env := by rfl) (hpl : (backTo pos (starEach es X.env)).any (·.1) = false := by rfl) :
    PE X (.Call (.Name x p) (e :: es) [] pos) (tE g W (callM m (callF n dfl cf))) := by
  refine PE.imp (pe_callSD F hr hg hm hk hb hd tk ha hdb he hpl) fun σ H Q q => ?_
  obtain ⟨α, h, τ, R, s, q⟩ := q
  refine ⟨α, h, τ, R, s, PostL.imp (PostL.bindE q) ?_⟩
  rintro vs H1 ⟨α1, ds, h1, E1, R1, D1, p1⟩
  unfold callF at p1
  split at p1
  · rename_i hn
    exact ⟨α1, h1, ds ++ dfl, R1, D1.append (hdd α1 H1), hn, PostE.toSp p1⟩
  · exact p1.elim
/-- f() -/
theorem de_call0 (F : FnOk X.prog X.w X.K X.mg X.base (L2.CX X.prog X.w) k f fd ps (spD g n cf)) (tk : Pas X W) (hr : Room k X.A) (hg : Gl X x) (hm : X.mg x = some (.ref f)) (hk : PySem.W.keepIn X.K (.ref f) = true) (hb : Binds X.K fd ps dus) (hd : Vals dvs dus) (hdd : ∀ α H, DenL g α H dfl dvs)
    (hdb : (x == ("__debug__" : Str)) = false := by decide) : PE X (.Call (.Name x p) [] [] pos) (tE g W (callM nilM (callF n dfl cf))) := by
  refine ⟨fun pins s σ H Q I q => ?_⟩
  obtain ⟨α, h, τ, R, s', q⟩ := q
  refine wpAny_Call_Name_kw (ld_glob I hg hm ?_ hdb)
  have q' : PostE g W α H σ Q (callF n dfl cf [] h) := q
  unfold callF at q'
  split at q'
  · rename_i hn
    exact PySem.W.callWith_K0 I.kIn hk (run_fnSD (us := []) (vs := []) F hr hb hd (tk σ) I .nil ⟨α, h, dfl, R, by simpa using hdd α H, by simpa using hn, PostE.toSp (by simpa using q')⟩)
  · exact q'.elim
/-- o.m(..): the class by its number -/
def methF (m : Str) (c : Nat) (n : Nat) (dfl : List D) (cf : List D → AH → EO) (mo : EM) (m' : LM) : EM := fun τ h => (mo τ h).bind fun d h1 => match d with
  | .ref l => match h1[l]? with
    | some (.ins c' fs) => if c' = c ∧ fs.lookup m = none then (m' τ h1).bindE fun ds h2 => callF n dfl cf (d :: ds) h2 else .bad
    | _ => .bad
  | _ => .bad
theorem lookup_none_den : ∀ {fs : List (Str × D)} {ws : List (Str × V)} {x : Str}, ws.map (·.1) = fs.map (·.1) → fs.lookup x = none → ws.lookup x = none
  | [], [], _, _, _ => rfl
  | [], _ :: _, _, e, _ => by simp at e
  | _ :: _, [], _, e, _ => by simp at e
  | (n, d0) :: fs, (m, v0) :: ws, x, e, q => by
    simp only [List.map_cons, List.cons.injEq] at e
    obtain ⟨rfl, e⟩ := e
    rw [List.lookup_cons] at q ⊢
    cases hb : x == m with
    | true => rw [hb] at q; cases q
    | false => rw [hb] at q; exact lookup_none_den e q
theorem de_meth {mn : Str} {ci : Nat} {pl : Sem Bool} (ho : PE X o (tE g W mo)) (hcl : Cls X.K (g.cl ci)) (hm : Meth X.K (g.cl ci) mn f) (F : FnOk X.prog X.w X.K X.mg X.base (L2.CX X.prog X.w) k f fd ps (spD g n cf)) (tk : Pas X W) (hr : Room k X.A) (hb : Binds X.K fd ps dus) (hd : Vals dvs dus) (hdd : ∀ α H, DenL g α H dfl dvs) (ha : PA X (e :: es) (tL g W m))
    (hst : starEach (e :: es) X.env = (false, eval e X.env) :: starEach es X.env := by rfl) (hpl : (backTo pos (starEach es X.env)).any (·.1) = false := by rfl)
    (ht : eval (.Call (.Attribute o mn apos) (e :: es) [] pos) X.env = (do
      let ov ← eval o X.env
      standAt apos.atName
      let (f, first) ← holding [ov] (getMethod ov mn pl)
      callWith pos f first (backTo pos (starEach (e :: es) X.env)) (backToKw pos (keywordEach [] X.env))) := by rfl) :
    PE X (.Call (.Attribute o mn apos) (e :: es) [] pos) (tE g W (methF mn ci n dfl cf mo m)) := by
  refine ⟨fun pins s σ H Q I q => ?_⟩
  obtain ⟨α, h, τ, R, s', q⟩ := q
  refine PySem.W.methodCall_KW (pl := pl) (thn (ho.run pins s σ H _ I ⟨α, h, τ, R, s', PostE.bind q⟩) fun u s1 ⟨v, H1, I1, rx, α1, d, h1, E1, R1, D1, p1⟩ => ?_) ht
  cases D1 <;> try exact False.elim p1
  rename_i l a hl
  simp only at p1
  split at p1
  · rename_i c' fs hx
    split at p1
    · rename_i hc
      obtain ⟨rfl, hno⟩ := hc
      obtain ⟨dx, ws, b1, b2, b3⟩ := R1.ob _ _ _ hx hl
      obtain rfl : u = Value.ref a := rx
      refine getmeth_ok I1 b1 hcl hm (lookup_none_den b2 hno) ?_
      refine PySem.W.callWith_K (first := [.ref a]) (h₀ := X.base) I.ok.mod.kin hm.kp (thn (ha.run pos pins s1 σ H1 _ I1 ⟨α1, h1, τ, R1, s'.ext E1, PostL.bindE p1⟩) fun us s2 ⟨vs, H2, I2, r, α2, ds, h2, E2, R2, D2, p2⟩ => ⟨I2.kIn, ?_⟩) hst hpl
      unfold callF at p2
      split at p2
      · rename_i hn
        exact run_fnSD (us := .ref a :: us) (vs := .ref a :: vs) F hr hb hd (tk σ) I2 (.cons rfl r) ⟨α2, h2, (.ref l :: ds) ++ dfl, R2, (DenL.cons (.ref (E2.pre _ _ hl)) D2).append (hdd α2 H2), hn, PostE.toSp p2⟩
      · exact p2.elim
    · exact p1.elim
  · exact p1.elim
theorem de_meth0 {mn : Str} {ci : Nat} {pl : Sem Bool} (ho : PE X o (tE g W mo)) (hcl : Cls X.K (g.cl ci)) (hm : Meth X.K (g.cl ci) mn f) (F : FnOk X.prog X.w X.K X.mg X.base (L2.CX X.prog X.w) k f fd ps (spD g n cf)) (tk : Pas X W) (hr : Room k X.A) (hb : Binds X.K fd ps dus) (hd : Vals dvs dus) (hdd : ∀ α H, DenL g α H dfl dvs)
    (ht : eval (.Call (.Attribute o mn apos) [] [] pos) X.env = (do
      let ov ← eval o X.env
      standAt apos.atName
      let (f, first) ← holding [ov] (getMethod ov mn pl)
      callWith pos f first (backTo pos (starEach [] X.env)) (backToKw pos (keywordEach [] X.env))) := by rfl) :
    PE X (.Call (.Attribute o mn apos) [] [] pos) (tE g W (methF mn ci n dfl cf mo nilM)) := by
  refine ⟨fun pins s σ H Q I q => ?_⟩
  obtain ⟨α, h, τ, R, s', q⟩ := q
  refine PySem.W.methodCall_KW (pl := pl) (thn (ho.run pins s σ H _ I ⟨α, h, τ, R, s', PostE.bind q⟩) fun u s1 ⟨v, H1, I1, rx, α1, d, h1, E1, R1, D1, p1⟩ => ?_) ht
  cases D1 <;> try exact False.elim p1
  rename_i l a hl
  simp only at p1
  split at p1
  · rename_i c' fs hx
    split at p1
    · rename_i hc
      obtain ⟨rfl, hno⟩ := hc
      obtain ⟨dx, ws, b1, b2, b3⟩ := R1.ob _ _ _ hx hl
      obtain rfl : u = Value.ref a := rx
      refine getmeth_ok I1 b1 hcl hm (lookup_none_den b2 hno) ?_
      have p2 : PostE g W α1 H1 σ Q (callF n dfl cf [.ref l] h1) := p1
      unfold callF at p2
      split at p2
      · rename_i hn
        exact PySem.W.callWith_K0 (first := [.ref a]) I1.kIn hm.kp (run_fnSD (us := [.ref a]) (vs := [.ref a]) F hr hb hd (tk σ) I1 (.cons rfl .nil) ⟨α1, h1, [.ref l] ++ dfl, R1, (DenL.cons (.ref hl) .nil).append (hdd α1 H1), hn, PostE.toSp p2⟩)
      · exact p2.elim
    · exact p1.elim
  · exact p1.elim
/-- C(..) -/
def makeF (c n : Nat) (dfl : List D) (cf : List D → AH → EO) : List D → AH → EO := fun ds h => (callF n dfl cf (.ref h.length :: ds) (h ++ [.ins c []])).bind fun d h' => match d with
  | .non => .ok (.ref h.length) h'
  | _ => .bad
theorem make_core {ci : Nat} {ds : List D} {vs : List V} {us : List Value} {h : AH} {pins : List (Addr × Obj)} {s : Shared} (M : Mk X.K (g.cl ci) f) (F : FnOk X.prog X.w X.K X.mg X.base (L2.CX X.prog X.w) k f fd ps (spD g n cf)) (tk : Pas X W) (hr : Room (k + 1) X.A) (hb : Binds X.K fd ps dus) (hd : Vals dvs dus) (hdd : ∀ α H, DenL g α H dfl dvs)
    (I : L2.Inv X pins σ H s) (r : Vals vs us) (R : Rep g α h H) (D1 : DenL g α H ds vs) (p1 : PostE g W α H σ Q (makeF ci n dfl cf ds h)) : wpAny (model X.prog X.w) X.A (call (.ref (g.cl ci)) us) (EP X pins σ Q) X.xe s := by
  have hq : ∀ x dx, H x = none → H dx = none → dx ≠ x → spD g n cf (.ref x :: (vs ++ dvs)) (upd (upd H dx (.own x)) x (.ins (g.cl ci) dx [])) (fun v H2 => v = .non ∧ Q (.ref x) H2) (WE W σ) := fun x dx hx hdx hne => by
    have R0 := R.new (u := .own x) hdx
    have E0 : L2.Hp := H
    have Ex0 : Ext α H α (upd H dx (.own x)) := Ext.new hdx
    have hx0 : upd H dx (.own x) x = none := by rw [upd_ne (Ne.symm hne)]; exact hx
    obtain ⟨R1, E1⟩ := R0.push hx0 (u := .ins (g.cl ci) dx []) (o := .ins ci []) ⟨dx, [], upd_same, rfl, .nil⟩
    have EE := Ex0.trans E1
    have p2 := PostE.mono p1 EE
    unfold makeF at p2
    have hl : (α ++ [x])[h.length]? = some x := by rw [← R.len]; simp
    have p3 := PostE.bind p2
    unfold callF at p3
    split at p3
    · rename_i hn
      refine ⟨α ++ [x], h ++ [.ins ci []], (.ref h.length :: ds) ++ dfl, R1, (DenL.cons (.ref hl) (DenL.ext EE _ _ D1)).append (hdd _ _), hn, PostE.imp (PostE.toSp p3) ?_⟩
      rintro v H3 ⟨α3, d3, h3, E3, R3, D3, p4⟩
      cases D3 <;> try exact False.elim p4
      exact ⟨rfl, p4 α3 H3 _ .refl R3 (.ref (E3.pre _ _ hl))⟩
    · exact p3.elim
  have hq0 := hq (s.heap.objs.size + 1) s.heap.objs.size (I.hok.fresh (Nat.le_succ _)) (I.hok.fresh (Nat.le_refl _)) (Nat.ne_of_lt (Nat.lt_succ_self _))
  have I2 := Inv.made (C := g.cl ci) I
  have r2 : Vals (V.ref (s.heap.objs.size + 1) :: (vs ++ dvs)) (Value.ref (s.heap.objs.size + 1) :: (us ++ dus)) := .cons rfl (r.append hd)
  have hl : (Value.ref (s.heap.objs.size + 1) :: us ++ dus).length = ps.length := by
    have e := r2.length
    rw [F.len _ _ _ _ hq0] at e
    exact e.symm
  refine wpAny_call (make_map (f := f) I.kIn M.makes M.init (beq_iff_eq.mp M.fn) (codeAny_mono (F.run _ X.stack _ _ ⟨Value.ref (s.heap.objs.size + 1) :: us, []⟩ (Value.ref (s.heap.objs.size + 1) :: (us ++ dus)) _ _ (WE W σ) (hr.make _ us [])
    (I2.env0.make _ us []) (hb _ (Value.ref (s.heap.objs.size + 1) :: us) I2.kIn hl) r2 hq0) fun r s' hq' => ?_))
  cases r with
  | error e => exact tk σ pins _ _ e s' I2 hq'
  | ok fl =>
    cases fl with
    | ret u =>
      obtain ⟨v, H', I3, rv, ev, q3⟩ := I2.after hq'
      subst ev
      exact ⟨rv, ⟨V.ref (s.heap.objs.size + 1), H', I3, rfl, q3⟩⟩
    | next => exact False.elim hq'
    | brk => exact False.elim hq'
    | cont => exact False.elim hq'
theorem de_make {ci : Nat} (M : Mk X.K (g.cl ci) f) (F : FnOk X.prog X.w X.K X.mg X.base (L2.CX X.prog X.w) k f fd ps (spD g n cf)) (tk : Pas X W) (hr : Room (k + 1) X.A) (hg : Gl X x) (hm : X.mg x = some (.ref (g.cl ci))) (hb : Binds X.K fd ps dus) (hd : Vals dvs dus) (hdd : ∀ α H, DenL g α H dfl dvs)
    (ha : PA X (e :: es) (tL g W m)) (hdb : (x == ("__debug__" : Str)) = false := by decide) (he : starEach (e :: es) X.env = (false, eval e X.env) :: starEach es X.env := by rfl) (hpl : (backTo pos (starEach es X.env)).any (·.1) = false := by rfl) :
    PE X (.Call (.Name x p) (e :: es) [] pos) (tE g W (callM m (makeF ci n dfl cf))) := by
  refine ⟨fun pins s σ H Q I q => ?_⟩
  obtain ⟨α, h, τ, R, s', q⟩ := q
  refine wpAny_Call_Name_kw (ld_glob I hg hm ?_ hdb)
  refine PySem.W.callWith_K (h₀ := X.base) I.ok.mod.kin M.kp (thn (ha.run pos pins s σ H _ I ⟨α, h, τ, R, s', PostL.bindE q⟩) fun us s1 ⟨vs, H1, I1, r, α1, ds, h1, E1, R1, D1, p1⟩ => ⟨I1.kIn, ?_⟩) he hpl
  exact make_core M F tk hr hb hd hdd I1 r R1 D1 p1
theorem de_make0 {ci : Nat} (M : Mk X.K (g.cl ci) f) (F : FnOk X.prog X.w X.K X.mg X.base (L2.CX X.prog X.w) k f fd ps (spD g n cf)) (tk : Pas X W) (hr : Room (k + 1) X.A) (hg : Gl X x) (hm : X.mg x = some (.ref (g.cl ci))) (hb : Binds X.K fd ps dus) (hd : Vals dvs dus) (hdd : ∀ α H, DenL g α H dfl dvs)
    (hdb : (x == ("__debug__" : Str)) = false := by decide) : PE X (.Call (.Name x p) [] [] pos) (tE g W (callM nilM (makeF ci n dfl cf))) := by
  refine ⟨fun pins s σ H Q I q => ?_⟩
  obtain ⟨α, h, τ, R, s', q⟩ := q
  refine wpAny_Call_Name_kw (ld_glob I hg hm ?_ hdb)
  exact PySem.W.callWith_K0 I.kIn M.kp (make_core (us := []) (vs := []) (ds := []) M F tk hr hb hd hdd I .nil R .nil q)

theorem den_start {N : List Str} {ds : List D} {vs : List V} (dl : DenL g α H ds vs) : DenS g α H (startD N.length ds) (L2.start N vs) := by
  have el := dl.length
  refine ⟨by simp [startD, L2.start, el], fun i d q => ?_⟩
  unfold startD at q
  unfold L2.start
  by_cases hi : i < ds.length
  · rw [List.getElem?_append_left (by simpa using hi), List.getElem?_map] at q
    rw [List.getElem?_append_left (by simp; omega), List.getElem?_map]
    cases e : ds[i]? with
    | none => rw [e] at q; cases q
    | some d' =>
      rw [e] at q
      cases q
      obtain ⟨v, h1, h2⟩ := dl.get e
      exact ⟨v, by rw [h1]; rfl, h2⟩
  · rw [List.getElem?_append_right (by simp; omega)] at q
    rw [List.getElem?_replicate] at q
    split at q <;> cases q
/-- a def keeps the promise of its own mirror -/
theorem fn_okD {P : Program} {w : World} {K : PySem.W.Frag} {mg : Str → Option Value} {base : Heap} {qual : Str} {st : Stmt} {N : List Str} {m : SM} (F : Fun K x qual st f fd) (S : FnScope N ps (defScope st))
    (hb : ∀ (cdv : Value) (A : Around) (outer : List Env) (s : Shared) (H : Hp) (E : XK), Room k (A.deeper (PyProof.Rows.envOfC qual (defScope st) s.heap.objs.size f cdv)) →
      PSs (cxOf (L2.CX P w) P w K mg base N qual (defScope st) f cdv A outer s H E) (defBody st) (tS g (fun cls d _ H => E cls d H) m)) :
    FnOk P w K mg base (L2.CX P w) (k + 1) f fd ps (spD g ps.length fun ds h => retOf (m (startD N.length ds) h)) := by
  refine F.okX S (fun vs H Q E q => ?_) (fun cdv A outer s H vs Q E hr q => ?_)
  · obtain ⟨α, h, ds, _, dl, hn, _⟩ := q
    rw [← dl.length, hn]
  · obtain ⟨α, h, ds, R, dl, hn, q⟩ := q
    have q : PostE g (fun cls d _ H => E cls d H) α H [] Q (retOf (m (startD N.length ds) h)) := q
    refine ⟨_, hb cdv A outer s H E hr, α, h, startD N.length ds, R, den_start dl, ?_⟩
    cases e : m (startD N.length ds) h with
    | nx τ' h' => rw [e] at q; exact fun α' H' σ' E' R' s' => q α' H' .non E' R' .non
    | rt d h' => rw [e] at q; exact q
    | bk τ' h' => rw [e] at q; exact q.elim
    | ct τ' h' => rw [e] at q; exact q.elim
    | exc c τ' h' => rw [e] at q; exact fun α' H' σ' E' R' s' => q α' H' E' R'
    | bad => rw [e] at q; exact q.elim

/-! ### raise, try -/
theorem ds_raise {t : St → Hp → XK → Prop} {c : Nat} (hc : X.calm = true) (tk : Takes X W) (he : PMk X e t) (ht : ∀ σ H (Q : XK), Q (.ref (g.cl c)) none H → t σ H Q) : PS X (.Raise (some e) none pos) (tS g W (raiseM c)) :=
  PS.imp (ps_raise hc tk he) fun Dn σ H ⟨α, h, τ, R, s, q⟩ => ht σ H _ (q α H σ .refl R s)
/-- which clause takes an exception: each tells yes, no, or nothing -/
def pick : List ((Nat → Option Bool) × SM) → Nat → Option (Option SM)
  | [], _ => some none
  | (mt, s) :: r, c => match mt c with
    | some true => some (some s)
    | some false => pick r c
    | none => none
def tryM (b : SM) (hs : List ((Nat → Option Bool) × SM)) : SM := fun τ h => match b τ h with
  | .exc c τ' h' => match pick hs c with
    | some (some s) => s τ' h'
    | some none => .exc c τ' h'
    | none => .bad
  | r => r
/-- the clauses' bodies, and which of the classes each takes -/
inductive Hds (X : Cx) (g : G) : List ExceptHandler → List ((Nat → Option Bool) × SM) → List (Value × (Addr → Value → Option Addr → TS)) → Prop
  | nil : Hds X g [] [] []
  | cons {x : Str} {c : Value} {mt : Nat → Option Bool} {sm : SM} {b₀ : Stmt} {suite : List Stmt} {np pos' : Pos} {hds : List ExceptHandler} {l : List ((Nat → Option Bool) × SM)} {l' : List (Value × (Addr → Value → Option Addr → TS))} (hc : Names X x c) (hm : ∀ i b, mt i = some b → PySem.W.exmOne X.K (.ref (g.cl i)) c = some b)
      (hsu : ∀ (a : Addr) (pn : List (Addr × Obj)), PSs (X.suite a pn) (b₀ :: suite) (tS g (fun _ _ _ _ => False) sm)) (r : Hds X g hds l l') :
      Hds X g (.ExceptHandler (some (.Name x np)) none (b₀ :: suite) pos' :: hds) ((mt, sm) :: l) ((c, fun _ _ _ => tS g (fun _ _ _ _ => False) sm) :: l')
theorem Hds.ok {hds : List ExceptHandler} {l : List ((Nat → Option Bool) × SM)} {l' : List (Value × (Addr → Value → Option Addr → TS))} (k : Hds X g hds l l') : HdsOk X hds l' := by
  induction k with
  | nil => exact .nil
  | cons hc hm hsu r ih => exact .cons hc (fun a oe cls d pn _ _ => hsu a _) ih
theorem Hds.wish {hds : List ExceptHandler} {l : List ((Nat → Option Bool) × SM)} {l' : List (Value × (Addr → Value → Option Addr → TS))} (k : Hds X g hds l l') {c : Nat} {h : AH} (R : Rep g α h H) (s : DenS g α H τ σ)
    (hno : ∀ sm, pick l c = some (some sm) → PostS g (fun _ _ _ _ => False) α H Dn (sm τ h)) (hout : pick l c = some none → W (.ref (g.cl c)) none σ H) (hp : pick l c ≠ none) : wMany X.K W Dn l' (.ref (g.cl c)) none σ H := by
  induction k with
  | nil => exact hout rfl
  | @cons x c' mt sm b₀ suite np pos' hds l l' hc hm hsu r ih =>
    simp only [pick] at hno hout hp
    cases e : mt c with
    | none => rw [e] at hp; exact absurd rfl hp
    | some b =>
      rw [e] at hno hout hp
      refine ⟨b, hm c b e, fun hb a _ => ?_, fun hb => ?_⟩
      · subst hb
        exact ⟨α, h, τ, R, s, hno sm rfl⟩
      · subst hb
        exact ih hno hout hp
/-- the suites raise nothing: their mirrors' outcomes count without a wish -/
def quiet : SO → SO
  | .exc _ _ _ => .bad
  | o => o
theorem PostS.quiet {o : SO} {W' : WX} (q : PostS g W α H Dn (quiet o)) : PostS g W' α H Dn o := by
  cases o with
  | nx τ h => exact q
  | rt d h => exact q
  | bk τ h => exact q
  | ct τ h => exact q
  | exc c τ h => exact q.elim
  | bad => exact q
def tryQ (b : SM) (hs : List ((Nat → Option Bool) × SM)) : SM := tryM b (hs.map fun p => (p.1, fun τ h => quiet (p.2 τ h)))
theorem pick_map {l : List ((Nat → Option Bool) × SM)} {c : Nat} : pick (l.map fun p => (p.1, fun τ h => quiet (p.2 τ h))) c = (pick l c).map fun o => o.map fun s => fun τ h => quiet (s τ h) := by
  induction l with
  | nil => rfl
  | cons p l ih =>
    simp only [List.map_cons, pick]
    cases p.1 c with
    | none => rfl
    | some b => cases b with
      | true => rfl
      | false => exact ih
theorem ds_try {h₀ : ExceptHandler} {hds : List ExceptHandler} {l : List ((Nat → Option Bool) × SM)} {l' : List (Value × (Addr → Value → Option Addr → TS))} (hs : X.stack = X.env :: X.outer) (hf : X.env.frame = some X.env.locals) (tk : Takes X W)
    (hb : ∀ (W : WX) (pn : List (Addr × Obj)) (xe : Value → Shared → Prop), Takes (X.tr pn xe) W → PassesOwn (model X.prog X.w) X.A X.env xe → PSs (X.tr pn xe) body (tS g W sb)) (hh : Hds X g (h₀ :: hds) l l') :
    PS X (.Try body (h₀ :: hds) [] [] pos) (tS g W (tryQ sb l)) := by
  refine PS.imp (ps_try_many hs hf tk hb hh.ok) fun Dn σ H q => ?_
  obtain ⟨α, h, τ, R, s, q⟩ := q
  refine ⟨α, h, τ, R, s, ?_⟩
  unfold tryQ tryM at q
  cases e : sb τ h with
  | nx τ' h' => rw [e] at q; exact q
  | rt d h' => rw [e] at q; exact q
  | bk τ' h' => rw [e] at q; exact q
  | ct τ' h' => rw [e] at q; exact q
  | bad => rw [e] at q; exact q
  | exc c τ' h' =>
    rw [e] at q
    simp only [pick_map] at q
    intro α' H' σ' E' R' s'
    cases ep : pick l c with
    | none => rw [ep] at q; exact q.elim
    | some o =>
      rw [ep] at q
      refine hh.wish R' s' (fun sm es => ?_) (fun es => ?_) (by rw [ep]; simp)
      · rw [ep] at es
        cases es
        exact PostS.quiet (PostS.mono q E')
      · rw [ep] at es
        cases es
        exact q α' H' σ' E' R' s'
end
end DD
end

section
set_option Elab.async false
set_option linter.all false
set_option maxRecDepth 100000
namespace DD
open PySem L2
open PyProof.Rows (b2i)

/-! ### methods of lists -/
def RSm (g : G) (W : WX) (r : V → List V → Hp → VK → Prop) (f : D → List D → AH → EO) : Prop :=
  ∀ (α : List Addr) (h : AH) (H : Hp) (σ : St) (x : V) (dx : D) (vs : List V) (ds : List D) (Q : VK), Rep g α h H → Den g α H dx x → DenL g α H ds vs → PostE g W α H σ Q (f dx ds h) → r x vs H Q
/-- o.name(..) where o is a list -/
def bmM (o : EM) (m : LM) (f : D → List D → AH → EO) : EM := fun τ h => (o τ h).bind fun d h1 => match d with
  | .ref l => match h1[l]? with
    | some (.lst _) => (m τ h1).bindE fun ds h2 => f d ds h2
    | _ => .bad
  | _ => .bad
def appendF (d : D) (ds : List D) (h : AH) : EO := match d, ds with
  | .ref l, [y] => match h[l]? with
    | some (.lst xs) => if xs.length < sizeLine then .ok .non (h.set l (.lst (xs ++ [y]))) else .bad
    | _ => .bad
  | _, _ => .bad
def extendF (d : D) (ds : List D) (h : AH) : EO := match d, ds with
  | .ref l, [.ref b] => match h[l]?, h[b]? with
    | some (.lst xs), some (.lst zs) => if xs.length + zs.length ≤ sizeLine then .ok .non (h.set l (.lst (xs ++ zs))) else .bad
    | _, _ => .bad
  | .ref l, [.tup zs] => match h[l]? with
    | some (.lst xs) => if xs.length + zs.length ≤ sizeLine then .ok .non (h.set l (.lst (xs ++ zs))) else .bad
    | _ => .bad
  | _, _ => .bad
section
variable {X : Cx} {g : G} {W : WX} {a b c e o : Expr} {es : List Expr} {ma mb mc mo : EM} {m : LM} {pos p apos cpos : Pos} {σ : St} {H H' : Hp} {Q : VK} {Dn : Ends} {α α' : List Addr} {τ : SL} {sa sb : SM} {st : Stmt} {rest : List Stmt} {body : List Stmt}
theorem put_list {h : AH} {l : Nat} {a : Addr} {vs : List V} {zs : List D} {ws : List V} (R : Rep g α h H) (hl : α[l]? = some a) (a1 : H a = some (.lst vs)) (d : DenL g α H zs ws) :
    Rep g α (h.set l (.lst zs)) (upd H a (.lst ws)) ∧ Ext α H α (upd H a (.lst ws)) := by
  have E : Ext α H α (upd H a (.lst ws)) := Ext.put a1 True.intro
  exact R.write hl a1 True.intro (u' := .lst ws) (o := .lst zs) ⟨ws, upd_same, DenL.ext E _ _ d⟩
theorem rs_append : RSm g W rAppend appendF := by
  intro α h H σ x dx vs ds Q R hx hd p
  cases hx
  case ref l a hl =>
   cases hd with
   | nil => exact p.elim
   | cons h1 h2 =>
    cases h2 with
    | cons _ _ => exact p.elim
    | nil =>
      simp only [appendF] at p
      split at p
      · rename_i xs hx
        split at p
        · rename_i hz
          obtain ⟨vs, a1, a2⟩ := R.ob _ _ _ hx hl
          obtain ⟨b1, b2⟩ := put_list R hl a1 (a2.snoc h1)
          exact ⟨a, vs, _, rfl, rfl, a1, by rw [← a2.length]; exact hz, p α _ .non b2 b1 .non⟩
        · exact p.elim
      · exact p.elim
  all_goals exact False.elim p
/-- extend by a tuple -/
def rExtT (K : PySem.W.Frag) : V → List V → Hp → VK → Prop := fun x vs H Q => ∃ l b xs zs, x = .ref l ∧ vs = [.ref b] ∧ H l = some (.lst xs) ∧ SqT K H b zs ∧ xs.length + zs.length ≤ sizeLine ∧ Q .non (upd H l (.lst (xs ++ zs)))
end
section
open PySem.Spec PyProof.Rows
variable {X : Cx}
theorem ext_tup (l : Addr) (xs : Array Value) (n : Nat) (b : Addr) (ys : Array Value) (n2 : Nat) (dd : Option Addr) (sl : Array (Option Value)) (hl : ¬ (!xs.isEmpty && Builtin.List.listTooLong (xs.size + ys.size)) = true) (h1 : xs.size ≤ sizeLine) (h2 : xs.size + ys.size ≤ sizeLine + 1) :
    Meets (Builtin.«list.extend» ⟨[.ref l, .ref b], []⟩) fun _ R s => s.heap.get? l = some { cls := .type "list", dict := none, data := .seq xs n, slots := #[] } ∧ s.heap.get? b = some { cls := .type "tuple", dict := dd, data := .seq ys n2, slots := sl } ∧
      R (.ok (.ret Value.none)) { s with heap := s.heap.update l (Obj.mapSeq fun x => x ++ ys), toks := s.toks } := by
  refine .of_wp fun prog w A R s h => ?_
  obtain ⟨hp, g, d, tk, os⟩ := s
  obtain ⟨k1, k2, k3⟩ := h
  have f1 := PySem.AutoSeq1.idx_int
  have f2 := PySem.AutoSeq1.sub_tuple_tuple
  have f3 := PySem.AutoSeq1.sub_list_list
  have f4 := PySem.AutoSeq1.sub_tuple_list
  have f5 := PySem.AutoSeq1.sub_list_tuple
  have hz : (xs ++ ys).size ≤ sizeLine + 1 := by rw [Array.size_append]; exact h2
  wp_walk using (wpAny_updateSeq k1 rfl (hz := h1) (_hz' := hz)), PySem.AutoSeq1.wpAny_loadPart' k1, PySem.AutoSeq1.wpAny_loadPart' k2
  exact ⟨_, rfl, k3⟩
theorem mt_extT : MtM X "list.extend" (rExtT X.K) := by
  intro pins s σ H x vs v us Q I rx rv h
  obtain ⟨l, b, xs, zs, rfl, rfl, hH, hB, hz, q⟩ := h
  cases rx
  obtain ⟨u, rfl, ru⟩ := rv.one
  cases ru
  obtain ⟨z, its, n, r, hl, e⟩ := I.lstM hH
  obtain ⟨its2, r2, ⟨⟨cls, dd, data, sl⟩, ho, hc, n2, hd⟩, _⟩ := I.tuple hB
  simp only at hc hd
  subst hc hd
  have hl2 := r2.length
  have hsz : its.toArray.size + its2.toArray.size ≤ sizeLine := by rw [List.size_toArray, List.size_toArray]; omega
  have hlong : ¬ (!its.toArray.isEmpty && Builtin.List.listTooLong (its.toArray.size + its2.toArray.size)) = true := by
    rw [notLongL hsz, Bool.and_false]
    exact Bool.false_ne_true
  refine call_meets F.slot_list_extend ⟨_, e, rfl⟩ F.entry_list_extend (F.args_list_extend_2 _ _) (ext_tup l its.toArray n b its2.toArray n2 dd sl hlong (by omega) (by omega)) ⟨e, ho, ?_⟩
  refine ⟨.non, _, I.lset (its' := its ++ its2) hH e (by simp) (r.append r2) ?_, rfl, q⟩
  rw [List.length_append]
  omega
end

section
variable {X : Cx} {g : G} {W : WX} {a b c e o : Expr} {es : List Expr} {ma mb mc mo : EM} {m : LM} {pos p apos cpos : Pos} {σ : St} {H H' : Hp} {Q : VK} {Dn : Ends} {α α' : List Addr} {τ : SL} {sa sb : SM} {st : Stmt} {rest : List Stmt} {body : List Stmt}
def rExtAny (K : PySem.W.Frag) : V → List V → Hp → VK → Prop := fun x vs H Q => rExtend x vs H Q ∨ rExtT K x vs H Q
theorem mt_extAny : MtR X "list.extend" (rExtAny X.K) := MtR.or (r := rExtend) mt_extend mt_extT
theorem rs_extend : RSm g W (rExtAny g.K) extendF := by
  intro α h H σ x dx vs ds Q R hx hd p
  cases hx
  case ref l a hl =>
   cases hd with
   | nil => exact p.elim
   | cons h1 h2 =>
    cases h2 with
    | cons _ _ => cases h1 <;> exact False.elim p
    | nil =>
      cases h1
      case tup b zs ws hs hw =>
        simp only [extendF] at p
        split at p
        · rename_i xs hx
          split at p
          · rename_i hz
            obtain ⟨vs, a1, a2⟩ := R.ob _ _ _ hx hl
            obtain ⟨b1, b2⟩ := put_list R hl a1 (a2.append hw)
            exact .inr ⟨a, b, vs, ws, rfl, rfl, a1, hs, by rw [← a2.length, ← hw.length]; exact hz, p α _ .non b2 b1 .non⟩
          · exact p.elim
        · exact p.elim
      case ref b q hb =>
        simp only [extendF] at p
        split at p
        · rename_i xs zs hx hz
          split at p
          · rename_i hl2
            obtain ⟨vs, a1, a2⟩ := R.ob _ _ _ hx hl
            obtain ⟨ws, c1, c2⟩ := R.ob _ _ _ hz hb
            obtain ⟨b1, b2⟩ := put_list R hl a1 (a2.append c2)
            exact .inl ⟨a, q, vs, ws, rfl, rfl, a1, c1, by rw [← a2.length, ← c2.length]; exact hl2, p α _ .non b2 b1 .non⟩
          · exact p.elim
        · exact p.elim
      all_goals exact False.elim p
  all_goals exact False.elim p
open PySem.Spec in
theorem de_bm {name : Str} {id : String} {r : V → List V → Hp → VK → Prop} {f : D → List D → AH → EO} (pa : PlainAttrs "list") (slot : Slot "list" name id) (hty : typeOf (.builtin id) = pure (.type "method_descriptor")) (hm : MtR X id r) (rs : RSm g W r f) (ho : PE X o (tE g W mo)) (ha : PA X (e :: es) (tL g W m))
    (hbase : attributeBase o name X.env (eval o X.env) = eval o X.env := by rfl)
    (hfew : ((backTo cpos (starEach (e :: es) X.env)).all (fun x => !x.1) && (backToKw cpos (keywordEach [] X.env)).all (fun x => x.1.isSome)
      && decide ((e :: es).length + ([] : List Keyword).length + (if ([] : List Keyword).isEmpty then 0 else 1) < 30)) = true := by rfl)
    (hline : (apos.endLine == cpos.line) = true := by rfl) (hs : starEach (e :: es) X.env = (false, eval e X.env) :: starEach es X.env := by rfl) (hplain : (backTo cpos (starEach es X.env)).any (·.1) = false := by rfl) :
    PE X (.Call (.Attribute o name apos) (e :: es) [] cpos) (tE g W (bmM mo m f)) := by
  refine PE.imp (pe_bm pa slot hty hm ho ha hbase hfew hline hs hplain) fun σ H Q q => ?_
  obtain ⟨α, h, τ, R, s, q⟩ := q
  refine ⟨α, h, τ, R, s, PostE.imp (PostE.bind q) ?_⟩
  rintro v H1 ⟨α1, d, h1, E1, R1, D1, p1⟩
  cases D1 <;> try exact False.elim p1
  rename_i l a hl
  simp only at p1
  split at p1
  · rename_i xs hx
    obtain ⟨vs, a1, a2⟩ := R1.ob _ _ _ hx hl
    refine ⟨.inl ⟨rfl, _, SqL.of a1⟩, α1, h1, τ, R1, s.ext E1, PostL.imp (PostL.bindE p1) ?_⟩
    rintro ws H2 ⟨α2, ds, h2, E2, R2, D2, p2⟩
    exact rs α2 h2 H2 σ _ _ ws ds Q R2 (.ref (E2.pre _ _ hl)) D2 p2
  · exact p1.elim
/-! ### methods of texts -/
def smM (o a : EM) (f : Str → D → AH → EO) : EM := fun τ h => (o τ h).bind fun d h1 => match d with
  | .str x => (a τ h1).bind fun y h2 => f x y h2
  | _ => .bad
open PySem.Spec in
theorem de_sm {name : Str} {id : String} {r : V → List V → Hp → VK → Prop} {f : Str → D → AH → EO} (slot : Slot "str" name id) (ty : typeOf (.builtin id) = pure (.type "method_descriptor")) (rule : MtR X id r) (rs : ∀ z, RS1 g W (fun y H Q => r (.str z) [y] H Q) (f z)) (ho : PE X o (tE g W mo)) (he : PE X e (tE g W ma))
    (hs : starEach [e] X.env = [(false, eval e X.env)] := by rfl) (hbase : attributeBase o name X.env (eval o X.env) = eval o X.env := by rfl) (hline : (apos.endLine == pos.line) = true := by rfl) :
    PE X (.Call (.Attribute o name apos) [e] [] pos) (tE g W (smM mo ma f)) := by
  refine PE.imp (pe_m1 slot ty rule ho he hs hbase hline) fun σ H Q q => ?_
  obtain ⟨α, h, τ, R, s, q⟩ := q
  refine ⟨α, h, τ, R, s, PostE.imp (PostE.bind q) ?_⟩
  rintro v H1 ⟨α1, d, h1, E1, R1, D1, p1⟩
  cases D1 <;> try exact False.elim p1
  rename_i z
  refine ⟨⟨z, rfl⟩, α1, h1, τ, R1, s.ext E1, PostE.imp (PostE.bind p1) ?_⟩
  rintro w H2 ⟨α2, d2, h2, E2, R2, D2, p2⟩
  exact rs z α2 h2 H2 σ w d2 Q R2 D2 p2
def findS (x : Str) (d : D) (h : AH) : EO := match d with
  | .str y => .ok (.int (Txt.find x y)) h
  | _ => .bad
theorem rs_find (z : Str) : RS1 g W (fun y H Q => ∃ a b, V.str z = .str a ∧ [y] = [.str b] ∧ Q (.int (Txt.find a b)) H) (findS z) := by
  intro α h H σ x dx Q R hx p
  cases hx <;> try exact False.elim p
  exact ⟨z, _, rfl, rfl, p α H _ .refl R (.int _)⟩
/-- texts of a list -/
def strsOf : List D → Option (List Str)
  | [] => some []
  | .str b :: r => (strsOf r).map (b :: ·)
  | _ :: _ => none
theorem strsOf_den : ∀ {ds : List D} {vs : List V} {bs : List Str}, DenL g α H ds vs → strsOf ds = some bs → vs = bs.map V.str
  | [], _, _, h, q => by cases h; cases q; rfl
  | d :: ds, _, bs, h, q => by
    cases h with
    | cons h1 h2 =>
      cases h1 <;> simp only [strsOf, reduceCtorEq] at q
      simp only [Option.map_eq_some_iff] at q
      obtain ⟨r, q1, rfl⟩ := q
      rw [strsOf_den h2 q1]
      rfl
def joinS (x : Str) (d : D) (h : AH) : EO := match d with
  | .ref l => match h[l]? with
    | some (.lst xs) => match strsOf xs with
      | some ys => if (ys.map (·.length)).sum + ys.length * x.length ≤ 16777216 then .ok (.str (Txt.join x ys)) h else .bad
      | none => .bad
    | _ => .bad
  | _ => .bad
theorem rs_join (z : Str) : RS1 g W (fun y H Q => ∃ a p, ∃ ys : List Str, V.str z = .str a ∧ [y] = [.ref p] ∧ (SqL g.K H p (ys.map V.str) ∨ SqT g.K H p (ys.map V.str)) ∧ (ys.map (·.length)).sum + ys.length * a.length ≤ 16777216 ∧ Q (.str (Txt.join a ys)) H) (joinS z) := by
  intro α h H σ x dx Q R hx p
  cases hx <;> try exact False.elim p
  rename_i l a hl
  simp only [joinS] at p
  split at p
  · rename_i xs hx
    split at p
    · rename_i ys hy
      split at p
      · rename_i hz
        obtain ⟨vs, a1, a2⟩ := R.ob _ _ _ hx hl
        exact ⟨z, a, ys, rfl, rfl, .inl (by rw [← strsOf_den a2 hy]; exact SqL.of a1), hz, p α H _ .refl R (.str _)⟩
      · exact p.elim
    · exact p.elim
  · exact p.elim
/-! ### isinstance by a built-in class -/
def tyName (h : AH) : D → Option String
  | .non => some "NoneType"
  | .bl _ => some "bool"
  | .int _ => some "int"
  | .str _ => some "str"
  | .tup _ => some "tuple"
  | .ref l => match h[l]? with
    | some (.lst _) => some "list"
    | some (.dct _) => some "dict"
    | _ => none
  | .con _ => none
  | .fls _ => none
/-- kitB's answers for the classes that stand in the programs -/
def isTy (n T : String) : Option Bool :=
  if n = "bool" ∧ T = "int" then some true else
  if (n = "NoneType" ∨ n = "bool" ∨ n = "int" ∨ n = "str" ∨ n = "tuple" ∨ n = "list" ∨ n = "dict") ∧ (T = "int" ∨ T = "str" ∨ T = "tuple" ∨ T = "list" ∨ T = "bool" ∨ T = "dict") then some (decide (n = T)) else none
theorem isTy_kit {K : PySem.W.Frag} {n T : String} {b : Bool} (h : isTy n T = some b) : PySem.W.kitOne K (.type n) (.type T) = some b := by
  refine kit_ty ?_
  unfold isTy at h
  split at h
  · rename_i q
    obtain ⟨rfl, rfl⟩ := q
    cases h
    decide +kernel
  · split at h
    · rename_i q1 q
      cases h
      obtain ⟨hn, hT⟩ := q
      rcases hn with rfl | rfl | rfl | rfl | rfl | rfl | rfl <;> rcases hT with rfl | rfl | rfl | rfl | rfl | rfl <;> first | (exfalso; exact q1 ⟨rfl, rfl⟩) | decide +kernel
    · cases h
def isiM (T : String) (d : D) (h : AH) : EO := match tyName h d with
  | some n => match isTy n T with
    | some b => .ok (.bl b) h
    | none => .bad
  | none => .bad
theorem tyX_tup {K : PySem.W.Frag} {a : Addr} {vs : List V} (h : SqT K H a vs) : TyX K H (.ref a) (.type "tuple") := by
  rcases h with (h | ⟨o, h⟩) | ⟨o, its, n, h1, h2, _⟩
  · exact .base (.tup h)
  · exact .fTuple h
  · exact .kTuple h1 h2
theorem de_isi {T : String} {x2 : Str} {p2 : Pos} (hK : g.K = X.K) (hg : Gl X "isinstance") (hm : X.mg "isinstance" = none) (hg2 : Gl X x2) (hm2 : X.mg x2 = none) (hv2 : bootBuiltins x2 = some (.type T)) (ha : PE X a (tE g W ma)) (hn : x2 ≠ "__name__" := by decide) (hd2 : (x2 == ("__debug__" : Str)) = false := by decide)
    (he : starEach [a, .Name x2 p2] X.env = (false, eval a X.env) :: starEach [.Name x2 p2] X.env := by rfl) (he2 : starEach [.Name x2 p2] X.env = (false, eval (.Name x2 p2) X.env) :: starEach [] X.env := by rfl) (hpl : (backTo pos (starEach [.Name x2 p2] X.env)).any (·.1) = false := by rfl) :
    PE X (.Call (.Name "isinstance" p) [a, .Name x2 p2] [] pos) (tE g W (unM ma (isiM T))) := by
  have hT : PE X (.Name x2 p2) (tC (.ty T)) := pe_bltn hg2 hm2 hv2 rfl hn hd2
  refine PE.imp (pe_callB call_isi hg hm PyProof.Rows.boot_isinstance (pa_cons ha (pa_cons hT pa_nil he2) he) (by decide) (by decide) he hpl) fun σ H Q q => ?_
  obtain ⟨α, h, τ, R, s, q⟩ := tE_start (f := isiM T) q
  refine ⟨α, h, τ, R, s, PostE.imp q ?_⟩
  rintro v H1 ⟨α1, d, h1, τ1, R1, s1, D1, p1⟩
  unfold isiM at p1
  split at p1
  · rename_i n hn'
    split at p1
    · rename_i b hb
      have fin := p1 α1 H1 _ .refl R1 (.bl b)
      have ty : TyX X.K H1 v (.type n) := by
        rw [← hK]
        cases D1 with
        | non => cases hn'; exact .base .non
        | bl k => cases hn'; exact .base (.bl k)
        | int i => cases hn'; exact .base (.int i)
        | str z => cases hn'; exact .base (.str z)
        | tup hs hl => cases hn'; exact tyX_tup hs
        | ref hl =>
          simp only [tyName] at hn'
          split at hn'
          · rename_i xs hx
            cases hn'
            obtain ⟨vs, a1, a2⟩ := R1.ob _ _ _ hx hl
            exact .base (.lst a1)
          · rename_i xs hx
            cases hn'
            obtain ⟨ws, a1, a2, a3⟩ := R1.ob _ _ _ hx hl
            exact .base (.dK a1)
          · cases hn'
        | con => cases hn'
        | fls _ _ => cases hn'
      exact ⟨v, .ty T, .type n, .type T, b, rfl, .ty T, ty, isTy_kit hb, fin⟩
    · exact p1.elim
  · exact p1.elim
/-! ### o[i] = v -/
def subG (o i : EM) (f : D → D → D → AH → Option AH) : TM := fun v τ h => (o τ h).toS τ fun d h1 => (i τ h1).toS τ fun k h2 => match f d k v h2 with
  | some h3 => .nx τ h3
  | none => .bad
def setLF (d k v : D) (h : AH) : Option AH := match d, k with
  | .ref l, .int i => match h[l]? with
    | some (.lst xs) => match ixN xs.length i with
      | some j => some (h.set l (.lst (xs.set j v)))
      | none => none
    | _ => none
  | _, _ => none
def RSet (g : G) (t : TSet) (f : D → D → D → AH → Option AH) : Prop := ∀ (α : List Addr) (h h' : AH) (H : Hp) (o i v : V) (d k w : D) (Q : Hp → Prop), Rep g α h H → Den g α H d o → Den g α H k i → Den g α H w v → f d k w h = some h' →
  (∀ H', Ext α H α H' → Rep g α h' H' → Q H') → t o i v H Q
theorem rset_list : RSet g rSetL setLF := by
  intro α h h' H o i v d k w Q R hd hk hw e q
  cases hd <;> cases hk <;> simp only [setLF, reduceCtorEq] at e
  rename_i l a hl i
  split at e
  · rename_i xs hx
    split at e
    · rename_i j hj
      cases e
      obtain ⟨vs, a1, a2⟩ := R.ob _ _ _ hx hl
      obtain ⟨b1, b2⟩ := put_list R hl a1 (a2.set j hw)
      exact ⟨a, vs, i, j, rfl, rfl, a1, by rw [← a2.length]; exact hj, q _ b2 b1⟩
    · cases e
  · cases e
theorem rg_sub {mi : EM} {t : TSet} {f : D → D → D → AH → Option AH} (rs : RSet g t f) : RG g W (gSub (tE g W mo) (tE g W mi) t) (subG mo mi f) := by
  intro α h H τ σ v d Q R s hd p
  refine ⟨α, h, τ, R, s, PostE.imp (PostS.toS p s) ?_⟩
  rintro x H1 ⟨α1, d1, h1, E1, R1, D1, s1, p1⟩
  refine ⟨α1, h1, τ, R1, s1, PostE.imp (PostS.toS p1 s1) ?_⟩
  rintro y H2 ⟨α2, d2, h2, E2, R2, D2, s2, p2⟩
  split at p2
  · rename_i h3 e3
    exact rs α2 h2 h3 H2 x y v d1 d2 d _ R2 (Den.ext E2 _ _ D1) D2 (Den.ext E2 _ _ (Den.ext E1 _ _ hd)) e3 fun H' E' R' => p2 α2 H' σ E' R' (s2.ext E')
  · exact p2.elim
theorem goes_sub {mi : EM} {f : D → D → D → AH → Option AH} : Goes (subG mo mi f) := fun d τ h => by
  unfold subG
  cases e : mo τ h with
  | ok d1 h1 =>
    simp only [EO.toS]
    cases e2 : mi τ h1 with
    | ok k h2 =>
      simp only [EO.toS]
      cases f d1 k d h2 with
      | some h3 => exact .inl ⟨_, _, rfl⟩
      | none => exact .inr (.inr rfl)
    | exc c h2 => exact .inr (.inl ⟨_, _, _, rfl⟩)
    | bad => exact .inr (.inr rfl)
  | exc c h1 => exact .inr (.inl ⟨_, _, _, rfl⟩)
  | bad => exact .inr (.inr rfl)
theorem ds_asgG {tg : Expr} {t : TG} {f : TM} (he : PE X e (tE g W ma)) (hg : PG X tg t) (rg : RG g W t f) (gf : Goes f) (hs : swapsWithSole [tg] e pos.line X.env = pure false := by rfl) (hw : swappedStores [tg] e X.env = pure none := by rfl)
    (h1 : (assignEach [tg] X.env).map (·.2) = [assign tg X.env] := by rfl) : PS X (.Assign [tg] e pos) (tS g W (asgM ma f)) :=
  ds_asg he hg rg (fun d τ h Q α H Dn q k => gf.post d τ h Q α H Dn q k) hs hw h1
end
end DD
end

section
set_option Elab.async false
set_option linter.all false
set_option maxRecDepth 100000
namespace DD
open PySem L2
open PyProof.Rows (b2i)

/-! ### list comprehensions -/
def wipeD (τ : SL) : List Nat → SL
  | [] => τ
  | v :: vs => (wipeD τ vs).set v none
/-- the turns: l the new list, own the block's slots -/
def lcLoop (live : AH → Bool) (f : TM) (mc : Option EM) (me : EM) (own : List Nat) (τ : SL) (l : Nat) : List D → AH → EO
  | [] => fun h => if live h = true then .ok (.ref l) h else .bad
  | d :: ds => fun h => if live h = true then match f d (wipeD τ own) h with
    | .nx τ1 h1 => (match mc with
      | none => EO.ok (.bl true) h1
      | some c => c τ1 h1).bind fun k h2 => match k with
        | .bl true => (me τ1 h2).bind fun y h3 => match h3[l]? with
          | some (.lst acc) => if acc.length < sizeLine then lcLoop live f mc me own τ l ds (h3.set l (.lst (acc ++ [y]))) else .bad
          | _ => .bad
        | .bl false => lcLoop live f mc me own τ l ds h2
        | _ => .bad
    | _ => .bad else .bad
def lcM (e : EM) (items : D → AH → Option (List D × (AH → Bool))) (f : TM) (mc : Option EM) (me : EM) (own : List Nat) : EM := fun τ h => (e τ h).bind fun d h1 => match items d h1 with
  | some (ds, live) => lcLoop live f mc me own τ h1.length ds (h1 ++ [.lst []])
  | none => .bad
/-- no exception may come -/
def noexc : EO → EO
  | .exc _ _ => .bad
  | o => o
abbrev W0 : WX := fun _ _ _ _ => False
section
variable {X : Cx} {g : G} {W : WX} {a b c e o elt : Expr} {es : List Expr} {ma mb mo me : EM} {mc : Option EM} {m : LM} {pos p apos cpos : Pos} {σ : St} {H H' : Hp} {Q : VK} {Dn : Ends} {α α' : List Addr} {τ : SL} {sa sb : SM} {st : Stmt} {rest : List Stmt} {body : List Stmt} {tg iter : Expr} {t : TG} {f : TM} {wi : TI} {items : D → AH → Option (List D × (AH → Bool))} {ifs : List Expr} {scope : Scope} {own : List (Str × Nat)}
theorem PostE.noexc {o : EO} (q : PostE g W α H σ Q (noexc o)) : PostE g W0 α H σ Q o := by
  cases o with
  | ok d h => exact q
  | exc c h => exact q.elim
  | bad => exact q
theorem wipe_wipeD {τ : SL} (s : DenS g α H τ σ) (vs : List Nat) : DenS g α H (wipeD τ vs) (wipe σ vs) := by
  induction vs with
  | nil => exact s
  | cons v vs ih =>
    unfold wipeD wipe
    refine ⟨by simp [ih.len], fun i d q => ?_⟩
    by_cases hi : v = i
    · subst hi
      by_cases hl : v < (wipeD τ vs).length
      · rw [List.getElem?_set_self hl] at q
        cases q
      · rw [List.getElem?_eq_none (by simp; omega)] at q
        cases q
    · rw [List.getElem?_set_ne hi] at q
      obtain ⟨w, h1, h2⟩ := ih.at_ i d q
      exact ⟨w, by rw [List.getElem?_set_ne hi]; exact h1, h2⟩
/-- a target that stores the block's own slots alone -/
def OwnT (t : TG) (vs : List Nat) : Prop := ∀ (v : V) (σ : St) (H : Hp) (Q : St → Hp → Prop), t v σ H (fun σ2 H2 => wipe σ2 vs = wipe σ vs → Q σ2 H2) → t v σ H Q
def OwnTs (t : TGs) (vs : List Nat) : Prop := ∀ (v : List V) (σ : St) (H : Hp) (Q : St → Hp → Prop), t v σ H (fun σ2 H2 => wipe σ2 vs = wipe σ vs → Q σ2 H2) → t v σ H Q
theorem wipe_set {x : Option V} {i : Nat} : ∀ {vs : List Nat} {σ : St}, i ∈ vs → wipe (σ.set i x) vs = wipe σ vs
  | [], _, h => by cases h
  | v :: vs, σ, h => by
    unfold wipe
    by_cases hi : i ∈ vs
    · rw [wipe_set hi]
    · have hv : i = v := by rcases List.mem_cons.mp h with h | h <;> first | exact h | exact absurd h hi
      subst hv
      have key : ∀ (vs : List Nat) (σ : St), i ∉ vs → wipe (σ.set i x) vs = (wipe σ vs).set i x := by
        intro vs
        induction vs with
        | nil => intro σ _; rfl
        | cons w ws ih =>
          intro σ hn
          have hw : i ≠ w := fun z => hn (z ▸ List.mem_cons_self)
          unfold wipe
          rw [ih σ (fun z => hn (List.mem_cons_of_mem _ z)), List.set_comm _ _ hw]
      rw [key vs σ hi, List.set_set]
theorem wipe_none {a : Nat} : ∀ (l : List Nat) (ρ : St), wipe (ρ.set a none) l = (wipe ρ l).set a none
  | [], ρ => rfl
  | b :: l, ρ => by
    unfold wipe
    rw [wipe_none l ρ]
    by_cases hab : a = b
    · subst hab; rfl
    · rw [List.set_comm _ _ hab]
theorem wipe_wipe : ∀ (l : List Nat) (ρ : St), wipe (wipe ρ l) l = wipe ρ l
  | [], ρ => rfl
  | a :: l, ρ => by
    show (wipe ((wipe ρ l).set a none) l).set a none = (wipe ρ l).set a none
    rw [wipe_none, wipe_wipe l ρ, List.set_set]
theorem own_name {i : Nat} {vs : List Nat} (h : i ∈ vs) : OwnT (gName i) vs := fun v σ H Q q => q (wipe_set h)
theorem own_tup {n : Nat} {K : PySem.W.Frag} {t : TGs} {vs : List Nat} (h : OwnTs t vs) : OwnT (gTup K n t) vs := fun v σ H Q q => by
  obtain ⟨a, xs, h1, h2, h3, h4⟩ := q
  exact ⟨a, xs, h1, h2, h3, h _ _ _ _ h4⟩
theorem own_nil {vs : List Nat} : OwnTs gNil vs := fun ws σ H Q q => ⟨q.1, q.2 rfl⟩
theorem own_cons {vs : List Nat} {i : Nat} {u : TGs} (hi : i ∈ vs) (hu : OwnTs u vs) : OwnTs (gCons (gName i) u) vs := fun ws σ H Q q => by
  obtain ⟨v, r, h1, h2⟩ := q
  refine ⟨v, r, h1, hu r _ H Q ?_⟩
  rw [wipe_set hi]
  exact h2
/-- the block's tests by a mirror -/
def tTs (g : G) (W : WX) : Option EM → TT
  | none => tYes
  | some m => tT g W m
/-- a list comprehension that raises nothing: its reading from its mirror -/
theorem tE_lc (io : IterOk g W0 wi ma items) (rg : ∀ W, RG g W t f) (gf : Goes f) (ot : OwnT t (own.map (·.2))) (q : tE g W (fun τ h => noexc (lcM ma items f mc me (own.map (·.2)) τ h)) σ H Q) : tLc wi t (tTs g W0 mc) (tE g W0 me) (own.map (·.2)) σ H Q := by
  unfold tLc
  refine io σ H _ ?_
  obtain ⟨α, h, τ, R, s, q⟩ := q
  have q := PostE.noexc q
  refine ⟨α, h, τ, R, s, ?_⟩
  unfold lcM at q
  cases e0 : ma τ h with
  | exc c h1 => rw [e0] at q; exact q
  | bad => rw [e0] at q; exact q
  | ok d h1 =>
    rw [e0] at q
    intro α1 H1 E1 R1 _
    have p1 := PostE.mono q E1
    simp only [EO.bind] at p1
    obtain ⟨⟨ds, live⟩, hit⟩ : ∃ dl, items d h1 = some dl := by
      cases hit : items d h1 with
      | none => rw [hit] at p1; exact p1.elim
      | some dl => exact ⟨dl, rfl⟩
    rw [hit] at p1
    refine ⟨ds, live, hit, fun J wk => ?_⟩
    obtain ⟨stop, go, yld⟩ := wk
    intro L hD
    obtain ⟨R2, E2, D2⟩ := new_list R1 (ds := []) (vs := []) .nil hD
    refine ⟨fun i m H' => m = ds.length - i ∧ ∃ α' h', Ext (α1 ++ [L]) (upd H1 L (.lst [])) α' H' ∧ Rep g α' h' H' ∧ PostE g W0 α' H' σ Q (lcLoop live f mc me (own.map (·.2)) τ h1.length (ds.drop i) h'), ⟨ds.length, by simp, _, _, .refl, R2, PostE.mono p1 E2⟩, ?_⟩
    rintro i m H' ⟨rfl, α', h', E', R', p'⟩
    have EE := E2.trans E'
    have DD := Den.ext E' _ _ D2
    by_cases hi : i < ds.length
    · have hd : ds.drop i = ds[i] :: ds.drop (i + 1) := by rw [List.drop_eq_getElem_cons hi]
      have hg : ds[i]? = some ds[i] := List.getElem?_eq_getElem hi
      rw [hd] at p'
      simp only [lcLoop] at p'
      split at p'
      · rename_i hl
        refine .inr ⟨go α' H' h' EE R' hl i _ hg, fun H3 => ∃ α' h', Ext (α1 ++ [L]) (upd H1 L (.lst [])) α' H3 ∧ Rep g α' h' H3 ∧ PostE g W0 α' H3 σ Q (lcLoop live f mc me (own.map (·.2)) τ h1.length (ds.drop (i + 1)) h'), fun H3 w => ⟨ds.length - (i + 1), by omega, rfl, w⟩, fun x H3 hy => ?_⟩
        obtain ⟨E3, R3, D3⟩ := yld α' H' h' x H3 EE R' hl i _ hg hy
        have s3 : DenS g α' H3 (wipeD τ (own.map (·.2))) (wipe σ (own.map (·.2))) := wipe_wipeD (((s.ext E1).ext EE).ext E3) _
        split at p'
        · rename_i τ4 h4 e4
          refine ot x _ H3 _ (rg W0 α' h' H3 _ _ x _ _ R3 s3 D3 ?_)
          rw [e4]
          intro α4 H4 σ4 E4 R4 s4 hw
          rw [wipe_wipe] at hw
          have EE4 := (EE.trans E3).trans E4
          have p4 := PostE.mono (PostE.mono p' E3) E4
          refine ⟨hw, ?_⟩
          -- behind the test
          have fin : ∀ (k : Bool) (α5 : List Addr) (h5 : AH) (H5 : Hp), Ext α4 H4 α5 H5 → Rep g α5 h5 H5 → PostE g W0 α5 H5 σ Q (match D.bl k with
              | .bl true => (me τ4 h5).bind fun y h3 => match h3[h1.length]? with
                | some (.lst acc) => if acc.length < sizeLine then lcLoop live f mc me (own.map (·.2)) τ h1.length (ds.drop (i + 1)) (h3.set h1.length (.lst (acc ++ [y]))) else .bad
                | _ => .bad
              | .bl false => lcLoop live f mc me (own.map (·.2)) τ h1.length (ds.drop (i + 1)) h5
              | _ => .bad) → (if k = true then tE g W0 me σ4 H5 fun y H4 => ∃ acc, H4 L = some (.lst acc) ∧ acc.length < sizeLine ∧ ∃ α' h', Ext (α1 ++ [L]) (upd H1 L (.lst [])) α' (upd H4 L (.lst (acc ++ [y]))) ∧ Rep g α' h' (upd H4 L (.lst (acc ++ [y]))) ∧
                PostE g W0 α' (upd H4 L (.lst (acc ++ [y]))) σ Q (lcLoop live f mc me (own.map (·.2)) τ h1.length (ds.drop (i + 1)) h')
              else ∃ α' h', Ext (α1 ++ [L]) (upd H1 L (.lst [])) α' H5 ∧ Rep g α' h' H5 ∧ PostE g W0 α' H5 σ Q (lcLoop live f mc me (own.map (·.2)) τ h1.length (ds.drop (i + 1)) h')) := by
            intro k α5 h5 H5 E5 R5 p5
            cases k with
            | false => exact iteF ⟨α5, h5, ((E'.trans E3).trans E4).trans E5, R5, p5⟩
            | true =>
              refine iteT ⟨α5, h5, τ4, R5, s4.ext E5, PostE.imp (PostE.bind p5) ?_⟩
              rintro y H6 ⟨α6, dy, h6, E6, R6, D6, p6⟩
              split at p6
              · rename_i acc hacc
                split at p6
                · rename_i hz
                  have DD6 := Den.ext E6 _ _ (Den.ext E5 _ _ (Den.ext E4 _ _ (Den.ext E3 _ _ DD)))
                  cases DD6 with
                  | ref hl6 =>
                    obtain ⟨ws, a1, a2⟩ := R6.ob _ _ _ hacc hl6
                    obtain ⟨b1, b2⟩ := put_list R6 hl6 a1 (a2.snoc D6)
                    exact ⟨ws, a1, by rw [← a2.length]; exact hz, α6, _, ((((E'.trans E3).trans E4).trans E5).trans E6).trans b2, b1, PostE.mono p6 b2⟩
                · exact p6.elim
              · exact p6.elim
          cases mc with
          | none => exact fin true α4 h4 H4 .refl R4 p4
          | some c =>
            show tT g W0 c σ4 H4 _
            refine ⟨α4, h4, τ4, R4, s4, PostE.imp (PostE.bind p4) ?_⟩
            rintro z H5 ⟨α5, dz, h5, E5, R5, D5, p5⟩
            cases D5 <;> try exact False.elim p5
            rename_i k
            exact ⟨k, rfl, fin k α5 h5 H5 E5 R5 p5⟩
        · exact p'.elim
      · exact p'.elim
    · have hd : ds.drop i = [] := List.drop_eq_nil_of_le (by omega)
      rw [hd] at p'
      simp only [lcLoop] at p'
      split at p'
      · rename_i hl
        exact .inl ⟨stop α' H' h' EE R' hl i (by omega), p' α' H' _ .refl R' DD⟩
      · exact p'.elim
def lcQ (e : EM) (items : D → AH → Option (List D × (AH → Bool))) (f : TM) (mc : Option EM) (me : EM) (own : List Nat) : EM := fun τ h => noexc (lcM e items f mc me own τ h)
theorem de_lcQ (hc : X.calm = true) (hN : X.N.Nodup) (hi : PI X tg iter wi) (io : IterOk g W0 wi ma items) (ok : BlkOk X.N X.env.scope scope own) (rg : ∀ W, RG g W t f) (gf : Goes f) (ot : OwnT t (own.map (·.2)))
    (hg : ∀ (s : Shared) (H : Hp) (C : Addr) (cl : List (Str × Addr)) (fp : List Addr), PG (X.blk s H scope (compEnvC scope cl C X.env) fp) tg t) (ht : ∀ (s : Shared) (H : Hp) (C : Addr) (cl : List (Str × Addr)) (fp : List Addr), PTs (X.blk s H scope (compEnvC scope cl C X.env) fp) ifs (tTs g W0 mc))
    (he : ∀ (s : Shared) (H : Hp) (C : Addr) (cl : List (Str × Addr)) (fp : List Addr), PE (X.blk s H scope (compEnvC scope cl C X.env) fp) elt (tE g W0 me)) (hs : ∀ x, foldedSetIterable iter X.env x = pure x := by intro _; rfl) :
    PE X (.ListComp elt [⟨tg, iter, ifs, 0⟩] scope pos) (tE g W (lcQ ma items f mc me (own.map (·.2)))) :=
  PE.imp (pe_lc hc hN hi ok hg ht he hs) fun _ _ _ q => tE_lc io rg gf ot q
theorem ds_setLcQ {i : Nat} {y : Str} {py spos : Pos} (hc : X.calm = true) (hN : X.N.Nodup) (hy : X.N[i]? = some y) (hyl : X.env.scope.names.lookup y = some .local) (hsw : swapsWith (.ListComp elt [⟨tg, iter, ifs, 0⟩] scope pos) (some (.Name y py)) spos.line X.env = pure true)
    (hi : PI X tg iter wi) (io : IterOk g W0 wi ma items) (ok : BlkOk X.N X.env.scope scope own) (rg : ∀ W, RG g W t f) (gf : Goes f) (ot : OwnT t (own.map (·.2)))
    (hg : ∀ (s : Shared) (H : Hp) (C : Addr) (cl : List (Str × Addr)) (fp : List Addr), PG (X.blk s H scope (compEnvC scope cl C X.env) fp) tg t) (ht : ∀ (s : Shared) (H : Hp) (C : Addr) (cl : List (Str × Addr)) (fp : List Addr), PTs (X.blk s H scope (compEnvC scope cl C X.env) fp) ifs (tTs g W0 mc))
    (he : ∀ (s : Shared) (H : Hp) (C : Addr) (cl : List (Str × Addr)) (fp : List Addr), PE (X.blk s H scope (compEnvC scope cl C X.env) fp) elt (tE g W0 me)) (hs : ∀ x, foldedSetIterable iter X.env x = pure x := by intro _; rfl) :
    PS X (.Assign [.Name y py] (.ListComp elt [⟨tg, iter, ifs, 0⟩] scope pos) spos) (tS g W (setM i (lcQ ma items f mc me (own.map (·.2))))) := by
  refine PS.imp (ps_setLc hc hN hy hyl hsw hi ok hg ht he hs) fun Dn σ H q => ?_
  refine tE_lc (W := W) io rg gf ot ?_
  obtain ⟨α, h, τ, R, s, q⟩ := q
  refine ⟨α, h, τ, R, s, ?_⟩
  have q' : PostS g W α H Dn ((noexc (lcM ma items f mc me (own.map (·.2)) τ h)).toS τ fun d h1 => .nx (τ.set i (some d)) h1) := q
  refine PostE.imp (PostS.toS q' s) ?_
  rintro v H1 ⟨α1, d, h1, E1, R1, D1, s1, p1⟩
  exact p1 α1 H1 _ .refl R1 (s1.set i D1)
end
end DD
end

section
set_option Elab.async false
set_option linter.all false
set_option maxRecDepth 100000
set_option maxHeartbeats 2000000
namespace DD
open PySem L2 PySem.Spec PyProof.Rows
/-! ### a list comprehension out of which an exception may come -/
def endC (M : Model) (A : Around) (E Q : Value → Shared → Prop) (acc : Value) (cenv : Env) (r : Result) (s' : Shared) : Prop := match r with
  | .ok _ => ∃ m, s'.heap.Ns cenv.locals m ∧ ∀ h', Heap.SameBut cenv.locals s'.heap h' → Q acc { s' with heap := h' }
  | .error x => ∃ m, s'.heap.Ns cenv.locals m ∧ ∀ h', Heap.SameBut cenv.locals s'.heap h' → wpAny M A (passOn "comprehension.variables-let-go" x cenv : Sem Value) (fun _ _ => False) E { s' with heap := h' }
theorem comp_ends {M : Model} {A : Around} {E : Value → Shared → Prop} {s : Shared} {env : Env} {e : Expr} {scope : Scope} {pos : Pos} {newAcc first : Sem Value} {cg : Comprehension} {gs : List Comprehension} {cl : List (Str × Addr)} {Q : Value → Shared → Prop}
    (hcl : clausesOf e = cg :: gs) (hs : ∀ x, foldedSetIterable cg.iter env x = pure x) (hclos : closureFor scope env = pure cl) (hkind : scope.kind = .function) (hnames : ∀ x ∈ scope.names, x.2 = .local → scope.names.lookup x.1 = some .local)
    (h : wpAny M A first (fun x s₁ => wpAny M A (pyIter x) (fun it s₂ => wpAny M A newAcc (fun acc s₃ => wpAny M A (newFunctionEnv scope env.globals cl [] env.qual none .none (some env)) (fun cenv s₄ =>
        codeAny M A (.compStart e 0 it acc { cenv with scope := relabel scope env }) (endC M A E Q acc { cenv with scope := relabel scope env }) s₄) E s₃) E s₂) E s₁) E s) :
    wpAny M A (comprehension e scope env pos newAcc false first none) Q E s := by
  have same : ∀ {β : Type} {t : Sem β} {R R' : β → Shared → Prop} {z : Shared}, wpAny M A t R E z → (∀ a z, R a z → R' a z) → wpAny M A t R' E z := fun a b => wpAny_mono a b fun _ _ x => x
  unfold comprehension
  rw [hclos, hcl]
  refine wpAny_bind (same h fun x s₁ h₁ => wpAny_bind (wpAny_standAt (wpAny_bind (wpAny_of_eq (hs x) (wpAny_bind (wpAny_holding (same h₁ fun it s₂ h₂ => wpAny_standIf (wpAny_bind (same h₂ fun acc s₃ h₃ => wpAny_bind (wpAny_pure (wpAny_bind (same h₃ fun cenv s₄ h₄ => ?_))))))))))))
  dsimp only
  have hv : ∀ x ∈ (scope.names.filter fun x => (x.2 == .local || x.2 == .cell) && x.1 != (".0" : Str)).reverse, x.2 = .local → Env.kindOf { cenv with scope := relabel scope env } x.1 = some .local :=
    fun x hx hl => lookup_relabel_local (hnames x (List.mem_filter.mp (List.mem_reverse.mp hx)).1 hl)
  refine wpAny_holding (wpAny_bind (wpAny_attempt (wpAny_holding (wpAny_run (codeAny_mono h₄ fun r s' hr => ?_)))))
  cases r with
  | ok f =>
    obtain ⟨m, hn, hr⟩ := hr
    exact wpAny_bind (wpAny_holding (wpAny_comp_letGo (cenv := { cenv with scope := relabel scope env }) hkind _ s' m hv hn fun h' m' _ hs' => wpAny_pure (hr h' hs')))
  | error x =>
    obtain ⟨m, hn, hr⟩ := hr
    exact wpAny_bind (wpAny_holding (wpAny_comp_letGo (cenv := { cenv with scope := relabel scope env }) hkind _ s' m hv hn fun h' m' _ hs' => wpAny_mono (hr h' hs') (fun _ _ z => z.elim) fun _ _ y => y))
/-- noting a frame leans on the frame alone -/
theorem note_same {e : Value} {env env' : Env} (h : env.frame = env'.frame) : noteFrame e env = noteFrame e env' := by
  unfold noteFrame PySem.frameOf
  rw [h]

section
variable {X : Cx} {g : G} {W : WX} {pins : List (Addr × Obj)} {σ : L2.St} {H3 : Hp} {s3 : Shared}
/-- the same heap, the one time with a flight none, the other time with something else: never -/
theorem fly_only {B B' : Heap} {l l' : List Env} {a : Addr} {Z Z' : Obj → Prop} {L : Addr} {h : Heap} (fl : HandSPX.FlyingZ B' l' a Z' h) (sky : Sky B l a Z L h) : HandSPX.FlyingZ B l a Z h := by
  obtain ⟨_, _, _, oe, vs, T, oT, ts, e1, _, e2, e3, _, _, e4, e5, e6⟩ := fl
  rcases sky with ⟨_, _, _, oe', vs', q1, _, q2, q3⟩ | fl' | ⟨_, _, _, oe', vs', T', oT', ts', q1, _, q2, q3, _, _, q4, q5, q6⟩
  · rw [e1] at q1
    cases q1
    rw [e2] at q2
    cases q2
    rw [e3] at q3
    cases q3
  · exact fl'
  · rw [e1] at q1
    cases q1
    rw [e2] at q2
    cases q2
    rw [e3] at q3
    cases q3
    rw [e4] at q4
    cases q4
    rw [e5] at q5
    cases q5
    rw [e6] at q6
    cases q6
theorem blk_pas {scope : Scope} {ce : Env} {fp : List Addr} {Q acc' : Value → Shared → Prop} {acc : Value} (hst : X.stack = X.env :: X.outer) (hf : X.env.frame = some X.env.locals) (tk : Takes X W) (I3 : Inv X pins σ H3 s3) (f3 : ∀ b ∈ fp, FpOk X pins H3 b) (hC : ce.locals = s3.heap.objs.size) (hcf : ce.frame = X.env.frame) :
    Pas ((X.blk s3 H3 scope ce fp).wish (notedBy (model X.prog X.w) X.A ce fun e s' => endC (model X.prog X.w) X.A X.xe Q acc ce (.error e) s')) (fun cls d _ H' => W cls d σ H') := by
  intro σy pins' Hy sy e s' Iy c
  have ok := I3.ok
  have hfr : X.A.frames = some (X.env :: X.outer) := by rw [ok.frames, hst]
  obtain ⟨a, B, sI, pins1, σ1, H1, cls, d, rfl, IY, nb, up, sky, na, os, ag, w⟩ := XE.of_call (W := fun cls d _ H' => W cls d σ H') Iy (fun _ _ _ h => h) c
  have fl : HandSPX.FlyingZ B (X.env :: X.outer) a (Zc cls d) s'.heap := by
    obtain ⟨a', B', H', cls', d', e1, fl', _⟩ := c
    cases e1
    rw [← hst]
    exact fly_only fl' sky
  obtain ⟨m, ⟨oC, es, ep, hoC, hdC, hrC⟩, _⟩ := IY.loc
  have hoC : sI.heap.get? ce.locals = some oC := hoC
  have nfr : ∀ b ∈ frs X.stack, b < s3.heap.objs.size := fun b hb => by
    obtain ⟨_, o, ho, _⟩ := I3.stack.mem hb
    exact Heap.lt_size ho
  have nCfr : ce.locals ∉ frs X.stack := fun z => by
    have := nfr _ z
    rw [hC] at this
    exact Nat.lt_irrefl _ this
  have nb : ∀ b o, sI.heap.get? b = some o → b ∉ frs X.stack → B.get? b = some o := nb
  have I7 : Inv X pins σ H1 sI := I3.call' (ch := fp) IY.os IY.base IY.hok IY.bare fun b hb => ⟨(f3 b hb).2.2.2.1, (f3 b hb).2.1, (f3 b hb).2.2.2.2.1, (f3 b hb).2.2.2.2.2⟩
  have nC : H1 ce.locals = none := IY.free
  have fC : FpOk X pins H1 ce.locals := I3.fpOk (Nat.le_of_eq hC.symm) nC
  show wpAny (model X.prog X.w) X.A (noteFrame (.ref a) ce) _ _ s'
  rw [note_same hcf]
  refine HandSPX.looks_onZ Zc.steady hfr hf fl fun h2 hh up2 => ?_
  have hB : B.StaysIn h2 := hh.1
  have hoC2 : h2.get? ce.locals = some oC := hB _ _ (nb _ _ hoC nCfr)
  refine ⟨m, ⟨oC, es, ep, hoC2, hdC, hrC⟩, fun h3 sb => ?_⟩
  have sb2 : ∀ b, b ≠ ce.locals → h3.get? b = h2.get? b := sb.2
  obtain ⟨hst2, hen, hff, oe, vs, T, oT, ts, he, hz, hd, h1, hnT, hTe, hT, hdT, h3'⟩ := hh
  have naC : a ≠ ce.locals := fun z => by
    rw [z, hoC2] at he
    cases he
    rw [hdC] at hd
    cases hd
  have nTC : T ≠ ce.locals := fun z => by
    rw [z, hoC2] at hT
    cases hT
    rw [hdC] at hdT
    cases hdT
  -- the ground without the block's names
  have held : HandSPX.HeldZ (PySem.W.hideAll B [ce.locals]) (X.env :: X.outer) a (Zc cls d) X.env.locals h3 := by
    refine ⟨fun b o e => ?_, ?_, ?_, oe, vs, T, oT, ts, (sb2 a naC).trans he, hz, hd, h1, ?_, hTe, (sb2 T nTC).trans hT, hdT, h3'⟩
    · have hb : b ≠ ce.locals := fun z => by
        rw [z, PySem.W.hideAll_none [ce.locals] (by simp)] at e
        cases e
      rw [sb2 b hb]
      exact hst2 b o (PySem.W.of_hideAll _ e)
    · cases q : (PySem.W.hideAll B [ce.locals]).get? a with
      | none => rfl
      | some o =>
        have z := PySem.W.of_hideAll _ q
        rw [hen] at z
        cases z
    · have nfrs : ∀ L ∈ frs (X.env :: X.outer), L ≠ ce.locals := fun L hL z => nCfr (by rw [← z, hst]; exact hL)
      have all : ∀ (l : List Env), (∀ L ∈ frs l, L ≠ ce.locals) → h2.FunFrames B l → h3.FunFrames (PySem.W.hideAll B [ce.locals]) l := by
        intro l
        induction l with
        | nil => intro _ _; trivial
        | cons env r ih =>
          intro hs hl
          obtain ⟨hk, ⟨L, o, hf', hn, ho, hd'⟩, hr⟩ := hl
          have hL : L ≠ ce.locals := hs L (by unfold frs; rw [List.filterMap_cons, hf']; exact List.mem_cons_self)
          refine ⟨hk, ⟨L, o, hf', ?_, (sb2 L hL).trans ho, hd'⟩, ih (fun b hb => hs b (by unfold frs; rw [List.filterMap_cons, hf']; exact List.mem_cons_of_mem _ hb)) hr⟩
          cases q : (PySem.W.hideAll B [ce.locals]).get? L with
          | none => rfl
          | some o' =>
            have z := PySem.W.of_hideAll _ q
            rw [hn] at z
            cases z
      exact all _ nfrs hff
    · cases q : (PySem.W.hideAll B [ce.locals]).get? T with
      | none => rfl
      | some o =>
        have z := PySem.W.of_hideAll _ q
        rw [hnT] at z
        cases z
  unfold PySem.passOn
  refine wpAny_bind (wpAny_field ((sb2 a naC).trans he) hd h1 ?_)
  rw [if_neg (by simp)]
  rw [hcf, hf]
  refine wpAny_bind (HandSPX.setFlight_onZ held fun h4 hh4 up4 => wpAny_throw ?_)
  have upC : ∀ b o, b ≠ ce.locals → sI.heap.get? b = some o → (∀ vs, o.data ≠ .fields vs) → ∃ sl, h4.get? b = some { o with slots := sl } := fun b o hb e nf => by
    obtain ⟨sl1, e1⟩ := up b o e nf
    obtain ⟨sl2, e2⟩ := up2 b _ e1 nf
    have e3 : h3.get? b = some _ := (sb2 b hb).trans e2
    obtain ⟨sl4, e4⟩ := up4 b _ e3 nf
    exact ⟨sl4, e4⟩
  refine tk _ _ ⟨a, PySem.W.hideAll B [ce.locals], { sI with heap := PySem.W.hideAll sI.heap [ce.locals] }, pins, σ, H1, cls, d, rfl, ?_, fun b o e hb => ?_, fun b o e nf => ?_, .inr (.inr (by rw [hst]; exact hh4)), na, os, ag, w⟩
  · exact I7.turned (t' := sI.toks) (fun b o hb e => PySem.W.hideAll_get _ e (by simpa using hb)) fC.1 fC.2.1 fC.2.2.2.1 fC.2.2.2.2.1 fC.2.2.2.2.2
  · have e' := PySem.W.of_hideAll _ e
    refine PySem.W.hideAll_get _ (nb b o e' hb) fun hm => ?_
    rw [PySem.W.hideAll_none _ hm] at e
    cases e
  · have e' := PySem.W.of_hideAll _ e
    have hb : b ≠ ce.locals := fun z => by
      rw [z, PySem.W.hideAll_none [ce.locals] (by simp)] at e
      cases e
    exact upC b o hb e' nf
end

section
variable {X : Cx} {g : G} {W : WX} {elt : Expr} {ma me : EM} {mc : Option EM} {pos : Pos} {tg iter : Expr} {t : TG} {f : TM} {wi : TI} {items : D → AH → Option (List D × (AH → Bool))} {ifs : List Expr} {scope : Scope} {own : List (Str × Nat)}
theorem PostE.rebase {α : List Addr} {H : Hp} {σ σ' : L2.St} {Q : VK} {o : EO} (q : PostE g W α H σ Q o) : PostE g (fun cls d _ H' => W cls d σ H') α H σ' Q o := by
  cases o with
  | ok d h => exact q
  | exc c h => exact q
  | bad => exact q
theorem de_lcX (hc : X.calm = true) (hN : X.N.Nodup) (hst : X.stack = X.env :: X.outer) (hf : X.env.frame = some X.env.locals) (tk : Takes X W) (hi : PI X tg iter wi) (io : IterOk g W wi ma items) (ok : BlkOk X.N X.env.scope scope own) (rg : ∀ W, RG g W t f) (gf : Goes f) (ot : OwnT t (own.map (·.2)))
    (hg : ∀ (s : Shared) (H : Hp) (C : Addr) (cl : List (Str × Addr)) (fp : List Addr) (xe : Value → Shared → Prop), PG ((X.blk s H scope (compEnvC scope cl C X.env) fp).wish xe) tg t)
    (ht : ∀ (s : Shared) (H : Hp) (C : Addr) (cl : List (Str × Addr)) (fp : List Addr) (xe : Value → Shared → Prop) (W' : WX), Pas ((X.blk s H scope (compEnvC scope cl C X.env) fp).wish xe) W' → PTs ((X.blk s H scope (compEnvC scope cl C X.env) fp).wish xe) ifs (tTs g W' mc))
    (he : ∀ (s : Shared) (H : Hp) (C : Addr) (cl : List (Str × Addr)) (fp : List Addr) (xe : Value → Shared → Prop) (W' : WX), Pas ((X.blk s H scope (compEnvC scope cl C X.env) fp).wish xe) W' → PE ((X.blk s H scope (compEnvC scope cl C X.env) fp).wish xe) elt (tE g W' me))
    (hs : ∀ x, foldedSetIterable iter X.env x = pure x := by intro _; rfl) : PE X (.ListComp elt [⟨tg, iter, ifs, 0⟩] scope pos) (tE g W (lcM ma items f mc me (own.map (·.2)))) := by
  refine ⟨fun pins s σ H Q I q => ?_⟩
  rw [eval_ListComp]
  have hfree : ∀ y ∈ scope.names, y.2 = .free → ∃ c, X.env.cells.lookup y.1 = some c := fun y hy e => by
    rcases ok.free y hy e with k | k
    · exact I.ok.has _ (.inl k)
    · exact I.ok.has _ (.inr k)
  have hwi : wi σ H fun J H1 => ∃ α1 h1 τ ds live, Rep g α1 h1 H1 ∧ DenS g α1 H1 τ σ ∧ PostE g W α1 H1 σ Q (lcLoop live f mc me (own.map (·.2)) τ h1.length ds (h1 ++ [.lst []])) ∧
      WalkOf g α1 H1 ds live J := by
    refine io σ H _ ?_
    obtain ⟨α, h, τ, R, s', q⟩ := q
    refine ⟨α, h, τ, R, s', ?_⟩
    unfold lcM at q
    cases e0 : ma τ h with
    | exc c h1 => rw [e0] at q; exact q
    | bad => rw [e0] at q; exact q
    | ok d h1 =>
      rw [e0] at q
      intro α1 H1 E1 R1 _
      have p1 := PostE.mono q E1
      simp only [EO.bind] at p1
      split at p1
      · rename_i ds live hit
        exact ⟨ds, live, hit, fun J wk => ⟨α1, h1, τ, ds, live, R1, s'.ext E1, p1, wk⟩⟩
      · exact p1.elim
  refine comp_ends rfl hs (closure_ok hfree) ok.kind (fun y hy e => by rw [ok.uniq y hy, e]) (thn (hi.run pins s σ H _ I hwi) fun xv s1 hx => thn hx fun itv s2 h2 => ?_)
  obtain ⟨it, fp, tn, J, H2, e, I2, T, st2, f2, α1, h1, τ, ds, live, R1, sl1, p1, stop, go, yld⟩ := h2
  subst e
  refine wpAny_newObj_type (newEnv_comp ?_) (by show 0 ≤ sizeLine; decide)
  generalize hL : s2.heap.objs.size = L
  have hLn : H2 L = none := I2.hok.fresh (Nat.le_of_eq hL)
  obtain ⟨R2, E2, D2⟩ := new_list R1 (ds := []) (vs := []) .nil hLn
  generalize hs3 : ({ s2 with heap := s2.heap.push { cls := .type "list", data := .seq ([] : List Value).toArray } } : Shared) = s3
  have h3 : s3.heap = s2.heap.push { cls := .type "list", data := .seq ([] : List Value).toArray } := by rw [← hs3]
  have I3 : Inv X pins σ (upd H2 L (.lst [])) s3 := by
    rw [← hs3]
    refine I2.laid (t' := s2.toks) (fun b o e => Heap.get?_push_of_some _ e) (Nat.le_of_eq hL) ⟨Nat.zero_le _, [], 0, .nil, ?_⟩
    rw [← hL]
    exact Heap.get?_push_size _ rfl
  have f3 : ∀ b ∈ fp, FpOk X pins (upd H2 L (.lst [])) b ∧ b < s3.heap.objs.size := fun b hb => by
    obtain ⟨o, e, _⟩ := T.obj _ _ st2 b hb
    have hlt := Heap.lt_size e
    refine ⟨⟨?_, (f2 b hb).2⟩, by rw [h3, Heap.size_push]; exact Nat.lt_succ_of_lt hlt⟩
    rw [upd_ne (by rw [← hL]; exact Nat.ne_of_lt hlt)]
    exact (f2 b hb).1
  have st3 : tn 0 s3.heap := T.keep _ _ _ st2 fun b _ o e => by rw [h3]; exact Heap.get?_push_of_some _ e
  have I4 := block_start I3 ok hN f3
  show codeAny _ _ (.compStart (.ListComp elt [⟨tg, iter, ifs, 0⟩] scope pos) 0 (.ref it) (.ref L) (compEnvC scope (cellsFrom (s3.heap.objs.size + 1) scope.names (cloFrom X.env.cells scope.names [])) s3.heap.objs.size X.env))
    (endC (model X.prog X.w) X.A X.xe (EP X pins σ Q) (.ref L) (compEnvC scope (cellsFrom (s3.heap.objs.size + 1) scope.names (cloFrom X.env.cells scope.names [])) s3.heap.objs.size X.env)) { s3 with heap := pushCells (s3.heap.push { cls := .type "dict", data := .dict #[] }) scope.names }
  generalize hce : compEnvC scope (cellsFrom (s3.heap.objs.size + 1) scope.names (cloFrom X.env.cells scope.names [])) s3.heap.objs.size X.env = ce at I4 ⊢
  have cL : ce.locals = s3.heap.objs.size := by subst hce; rfl
  have cF : ce.frame = X.env.frame := by subst hce; rfl
  generalize hH3 : upd H2 L (.lst []) = H3 at *
  have nfp : ∀ b ∈ fp, H3 b = none := fun b hb => (f3 b hb).1.1
  generalize hs4 : ({ s3 with heap := pushCells (s3.heap.push { cls := .type "dict", data := .dict #[] }) scope.names } : Shared) = s4 at I4 ⊢
  have st4 : tn 0 s4.heap := T.keep _ _ _ st3 fun b _ o e => by rw [← hs4]; exact pushCells_keeps _ _ _ _ (Heap.get?_push_of_some _ e)
  -- the wish of the block
  have tkY := blk_pas (scope := scope) (fp := fp) (ce := ce) (Q := EP X pins σ Q) (acc' := fun _ _ => True) (acc := .ref L) hst hf tk I3 (fun b hb => (f3 b hb).1) cL cF
  generalize hZ : (notedBy (model X.prog X.w) X.A ce fun e s' => endC (model X.prog X.w) X.A X.xe (EP X pins σ Q) (.ref L) ce (.error e) s') = Z at tkY
  have I5 : Inv ((X.blk s3 H3 scope ce fp).wish Z) [] (wipe σ (own.map (·.2))) H3 s4 := I4.wish Z
  have pg : PG ((X.blk s3 H3 scope ce fp).wish Z) tg t := by rw [← hce]; exact hg _ _ _ _ _ _
  have pt : PTs ((X.blk s3 H3 scope ce fp).wish Z) ifs (tTs g (fun cls d _ H' => W cls d σ H') mc) := by rw [← hce]; exact ht _ _ _ _ _ _ _ (by rw [hce]; exact tkY)
  have pe : PE ((X.blk s3 H3 scope ce fp).wish Z) elt (tE g (fun cls d _ H' => W cls d σ H') me) := by rw [← hce]; exact he _ _ _ _ _ _ _ (by rw [hce]; exact tkY)
  have stat : ∀ {σ' : L2.St} {H' : Hp} {s' : Shared}, Inv ((X.blk s3 H3 scope ce fp).wish Z) [] σ' H' s' → (∀ b ∈ fp, H' b = none) → ∀ b ∈ fp, FpOk ((X.blk s3 H3 scope ce fp).wish Z) [] H' b := fun {σ' H' s'} I' hn b hb =>
    ⟨hn b hb, (I'.ok.exf b hb).1, I'.ok.exfs b hb, .inl hb, fun x c e => (I'.ok.exf b hb).2 x c e, fun p hp => absurd (show p ∈ ([] : List (Addr × Obj)) ++ [] from hp) (by simp)⟩
  have loop : codeAny (model X.prog X.w) X.A (.compLoop (.ListComp elt [⟨tg, iter, ifs, 0⟩] scope pos) 0 (.ref it) (.ref L) ce) (endC (model X.prog X.w) X.A X.xe (EP X pins σ Q) (.ref L) ce) s4 := by
    refine compLoop_any (fun n s' => ∃ i H', Inv ((X.blk s3 H3 scope ce fp).wish Z) [] (wipe σ (own.map (·.2))) H' s' ∧ tn i s'.heap ∧ (∀ b ∈ fp, H' b = none) ∧ n = ds.length - i ∧
      ∃ α' h', Ext (α1 ++ [L]) H3 α' H' ∧ Rep g α' h' H' ∧ PostE g W α' H' σ Q (lcLoop live f mc me (own.map (·.2)) τ h1.length (ds.drop i) h')) ?_ ds.length ⟨0, H3, I5, st4, nfp, by simp, α1 ++ [L], _, .refl, R2, PostE.mono p1 E2⟩
    rintro n s5 ⟨i, H5, J5, st5, n5, rfl, α', h', E', R', p'⟩
    rw [hZ]
    have EE := E2.trans E'
    have DD' := Den.ext E' _ _ D2
    by_cases hi : i < ds.length
    · have hd : ds.drop i = ds[i] :: ds.drop (i + 1) := by rw [List.drop_eq_getElem_cons hi]
      have hgi : ds[i]? = some ds[i] := List.getElem?_eq_getElem hi
      rw [hd] at p'
      simp only [lcLoop] at p'
      split at p'
      · rename_i hl
        have ti := T.item ((X.blk s3 H3 scope ce fp).wish Z) rfl rfl rfl hc i [] s5 _ H5 Z J5 (stat J5 n5) st5 (go α' H5 h' EE R' hl i _ hgi)
        refine thn ti fun r s6 ⟨u, hr, h6⟩ => ?_
        subst hr
        refine thn h6 fun _ s7 ⟨x, H7, I7, r7, y7, st7, n7⟩ => ?_
        obtain ⟨E3, R3, D3⟩ := yld α' H5 h' x H7 EE R' hl i _ hgi y7
        have s3' : DenS g α' H7 (wipeD τ (own.map (·.2))) (wipe σ (own.map (·.2))) := wipe_wipeD ((sl1.ext EE).ext E3) _
        have I7' := I7.pinned (stat I7 n7) (T.obj _ _ st7)
        -- the turn's end
        have fin : ∀ {s' : Shared} {H' : Hp} {σ8 : L2.St}, Inv ((X.blk s3 H3 scope ce fp).wish Z) ([] ++ pinsAt fp s7.heap) σ8 H' s' → wipe σ8 (own.map (·.2)) = wipe σ (own.map (·.2)) → (∃ α' h', Ext (α1 ++ [L]) H3 α' H' ∧ Rep g α' h' H' ∧ PostE g W α' H' σ Q (lcLoop live f mc me (own.map (·.2)) τ h1.length (ds.drop (i + 1)) h')) →
            ∃ m, m < ds.length - i ∧ ∃ i H', Inv ((X.blk s3 H3 scope ce fp).wish Z) [] (wipe σ (own.map (·.2))) H' s' ∧ tn i s'.heap ∧ (∀ b ∈ fp, H' b = none) ∧ m = ds.length - i ∧
              ∃ α' h', Ext (α1 ++ [L]) H3 α' H' ∧ Rep g α' h' H' ∧ PostE g W α' H' σ Q (lcLoop live f mc me (own.map (·.2)) τ h1.length (ds.drop i) h') := fun {s' H' σ8} I' hw8 k => by
          have pin' : ∀ b ∈ fp, ∀ o, s7.heap.get? b = some o → s'.heap.get? b = some o ∧ H' b = none := fun b hb o e =>
            let z := I'.pin (b, o) (List.mem_append_right _ (List.mem_append_right _ (mem_pinsAt hb e)))
            ⟨z.1, z.2.1⟩
          have hl : (wipe σ (own.map (·.2))).length = σ8.length := by rw [← hw8, wipe_length]
          refine ⟨ds.length - (i + 1), by omega, i + 1, H', (I'.unpinned (pins := [])).weak hl (fun j v e => ?_), T.keep _ _ _ st7 fun b hb o e => (pin' b hb o e).1, fun b hb => ?_, rfl, k⟩
          · rw [← hw8] at e
            exact (wipe_some e).1
          · obtain ⟨o, e, _⟩ := T.obj _ _ st7 b hb
            exact (pin' b hb o e).2
        split at p'
        · rename_i τ4 h4 e4
          have p4 := PostE.mono p' E3
          have stp : t x (wipe σ (own.map (·.2))) H7 fun σ8 H8 => wipe σ8 (own.map (·.2)) = wipe σ (own.map (·.2)) ∧ ∃ α4, Ext α' H7 α4 H8 ∧ Rep g α4 h4 H8 ∧ DenS g α4 H8 τ4 σ8 := by
            refine ot x _ H7 _ (rg W α' h' H7 _ _ x _ _ R3 s3' D3 ?_)
            rw [e4]
            exact fun α4 H4 σ4 E4 R4 s4 hw => ⟨by rw [hw, wipe_wipe], α4, E4, R4, s4⟩
          refine thn (pg.run _ s7 _ H7 x u _ I7' r7 stp) fun _ s8 ⟨σ8, H8, I8, hw8, α4, E4, R4, sl4⟩ => ?_
          have p5 := PostE.mono p4 E4
          have EE4 := (E'.trans E3).trans E4
          -- behind the tests
          have after : ∀ (k : Bool) (α5 : List Addr) (h5 : AH) (H9 : Hp) (s9 : Shared), Inv ((X.blk s3 H3 scope ce fp).wish Z) ([] ++ pinsAt fp s7.heap) σ8 H9 s9 → Ext α4 H8 α5 H9 → Rep g α5 h5 H9 → PostE g W α5 H9 σ Q (match DD.D.bl k with
              | .bl true => (me τ4 h5).bind fun y h3 => match h3[h1.length]? with
                | some (.lst acc) => if acc.length < sizeLine then lcLoop live f mc me (own.map (·.2)) τ h1.length (ds.drop (i + 1)) (h3.set h1.length (.lst (acc ++ [y]))) else .bad
                | _ => .bad
              | .bl false => lcLoop live f mc me (own.map (·.2)) τ h1.length (ds.drop (i + 1)) h5
              | _ => .bad) → (if k = true then wpAny (model X.prog X.w) X.A (eval elt ce) (fun x s₄ => wpAny (model X.prog X.w) X.A (call (.builtin "list.append") [.ref L, x]) (fun _ s₅ => ∃ m, m < ds.length - i ∧ ∃ i H', Inv ((X.blk s3 H3 scope ce fp).wish Z) [] (wipe σ (own.map (·.2))) H' s₅ ∧ tn i s₅.heap ∧ (∀ b ∈ fp, H' b = none) ∧ m = ds.length - i ∧
              ∃ α' h', Ext (α1 ++ [L]) H3 α' H' ∧ Rep g α' h' H' ∧ PostE g W α' H' σ Q (lcLoop live f mc me (own.map (·.2)) τ h1.length (ds.drop i) h')) Z s₄) Z s9
                else ∃ m, m < ds.length - i ∧ ∃ i H', Inv ((X.blk s3 H3 scope ce fp).wish Z) [] (wipe σ (own.map (·.2))) H' s9 ∧ tn i s9.heap ∧ (∀ b ∈ fp, H' b = none) ∧ m = ds.length - i ∧
              ∃ α' h', Ext (α1 ++ [L]) H3 α' H' ∧ Rep g α' h' H' ∧ PostE g W α' H' σ Q (lcLoop live f mc me (own.map (·.2)) τ h1.length (ds.drop i) h')) := by
            intro k α5 h5 H9 s9 I9 E5 R5 p6
            cases k with
            | false => exact iteF (fin I9 hw8 ⟨α5, h5, EE4.trans E5, R5, p6⟩)
            | true =>
              refine iteT ?_
              refine thn (pe.run _ s9 σ8 H9 _ I9 ⟨α5, h5, τ4, R5, sl4.ext E5, PostE.bind (PostE.rebase p6)⟩) fun z s10 ⟨yv, H10, I10, r10, α6, dy, h6, E6, R6, D6, p7⟩ => ?_
              split at p7
              · rename_i acc hacc
                split at p7
                · rename_i hz
                  have DD6 := Den.ext E6 _ _ (Den.ext E5 _ _ (Den.ext E4 _ _ (Den.ext E3 _ _ DD')))
                  cases DD6 with
                  | ref hl6 =>
                    obtain ⟨ws, a1, a2⟩ := R6.ob _ _ _ hacc hl6
                    obtain ⟨b1, b2⟩ := put_list R6 hl6 a1 (a2.snoc D6)
                    refine app_ok (X := (X.blk s3 H3 scope ce fp).wish Z) I10 a1 (by rw [← a2.length]; exact hz) r10 fun s11 I11 => fin I11 hw8 ⟨α6, _, ((EE4.trans E5).trans E6).trans b2, b1, ?_⟩
                    have p8 := PostE.mono p7 b2
                    revert p8
                    generalize lcLoop live f mc me (own.map (·.2)) τ h1.length (ds.drop (i + 1)) (h6.set h1.length (.lst (acc ++ [dy]))) = oo
                    intro p8
                    cases oo with
                    | ok d h => exact p8
                    | exc c h => exact p8
                    | bad => exact p8
                · exact p7.elim
              · exact p7.elim
          cases mc with
          | none =>
            refine thn (pt.run _ s8 σ8 H8 (fun b H9 => b = true ∧ H9 = H8) I8 ⟨rfl, rfl⟩) fun b s9 ⟨H9, I9, q9⟩ => ?_
            obtain ⟨rfl, rfl⟩ := q9
            exact after true α4 h4 H9 s9 I9 .refl R4 p5
          | some c =>
            have rd : tTs g (fun cls d _ H' => W cls d σ H') (some c) σ8 H8 (fun b H9 => ∃ α5 h5, Ext α4 H8 α5 H9 ∧ Rep g α5 h5 H9 ∧ PostE g W α5 H9 σ Q (match DD.D.bl b with
              | .bl true => (me τ4 h5).bind fun y h3 => match h3[h1.length]? with
                | some (.lst acc) => if acc.length < sizeLine then lcLoop live f (some c) me (own.map (·.2)) τ h1.length (ds.drop (i + 1)) (h3.set h1.length (.lst (acc ++ [y]))) else .bad
                | _ => .bad
              | .bl false => lcLoop live f (some c) me (own.map (·.2)) τ h1.length (ds.drop (i + 1)) h5
              | _ => .bad)) := by
              show tT g _ c σ8 H8 _
              refine ⟨α4, h4, τ4, R4, sl4, PostE.imp (PostE.rebase (PostE.bind p5)) ?_⟩
              rintro z H5 ⟨α5, dz, h5, E5, R5, D5, p6⟩
              cases D5 <;> try exact False.elim p6
              rename_i k
              exact ⟨k, rfl, α5, h5, E5, R5, p6⟩
            refine thn (pt.run _ s8 σ8 H8 _ I8 rd) fun b s9 ⟨H9, I9, α5, h5, E5, R5, p6⟩ => ?_
            exact after b α5 h5 H9 s9 I9 E5 R5 p6
        · exact p'.elim
      · exact p'.elim
    · have hd : ds.drop i = [] := List.drop_eq_nil_of_le (by omega)
      rw [hd] at p'
      simp only [lcLoop] at p'
      split at p'
      · rename_i hl
        have td := T.done ((X.blk s3 H3 scope ce fp).wish Z) rfl rfl rfl hc i [] s5 _ H5 Z J5 (stat J5 n5) st5 (stop α' H5 h' EE R' hl i (by omega))
        refine thn td fun r s6 ⟨hr, I6⟩ => ?_
        subst hr
        have I7 : Inv X pins σ H5 s6 := I3.call' (ch := fp) I6.os I6.base I6.hok I6.bare fun b hb => ⟨(f3 b hb).1.2.2.2.1, (f3 b hb).1.2.1, (f3 b hb).1.2.2.2.2.1, (f3 b hb).1.2.2.2.2.2⟩
        have nC : H5 ce.locals = none := I6.free
        obtain ⟨m, hn, _⟩ := I6.loc
        have fC : FpOk X pins H5 ce.locals := I3.fpOk (Nat.le_of_eq cL.symm) nC
        obtain ⟨f0, f1, f2', f3', f4, f5⟩ := fC
        refine ⟨m, hn, fun h'' sb => ⟨.ref L, H5, I7.turned (t' := s6.toks) (fun b o hb e => (sb.2 b hb).trans e) f0 f1 f3' f4 f5, rfl, p' α' H5 _ .refl R' DD'⟩⟩
      · exact p'.elim
  exact codeAny_compStart_list loop (T.self X.A 0 _ _ _ st4 loop)
end
end DD
end

section
set_option Elab.async false
set_option linter.all false
set_option maxRecDepth 100000
set_option maxHeartbeats 2000000
namespace DD
open PySem L2
/-! ### more built-ins: str, more walks: zip, enumerate, range of two -/
def strF : List D → AH → EO
  | [.int i], h => if i.natAbs.log2 < 1920 then .ok (.str (toString i)) h else .bad
  | [.str x], h => .ok (.str x) h
  | [.bl b], h => .ok (.str (if b then "True" else "False")) h
  | [.non], h => .ok (.str "None") h
  | _, _ => .bad
def rStrAny : List V → Hp → VK → Prop := fun xs H Q => (∃ i, xs = [.int i] ∧ i.natAbs.log2 < 1920 ∧ Q (.str (toString i)) H) ∨ (∃ a, xs = [.str a] ∧ Q (.str a) H) ∨ (∃ b : Bool, xs = [.bl b] ∧ Q (.str (if b then "True" else "False")) H) ∨ (xs = [.non] ∧ Q (.str "None") H)
section
variable {X : Cx} {g : G} {W : WX} {a b c e o elt : Expr} {es : List Expr} {ma mb mo me : EM} {mc : Option EM} {m : LM} {pos p apos cpos : Pos} {σ : L2.St} {H H' : Hp} {Q : VK} {Dn : Ends} {α α' : List Addr} {τ : SL} {sa sb : SM} {st : Stmt} {rest : List Stmt} {body : List Stmt} {tg iter : Expr}
theorem call_strAny : CallR X (.type "str") rStrAny := by
  intro pins s σ H xs us Q I r h
  rcases h with h | h | ⟨b, rfl, q⟩ | ⟨rfl, q⟩
  · exact call_str_int pins s σ H xs us Q I r h
  · exact SkE.call_str_str pins s σ H xs us Q I r h
  · obtain ⟨u, rfl, r1⟩ := vals1 r
    cases r1
    exact PySem.P.str_of_bool ⟨.str _, H, I.tok _, ⟨_, rfl⟩, q⟩
  · obtain ⟨u, rfl, r1⟩ := vals1 r
    cases r1
    exact PySem.P.str_of_none ⟨.str _, H, I.tok _, ⟨_, rfl⟩, q⟩
theorem rs_str : RSn g W rStrAny strF := by
  intro α h H σ vs ds Q R hd p
  cases hd with
  | nil => exact p.elim
  | cons h1 h2 =>
    cases h2 with
    | cons _ _ => cases h1 <;> exact False.elim p
    | nil =>
      cases h1 <;> try exact False.elim p
      · exact .inr (.inr (.inr ⟨rfl, p α H _ .refl R (.str _)⟩))
      · exact .inr (.inr (.inl ⟨_, rfl, p α H _ .refl R (.str _)⟩))
      · simp only [strF] at p
        split at p
        · rename_i hi
          exact .inl ⟨_, rfl, hi, p α H _ .refl R (.str _)⟩
        · exact p.elim
      · exact .inr (.inl ⟨_, rfl, p α H _ .refl R (.str _)⟩)
end
end DD
end

section
set_option Elab.async false
set_option linter.all false
set_option maxRecDepth 100000
set_option maxHeartbeats 2000000
namespace DD
open PySem L2 PySem.Spec PyProof.Rows
/-! ### a tuple by 0, by 1 -/
theorem tuple_mul1 (l : Addr) (items : Array Value) (n : Nat) (dd : Option Addr) (sl : Array (Option Value)) (u : Tok) :
    Meets (Builtin.«tuple.__mul__» ⟨[.ref l, .int 1 u], []⟩) (fun _ R s => s.heap.get? l = some { cls := .type "tuple", dict := dd, data := .seq items n, slots := sl } ∧
      R (.ok (.ret (Value.ref l))) s) :=
  .of_wp fun prog w A R s h => by
    obtain ⟨hp, g, d, tk, os⟩ := s
    obtain ⟨hl, h⟩ := h
    have f1 := AutoSeq1.idx_int
    wp_walk using wpAny_loadPart' hl
    exact ⟨_, rfl, h⟩
theorem tuple_mul0 (l : Addr) (items : Array Value) (n : Nat) (dd : Option Addr) (sl : Array (Option Value)) (u : Tok) (hi : items.isEmpty = false) :
    Meets (Builtin.«tuple.__mul__» ⟨[.ref l, .int 0 u], []⟩) (fun _ R s => s.heap.get? l = some { cls := .type "tuple", dict := dd, data := .seq items n, slots := sl } ∧
      R (.ok (.ret (Value.ref s.heap.objs.size))) { s with heap := s.heap.push { cls := Value.type "tuple", data := Data.seq #[] }, toks := s.toks }) :=
  .of_wp fun prog w A R s h => by
    obtain ⟨hp, g, d, tk, os⟩ := s
    obtain ⟨hl, h⟩ := h
    have f1 := AutoSeq1.idx_int
    have c1 : (items.isEmpty || (0 : Int) == 1) = false := by rw [hi]; rfl
    wp_walk using wpAny_loadPart' hl
    exact ⟨_, rfl, h⟩
def rRep01 (K : PySem.W.Frag) : R2 := fun x y H Q => ∃ l k xs, x = .ref l ∧ y = .int k ∧ SqT K H l xs ∧ xs ≠ [] ∧ ((k = 1 ∧ Q (.ref l) H) ∨ (k = 0 ∧ ∀ p, H p = none → Q (.ref p) (upd H p (.tup []))))
theorem op_rep01 {X : Cx} : OpR X (binaryOp .Mult) (rRep01 X.K) := by
  intro pins s σ H x y v u Q I rx ry h
  obtain ⟨l, k, xs, rfl, rfl, hT, hne, q⟩ := h
  cases rx
  obtain ⟨t, rfl⟩ := ry
  have hT' := hT
  obtain ⟨its, r, ⟨⟨cls, dd, data, sl⟩, ho, hc, n, hd⟩, hs⟩ := I.tuple hT
  simp only at hc hd
  subst hc hd
  have hn : its ≠ [] := fun e => hne (by
    have hle : its.length = xs.length := r.length.symm
    rw [e] at hle
    exact List.eq_nil_of_length_eq_zero hle.symm)
  have hi : its.toArray.isEmpty = false := by
    cases its with
    | nil => exact absurd rfl hn
    | cons a b => rfl
  rcases q with ⟨rfl, q⟩ | ⟨rfl, q⟩
  · exact wpAny_binaryOp_repeat_ref (T := "tuple") (U := "int") (by decide) ⟨_, ho, rfl⟩ (fun s' => typeIs_int s' 1 t) noFill_tuple_mul F.fills_int_mul F.slot_int_rmul repeat_tuple F.slot_int_index.lookup
      (call_meets F.slot_int_rmul (typeIs_int s 1 t) F.entry_int_rmul (F.args_int_rmul_2 _ _) (int_rmul_tuple 1 t l its.toArray n dd sl)
        ⟨ho, rfl, ⟨_, ho, rfl⟩, call_meets F.slot_tuple_mul ⟨_, ho, rfl⟩ F.entry_tuple_mul (F.args_tuple_mul_2 _ _) (tuple_mul1 l its.toArray n dd sl t) ⟨ho, ⟨.ref l, H, I, rfl, q⟩⟩⟩)
  · refine wpAny_binaryOp_repeat_ref (T := "tuple") (U := "int") (by decide) ⟨_, ho, rfl⟩ (fun s' => typeIs_int s' 0 t) noFill_tuple_mul F.fills_int_mul F.slot_int_rmul repeat_tuple F.slot_int_index.lookup
      (call_meets F.slot_int_rmul (typeIs_int s 0 t) F.entry_int_rmul (F.args_int_rmul_2 _ _) (int_rmul_tuple 0 t l its.toArray n dd sl)
        ⟨ho, rfl, ⟨_, ho, rfl⟩, call_meets F.slot_tuple_mul ⟨_, ho, rfl⟩ F.entry_tuple_mul (F.args_tuple_mul_2 _ _) (tuple_mul0 l its.toArray n dd sl t hi) ⟨ho, ?_⟩⟩)
    refine ⟨.ref s.heap.objs.size, _, I.laid (t' := s.toks) (o := .tup []) (fun b ob q => Heap.get?_push_of_some _ q) (Nat.le_refl _) ?_, rfl, q _ (I.hok.fresh (Nat.le_refl _))⟩
    exact ⟨by decide +kernel, [], .nil, IsTup.new _ #[]⟩
/-! ### * -/
def CMb' (i j : Int) : Bool := decide (i.natAbs < 2 ^ 64) || decide (j.natAbs < 2 ^ 64) || decide (i.natAbs.log2 + j.natAbs.log2 < 1000000)
def mulM : D → D → AH → EO
  | .int i, .int j, h => if CMb' i j = true then .ok (.int (i * j)) h else .bad
  | .tup ds, .int k, h => if ds.isEmpty = true then .bad else if k = 1 then .ok (.tup ds) h else if k = 0 then .ok (.tup []) h else if k < 0 ∨ 1000 < k ∨ 1000 < ds.length then .bad else .ok (.tup (List.replicate k.toNat ds).flatten) h
  | _, _, _ => .bad
def rMulAny (K : PySem.W.Frag) : R2 := fun x y H Q => rI CMul (fun i j => .int (i * j)) x y H Q ∨ rI CMulW (fun i j => .int (i * j)) x y H Q ∨ rRep01 K x y H Q ∨ rRepT K x y H Q
section
variable {X : Cx} {g : G} {W : WX} {a b c e o elt : Expr} {es : List Expr} {ma mb mo me : EM} {mc : Option EM} {m : LM} {pos p apos cpos : Pos} {σ : L2.St} {H H' : Hp} {Q : VK} {Dn : Ends} {α α' : List Addr} {τ : SL} {sa sb : SM} {st : Stmt} {rest : List Stmt} {body : List Stmt} {tg iter : Expr}
theorem op_mulAny : OpR X (binaryOp .Mult) (rMulAny X.K) := OpR.or op_mul (OpR.or op_mulW (OpR.or op_rep01 op_repT))
theorem DenL.rep {ds : List D} {vs : List V} (h : DenL g α H ds vs) : ∀ (n : Nat), DenL g α H (List.replicate n ds).flatten (List.replicate n vs).flatten
  | 0 => .nil
  | n + 1 => by simp only [List.replicate_succ, List.flatten_cons]; exact h.append (h.rep n)
theorem rs_mul : RS2 g W (rMulAny g.K) mulM := by
  intro α h H σ x y dx dy Q R hx hy p
  cases hx <;> cases hy <;> try exact False.elim p
  · rename_i i j
    simp only [mulM] at p
    split at p
    · rename_i hc
      unfold CMb' at hc
      rw [Bool.or_eq_true, Bool.or_eq_true, decide_eq_true_eq, decide_eq_true_eq, decide_eq_true_eq] at hc
      rcases hc with (hc | hc) | hc
      · exact .inl ⟨i, j, rfl, rfl, .inl (by omega), p α H _ .refl R (.int _)⟩
      · exact .inl ⟨i, j, rfl, rfl, .inr (by omega), p α H _ .refl R (.int _)⟩
      · exact .inr (.inl ⟨i, j, rfl, rfl, hc, p α H _ .refl R (.int _)⟩)
    · exact p.elim
  · rename_i l ds vs hs hl k
    simp only [mulM] at p
    split at p
    · exact p.elim
    · rename_i hne
      have hv : vs ≠ [] := fun e => by
        subst e
        cases hl
        exact hne rfl
      split at p
      · rename_i hk
        exact .inr (.inr (.inl ⟨l, k, _, rfl, rfl, hs, hv, .inl ⟨hk, p α H _ .refl R (.tup hs hl)⟩⟩))
      · split at p
        · rename_i hk
          refine .inr (.inr (.inl ⟨l, k, _, rfl, rfl, hs, hv, .inr ⟨hk, fun z hz => ?_⟩⟩))
          obtain ⟨a1, a2, a3⟩ := new_tup R DenL.nil hz
          exact p _ _ _ a2 a1 a3
        · split at p
          · exact p.elim
          · rename_i n1 n0 nb
            refine .inr (.inr (.inr ⟨l, k, _, rfl, rfl, hs, hv, by omega, by omega, ?_, fun z hz => ?_⟩))
            · have := hl.length
              omega
            · obtain ⟨a1, a2, a3⟩ := new_tup R (DenL.rep hl k.toNat) hz
              exact p _ _ _ a2 a1 a3

/-! ### a lambda told: try: return what() / except E: return 'E' -/
def toldM (c : Nat → Option Bool) (ret : Str) (mb : EM) : EM := fun τ h => match mb τ h with
  | .ok d h' => .ok d h'
  | .exc i h' => match c i with
    | some true => .ok (.str ret) h'
    | _ => .bad
  | .bad => .bad
theorem Ext.ofN {H1 : Hp} (e : LamX.ExtN H H1) : Ext α H α H1 := by
  refine ⟨fun _ _ h => h, fun b xs r => ?_, fun b o xs q => e b _ q fun ps z => (by cases z), fun c q h => e c _ h fun ps z => (by cases z)⟩
  rcases r with r | ⟨ob, r⟩
  · exact .inl (e b _ r fun ps z => by cases z)
  · exact .inr ⟨ob, e b _ r fun ps z => by cases z⟩
theorem Rep.extN {h : AH} {H1 : Hp} (R : Rep g α h H) (e : LamX.ExtN H H1) (t : LamX.Tabs g.T H1) : Rep g α h H1 := by
  refine ⟨R.len, R.nd, t, fun l o a h1 h2 => ?_⟩
  have x := R.ob l o a h1 h2
  obtain ⟨z, e1, e2⟩ := x.some_of
  refine x.ext (Ext.ofN e) ?_
  rw [e1]
  exact e a z e1 e2
theorem lam_takes {A : Around} {outer : List Env} {s : Shared} {E : XK} {scope : Scope} {f c' : Addr} : Takes (LamX.lamCx X A outer s H E scope f c') (fun cls d _ H => E cls d H) :=
  takes_of (X := LamX.lamCx X A outer s H E scope f c') rfl rfl rfl rfl
/-- x(lambda: body) where x tells -/
theorem de_told {x a e' : Str} {fg c P CS : Addr} {k : Nat} {pg : Arguments} {sg : Scope} {dV kV doc pm cdv ct oc : Value} {an od : Option Addr} {osl : Array (Option Value)} {Ng : List Str}
    {params : Arguments} {body : Expr} {scope : Scope} {lpos : Pos} {ret : Str} {ci : Nat → Option Bool} {mb : EM} {j : Nat} {p1 p2 p3 p4 p5 p6 p7 p8 : Pos}
    (hcl : ∀ i b, ci i = some b → PySem.W.exmOne X.K (.ref (g.cl i)) (.ref CS) = some b)
    (hge : sg.names.lookup e' = some .globalImplicit) (hme : X.mg e' = some (.ref CS)) (hde : (e' == ("__debug__" : Str)) = false) (h0 : ∀ f : Addr, (L2.start Ng [V.ref f])[0]? = some (some (V.ref f)))
    (hg : Gl X x) (hm : X.mg x = some (.ref fg)) (hk : PySem.W.keepIn X.K (.ref fg) = true)
    (lk : X.K.lookup fg = some ⟨oc, od, .func (PySem.W.fnOf x x pg [.Try [.Return (some (.Call (.Name a p1) [] [] p2)) p3] [.ExceptHandler (some (.Name e' p4)) none [.Return (some (.Constant (.str ret) j p5)) p6] p7] [] [] p8] sg dV kV doc pm an cdv ct), osl⟩) (hcg : PySem.W.codeIn X.K cdv x = true)
    (hb : L2.Binds X.K (PySem.W.fnOf x x pg [.Try [.Return (some (.Call (.Name a p1) [] [] p2)) p3] [.ExceptHandler (some (.Name e' p4)) none [.Return (some (.Constant (.str ret) j p5)) p6] p7] [] [] p8] sg dV kV doc pm an cdv ct) [a] []) (Sg : FnScope Ng [a] sg) (hNg : Ng[0]? = some a) (hva : Vis sg a)
    (TB : LamX.TabB X.base X.mg c P) (hcode : X.env.code = .ref c) (hmT : (P, X.env.qual ++ "<lambda>") ∈ g.T) (hu : ∀ p ∈ g.T, p.1 = P → p.2 = X.env.qual ++ "<lambda>") (hr : Room (k + 2) X.A) (L : LamX.LamS X.env.scope scope) (hdef : defaultsOf params X.env = ([], []))
    (hbind : ∀ (q : Str) (cl : List (Str × Addr)) (pm cv ctv : Value), bindArgs (PySem.W.kla_fn "<lambda>" q params body scope cl pm cv ctv) ⟨[], []⟩ = pure [])
    (hbody : ∀ (A : Around) (outer : List Env) (s : Shared) (H : Hp) (E : XK) (f c' : Addr), Room k (A.deeper (LamX.lamEnv X scope s.heap.objs.size f c')) → PE (LamX.lamCx X A outer s H E scope f c') body (tE g (fun cls d _ H => E cls d H) mb))
    (hdb : (x == ("__debug__" : Str)) = false := by decide) (hd : (a == ("__debug__" : Str)) = false := by decide) (hcd : (a == ("__classdict__" : Str)) = false := by decide) :
    PE X (.Call (.Name x p) [.Lambda params body scope lpos] [] pos) (tE g W (toldM ci ret mb)) := by
  refine PE.imp (LamX.pe_lamcall (t := fun E => tE g (fun cls d _ H => E cls d H) mb) hg hm hk lk hcg hb Sg hNg hva (LamX.told_gives hge hme hde h0) TB hcode hmT hu hr L hdef hbind hbody hdb hd hcd) fun σ H Q q => ?_
  obtain ⟨α, h, τ, R, s, q⟩ := q
  refine ⟨R.tabs, fun H1 e T1 => ?_⟩
  refine ⟨α, h, τ, R.extN e T1, s.ext (Ext.ofN e), ?_⟩
  have q := PostE.mono q (Ext.ofN (α := α) e)
  unfold toldM at q
  cases em : mb τ h with
  | ok d h' => rw [em] at q; exact q
  | exc i h' =>
    rw [em] at q
    simp only at q
    split at q
    · rename_i hc
      intro α' H' e' R'
      exact ⟨true, hcl i true hc, fun _ => q α' H' _ e' R' (.str _), fun z => by cases z⟩
    · exact q.elim
  | bad => rw [em] at q; exact q.elim
end
end DD
end

section
set_option Elab.async false
set_option linter.all false
set_option maxRecDepth 100000
set_option maxHeartbeats 2000000
namespace DD
open PySem L2
/-! ### short words -/
def negF : D → AH → EO
  | .int i, h => .ok (.int (-i)) h
  | _, _ => .bad
section
variable {X : Cx} {g : G} {W : WX} {a b c e o elt : Expr} {es : List Expr} {ma mb mo me : EM} {mc : Option EM} {m : LM} {pos p apos cpos : Pos} {σ : L2.St} {H H' : Hp} {Q : VK} {Dn : Ends} {α α' : List Addr} {τ : SL} {sa sb : SM} {st : Stmt} {rest : List Stmt} {body : List Stmt} {tg iter : Expr}
theorem rs_neg : RS1 g W (rU fun i => .int (-i)) negF := by
  intro α h H σ x dx Q R hx p
  cases hx <;> try exact False.elim p
  exact ⟨_, rfl, p α H _ .refl R (.int _)⟩
theorem dk_int {i : Int} {j : Nat} : PE X (.Constant (.int i) j pos) (tE g W (cM (.int i))) := de_c (fun _ _ => .int _) pe_int
theorem dk_str {i : Str} {j : Nat} : PE X (.Constant (.str i) j pos) (tE g W (cM (.str i))) := de_c (fun _ _ => .str _) pe_str
theorem dk_bl {i : Bool} {j : Nat} : PE X (.Constant (.bool i) j pos) (tE g W (cM (.bl i))) := de_c (fun _ _ => .bl _) pe_bl
theorem dk_non {j : Nat} : PE X (.Constant .none j pos) (tE g W (cM .non)) := de_c (fun _ _ => .non) pe_non
theorem dg_int {x : Str} {i : Int} (hm : ∃ t, X.mg x = some (.int i t)) (hg : Gl X x := by rfl) (hd : (x == ("__debug__" : Str)) = false := by decide) : PE X (.Name x pos) (tE g W (cM (.int i))) := by
  obtain ⟨t, hm⟩ := hm
  exact de_c (fun _ _ => .int _) (pe_glob hg hm ⟨t, rfl⟩ hd)
theorem dg_str {x : Str} {i : Str} (hm : ∃ t, X.mg x = some (.str i t)) (hg : Gl X x := by rfl) (hd : (x == ("__debug__" : Str)) = false := by decide) : PE X (.Name x pos) (tE g W (cM (.str i))) := by
  obtain ⟨t, hm⟩ := hm
  exact de_c (fun _ _ => .str _) (pe_glob hg hm ⟨t, rfl⟩ hd)
theorem dv (i : Nat) {x : Str} (hN : X.N[i]? = some x := by rfl) (hv : Vis X.env.scope x := by first | exact Or.inl rfl | exact Or.inr (Or.inl rfl) | exact Or.inr (Or.inr rfl)) (hd : (x == ("__debug__" : Str)) = false := by decide)
    (hcd : (x == ("__classdict__" : Str)) = false := by decide) : PE X (.Name x pos) (tE g W (varM i)) := de_var (pe_var hN hv hd hcd)
/-- xs.append(e) -/
theorem d_append (ho : PE X o (tE g W mo)) (ha : PA X [e] (tL g W m))
    (hbase : attributeBase o "append" X.env (eval o X.env) = eval o X.env := by rfl)
    (hfew : ((backTo cpos (starEach [e] X.env)).all (fun x => !x.1) && (backToKw cpos (keywordEach [] X.env)).all (fun x => x.1.isSome)
      && decide (([e] : List Expr).length + ([] : List Keyword).length + (if ([] : List Keyword).isEmpty then 0 else 1) < 30)) = true := by rfl)
    (hline : (apos.endLine == cpos.line) = true := by rfl) (hs : starEach [e] X.env = (false, eval e X.env) :: starEach [] X.env := by rfl) (hplain : (backTo cpos (starEach [] X.env)).any (·.1) = false := by rfl) :
    PE X (.Call (.Attribute o "append" apos) [e] [] cpos) (tE g W (bmM mo m appendF)) :=
  de_bm PySem.F.plainAttrs_list PySem.F.slot_list_append PySem.F.type_list_append mt_append rs_append ho ha hbase hfew hline hs hplain
theorem d_extend (hK : g.K = X.K) (ho : PE X o (tE g W mo)) (ha : PA X [e] (tL g W m))
    (hbase : attributeBase o "extend" X.env (eval o X.env) = eval o X.env := by rfl)
    (hfew : ((backTo cpos (starEach [e] X.env)).all (fun x => !x.1) && (backToKw cpos (keywordEach [] X.env)).all (fun x => x.1.isSome)
      && decide (([e] : List Expr).length + ([] : List Keyword).length + (if ([] : List Keyword).isEmpty then 0 else 1) < 30)) = true := by rfl)
    (hline : (apos.endLine == cpos.line) = true := by rfl) (hs : starEach [e] X.env = (false, eval e X.env) :: starEach [] X.env := by rfl) (hplain : (backTo cpos (starEach [] X.env)).any (·.1) = false := by rfl) :
    PE X (.Call (.Attribute o "extend" apos) [e] [] cpos) (tE g W (bmM mo m extendF)) :=
  de_bm PySem.F.plainAttrs_list PySem.F.slot_list_extend PySem.F.type_list_extend mt_extAny (by rw [← hK]; exact rs_extend) ho ha hbase hfew hline hs hplain
theorem d_find (ho : PE X o (tE g W mo)) (he : PE X e (tE g W ma))
    (hs : starEach [e] X.env = [(false, eval e X.env)] := by rfl) (hbase : attributeBase o "find" X.env (eval o X.env) = eval o X.env := by rfl) (hline : (apos.endLine == pos.line) = true := by rfl) :
    PE X (.Call (.Attribute o "find" apos) [e] [] pos) (tE g W (smM mo ma findS)) :=
  de_sm PySem.F.slot_str_find PySem.F.type_str_find mt_find rs_find ho he hs hbase hline
theorem d_join (hK : g.K = X.K) (ho : PE X o (tE g W mo)) (he : PE X e (tE g W ma))
    (hs : starEach [e] X.env = [(false, eval e X.env)] := by rfl) (hbase : attributeBase o "join" X.env (eval o X.env) = eval o X.env := by rfl) (hline : (apos.endLine == pos.line) = true := by rfl) :
    PE X (.Call (.Attribute o "join" apos) [e] [] pos) (tE g W (smM mo ma joinS)) :=
  de_sm PySem.F.slot_str_join PySem.F.type_str_join mt_join (by rw [← hK]; exact rs_join) ho he hs hbase hline
theorem d_len (hK : g.K = X.K) (hm : X.mg "len" = none) (ha : PE X e (tE g W ma)) (hg : Gl X "len" := by rfl) (hs : starEach [e] X.env = (false, eval e X.env) :: starEach [] X.env := by rfl) (hpl : (backTo pos (starEach [] X.env)).any (·.1) = false := by rfl) :
    PE X (.Call (.Name "len" p) [e] [] pos) (tE g W (callM (consM ma nilM) lenF)) :=
  de_callB call_lenAny (by rw [← hK]; exact rs_len) hg hm PySem.boot_len (dl_cons ha dl_nil hs) (by decide) (by decide) hs hpl
/-! ### a def of the head -/
theorem fn_okD2 {P : Program} {w : World} {K : PySem.W.Frag} {mg : Str → Option Value} {base : Heap} {x qual : Str} {st : Stmt} {N ps : List Str} {m : SM} {dvs : List V} {kws : List (Str × V)} {k : Nat} {f : Addr} {fd : FuncData} (F : FunD K x qual (defArgs st) (defBody st) (defScope st) dvs kws f fd) (S : FnScope N ps (defScope st))
    (hb : ∀ (A : Around) (outer : List Env) (s : Shared) (H : Hp) (E : XK), Room k (A.deeper (PyProof.Rows.envOfC qual (defScope st) s.heap.objs.size f fd.code)) →
      PSs (cxOf (L2.CX P w) P w K mg base N qual (defScope st) f fd.code A outer s H E) (defBody st) (tS g (fun cls d _ H => E cls d H) m)) :
    FnOk P w K mg base (L2.CX P w) (k + 1) f fd ps (spD g ps.length fun ds h => retOf (m (startD N.length ds) h)) := by
  have hb' := hb
  obtain ⟨oc, od, dV, kV, doc, pm, an, cdv, ct, osl, e, lk, hcd, _, _⟩ := F.ex
  have ec : fd.code = cdv := by rw [e] <;> rfl
  rw [ec] at hb'
  subst e
  refine fn_of lk hcd S (fun vs H Q E q => ?_) fun A outer s H vs Q E hr q => ?_
  · obtain ⟨α, h, ds, _, dl, hn, _⟩ := q
    rw [← dl.length, hn]
  · obtain ⟨α, h, ds, R, dl, hn, q⟩ := q
    have q : PostE g (fun cls d _ H => E cls d H) α H [] Q (retOf (m (startD N.length ds) h)) := q
    refine ⟨_, hb' A outer s H E hr, α, h, startD N.length ds, R, den_start dl, ?_⟩
    cases e : m (startD N.length ds) h with
    | nx τ' h' => rw [e] at q; exact fun α' H' σ' E' R' s' => q α' H' .non E' R' .non
    | rt d h' => rw [e] at q; exact q
    | bk τ' h' => rw [e] at q; exact q.elim
    | ct τ' h' => rw [e] at q; exact q.elim
    | exc c τ' h' => rw [e] at q; exact fun α' H' σ' E' R' s' => q α' H' E' R'
    | bad => rw [e] at q; exact q.elim
/-- nothing is promised at the bottom of a recursion -/
theorem fn_bot {P : Program} {w : World} {K : PySem.W.Frag} {mg : Str → Option Value} {base : Heap} {CX : CXT} {k n : Nat} {f : Addr} {fd : FuncData} {ps : List Str} : FnOk P w K mg base CX k f fd ps (spD g n fun _ _ => .bad) :=
  ⟨fun vs H Q E q => by obtain ⟨_, _, _, _, _, _, z⟩ := q; exact z.elim, fun A outer s H args us vs Q E hr he hb hv q => by obtain ⟨_, _, _, _, _, _, z⟩ := q; exact z.elim⟩
end
/-! ### code objects of defs that make lambdas -/
def codeA (K : PySem.W.Frag) (p : Str × Option Str) : Addr := match K.lookup (He.fAd K p) with
  | some ⟨_, _, .func fd, _⟩ => (match fd.code with
    | .ref c => c
    | _ => 0)
  | _ => 0
def tabA (K : PySem.W.Frag) (p : Str × Option Str) : Addr := match K.lookup (codeA K p) with
  | some ⟨_, _, .fields vs, _⟩ => (match (vs[11]? : Option Value) with
    | some (.ref P) => P
    | _ => 0)
  | _ => 0
def lamB (K : PySem.W.Frag) (ts : List Addr) (p : Str × Option Str) : Bool := (match K.lookup (He.fAd K p) with
  | some ⟨_, _, .func fd, _⟩ => decide (fd.code = .ref (codeA K p))
  | _ => false) && PySem.W.codeHdIn K (codeA K p) (tabA K p) && decide (tabA K p ∈ ts) && (K.lookup (tabA K p)).isNone
theorem lamB_ok {K : PySem.W.Frag} {ts : List Addr} {p : Str × Option Str} (h : lamB K ts p = true) : (∀ x y par body sc dvs kws fd, FunD K x y par body sc dvs kws (He.fAd K p) fd → fd.code = .ref (codeA K p)) ∧ PySem.W.codeHdIn K (codeA K p) (tabA K p) = true ∧ tabA K p ∈ ts ∧ K.lookup (tabA K p) = none := by
  unfold lamB at h
  simp only [Bool.and_eq_true, decide_eq_true_eq, Option.isNone_iff_eq_none] at h
  obtain ⟨⟨⟨h1, h2⟩, h3⟩, h4⟩ := h
  refine ⟨fun x y par body sc dvs kws fd F => ?_, h2, h3, h4⟩
  obtain ⟨oc, od, dV, kV, doc, pm, an, cdv, ct, osl, e, lk, hcd, _, _⟩ := F.ex
  rw [lk] at h1
  simpa using h1
/-- the def's data at a place -/
def fdA (K : PySem.W.Frag) (p : Str × Option Str) : FuncData := match K.lookup (He.fAd K p) with
  | some ⟨_, _, .func fd, _⟩ => fd
  | _ => PySem.W.fnOf "" "" ⟨[], [], none, [], [], none, []⟩ [] { kind := .function, names := [], isGenerator := false, isCoroutine := false, more := [] } .none .none .none .none none .none .none
theorem fdA_ok {K : PySem.W.Frag} {p : Str × Option Str} {x q : Str} {par : Arguments} {body : List Stmt} {sc : Scope} {dvs : List V} {kws : List (Str × V)} (h : ∃ fd, FunD K x q par body sc dvs kws (He.fAd K p) fd) : FunD K x q par body sc dvs kws (He.fAd K p) (fdA K p) := by
  obtain ⟨fd, F⟩ := h
  obtain ⟨oc, od, dV, kV, doc, pm, an, cdv, ct, osl, e, lk, hcd, _, _⟩ := F.ex
  have : fdA K p = fd := by
    unfold fdA
    rw [lk] <;> rfl
  rw [this]
  exact F
theorem binds_allD {K : PySem.W.Frag} {x qual : Str} {params : Arguments} {body : List Stmt} {scope : Scope} {dvs : List V} {kws : List (Str × V)} {f : Addr} {fd : FuncData} {ps : List Str} (F : FunD K x qual params body scope dvs kws f fd)
    (h : ∀ (dV kV doc pm : Value) (an : Option Addr) (cdv ct : Value) (us : List Value), us.length = ps.length → bindArgs (PySem.W.fnOf x qual params body scope dV kV doc pm an cdv ct) ⟨us, []⟩ = pure (ps.zip us)) : Binds K fd ps [] := by
  obtain ⟨oc, od, dV, kV, doc, pm, an, cdv, ct, osl, rfl, lk, hcd, hD, hK⟩ := F.ex
  exact .all (h dV kV doc pm an cdv ct)
theorem fn_okD3 {P : Program} {w : World} {K : PySem.W.Frag} {mg : Str → Option Value} {base : Heap} {g : G} {x qual : Str} {st : Stmt} {N ps : List Str} {m : SM} {dvs : List V} {kws : List (Str × V)} {k n : Nat} {f : Addr} {fd : FuncData} {F : List D → AH → EO} (Fd : FunD K x qual (defArgs st) (defBody st) (defScope st) dvs kws f fd) (S : FnScope N ps (defScope st)) (hn : ps.length = n) (hF : F = fun ds h => retOf (m (startD N.length ds) h))
    (hb : ∀ (A : Around) (outer : List Env) (s : Shared) (H : Hp) (E : XK), Room k (A.deeper (PyProof.Rows.envOfC qual (defScope st) s.heap.objs.size f fd.code)) →
      PSs (cxOf (L2.CX P w) P w K mg base N qual (defScope st) f fd.code A outer s H E) (defBody st) (tS g (fun cls d _ H => E cls d H) m)) :
    FnOk P w K mg base (L2.CX P w) (k + 1) f fd ps (spD g n F) := by
  subst hn hF
  exact fn_okD2 Fd S hb
end DD
end

section
set_option Elab.async false
set_option linter.all false
set_option maxRecDepth 100000
set_option maxHeartbeats 2000000
/-! dicts, texts by a number, list(..) -/
namespace DD
open PySem L2
theorem u1 {n : Nat} (h : n + 64 < cLine) : n + 1 < cLine := Nat.lt_of_le_of_lt (Nat.add_le_add_left (by decide : 1 ≤ 64) _) h
/-! ### keys and entries -/
def keyD : D → Option Key
  | .int i => some (.inl i)
  | .str x => some (.inr x)
  | _ => none
def valK (kvs : List (Key × D)) (k : Key) : Option D := (kvs.find? fun kv => decide (kv.1 = k)).map (·.2)
def putKD (kvs : List (Key × D)) (k : Key) (d : D) : List (Key × D) :=
  if (kvs.any fun kv => decide (kv.1 = k)) = true then kvs.map fun kv => if kv.1 = k then (kv.1, d) else kv else kvs ++ [(k, d)]
def dropKD (kvs : List (Key × D)) (k : Key) : List (Key × D) := kvs.filter fun kv => decide (kv.1 ≠ k)
section
variable {g : G} {α : List Addr} {H : Hp} {d : D} {v : V} {k : Key} {kvs : List (Key × D)} {ws : List (Key × V)}
theorem keyD_den (e : keyD d = some k) (h : Den g α H d v) : v = kV k := by
  cases h <;> simp only [keyD, Option.some.injEq, reduceCtorEq] at e <;> subst e <;> rfl
/-- entries stand for entries -/
inductive DenK (g : G) (α : List Addr) (H : Hp) : List (Key × D) → List (Key × V) → Prop
  | nil : DenK g α H [] []
  | cons {k : Key} {d : D} {v : V} {kvs : List (Key × D)} {ws : List (Key × V)} : Den g α H d v → DenK g α H kvs ws → DenK g α H ((k, d) :: kvs) ((k, v) :: ws)
theorem DenK.of : ∀ {kvs : List (Key × D)} {ws : List (Key × V)}, ws.map (·.1) = kvs.map (·.1) → DenL g α H (kvs.map (·.2)) (ws.map (·.2)) → DenK g α H kvs ws
  | [], [], _, _ => .nil
  | [], _ :: _, e, _ => by simp at e
  | _ :: _, [], e, _ => by simp at e
  | (k, d) :: kvs, (j, v) :: ws, e, h => by
    simp only [List.map_cons, List.cons.injEq] at e
    obtain ⟨rfl, e⟩ := e
    cases h with
    | cons h1 h2 => exact .cons h1 (DenK.of e h2)
theorem DenK.to (h : DenK g α H kvs ws) : ws.map (·.1) = kvs.map (·.1) ∧ DenL g α H (kvs.map (·.2)) (ws.map (·.2)) := by
  induction h with
  | nil => exact ⟨rfl, .nil⟩
  | cons h1 h2 ih => exact ⟨by simp [ih.1], .cons h1 ih.2⟩
theorem DenK.len (h : DenK g α H kvs ws) : ws.length = kvs.length := by
  induction h with
  | nil => rfl
  | cons h1 h2 ih => simp [ih]
theorem DenK.val_some (h : DenK g α H kvs ws) (e : valK kvs k = some d) : ∃ v, valV ws k = some v ∧ Den g α H d v := by
  induction h with
  | nil => cases e
  | @cons j d' v' kvs ws h1 h2 ih =>
    by_cases q : j = k
    · unfold valK at e
      rw [List.find?_cons_of_pos (by simpa using q)] at e
      simp only [Option.map_some, Option.some.injEq] at e
      subst e
      exact ⟨v', valV_pos q, h1⟩
    · unfold valK at e
      rw [List.find?_cons_of_neg (by simpa using q)] at e
      obtain ⟨v, a, b⟩ := ih e
      exact ⟨v, by rw [valV_neg q]; exact a, b⟩
theorem DenK.val_none (h : DenK g α H kvs ws) (e : valK kvs k = none) : valV ws k = none := by
  induction h with
  | nil => rfl
  | @cons j d' v' kvs ws h1 h2 ih =>
    by_cases q : j = k
    · unfold valK at e
      rw [List.find?_cons_of_pos (by simpa using q)] at e
      cases e
    · unfold valK at e
      rw [List.find?_cons_of_neg (by simpa using q)] at e
      rw [valV_neg q]
      exact ih e
theorem DenK.any (h : DenK g α H kvs ws) : (ws.any fun kv => decide (kv.1 = k)) = (kvs.any fun kv => decide (kv.1 = k)) := by
  induction h with
  | nil => rfl
  | cons h1 h2 ih => simp only [List.any_cons, ih]
theorem DenK.snoc (h : DenK g α H kvs ws) (hd : Den g α H d v) : DenK g α H (kvs ++ [(k, d)]) (ws ++ [(k, v)]) := by
  induction h with
  | nil => exact .cons hd .nil
  | cons h1 h2 ih => exact .cons h1 ih
theorem DenK.upd (h : DenK g α H kvs ws) (hd : Den g α H d v) : DenK g α H (kvs.map fun kv => if kv.1 = k then (kv.1, d) else kv) (ws.map fun kv => if kv.1 = k then (kv.1, v) else kv) := by
  induction h with
  | nil => exact .nil
  | @cons j d' v' kvs ws h1 h2 ih =>
    simp only [List.map_cons]
    by_cases q : j = k
    · rw [if_pos q, if_pos q]; exact .cons hd ih
    · rw [if_neg q, if_neg q]; exact .cons h1 ih
theorem DenK.put (h : DenK g α H kvs ws) (hd : Den g α H d v) : DenK g α H (putKD kvs k d) (putK ws k v) := by
  unfold putKD putK
  rw [h.any]
  split
  · exact h.upd hd
  · exact h.snoc hd
theorem DenK.drop (h : DenK g α H kvs ws) : DenK g α H (dropKD kvs k) (dropK ws k) := by
  unfold dropKD dropK
  induction h with
  | nil => exact .nil
  | @cons j d' v' kvs ws h1 h2 ih =>
    by_cases q : j = k
    · rw [List.filter_cons_of_neg (by simpa using q), List.filter_cons_of_neg (by simpa using q)]; exact ih
    · rw [List.filter_cons_of_pos (by simpa using q), List.filter_cons_of_pos (by simpa using q)]; exact .cons h1 ih
end
section
variable {X : Cx} {g : G} {W : WX} {a b c e o : Expr} {ma mb mc me mo mk : EM} {pos apos cpos : Pos} {σ : St} {H : Hp} {Q : VK} {α : List Addr} {h : AH} {l : Nat} {x : V}
theorem Rep.dct {p : Addr} {kvs : List (Key × D)} (R : Rep g α h H) (hl : α[l]? = some p) (e : h[l]? = some (.dct kvs)) : ∃ ws, H p = some (.dK ws) ∧ DenK g α H kvs ws := by
  obtain ⟨ws, a1, a2, a3⟩ := R.ob _ _ _ e hl
  exact ⟨ws, a1, DenK.of a2 a3⟩
/-! ### {} -/
def dnewM : EM := fun _ h => .ok (.ref h.length) (h ++ [.dct []])
theorem de_dnew : PE X (.Dict [] [] pos) (tE g W dnewM) := by
  refine PE.imp pe_dnewK fun σ H Q p => ?_
  obtain ⟨α, h, τ, R, s, p⟩ := p
  intro z hz
  obtain ⟨a1, a2⟩ := R.push (o := .dct []) hz (u := .dK []) ⟨[], upd_same, rfl, .nil⟩
  refine p _ _ _ a2 a1 (.ref ?_)
  rw [← R.len]
  simp
/-! ### d[k] -/
def dgetM (x y : D) (h : AH) : EO := match x with
  | .ref l => match h[l]? with
    | some (.dct kvs) => match keyD y with
      | some k => match valK kvs k with
        | some d => .ok d h
        | none => .bad
      | none => .bad
    | _ => .bad
  | _ => .bad
theorem rs_dget : RS2 g W (fun x y H Q => ∃ a v, x = .ref a ∧ DGet H a y (some v) ∧ Q v H) dgetM := by
  intro α h H σ x y dx dy Q R hx hy p
  cases hx <;> try exact False.elim p
  rename_i l a hl
  simp only [dgetM] at p
  split at p
  · rename_i kvs e
    split at p
    · rename_i k ek
      split at p
      · rename_i d ed
        obtain ⟨ws, b1, b2⟩ := R.dct hl e
        obtain ⟨v, c1, c2⟩ := b2.val_some ed
        refine ⟨a, v, rfl, .inl ⟨ws, k, .inl b1, keyD_den ek hy, c1.symm⟩, p α H v .refl R c2⟩
      · exact p.elim
    · exact p.elim
  · exact p.elim
theorem de_dget (hu : X.A.units + 1 < cLine) (ho : PE X o (tE g W mo)) (hi : PE X e (tE g W me)) (hs : NoSl e) : PE X (.Subscript o e pos) (tE g W (binM mo me dgetM)) :=
  PE.imp (pe_dget hu ho hi hs) fun _ _ _ p => tE_bin rs_dget p
/-! ### k in d -/
def dinM (y x : D) (h : AH) : EO := match x with
  | .ref l => match h[l]? with
    | some (.dct kvs) => match keyD y with
      | some k => .ok (.bl (valK kvs k).isSome) h
      | none => .bad
    | _ => .bad
  | _ => .bad
def dninM (y x : D) (h : AH) : EO := match x with
  | .ref l => match h[l]? with
    | some (.dct kvs) => match keyD y with
      | some k => .ok (.bl (!(valK kvs k).isSome)) h
      | none => .bad
    | _ => .bad
  | _ => .bad
theorem dget_opt {p : Addr} {kvs : List (Key × D)} {k : Key} {dy : D} {y : V} (R : Rep g α h H) (hl : α[l]? = some p) (e : h[l]? = some (.dct kvs)) (ek : keyD dy = some k) (hy : Den g α H dy y) : ∃ o, DGet H p y o ∧ o.isSome = (valK kvs k).isSome ∧ ∀ d, valK kvs k = some d → ∃ v, o = some v ∧ Den g α H d v := by
  obtain ⟨ws, b1, b2⟩ := R.dct hl e
  refine ⟨valV ws k, .inl ⟨ws, k, .inl b1, keyD_den ek hy, rfl⟩, ?_, fun d ed => b2.val_some ed⟩
  cases ev : valK kvs k with
  | none => rw [b2.val_none ev]; rfl
  | some d => obtain ⟨v, c1, c2⟩ := b2.val_some ev; rw [c1]; rfl
theorem rs_din : RS2 g W (fun y x H Q => ∃ a o, x = .ref a ∧ DGet H a y o ∧ Q (.bl o.isSome) H) dinM := by
  intro α h H σ y x dy dx Q R hy hx p
  cases hx <;> try exact False.elim p
  rename_i l a hl
  simp only [dinM] at p
  split at p
  · rename_i kvs e
    split at p
    · rename_i k ek
      obtain ⟨o, c1, c2, _⟩ := dget_opt R hl e ek hy
      exact ⟨a, o, rfl, c1, by rw [c2]; exact p α H _ .refl R (.bl _)⟩
    · exact p.elim
  · exact p.elim
theorem rs_dnin : RS2 g W (fun y x H Q => ∃ a o, x = .ref a ∧ DGet H a y o ∧ Q (.bl (!o.isSome)) H) dninM := by
  intro α h H σ y x dy dx Q R hy hx p
  cases hx <;> try exact False.elim p
  rename_i l a hl
  simp only [dninM] at p
  split at p
  · rename_i kvs e
    split at p
    · rename_i k ek
      obtain ⟨o, c1, c2, _⟩ := dget_opt R hl e ek hy
      exact ⟨a, o, rfl, c1, by rw [c2]; exact p α H _ .refl R (.bl _)⟩
    · exact p.elim
  · exact p.elim
theorem de_din (hu : X.A.units + 1 < cLine) (hi : PE X e (tE g W me)) (ho : PE X o (tE g W mo)) (hm : behindInMarks .In o = false) : PE X (.Compare e [.In] [o] pos) (tE g W (binM me mo dinM)) :=
  PE.imp (pe_cmp (pc_din hu hi ho) hm) fun _ _ _ p => tE_bin rs_din p
theorem de_dnin (hu : X.A.units + 1 < cLine) (hi : PE X e (tE g W me)) (ho : PE X o (tE g W mo)) (hm : behindInMarks .NotIn o = false) : PE X (.Compare e [.NotIn] [o] pos) (tE g W (binM me mo dninM)) :=
  PE.imp (pe_cmp (pc_dnotin hu hi ho) hm) fun _ _ _ p => tE_bin rs_dnin p
theorem dt_din (hu : X.A.units + 1 < cLine) (hi : PE X e (tE g W me)) (ho : PE X o (tE g W mo)) (hm : behindInMarks .In o = false) : PT X (.Compare e [.In] [o] pos) (tT g W (binM me mo dinM)) :=
  PT.imp (pt_cmp (pc_din hu hi ho) hm) fun _ _ _ p => tE_bin rs_din p
theorem dt_dnin (hu : X.A.units + 1 < cLine) (hi : PE X e (tE g W me)) (ho : PE X o (tE g W mo)) (hm : behindInMarks .NotIn o = false) : PT X (.Compare e [.NotIn] [o] pos) (tT g W (binM me mo dninM)) :=
  PT.imp (pt_cmp (pc_dnotin hu hi ho) hm) fun _ _ _ p => tE_bin rs_dnin p
/-! ### d.get(k) -/
def dg1M (mo mk : EM) : EM := fun τ h => (mo τ h).bind fun d h1 => match d with
  | .ref l => (match h1[l]? with
    | some (.dct _) => (mk τ h1).bind fun y h2 => match h2[l]? with
      | some (.dct kvs) => (match keyD y with
        | some k => .ok ((valK kvs k).getD .non) h2
        | none => .bad)
      | _ => .bad
    | _ => .bad)
  | _ => .bad
theorem de_dget1 (hu : X.A.units + 1 < cLine) (ho : PE X o (tE g W mo)) (hk : PE X e (tE g W mk)) (m : M1 X o "get" apos e cpos) : PE X (.Call (.Attribute o "get" apos) [e] [] cpos) (tE g W (dg1M mo mk)) := by
  refine PE.imp (pe_dget1 hu ho hk m) fun σ H Q p => ?_
  obtain ⟨α, h, τ, R, s, p⟩ := p
  refine ⟨α, h, τ, R, s, PostE.imp (PostE.bind p) ?_⟩
  rintro v H1 ⟨α1, d, h1, E1, R1, D1, p1⟩
  cases D1 <;> try exact False.elim p1
  rename_i l a hl
  simp only [] at p1
  split at p1
  · rename_i kv0 e0
    obtain ⟨ws0, b1, b2⟩ := R1.dct hl e0
    refine ⟨a, rfl, .inl ⟨ws0, .inl b1⟩, α1, h1, τ, R1, s.ext E1, PostE.imp (PostE.bind p1) ?_⟩
    rintro y H2 ⟨α2, dy, h2, E2, R2, D2, p2⟩
    split at p2
    · rename_i kvs e2
      split at p2
      · rename_i k ek
        obtain ⟨ob, c1, c2, c3⟩ := dget_opt R2 (E2.pre _ _ hl) e2 ek D2
        refine ⟨ob, c1, ?_⟩
        cases ev : valK kvs k with
        | none =>
          rw [ev] at p2 c2
          have : ob = none := by cases ob with | none => rfl | some _ => cases c2
          subst this
          exact p2 α2 H2 _ .refl R2 .non
        | some d =>
          rw [ev] at p2
          obtain ⟨v, rfl, dv⟩ := c3 d ev
          exact p2 α2 H2 _ .refl R2 dv
      · exact p2.elim
    · exact p2.elim
  · exact p1.elim
/-! ### d[k] = v -/
def setDF (d k v : D) (h : AH) : Option AH := match d with
  | .ref l => match h[l]?, keyD k with
    | some (.dct kvs), some j => if kvs.length < sizeLine then some (h.set l (.dct (putKD kvs j v))) else none
    | _, _ => none
  | _ => none
theorem put_dct {p : Addr} {kvs kvs' : List (Key × D)} {ws' : List (Key × V)} (R : Rep g α h H) (hl : α[l]? = some p) (e : h[l]? = some (.dct kvs)) (k : DenK g α H kvs' ws') : Rep g α (h.set l (.dct kvs')) (upd H p (.dK ws')) ∧ Ext α H α (upd H p (.dK ws')) := by
  obtain ⟨ws, b1, _⟩ := R.dct hl e
  have E : Ext α H α (upd H p (.dK ws')) := Ext.put b1 True.intro
  obtain ⟨q1, q2⟩ := k.to
  exact R.write hl b1 True.intro (u' := .dK ws') (o := .dct kvs') ⟨ws', upd_same, q1, DenL.ext E _ _ q2⟩
theorem rset_dict : RSet g rSetD setDF := by
  intro α h h' H o i v d k w Q R hd hk hw e q
  cases hd <;> simp only [setDF, reduceCtorEq] at e
  rename_i l a hl
  split at e
  · rename_i kvs j ex ej
    split at e
    · rename_i hz
      cases e
      obtain ⟨ws, b1, b2⟩ := R.dct hl ex
      obtain ⟨c1, c2⟩ := put_dct R hl ex (b2.put (k := j) hw)
      exact ⟨a, _, rfl, .inl ⟨ws, j, b1, keyD_den ej hk, by rw [b2.len]; exact hz, rfl⟩, q _ c2 c1⟩
    · cases e
  · cases e
/-! ### a text by a number -/
def repS (z : Str) (n : Nat) : Str := if n = 0 then Str.empty else if n = 1 ∨ z.length = 0 then z else ⟨(List.replicate n z.cps).foldl (· ++ ·) #[]⟩
def repM (x y : D) (h : AH) : EO := match x, y with
  | .str z, .int k => if 0 ≤ k ∧ k ≤ 1000 ∧ z.length ≤ 1000 then .ok (.str (repS z k.toNat)) h else .bad
  | _, _ => .bad
def rRepS : R2 := fun x y H Q => ∃ z k, x = .str z ∧ y = .int k ∧ 0 ≤ k ∧ k ≤ 1000 ∧ z.length ≤ 1000 ∧ Q (.str (repS z k.toNat)) H
theorem rep_size (a : Array Nat) : ∀ (n : Nat) (acc : Array Nat), ((List.replicate n a).foldl (· ++ ·) acc).size = acc.size + n * a.size
  | 0, acc => by simp
  | n + 1, acc => by
    rw [List.replicate_succ, List.foldl_cons, rep_size a n, Array.size_append, Nat.succ_mul]
    omega
theorem rep_len (z : Str) (n : Nat) : Str.length ⟨(List.replicate n z.cps).foldl (· ++ ·) #[]⟩ = n * z.length := by
  show Array.size _ = _
  rw [rep_size]
  show 0 + n * z.cps.size = n * z.cps.size
  omega
theorem op_repS : OpR X (binaryOp .Mult) rRepS := by
  intro pins s σ H x y v u Q I rx ry h
  obtain ⟨z, k, rfl, rfl, k0, k1, hz, q⟩ := h
  obtain ⟨t, rfl⟩ := rx
  obtain ⟨t', rfl⟩ := ry
  refine P.mul_str (by
    have h1 : ¬ k < -(2 ^ 63 : Int) := by omega
    have h2 : ¬ k ≥ 2 ^ 63 := by omega
    rw [decide_eq_false h1, decide_eq_false h2]; rfl) (fun h1 _ => ?_) (fun h1 _ => ?_) ?_
  · have : (1000 : Int) ≤ (2 ^ 63 - 1) / k := by
      apply Int.le_ediv_of_mul_le (by omega)
      omega
    omega
  · have h4 : z.length * k.toNat ≤ 1000 * 1000 := Nat.mul_le_mul hz (by omega)
    show decide (_ > sizeLine) = false
    rw [sizeLine_eq]
    exact decide_eq_false (by omega)
  · unfold repS at q
    by_cases h1 : k < 1
    · rw [if_pos h1]
      have : k.toNat = 0 := by omega
      rw [this, if_pos rfl] at q
      exact ⟨by decide, ⟨.str Str.empty, H, I.tok _, ⟨_, rfl⟩, q⟩⟩
    · rw [if_neg h1]
      have : ¬ k.toNat = 0 := by omega
      rw [if_neg this] at q
      by_cases h2 : (k == 1 || z.length == 0) = true
      · rw [if_pos h2]
        have h3 : k.toNat = 1 ∨ z.length = 0 := by
          simp only [Bool.or_eq_true, beq_iff_eq] at h2
          omega
        rw [if_pos h3] at q
        exact ⟨.str z, H, I, ⟨_, rfl⟩, q⟩
      · rw [if_neg h2]
        have h3 : ¬ (k.toNat = 1 ∨ z.length = 0) := by
          simp only [Bool.or_eq_true, beq_iff_eq] at h2
          omega
        rw [if_neg h3] at q
        exact ⟨by rw [sizeLine_eq, rep_len]; have : k.toNat * z.length ≤ 1000 * 1000 := Nat.mul_le_mul (by omega) hz; omega, ⟨.str _, H, I.tok _, ⟨_, rfl⟩, q⟩⟩
theorem rs_rep : RS2 g W rRepS repM := by
  intro α h H σ x y dx dy Q R hx hy p
  cases hx <;> try exact False.elim p
  cases hy <;> try exact False.elim p
  rename_i z k
  simp only [repM] at p
  split at p
  · rename_i hc
    exact ⟨z, k, rfl, rfl, hc.1, hc.2.1, hc.2.2, p α H _ .refl R (.str _)⟩
  · exact p.elim
end
end DD
end

section
set_option Elab.async false
set_option linter.all false
set_option maxRecDepth 100000
set_option maxHeartbeats 2000000
/-! more of dicts, x in xs, sorted -/
namespace DD
open PySem L2
section
variable {X : Cx} {g : G} {W : WX} {a b c e f o : Expr} {ma mb mc me mf mo mk : EM} {pos apos cpos tpos : Pos} {σ : L2.St} {H : Hp} {Q : VK} {α : List Addr} {h : AH} {l : Nat} {x : V}
/-! ### d.get(k, x) -/
def dg2M (mo mk mx : EM) : EM := fun τ h => (mo τ h).bind fun d h1 => match d with
  | .ref l => (match h1[l]? with
    | some (.dct _) => (mk τ h1).bind fun y h2 => (mx τ h2).bind fun z h3 => match h3[l]? with
      | some (.dct kvs) => (match keyD y with
        | some k => .ok ((valK kvs k).getD z) h3
        | none => .bad)
      | _ => .bad
    | _ => .bad)
  | _ => .bad
theorem de_dget2 (hu : X.A.units + 1 < cLine) (ho : PE X o (tE g W mo)) (hk : PE X e (tE g W mk)) (hf : PE X f (tE g W mf)) (m : M2 X o "get" apos e f cpos) : PE X (.Call (.Attribute o "get" apos) [e, f] [] cpos) (tE g W (dg2M mo mk mf)) := by
  refine PE.imp (pe_dget2 hu ho hk hf m) fun σ H Q p => ?_
  obtain ⟨α, h, τ, R, s, p⟩ := p
  refine ⟨α, h, τ, R, s, PostE.imp (PostE.bind p) ?_⟩
  rintro v H1 ⟨α1, d, h1, E1, R1, D1, p1⟩
  cases D1 <;> try exact False.elim p1
  rename_i l a hl
  simp only [] at p1
  split at p1
  · rename_i kv0 e0
    obtain ⟨ws0, b1, b2⟩ := R1.dct hl e0
    refine ⟨a, rfl, .inl ⟨ws0, .inl b1⟩, α1, h1, τ, R1, s.ext E1, PostE.imp (PostE.bind p1) ?_⟩
    rintro y H2 ⟨α2, dy, h2, E2, R2, D2, p2⟩
    refine ⟨α2, h2, τ, R2, (s.ext E1).ext E2, PostE.imp (PostE.bind p2) ?_⟩
    rintro z H3 ⟨α3, dz, h3, E3, R3, D3, p3⟩
    split at p3
    · rename_i kvs e2
      split at p3
      · rename_i k ek
        obtain ⟨ob, c1, c2, c3⟩ := dget_opt R3 (E3.pre _ _ (E2.pre _ _ hl)) e2 ek (Den.ext E3 _ _ D2)
        refine ⟨ob, c1, ?_⟩
        cases ev : valK kvs k with
        | none =>
          rw [ev] at p3 c2
          have : ob = none := by cases ob with | none => rfl | some _ => cases c2
          subst this
          exact p3 α3 H3 _ .refl R3 D3
        | some d =>
          rw [ev] at p3
          obtain ⟨v, rfl, dv⟩ := c3 d ev
          exact p3 α3 H3 _ .refl R3 dv
      · exact p3.elim
    · exact p3.elim
  · exact p1.elim
/-! ### d.pop(k), d.pop(k, x), del d[k] -/
def dp1M (mo mk : EM) : EM := fun τ h => (mo τ h).bind fun d h1 => match d with
  | .ref l => (match h1[l]? with
    | some (.dct _) => (mk τ h1).bind fun y h2 => match h2[l]? with
      | some (.dct kvs) => (match keyD y with
        | some k => (match valK kvs k with
          | some d => .ok d (h2.set l (.dct (dropKD kvs k)))
          | none => .bad)
        | none => .bad)
      | _ => .bad
    | _ => .bad)
  | _ => .bad
theorem de_dpop1 (ho : PE X o (tE g W mo)) (hk : PE X e (tE g W mk)) (m : M1 X o "pop" apos e cpos) : PE X (.Call (.Attribute o "pop" apos) [e] [] cpos) (tE g W (dp1M mo mk)) := by
  refine PE.imp (pe_dpop1 ho hk m) fun σ H Q p => ?_
  obtain ⟨α, h, τ, R, s, p⟩ := p
  refine ⟨α, h, τ, R, s, PostE.imp (PostE.bind p) ?_⟩
  rintro v H1 ⟨α1, d, h1, E1, R1, D1, p1⟩
  cases D1 <;> try exact False.elim p1
  rename_i l a hl
  simp only [] at p1
  split at p1
  · rename_i kv0 e0
    obtain ⟨ws0, b1, b2⟩ := R1.dct hl e0
    refine ⟨a, rfl, .inl ⟨ws0, .inl b1⟩, α1, h1, τ, R1, s.ext E1, PostE.imp (PostE.bind p1) ?_⟩
    rintro y H2 ⟨α2, dy, h2, E2, R2, D2, p2⟩
    have hl2 := E2.pre _ _ hl
    split at p2
    · rename_i kvs e2
      split at p2
      · rename_i k ek
        split at p2
        · rename_i d ed
          obtain ⟨ws, c1, c2⟩ := R2.dct hl2 e2
          obtain ⟨v, d1, d2⟩ := c2.val_some ed
          obtain ⟨q1, q2⟩ := put_dct R2 hl2 e2 (c2.drop (k := k))
          exact ⟨ws, k, v, c1, keyD_den ek D2, d1, p2 α2 _ _ q2 q1 (Den.ext q2 _ _ d2)⟩
        · exact p2.elim
      · exact p2.elim
    · exact p2.elim
  · exact p1.elim
def dp2M (mo mk mx : EM) : EM := fun τ h => (mo τ h).bind fun d h1 => match d with
  | .ref l => (match h1[l]? with
    | some (.dct _) => (mk τ h1).bind fun y h2 => (mx τ h2).bind fun z h3 => match h3[l]? with
      | some (.dct kvs) => (match keyD y with
        | some k => (match valK kvs k with
          | some d => .ok d (h3.set l (.dct (dropKD kvs k)))
          | none => .ok z h3)
        | none => .bad)
      | _ => .bad
    | _ => .bad)
  | _ => .bad
theorem de_dpop2 (ho : PE X o (tE g W mo)) (hk : PE X e (tE g W mk)) (hf : PE X f (tE g W mf)) (m : M2 X o "pop" apos e f cpos) : PE X (.Call (.Attribute o "pop" apos) [e, f] [] cpos) (tE g W (dp2M mo mk mf)) := by
  refine PE.imp (pe_dpop2 ho hk hf m) fun σ H Q p => ?_
  obtain ⟨α, h, τ, R, s, p⟩ := p
  refine ⟨α, h, τ, R, s, PostE.imp (PostE.bind p) ?_⟩
  rintro v H1 ⟨α1, d, h1, E1, R1, D1, p1⟩
  cases D1 <;> try exact False.elim p1
  rename_i l a hl
  simp only [] at p1
  split at p1
  · rename_i kv0 e0
    obtain ⟨ws0, b1, b2⟩ := R1.dct hl e0
    refine ⟨a, rfl, .inl ⟨ws0, .inl b1⟩, α1, h1, τ, R1, s.ext E1, PostE.imp (PostE.bind p1) ?_⟩
    rintro y H2 ⟨α2, dy, h2, E2, R2, D2, p2⟩
    refine ⟨α2, h2, τ, R2, (s.ext E1).ext E2, PostE.imp (PostE.bind p2) ?_⟩
    rintro z H3 ⟨α3, dz, h3, E3, R3, D3, p3⟩
    have hl3 := E3.pre _ _ (E2.pre _ _ hl)
    split at p3
    · rename_i kvs e2
      split at p3
      · rename_i k ek
        obtain ⟨ws, c1, c2⟩ := R3.dct hl3 e2
        have hk := keyD_den ek (Den.ext E3 _ _ D2)
        cases ev : valK kvs k with
        | none =>
          rw [ev] at p3
          refine ⟨ws, k, c1, hk, fun v hv => ?_, fun _ => p3 α3 H3 _ .refl R3 D3⟩
          rw [c2.val_none ev] at hv
          cases hv
        | some d =>
          rw [ev] at p3
          obtain ⟨v, d1, d2⟩ := c2.val_some ev
          obtain ⟨q1, q2⟩ := put_dct R3 hl3 e2 (c2.drop (k := k))
          refine ⟨ws, k, c1, hk, fun v' hv => ?_, fun hv => ?_⟩
          · rw [d1] at hv
            cases hv
            exact p3 α3 _ _ q2 q1 (Den.ext q2 _ _ d2)
          · rw [d1] at hv; cases hv
      · exact p3.elim
    · exact p3.elim
  · exact p1.elim
def delM (mo mk : EM) : SM := fun τ h => (mo τ h).toS τ fun d h1 => (mk τ h1).toS τ fun y h2 => match d with
  | .ref l => (match h2[l]? with
    | some (.dct kvs) => (match keyD y with
      | some k => if (valK kvs k).isSome = true then .nx τ (h2.set l (.dct (dropKD kvs k))) else .bad
      | none => .bad)
    | _ => .bad)
  | _ => .bad
theorem ds_ddel (ho : PE X o (tE g W mo)) (hk : PE X e (tE g W mk)) : PS X (.Delete [.Subscript o e tpos] pos) (tS g W (delM mo mk)) := by
  refine PS.imp (ps_ddel ho hk) fun Dn σ H p => ?_
  obtain ⟨α, h, τ, R, s, p⟩ := p
  refine ⟨α, h, τ, R, s, PostE.imp (PostS.toS p s) ?_⟩
  rintro x H1 ⟨α1, d1, h1, E1, R1, D1, s1, p1⟩
  refine ⟨α1, h1, τ, R1, s1, PostE.imp (PostS.toS p1 s1) ?_⟩
  rintro y H2 ⟨α2, d2, h2, E2, R2, D2, s2, p2⟩
  have D1' := Den.ext E2 _ _ D1
  cases D1' <;> try exact False.elim p2
  rename_i l a hl
  simp only [] at p2
  split at p2
  · rename_i kvs e2
    split at p2
    · rename_i k ek
      split at p2
      · rename_i hs
        obtain ⟨ws, c1, c2⟩ := R2.dct hl e2
        obtain ⟨q1, q2⟩ := put_dct R2 hl e2 (c2.drop (k := k))
        refine ⟨a, ws, k, rfl, c1, keyD_den ek D2, ?_, p2 α2 _ _ q2 q1 (s2.ext q2)⟩
        cases ev : valK kvs k with
        | none => rw [ev] at hs; cases hs
        | some d => obtain ⟨v, d1, _⟩ := c2.val_some ev; rw [d1]; rfl
      · exact p2.elim
    · exact p2.elim
  · exact p2.elim
end
end DD
end

section
set_option Elab.async false
set_option linter.all false
set_option maxRecDepth 100000
set_option maxHeartbeats 2000000
/-! x in xs, sorted, list(d), displays, dict(pairs) -/
namespace DD
open PySem L2
def flD : D → Bool
  | .non => true
  | .bl _ => true
  | .int _ => true
  | .str _ => true
  | _ => false
section
variable {X : Cx} {g : G} {W : WX} {a b c e f o : Expr} {ma mb mc me mf mo mk : EM} {pos apos cpos tpos : Pos} {σ : L2.St} {H : Hp} {Q : VK} {α : List Addr} {h : AH} {l : Nat}
theorem flD_flatV {d : D} {v : V} (hd : Den g α H d v) (q : flD d = true) : flatV v = true := by
  cases hd <;> first | rfl | (simp [flD] at q)
theorem flDs_flatV : ∀ {ds : List D} {vs : List V}, DenL g α H ds vs → ds.all flD = true → vs.all flatV = true
  | [], _, h, _ => by cases h; rfl
  | d :: ds, _, h, q => by
    cases h with
    | cons h1 h2 =>
      simp only [List.all_cons, Bool.and_eq_true] at q ⊢
      exact ⟨flD_flatV h1 q.1, flDs_flatV h2 q.2⟩
theorem eqV_eqD {x y : D} {u v : V} (hx : Den g α H x u) (hy : Den g α H y v) (qx : flD x = true) (qy : flD y = true) : eqV u v = eqD x y := by
  cases hx <;> (try (simp [flD] at qx; done)) <;> cases hy <;> (try (simp [flD] at qy; done)) <;> rfl
theorem inV_any {x : D} {u : V} (hx : Den g α H x u) (qx : flD x = true) : ∀ {ds : List D} {vs : List V}, DenL g α H ds vs → ds.all flD = true → inV u vs = ds.any fun y => eqD y x
  | [], _, h, _ => by cases h; rfl
  | d :: ds, _, h, q => by
    cases h with
    | cons h1 h2 =>
      simp only [List.all_cons, Bool.and_eq_true] at q
      have := inV_any hx qx h2 q.2
      unfold inV at this ⊢
      rw [List.any_cons, List.any_cons, this, eqV_eqD h1 hx q.1 qx]
/-- the items of a list or tuple -/
def itemsD (h : AH) : D → Option (List D)
  | .tup xs => some xs
  | .fls xs => some xs
  | .ref l => match h[l]? with
    | some (.lst xs) => some xs
    | _ => none
  | _ => none
theorem itemsD_den {d : D} {v : V} {xs : List D} (R : Rep g α h H) (hd : Den g α H d v) (q : itemsD h d = some xs) : ∃ p vs, v = .ref p ∧ (SqL g.K H p vs ∨ SqT g.K H p vs) ∧ DenL g α H xs vs := by
  cases hd <;> simp only [itemsD, Option.some.injEq, reduceCtorEq] at q
  · subst q
    rename_i a ds vs hs hl
    exact ⟨a, vs, rfl, .inr hs, hl⟩
  · rename_i l a hl
    split at q
    · rename_i ys e
      cases q
      obtain ⟨vs, b1, b2⟩ := R.ob _ _ _ e hl
      exact ⟨a, vs, rfl, .inl (SqL.of b1), b2⟩
    · cases q
  · subst q
    rename_i a ds vs hs hl
    exact ⟨a, vs, rfl, .inl hs.seq, hl⟩
def inM (x y : D) (h : AH) : EO := match itemsD h y with
  | some xs => if flD x = true ∧ xs.all flD = true then .ok (.bl (xs.any fun z => eqD z x)) h else .bad
  | none => .bad
def ninM (x y : D) (h : AH) : EO := match itemsD h y with
  | some xs => if flD x = true ∧ xs.all flD = true then .ok (.bl (!xs.any fun z => eqD z x)) h else .bad
  | none => .bad
theorem rs_in : RS2 g W (rIn g.K false) inM := by
  intro α h H σ x y dx dy Q R hx hy p
  unfold inM at p
  split at p
  · rename_i xs q
    split at p
    · rename_i hc
      obtain ⟨a, vs, e, s, d⟩ := itemsD_den R hy q
      exact ⟨a, vs, e, s, flD_flatV hx hc.1, flDs_flatV d hc.2, by rw [inV_any hx hc.1 d hc.2]; exact p α H _ .refl R (.bl _)⟩
    · exact p.elim
  · exact p.elim
theorem rs_nin : RS2 g W (rIn g.K true) ninM := by
  intro α h H σ x y dx dy Q R hx hy p
  unfold ninM at p
  split at p
  · rename_i xs q
    split at p
    · rename_i hc
      obtain ⟨a, vs, e, s, d⟩ := itemsD_den R hy q
      exact ⟨a, vs, e, s, flD_flatV hx hc.1, flDs_flatV d hc.2, by rw [inV_any hx hc.1 d hc.2]; exact p α H _ .refl R (.bl _)⟩
    · exact p.elim
  · exact p.elim
theorem de_in (hK : g.K = X.K) (ha : PE X e (tE g W me)) (hb : PE X o (tE g W mo)) (hm : behindInMarks .In o = false) : PE X (.Compare e [.In] [o] pos) (tE g W (binM me mo inM)) :=
  de_cmp (r := rIn g.K false) (by rw [hK]; exact op_in_seq) rs_in ha hb hm
theorem de_nin (hK : g.K = X.K) (ha : PE X e (tE g W me)) (hb : PE X o (tE g W mo)) (hm : behindInMarks .NotIn o = false) : PE X (.Compare e [.NotIn] [o] pos) (tE g W (binM me mo ninM)) :=
  de_cmp (r := rIn g.K true) (by rw [hK]; exact op_notIn_seq) rs_nin ha hb hm
theorem dt_in (hK : g.K = X.K) (ha : PE X e (tE g W me)) (hb : PE X o (tE g W mo)) (hm : behindInMarks .In o = false) : PT X (.Compare e [.In] [o] pos) (tT g W (binM me mo inM)) :=
  dt_cmp (r := rIn g.K false) (by rw [hK]; exact op_in_seq) rs_in ha hb hm
theorem dt_nin (hK : g.K = X.K) (ha : PE X e (tE g W me)) (hb : PE X o (tE g W mo)) (hm : behindInMarks .NotIn o = false) : PT X (.Compare e [.NotIn] [o] pos) (tT g W (binM me mo ninM)) :=
  dt_cmp (r := rIn g.K true) (by rw [hK]; exact op_notIn_seq) rs_nin ha hb hm
end
/-! ### sorted(..) of texts or numbers -/
def leT (a b : Str) : Prop := a.cps.toList ≤ b.cps.toList
theorem leT_trans {a b c : Str} (h1 : leT a b) (h2 : leT b c) : leT a c := List.le_trans h1 h2
theorem leT_anti {a b : Str} (h1 : leT a b) (h2 : leT b a) : a = b := by
  have : a.cps.toList = b.cps.toList := List.le_antisymm h1 h2
  cases a; cases b
  simpa using this
theorem leT_lt {a b : Str} : PySem.Spec.ltCps b.cps.toList a.cps.toList = false ↔ leT a b := by
  rw [PyProof.Rows.ltCps_eq, decide_eq_false_iff_not]
  exact Iff.rfl
theorem leT_of_lt {a b : Str} (h : PySem.Spec.ltCps b.cps.toList a.cps.toList = true) : leT b a := by
  rw [PyProof.Rows.ltCps_eq, decide_eq_true_eq] at h
  rcases List.le_total b.cps.toList a.cps.toList with q | q
  · exact q
  · exact absurd h q
def insT (x : Str) : List Str → List Str
  | [] => [x]
  | y :: r => if PySem.Spec.ltCps y.cps.toList x.cps.toList = true then y :: insT x r else x :: y :: r
def sortT : List Str → List Str
  | [] => []
  | x :: r => insT x (sortT r)
theorem insT_perm (x : Str) : ∀ l, (insT x l).Perm (x :: l)
  | [] => .refl _
  | y :: r => by
    unfold insT
    split
    · exact ((insT_perm x r).cons y).trans (.swap x y r)
    · exact .refl _
theorem sortT_perm : ∀ l, (sortT l).Perm l
  | [] => .refl _
  | x :: r => (insT_perm x _).trans ((sortT_perm r).cons x)
theorem insT_pw (x : Str) : ∀ l : List Str, l.Pairwise leT → (insT x l).Pairwise leT
  | [], _ => by simp [insT]
  | y :: r, h => by
    obtain ⟨h1, h2⟩ := List.pairwise_cons.mp h
    unfold insT
    split
    · rename_i c
      refine List.pairwise_cons.mpr ⟨fun z hz => ?_, insT_pw x r h2⟩
      rcases List.mem_cons.mp ((insT_perm x r).mem_iff.mp hz) with q | q
      · rw [q]; exact leT_of_lt c
      · exact h1 z q
    · rename_i c
      have cx : leT x y := leT_lt.mp (by simpa using c)
      refine List.pairwise_cons.mpr ⟨fun z hz => ?_, h⟩
      rcases List.mem_cons.mp hz with q | q
      · rw [q]; exact cx
      · exact leT_trans cx (h1 z q)
theorem sortT_pw : ∀ l : List Str, (sortT l).Pairwise leT
  | [] => .nil
  | x :: r => insT_pw x _ (sortT_pw r)
theorem rising_pw : ∀ (l : List Str) (p : Str), PyProof.Rows.risingS p l = true → (p :: l).Pairwise leT
  | [], p, _ => by simp
  | x :: r, p, h => by
    have h' : (!PySem.Spec.ltCps x.cps.toList p.cps.toList && PyProof.Rows.risingS x r) = true := h
    simp only [Bool.and_eq_true, Bool.not_eq_true'] at h'
    have hx := rising_pw r x h'.2
    have px : leT p x := leT_lt.mp h'.1
    refine List.pairwise_cons.mpr ⟨fun z hz => ?_, hx⟩
    rcases List.mem_cons.mp hz with q | q
    · rw [q]; exact px
    · exact leT_trans px ((List.pairwise_cons.mp hx).1 z q)
theorem sorted_pw {l : List Str} (h : PyProof.Rows.sortedS l = true) : l.Pairwise leT := by
  cases l with
  | nil => exact .nil
  | cons x r => exact rising_pw r x h
theorem sortT_eq {ys ks : List Str} (p : ys.Perm ks) (s : PyProof.Rows.sortedS ys = true) : ys = sortT ks :=
  List.Perm.eq_of_pairwise (le := leT) (fun a b _ _ h1 h2 => leT_anti h1 h2) (sorted_pw s) (sortT_pw ks) (p.trans (sortT_perm ks).symm)
def insI (x : Int) : List Int → List Int
  | [] => [x]
  | y :: r => if x ≤ y then x :: y :: r else y :: insI x r
def sortI : List Int → List Int
  | [] => []
  | x :: r => insI x (sortI r)
theorem insI_perm (x : Int) : ∀ l, (insI x l).Perm (x :: l)
  | [] => .refl _
  | y :: r => by
    unfold insI
    split
    · exact .refl _
    · exact ((insI_perm x r).cons y).trans (.swap x y r)
theorem sortI_perm : ∀ l, (sortI l).Perm l
  | [] => .refl _
  | x :: r => (insI_perm x _).trans ((sortI_perm r).cons x)
theorem insI_pw (x : Int) : ∀ l : List Int, l.Pairwise (· ≤ ·) → (insI x l).Pairwise (· ≤ ·)
  | [], _ => by simp [insI]
  | y :: r, h => by
    obtain ⟨h1, h2⟩ := List.pairwise_cons.mp h
    unfold insI
    split
    · rename_i c
      refine List.pairwise_cons.mpr ⟨fun z hz => ?_, h⟩
      rcases List.mem_cons.mp hz with q | q
      · rw [q]; exact c
      · exact Int.le_trans c (h1 z q)
    · rename_i c
      refine List.pairwise_cons.mpr ⟨fun z hz => ?_, insI_pw x r h2⟩
      rcases List.mem_cons.mp ((insI_perm x r).mem_iff.mp hz) with q | q
      · rw [q]; omega
      · exact h1 z q
theorem sortI_pw : ∀ l : List Int, (sortI l).Pairwise (· ≤ ·)
  | [] => .nil
  | x :: r => insI_pw x _ (sortI_pw r)
theorem sortI_eq {ys ks : List Int} (p : ys.Perm ks) (s : ys.Pairwise (· ≤ ·)) : ys = sortI ks :=
  List.Perm.eq_of_pairwise (le := (· ≤ ·)) (fun a b _ _ h1 h2 => Int.le_antisymm h1 h2) s (sortI_pw ks) (p.trans (sortI_perm ks).symm)
def intsOf : List D → Option (List Int)
  | [] => some []
  | .int i :: r => (intsOf r).map (i :: ·)
  | _ :: _ => none
def txtKeys : List Key → Option (List Str)
  | [] => some []
  | .inr x :: r => (txtKeys r).map (x :: ·)
  | _ :: _ => none
def intKeys : List Key → Option (List Int)
  | [] => some []
  | .inl i :: r => (intKeys r).map (i :: ·)
  | _ :: _ => none
theorem txtKeys_eq : ∀ {ks : List Key} {xs : List Str}, txtKeys ks = some xs → ks = xs.map Sum.inr
  | [], _, h => by cases h; rfl
  | .inr x :: r, _, h => by
    simp only [txtKeys, Option.map_eq_some_iff] at h
    obtain ⟨ys, h1, rfl⟩ := h
    rw [txtKeys_eq h1]; rfl
  | .inl _ :: _, _, h => by cases h
theorem intKeys_eq : ∀ {ks : List Key} {xs : List Int}, intKeys ks = some xs → ks = xs.map Sum.inl
  | [], _, h => by cases h; rfl
  | .inl x :: r, _, h => by
    simp only [intKeys, Option.map_eq_some_iff] at h
    obtain ⟨ys, h1, rfl⟩ := h
    rw [intKeys_eq h1]; rfl
  | .inr _ :: _, _, h => by cases h
def newL (xs : List D) (h : AH) : EO := .ok (.ref h.length) (h ++ [.lst xs])
def sortedF : List D → AH → EO
  | [.ref l], h => match h[l]? with
    | some (.lst xs) => (match strsOf xs with
      | some ss => if ss.length < 64 then newL ((sortT ss).map D.str) h else .bad
      | none => match intsOf xs with
        | some ns => newL ((sortI ns).map D.int) h
        | none => .bad)
    | some (.dct kvs) => (match txtKeys (kvs.map (·.1)) with
      | some ss => if ss.length < 64 then newL ((sortT ss).map D.str) h else .bad
      | none => match intKeys (kvs.map (·.1)) with
        | some ns => if ns.length < 64 then newL ((sortI ns).map D.int) h else .bad
        | none => .bad)
    | _ => .bad
  | _, _ => .bad
section
variable {X : Cx} {g : G} {W : WX} {a b c e f o : Expr} {ma mb mc me mf mo mk : EM} {pos apos cpos tpos : Pos} {σ : L2.St} {H : Hp} {Q : VK} {α : List Addr} {h : AH} {l : Nat}
theorem den_strs : ∀ ss : List Str, DenL g α H (ss.map D.str) (ss.map V.str)
  | [] => .nil
  | s :: ss => .cons (.str s) (den_strs ss)
theorem den_intsL : ∀ ss : List Int, DenL g α H (ss.map D.int) (ss.map V.int)
  | [] => .nil
  | s :: ss => .cons (.int s) (den_intsL ss)
theorem intsOf_den : ∀ {ds : List D} {vs : List V} {ns : List Int}, DenL g α H ds vs → intsOf ds = some ns → vs = ns.map V.int
  | [], _, _, h, q => by cases h; cases q; rfl
  | d :: ds, _, _, h, q => by
    cases h with
    | cons h1 h2 =>
      cases h1 <;> simp only [intsOf, reduceCtorEq] at q
      simp only [Option.map_eq_some_iff] at q
      obtain ⟨ys, q1, rfl⟩ := q
      rw [intsOf_den h2 q1]; rfl
theorem newL_post {xs : List D} {ys : List V} (R : Rep g α h H) (d : ∀ α H, DenL g α H xs ys) (p : PostE g W α H σ Q (newL xs h)) {z : Addr} (hz : H z = none) : Q (.ref z) (upd H z (.lst ys)) := by
  obtain ⟨a1, a2⟩ := R.push (o := .lst xs) hz (u := .lst ys) ⟨ys, upd_same, d _ _⟩
  refine p _ _ _ a2 a1 (.ref ?_)
  rw [← R.len]
  simp
def rSortAny (K : PySem.W.Frag) : List V → Hp → VK → Prop := fun xs H Q => rSortedS K xs H Q ∨ rSortedI K xs H Q ∨
  (∃ (a : Addr) (kvs : List (Key × V)) (ks : List Str), xs = [V.ref a] ∧ Rd H a (.dK kvs) ∧ kvs.map (·.1) = ks.map Sum.inr ∧ ks.length < 64 ∧ ∀ (ys : List Str) (p : Addr), ys.Perm ks → PyProof.Rows.sortedS ys = true → H p = none → Q (V.ref p) (upd H p (.lst (ys.map V.str)))) ∨
  (∃ (a : Addr) (kvs : List (Key × V)) (ks : List Int), xs = [V.ref a] ∧ Rd H a (.dK kvs) ∧ kvs.map (·.1) = ks.map Sum.inl ∧ ks.length < 64 ∧ ∀ (ys : List Int) (p : Addr), ys.Perm ks → ys.Pairwise (· ≤ ·) → H p = none → Q (V.ref p) (upd H p (.lst (ys.map V.int))))
theorem call_sortAny (hc : X.calm = true) : CallR X (.builtin "sorted") (rSortAny X.K) := CallR.or cr_sortedS (CallR.or cr_sortedI (CallR.or (call_sortedD hc) (call_sortedDI hc)))
theorem rs_sorted : RSn g W (rSortAny g.K) sortedF := by
  intro α h H σ vs ds Q R hd p
  cases hd with
  | nil => exact p.elim
  | cons h1 h2 =>
    cases h2 with
    | cons _ _ => cases h1 <;> exact p.elim
    | nil =>
      cases h1 <;> try exact False.elim p
      rename_i l a hl
      simp only [sortedF] at p
      split at p
      · rename_i xs e
        obtain ⟨vs, b1, b2⟩ := R.ob _ _ _ e hl
        split at p
        · rename_i ss q
          split at p
          · rename_i hz
            refine .inl ⟨a, ss, rfl, SqL.of (by rw [← strsOf_den b2 q]; exact b1), hz, fun ys z pm st hn => ?_⟩
            rw [sortT_eq pm st]
            exact newL_post R (fun _ _ => den_strs _) p hn
          · exact p.elim
        · split at p
          · rename_i ns q
            refine .inr (.inl ⟨a, ns, rfl, SqL.of (by rw [← intsOf_den b2 q]; exact b1), fun ys z pm st hn => ?_⟩)
            rw [sortI_eq pm st]
            exact newL_post R (fun _ _ => den_intsL _) p hn
          · exact p.elim
      · rename_i kvs e
        obtain ⟨ws, b1, b2⟩ := R.dct hl e
        have bk := b2.to.1
        split at p
        · rename_i ss q
          split at p
          · rename_i hz
            refine .inr (.inr (.inl ⟨a, ws, ss, rfl, .inl b1, by rw [bk, txtKeys_eq q], hz, fun ys z pm st hn => ?_⟩))
            rw [sortT_eq pm st]
            exact newL_post R (fun _ _ => den_strs _) p hn
          · exact p.elim
        · split at p
          · rename_i ns q
            split at p
            · rename_i hz
              refine .inr (.inr (.inr ⟨a, ws, ns, rfl, .inl b1, by rw [bk, intKeys_eq q], hz, fun ys z pm st hn => ?_⟩))
              rw [sortI_eq pm st]
              exact newL_post R (fun _ _ => den_intsL _) p hn
            · exact p.elim
          · exact p.elim
      · exact p.elim
end
end DD
end

section
set_option Elab.async false
set_option linter.all false
set_option maxRecDepth 100000
set_option maxHeartbeats 2000000
/-! dict comprehensions, displays, dict(..), list of a dict -/
namespace DD
open PySem L2
def dcLoop (live : AH → Bool) (f : TM) (mc : Option EM) (mk mv : EM) (own : List Nat) (τ : SL) (l : Nat) : List D → AH → EO
  | [] => fun h => if live h = true then .ok (.ref l) h else .bad
  | d :: ds => fun h => if live h = true then match f d (wipeD τ own) h with
    | .nx τ1 h1 => (match mc with
      | none => EO.ok (.bl true) h1
      | some c => c τ1 h1).bind fun k h2 => match k with
        | .bl true => (mk τ1 h2).bind fun y h3 => (mv τ1 h3).bind fun z h4 => match h4[l]?, keyD y with
          | some (.dct kvs), some k => if kvs.length < sizeLine then dcLoop live f mc mk mv own τ l ds (h4.set l (.dct (putKD kvs k z))) else .bad
          | _, _ => .bad
        | .bl false => dcLoop live f mc mk mv own τ l ds h2
        | _ => .bad
    | _ => .bad else .bad
def dcM (e : EM) (items : D → AH → Option (List D × (AH → Bool))) (f : TM) (mc : Option EM) (mk mv : EM) (own : List Nat) : EM := fun τ h => (e τ h).bind fun d h1 => match items d h1 with
  | some (ds, live) => dcLoop live f mc mk mv own τ h1.length ds (h1 ++ [.dct []])
  | none => .bad
def dcQ (e : EM) (items : D → AH → Option (List D × (AH → Bool))) (f : TM) (mc : Option EM) (mk mv : EM) (own : List Nat) : EM := fun τ h => noexc (dcM e items f mc mk mv own τ h)
section
variable {X : Cx} {g : G} {W : WX} {a b c e o kx vx : Expr} {ma mb mo mk mv : EM} {mc : Option EM} {m : LM} {pos p apos cpos : Pos} {σ : L2.St} {H H' : Hp} {Q : VK} {Dn : Ends} {α α' : List Addr} {τ : SL} {sa sb : SM} {st : Stmt} {rest : List Stmt} {body : List Stmt} {tg iter : Expr} {ifs : List Expr} {scope : Scope} {own : List (Str × Nat)} {wi : TI} {t : TG} {f : TM} {items : D → AH → Option (List D × (AH → Bool))} {l : Nat} {h : AH}
theorem new_dict (R : Rep g α h H) (hD : H l = none) : Rep g (α ++ [l]) (h ++ [.dct []]) (upd H l (.dK [])) ∧ Ext α H (α ++ [l]) (upd H l (.dK [])) ∧ Den g (α ++ [l]) (upd H l (.dK [])) (.ref h.length) (.ref l) := by
  obtain ⟨a1, a2⟩ := R.push (o := .dct []) hD (u := .dK []) ⟨[], upd_same, rfl, .nil⟩
  refine ⟨a1, a2, .ref ?_⟩
  rw [← R.len]
  simp
theorem tE_dc (io : IterOk g W0 wi ma items) (rg : ∀ W, RG g W t f) (gf : Goes f) (ot : OwnT t (own.map (·.2))) (q : tE g W (fun τ h => noexc (dcM ma items f mc mk mv (own.map (·.2)) τ h)) σ H Q) : tDc wi t (tTs g W0 mc) (tE g W0 mk) (tE g W0 mv) (own.map (·.2)) σ H Q := by
  unfold tDc
  refine io σ H _ ?_
  obtain ⟨α, h, τ, R, s, q⟩ := q
  have q := PostE.noexc q
  refine ⟨α, h, τ, R, s, ?_⟩
  unfold dcM at q
  cases e0 : ma τ h with
  | exc c h1 => rw [e0] at q; exact q
  | bad => rw [e0] at q; exact q
  | ok d h1 =>
    rw [e0] at q
    intro α1 H1 E1 R1 _
    have p1 := PostE.mono q E1
    simp only [EO.bind] at p1
    obtain ⟨⟨ds, live⟩, hit⟩ : ∃ dl, items d h1 = some dl := by
      cases hit : items d h1 with
      | none => rw [hit] at p1; exact p1.elim
      | some dl => exact ⟨dl, rfl⟩
    rw [hit] at p1
    refine ⟨ds, live, hit, fun J wk => ?_⟩
    obtain ⟨stop, go, yld⟩ := wk
    intro L hD
    obtain ⟨R2, E2, D2⟩ := new_dict R1 hD
    refine ⟨fun i m H' => m = ds.length - i ∧ ∃ α' h', Ext (α1 ++ [L]) (upd H1 L (.dK [])) α' H' ∧ Rep g α' h' H' ∧ PostE g W0 α' H' σ Q (dcLoop live f mc mk mv (own.map (·.2)) τ h1.length (ds.drop i) h'), ⟨ds.length, by simp, _, _, .refl, R2, PostE.mono p1 E2⟩, ?_⟩
    rintro i m H' ⟨rfl, α', h', E', R', p'⟩
    have EE := E2.trans E'
    have DD := Den.ext E' _ _ D2
    by_cases hi : i < ds.length
    · have hd : ds.drop i = ds[i] :: ds.drop (i + 1) := by rw [List.drop_eq_getElem_cons hi]
      have hg : ds[i]? = some ds[i] := List.getElem?_eq_getElem hi
      rw [hd] at p'
      simp only [dcLoop] at p'
      split at p'
      · rename_i hl
        refine .inr ⟨go α' H' h' EE R' hl i _ hg, fun H3 => ∃ α' h', Ext (α1 ++ [L]) (upd H1 L (.dK [])) α' H3 ∧ Rep g α' h' H3 ∧ PostE g W0 α' H3 σ Q (dcLoop live f mc mk mv (own.map (·.2)) τ h1.length (ds.drop (i + 1)) h'), fun H3 w => ⟨ds.length - (i + 1), by omega, rfl, w⟩, fun x H3 hy => ?_⟩
        obtain ⟨E3, R3, D3⟩ := yld α' H' h' x H3 EE R' hl i _ hg hy
        have s3 : DenS g α' H3 (wipeD τ (own.map (·.2))) (wipe σ (own.map (·.2))) := wipe_wipeD (((s.ext E1).ext EE).ext E3) _
        split at p'
        · rename_i τ4 h4 e4
          refine ot x _ H3 _ (rg W0 α' h' H3 _ _ x _ _ R3 s3 D3 ?_)
          rw [e4]
          intro α4 H4 σ4 E4 R4 s4 hw
          rw [wipe_wipe] at hw
          have EE4 := (EE.trans E3).trans E4
          have p4 := PostE.mono (PostE.mono p' E3) E4
          refine ⟨hw, ?_⟩
          -- behind the test
          have fin : ∀ (k : Bool) (α5 : List Addr) (h5 : AH) (H5 : Hp), Ext α4 H4 α5 H5 → Rep g α5 h5 H5 → PostE g W0 α5 H5 σ Q (match D.bl k with
              | .bl true => (mk τ4 h5).bind fun y h3 => (mv τ4 h3).bind fun z h4 => match h4[h1.length]?, keyD y with
                | some (.dct kvs), some k => if kvs.length < sizeLine then dcLoop live f mc mk mv (own.map (·.2)) τ h1.length (ds.drop (i + 1)) (h4.set h1.length (.dct (putKD kvs k z))) else .bad
                | _, _ => .bad
              | .bl false => dcLoop live f mc mk mv (own.map (·.2)) τ h1.length (ds.drop (i + 1)) h5
              | _ => .bad) → (if k = true then tE g W0 mk σ4 H5 fun y H4 => tE g W0 mv σ4 H4 fun z H6 => ∃ kvs kk, y = kV kk ∧ H6 L = some (.dK kvs) ∧ kvs.length < sizeLine ∧ ∃ α' h', Ext (α1 ++ [L]) (upd H1 L (.dK [])) α' (upd H6 L (.dK (putK kvs kk z))) ∧ Rep g α' h' (upd H6 L (.dK (putK kvs kk z))) ∧
                PostE g W0 α' (upd H6 L (.dK (putK kvs kk z))) σ Q (dcLoop live f mc mk mv (own.map (·.2)) τ h1.length (ds.drop (i + 1)) h')
              else ∃ α' h', Ext (α1 ++ [L]) (upd H1 L (.dK [])) α' H5 ∧ Rep g α' h' H5 ∧ PostE g W0 α' H5 σ Q (dcLoop live f mc mk mv (own.map (·.2)) τ h1.length (ds.drop (i + 1)) h')) := by
            intro k α5 h5 H5 E5 R5 p5
            cases k with
            | false => exact iteF ⟨α5, h5, ((E'.trans E3).trans E4).trans E5, R5, p5⟩
            | true =>
              refine iteT ⟨α5, h5, τ4, R5, s4.ext E5, PostE.imp (PostE.bind p5) ?_⟩
              rintro y H6 ⟨α6, dy, h6, E6, R6, D6, p6⟩
              refine ⟨α6, h6, τ4, R6, (s4.ext E5).ext E6, PostE.imp (PostE.bind p6) ?_⟩
              rintro z H7 ⟨α7, dz, h7, E7, R7, D7, p7⟩
              have DD7 := Den.ext E7 _ _ (Den.ext E6 _ _ (Den.ext E5 _ _ (Den.ext E4 _ _ (Den.ext E3 _ _ DD))))
              split at p7
              · rename_i kvs kk hacc hkk
                split at p7
                · rename_i hz
                  cases DD7 with
                  | ref hl7 =>
                    obtain ⟨ws, a1, a2⟩ := R7.dct hl7 hacc
                    obtain ⟨b1, b2⟩ := put_dct R7 hl7 hacc (a2.put (k := kk) D7)
                    exact ⟨ws, kk, keyD_den hkk (Den.ext E7 _ _ D6), a1, by rw [a2.len]; exact hz, α7, _, (((((E'.trans E3).trans E4).trans E5).trans E6).trans E7).trans b2, b1, PostE.mono p7 b2⟩
                · exact p7.elim
              · exact p7.elim
          cases mc with
          | none => exact fin true α4 h4 H4 .refl R4 p4
          | some c =>
            show tT g W0 c σ4 H4 _
            refine ⟨α4, h4, τ4, R4, s4, PostE.imp (PostE.bind p4) ?_⟩
            rintro z H5 ⟨α5, dz, h5, E5, R5, D5, p5⟩
            cases D5 <;> try exact False.elim p5
            rename_i k
            exact ⟨k, rfl, fin k α5 h5 H5 E5 R5 p5⟩
        · exact p'.elim
      · exact p'.elim
    · have hd : ds.drop i = [] := List.drop_eq_nil_of_le (by omega)
      rw [hd] at p'
      simp only [dcLoop] at p'
      split at p'
      · rename_i hl
        exact .inl ⟨stop α' H' h' EE R' hl i (by omega), p' α' H' _ .refl R' DD⟩
      · exact p'.elim
theorem de_dcQ (hc : X.calm = true) (hN : X.N.Nodup) (hi : PI X tg iter wi) (io : IterOk g W0 wi ma items) (ok : BlkOk X.N X.env.scope scope own) (rg : ∀ W, RG g W t f) (gf : Goes f) (ot : OwnT t (own.map (·.2)))
    (hg : ∀ (s : Shared) (H : Hp) (C : Addr) (cl : List (Str × Addr)) (fp : List Addr), PG (X.blk s H scope (compEnvC scope cl C X.env) fp) tg t) (ht : ∀ (s : Shared) (H : Hp) (C : Addr) (cl : List (Str × Addr)) (fp : List Addr), PTs (X.blk s H scope (compEnvC scope cl C X.env) fp) ifs (tTs g W0 mc))
    (hk : ∀ (s : Shared) (H : Hp) (C : Addr) (cl : List (Str × Addr)) (fp : List Addr), PE (X.blk s H scope (compEnvC scope cl C X.env) fp) kx (tE g W0 mk)) (hv : ∀ (s : Shared) (H : Hp) (C : Addr) (cl : List (Str × Addr)) (fp : List Addr), PE (X.blk s H scope (compEnvC scope cl C X.env) fp) vx (tE g W0 mv))
    (hs : ∀ x, foldedSetIterable iter X.env x = pure x := by intro _; rfl) :
    PE X (.DictComp kx vx [⟨tg, iter, ifs, 0⟩] scope pos) (tE g W (dcQ ma items f mc mk mv (own.map (·.2)))) :=
  PE.imp (pe_dc hc hN hi ok hg ht hk hv hs) fun _ _ _ q => tE_dc io rg gf ot q
end
end DD
end

section
set_option Elab.async false
set_option linter.all false
set_option maxRecDepth 100000
set_option maxHeartbeats 2000000
namespace DD
open PySem L2
def kD : Key → D
  | .inl i => .int i
  | .inr x => .str x
section
variable {X : Cx} {g : G} {W : WX} {a b c e f o : Expr} {ma mb mc me mf mo mk mv : EM} {pos apos cpos tpos : Pos} {σ : L2.St} {H : Hp} {Q : VK} {α : List Addr} {h : AH} {l : Nat}
theorem den_kD (k : Key) : Den g α H (kD k) (kV k) := by cases k <;> first | exact .int _ | exact .str _
theorem den_kDs : ∀ ks : List Key, DenL g α H (ks.map kD) (ks.map kV)
  | [] => .nil
  | k :: ks => .cons (den_kD k) (den_kDs ks)
/-! ### list(d) -/
def listDF : List D → AH → EO
  | [.ref l], h => match h[l]? with
    | some (.dct kvs) => newL ((kvs.map (·.1)).map kD) h
    | _ => .bad
  | _, _ => .bad
theorem rs_listD : RSn g W rListD listDF := by
  intro α h H σ vs ds Q R hd p
  cases hd with
  | nil => exact p.elim
  | cons h1 h2 =>
    cases h2 with
    | cons _ _ => cases h1 <;> exact p.elim
    | nil =>
      cases h1 <;> try exact False.elim p
      rename_i l a hl
      simp only [listDF] at p
      split at p
      · rename_i kvs e
        obtain ⟨ws, b1, b2⟩ := R.dct hl e
        refine ⟨a, ws, rfl, b1, fun z hz => ?_⟩
        have := newL_post R (fun _ _ => den_kDs (kvs.map (·.1))) p hz
        rw [← b2.to.1, List.map_map] at this
        exact this
      · exact p.elim
/-! ### dict(pairs), dict(d) -/
def mergeKD (kvs more : List (Key × D)) : List (Key × D) := more.foldl (fun acc kv => putKD acc kv.1 kv.2) kvs
theorem DenK.merge {kvs more : List (Key × D)} {ws wm : List (Key × V)} (h1 : DenK g α H kvs ws) (h2 : DenK g α H more wm) : DenK g α H (mergeKD kvs more) (mergeK ws wm) := by
  unfold mergeKD mergeK
  induction h2 generalizing kvs ws with
  | nil => exact h1
  | cons d _ ih => exact ih (h1.put d)
def pairsOf : List D → Option (List (Key × D))
  | [] => some []
  | .tup [y, z] :: r => match keyD y, pairsOf r with
    | some k, some kvs => some ((k, z) :: kvs)
    | _, _ => none
  | _ :: _ => none
theorem pairs_den : ∀ {xs : List D} {vs : List V} {kvs : List (Key × D)}, DenL g α H xs vs → pairsOf xs = some kvs → ∃ (ps : List Addr) (ws : List (Key × V)), vs = ps.map V.ref ∧ PySem.Paired (fun p kv => SqT g.K H p [kV kv.1, kv.2]) ps ws ∧ DenK g α H kvs ws
  | [], _, _, h, q => by
    cases h
    cases q
    exact ⟨[], [], rfl, .nil, .nil⟩
  | d :: ds, _, _, h, q => by
    cases h with
    | @cons _ _ v vs h1 h2 =>
      cases h1 with
      | @tup a es us hs hl =>
        match es, hl with
        | [], _ => simp [pairsOf] at q
        | [_], _ => simp [pairsOf] at q
        | _ :: _ :: _ :: _, _ => simp [pairsOf] at q
        | [y, z], hl =>
          simp only [pairsOf] at q
          split at q
          · rename_i k kvs ek er
            cases q
            obtain ⟨ps, ws, e1, e2, e3⟩ := pairs_den h2 er
            cases hl with
            | @cons _ _ u us2 u1 u2 =>
              cases u2 with
              | @cons _ _ w us3 w1 w2 =>
                cases w2
                refine ⟨a :: ps, (k, w) :: ws, by rw [e1]; rfl, .cons ?_ e2, .cons w1 e3⟩
                rw [← keyD_den ek u1]
                exact hs
          · cases q
      | _ => simp [pairsOf] at q
def newD (kvs : List (Key × D)) (h : AH) : EO := .ok (.ref h.length) (h ++ [.dct kvs])
theorem newD_post {kvs : List (Key × D)} {ws : List (Key × V)} (R : Rep g α h H) (d : DenK g α H kvs ws) (p : PostE g W α H σ Q (newD kvs h)) {z : Addr} (hz : H z = none) : Q (.ref z) (upd H z (.dK ws)) := by
  obtain ⟨q1, q2⟩ := d.to
  obtain ⟨a1, a2⟩ := R.push (o := .dct kvs) hz (u := .dK ws) ⟨ws, upd_same, q1, DenL.ext ((Ext.new hz).trans (Ext.app _)) _ _ q2⟩
  refine p _ _ _ a2 a1 (.ref ?_)
  rw [← R.len]
  simp
def dictF : List D → AH → EO
  | [.ref l], h => match h[l]? with
    | some (.lst xs) => (match pairsOf xs with
      | some kvs => newD (mergeKD [] kvs) h
      | none => .bad)
    | some (.dct kvs) => newD kvs h
    | _ => .bad
  | _, _ => .bad
def rDictAny (K : PySem.W.Frag) : List V → Hp → VK → Prop := fun xs H Q =>
  (∃ (a : Addr) (ps : List Addr) (kvs : List (Key × V)), xs = [.ref a] ∧ SqL K H a (ps.map V.ref) ∧ PySem.Paired (fun p kv => SqT K H p [kV kv.1, kv.2]) ps kvs ∧ ∀ p, H p = none → Q (.ref p) (upd H p (.dK (mergeK [] kvs)))) ∨
  (∃ (a : Addr) (kvs : List (Key × V)), xs = [.ref a] ∧ Rd H a (.dK kvs) ∧ ∀ p, H p = none → Q (.ref p) (upd H p (.dK kvs)))
theorem call_dictAny (hc : X.calm = true) : CallR X (.type "dict") (rDictAny X.K) := CallR.or (call_dictP hc) call_dictD
theorem rs_dict : RSn g W (rDictAny g.K) dictF := by
  intro α h H σ vs ds Q R hd p
  cases hd with
  | nil => exact p.elim
  | cons h1 h2 =>
    cases h2 with
    | cons _ _ => cases h1 <;> exact p.elim
    | nil =>
      cases h1 <;> try exact False.elim p
      rename_i l a hl
      simp only [dictF] at p
      split at p
      · rename_i xs e
        obtain ⟨vs, b1, b2⟩ := R.ob _ _ _ e hl
        split at p
        · rename_i kvs q
          obtain ⟨ps, ws, e1, e2, e3⟩ := pairs_den b2 q
          exact .inl ⟨a, ps, ws, rfl, SqL.of (by rw [← e1]; exact b1), e2, fun z hz => newD_post R (DenK.merge .nil e3) p hz⟩
        · exact p.elim
      · rename_i kvs e
        obtain ⟨ws, b1, b2⟩ := R.dct hl e
        exact .inr ⟨a, ws, rfl, .inl b1, fun z hz => newD_post R b2 p hz⟩
      · exact p.elim
/-! ### {k: v, ..} -/
def prsM : List (EM × EM) → (List (D × D) → AH → EO) → EM
  | [], k => fun _ h => k [] h
  | (mk, mv) :: r, k => fun τ h => (mk τ h).bind fun y h1 => (mv τ h1).bind fun z h2 => prsM r (fun ps h3 => k ((y, z) :: ps) h3) τ h2
def keysOf : List (D × D) → Option (List (Key × D))
  | [] => some []
  | (y, z) :: r => match keyD y, keysOf r with
    | some k, some kvs => some ((k, z) :: kvs)
    | _, _ => none
def dispM (ms : List (EM × EM)) : EM := fun τ h => prsM ms (fun ps h' => match h'[h.length]?, keysOf ps with
  | some (.dct []), some kvs => if kvs.length ≤ 15 then .ok (.ref h.length) (h'.set h.length (.dct (mergeKD [] kvs))) else .bad
  | _, _ => .bad) τ (h ++ [.dct []])
inductive DenP (g : G) (α : List Addr) (H : Hp) : List (D × D) → List (V × V) → Prop
  | nil : DenP g α H [] []
  | cons {y z : D} {u w : V} {ps : List (D × D)} {qs : List (V × V)} : Den g α H y u → Den g α H z w → DenP g α H ps qs → DenP g α H ((y, z) :: ps) ((u, w) :: qs)
theorem prs_den : ∀ {ms : List (EM × EM)} {k : List (D × D) → AH → EO} {α : List Addr} {h : AH} {τ : SL} {H : Hp} {R : List (V × V) → Hp → Prop} {Q : VK}, Rep g α h H → DenS g α H τ σ → PostE g W α H σ Q (prsM ms k τ h) →
    (∀ α' h' H' ps qs, Ext α H α' H' → Rep g α' h' H' → DenP g α' H' ps qs → PostE g W α' H' σ Q (k ps h') → R qs H') → tPairs (ms.map fun m => (tE g W m.1, tE g W m.2)) σ H R
  | [], k, α, h, τ, H, R, Q, R0, s, p, c => c α h H [] [] .refl R0 .nil p
  | (mk, mv) :: r, k, α, h, τ, H, R, Q, R0, s, p, c => by
    refine ⟨α, h, τ, R0, s, PostE.imp (PostE.bind p) ?_⟩
    rintro u H1 ⟨α1, y, h1, E1, R1, D1, p1⟩
    refine ⟨α1, h1, τ, R1, s.ext E1, PostE.imp (PostE.bind p1) ?_⟩
    rintro w H2 ⟨α2, z, h2, E2, R2, D2, p2⟩
    refine prs_den R2 ((s.ext E1).ext E2) p2 fun α3 h3 H3 ps qs E3 R3 D3 p3 => ?_
    exact c α3 h3 H3 _ _ ((E1.trans E2).trans E3) R3 (.cons (Den.ext (E2.trans E3) _ _ D1) (Den.ext E3 _ _ D2) D3) p3
theorem keysOf_den : ∀ {ps : List (D × D)} {qs : List (V × V)} {kvs : List (Key × D)}, DenP g α H ps qs → keysOf ps = some kvs → ∃ ws : List (Key × V), qs = ws.map (fun kv => (kV kv.1, kv.2)) ∧ DenK g α H kvs ws
  | [], _, _, h, q => by cases h; cases q; exact ⟨[], rfl, .nil⟩
  | (y, z) :: ps, _, _, h, q => by
    cases h with
    | @cons _ _ u w _ qs h1 h2 h3 =>
      simp only [keysOf] at q
      split at q
      · rename_i k kvs ek er
        cases q
        obtain ⟨ws, e1, e2⟩ := keysOf_den h3 er
        exact ⟨(k, w) :: ws, by rw [e1, keyD_den ek h1]; rfl, .cons h2 e2⟩
      · cases q
theorem de_disp {keys : List (Option Expr)} {values : List Expr} {ms : List (EM × EM)} (hp : PPs X pos keys values (ms.map fun m => (tE g W m.1, tE g W m.2))) (h1 : (keys.all fun x => x.isSome) = true) (h2 : keys.length = values.length) (h3 : keys ≠ []) (h4 : keys.length ≤ 15) : PE X (.Dict keys values pos) (tE g W (dispM ms)) := by
  refine PE.imp (pe_disp hp h1 h2 h3 h4) fun σ H Q p => ?_
  obtain ⟨α, h, τ, R, s, p⟩ := p
  intro z hz
  obtain ⟨a1, a2, a3⟩ := new_dict R hz
  refine prs_den a1 (s.ext a2) (PostE.mono p a2) fun α' h' H' ps qs E' R' D' p' => ?_
  split at p'
  · rename_i kvs e0 e1
    split at p'
    · rename_i hl
      obtain ⟨ws, w1, w2⟩ := keysOf_den D' e1
      have D3 := Den.ext E' _ _ a3
      cases D3 with
      | ref hz' =>
        obtain ⟨ws0, c1, c2⟩ := R'.dct hz' e0
        cases c2
        obtain ⟨b1, b2⟩ := put_dct R' hz' e0 (DenK.merge (kvs := []) (ws := []) .nil w2)
        exact ⟨c1, ws, w1, by rw [w2.len]; exact hl, p' _ _ _ b2 b1 (Den.ext b2 _ _ (.ref hz'))⟩
    · exact p'.elim
  · exact p'.elim
end
end DD
end

section
set_option Elab.async false
set_option linter.all false
set_option maxRecDepth 100000
set_option maxHeartbeats 2000000
namespace DD
open PySem L2
/-- a tuple of any targets -/
def tupX (fs : List TM) : TM := fun d τ h => match d with
  | .tup ds => if ds.length = fs.length then unpackG fs ds τ h else .bad
  | _ => .bad
section
variable {g : G} {W : WX}
theorem rg_tups {t : TGs} {fs : List TM} (hr : RGs g W t fs) : RG g W (gTup g.K fs.length t) (tupX fs) := fun α h H τ σ v d Q R s hd p => by
  cases hd <;> try exact False.elim p
  rename_i a ds vs hs hl
  simp only [tupX] at p
  split at p
  · rename_i e
    exact ⟨a, vs, rfl, hs, by rw [← hl.length, e], hr α h H τ σ vs ds Q R s hl p⟩
  · exact p.elim
theorem gl_nil : ∀ f ∈ ([] : List TM), Goes f := fun f hf => by cases hf
theorem gl_cons {f : TM} {fs : List TM} (h : Goes f) (k : ∀ f ∈ fs, Goes f) : ∀ x ∈ f :: fs, Goes x := fun x hx => by
  rcases List.mem_cons.mp hx with q | q
  · rw [q]; exact h
  · exact k x q
theorem goes_tupX {fs : List TM} (k : ∀ f ∈ fs, Goes f) : Goes (tupX fs) := fun d τ h => by
  cases d <;> try exact .inr (.inr rfl)
  rename_i ds
  simp only [tupX]
  split
  · exact goes_unpack fs k ds τ h
  · exact .inr (.inr rfl)
end
end DD
end

section
set_option Elab.async false
set_option linter.all false
set_option maxRecDepth 100000
set_option maxHeartbeats 2000000
/-! lambdas as values: they capture nothing and stand in the abstract heap by their number -/
namespace DD
open PySem L2
theorem lamO_ok {P : Program} {w : World} {H : Hp} {h : Heap} {f c : Addr} {q : Str} {params : Arguments} {body : Expr} {scope : Scope} {pm ct : Value} (e : h.get? f = some (PySem.W.kla_obj "<lambda>" q params body scope [] pm c ct)) : ObjOk P w H h f (LamO f q params body scope pm c ct) :=
  ⟨e, ⟨_, e⟩, fun _ _ p k => k _ p⟩
section
variable {X : Cx} {pins : List (Addr × Obj)} {σ : L2.St} {H : Hp} {s : Shared}
theorem lamO_get {f c : Addr} {q : Str} {params : Arguments} {body : Expr} {scope : Scope} {pm ct : Value} (I : Inv X pins σ H s) (e : H f = some (LamO f q params body scope pm c ct)) : s.heap.get? f = some (PySem.W.kla_obj "<lambda>" q params body scope [] pm c ct) := (I.hok f _ e).1
theorem clo_nil {cells : List (Str × Addr)} : ∀ {names : List (Str × NameKind)}, (∀ y ∈ names, y.2 ≠ .free) → ∀ acc, cloFrom cells names acc = acc
  | [], _, _ => rfl
  | (n, k) :: r, h, acc => by
    have hk : k ≠ NameKind.free := h (n, k) (by simp)
    show (if (k == NameKind.free) = true then _ else _) = _
    rw [if_neg (by simpa using hk)]
    exact clo_nil (fun y hy => h y (by simp [hy])) acc
/-- the lambda itself, as a value -/
def tLamV (T : List (Addr × Str)) (q : Str) (params : Arguments) (body : Expr) (scope : Scope) : TE := fun σ H Q => LamX.Tabs T H ∧
  ∀ (f c : Addr) (pm ct : Value) (H1 : Hp), LamX.ExtN H H1 → LamX.Tabs T H1 → H1 f = none → H1 c = some (LamX.CodeO c q) → Q (.ref f) (upd H1 f (LamO f q params body scope pm c ct))
theorem pe_lamV {T : List (Addr × Str)} {c P : Addr} {params : Arguments} {body : Expr} {scope : Scope} {pos : Pos} (TB : LamX.TabB X.base X.mg c P) (hcode : X.env.code = .ref c) (hmT : (P, X.env.qual ++ "<lambda>") ∈ T)
    (hu : ∀ p ∈ T, p.1 = P → p.2 = X.env.qual ++ "<lambda>") (hdef : defaultsOf params X.env = ([], [])) (nf : ∀ y ∈ scope.names, y.2 ≠ .free) : PE X (.Lambda params body scope pos) (tLamV T (X.env.qual ++ "<lambda>") params body scope) := by
  constructor
  intro pins s σ H Q I h
  obtain ⟨hT, h⟩ := h
  generalize hq : X.env.qual ++ "<lambda>" = q at *
  obtain ⟨ps, hP, ht, ha⟩ := hT _ hmT
  have hP' := I.hok P _ hP
  have bP := TB.bm.keeps I.bk
  have hc0 : closureFor scope X.env = pure [] := by
    rw [closure_ok (fun y hy e => absurd e (nf y hy)), clo_nil nf]
  refine PySem.W.kla_eval hdef ?_
  rw [hq]
  have done : ∀ (f c' : Addr) (pm ct : Value) (H1 : Hp) (s1 : Shared), Inv X pins σ H1 s1 → LamX.ExtN H H1 → LamX.Tabs T H1 → s1.heap.objs.size = f → H1 c' = some (LamX.CodeO c' q) →
      EP X pins σ Q (.ref f) { s1 with heap := s1.heap.push (PySem.W.kla_obj "<lambda>" q params body scope [] pm c' ct) } := fun f c' pm ct H1 s1 I1 eN T1 hf hco => by
    subst hf
    have hn : H1 s1.heap.objs.size = none := I1.hok.fresh (Nat.le_refl _)
    have new := lamO_ok (P := X.prog) (w := X.w) (H := upd H1 s1.heap.objs.size (LamO s1.heap.objs.size q params body scope pm c' ct)) (h := s1.heap.push (PySem.W.kla_obj "<lambda>" q params body scope [] pm c' ct)) (f := s1.heap.objs.size) (Heap.get?_push_size _ rfl)
    have I2 := I1.laid (t' := s1.toks) (fun b u e => Heap.get?_push_of_some _ e) (Nat.le_refl _) new
    exact ⟨.ref _, _, I2, rfl, h _ c' pm ct H1 eN T1 hn hco⟩
  cases hc : codeAmong pos ps.toList with
  | some cv =>
    obtain ⟨c', e, hco⟩ := ha pos cv hc
    subst e
    refine PySem.W.kla_makeFunctionHit (mg := X.mg) (c := c) (P := P) (ps := ps) hc0 I.ok.glob (I.mod.glob.keeps I.bk) hcode (TB.code.keeps I.bk) hP' ht hc bP fun ct h' tk hx hsz => ?_
    have I1 : Inv X pins σ H { s with heap := h', toks := tk } := I.kept hx
    exact done _ c' _ ct H _ I1 (LamX.ExtN.refl H) hT rfl hco
  | none =>
    refine PySem.W.kla_makeFunction (mg := X.mg) (c := c) (P := P) (ps := ps) hc0 I.ok.glob (I.mod.glob.keeps I.bk) hcode (TB.code.keeps I.bk) hP' ht hc TB.gP bP fun c' ct h' tk hx hge hlt hrec htb => ?_
    obtain ⟨c2, oc, vs, t, e2, hoc, hd, hv⟩ := hrec
    cases e2
    have nC : H c' = none := I.hok.fresh hge
    have I1 := LamX.inv_table (t' := tk) (more := #[rawInt pos.line, rawInt pos.col, .ref c']) (h' := h') (c := c') (q := q) I hP hx htb hge ⟨oc, vs, t, hoc, hd, hv⟩
    have keep : ∀ b o, H b = some o → (∀ ps, o ≠ .tbl ps) → upd (upd H P (.tbl (ps ++ #[rawInt pos.line, rawInt pos.col, .ref c']))) c' (LamX.CodeO c' q) b = some o := fun b o e n => by
      have n1 : b ≠ P := fun z => by
        rw [z, hP] at e
        exact n ps (Option.some.inj e).symm
      rw [upd_ne (ne_of_none e nC), upd_ne n1]
      exact e
    refine done _ c' _ ct _ _ I1 keep (fun p hp => ?_) rfl upd_same
    by_cases hb : p.1 = P
    · rw [hu p hp hb, hb]
      refine ⟨ps ++ #[rawInt pos.line, rawInt pos.col, .ref c'], by rw [upd_ne (ne_of_none hP nC), upd_same], ?_, fun p' cv hcv => ?_⟩
      · rw [Array.toList_append]
        exact PySem.TriplesOk_snoc _ _ _ _ ht
      · rw [Array.toList_append] at hcv
        rcases LamX.among_app _ ht hcv with z | z
        · obtain ⟨c0, e1, e2⟩ := ha p' cv z
          exact ⟨c0, e1, keep _ _ e2 LamX.codeO_ne⟩
        · exact ⟨c', z, upd_same⟩
    · obtain ⟨ps', a1, a2, a3⟩ := hT p hp
      refine ⟨ps', by rw [upd_ne (ne_of_none a1 nC), upd_ne hb]; exact a1, a2, fun p' cv hcv => ?_⟩
      obtain ⟨c0, e1, e2⟩ := a3 p' cv hcv
      exact ⟨c0, e1, keep _ _ e2 LamX.codeO_ne⟩
end
section
variable {X : Cx} {g : G} {W : WX}
def lamM (i : Nat) : EM := fun _ h => .ok (.ref h.length) (h ++ [.lam i])
theorem de_lamV {i : Nat} {c P : Addr} {params : Arguments} {body : Expr} {scope : Scope} {pos : Pos} (TB : LamX.TabB X.base X.mg c P) (hcode : X.env.code = .ref c) (hmT : (P, X.env.qual ++ "<lambda>") ∈ g.T)
    (hu : ∀ p ∈ g.T, p.1 = P → p.2 = X.env.qual ++ "<lambda>") (hL : g.L i = some ⟨X.env.qual ++ "<lambda>", params, body, scope⟩) (hdef : defaultsOf params X.env = ([], [])) (nf : ∀ y ∈ scope.names, y.2 ≠ .free) :
    PE X (.Lambda params body scope pos) (tE g W (lamM i)) := by
  refine PE.imp (pe_lamV TB hcode hmT hu hdef nf) fun σ H Q q => ?_
  obtain ⟨α, h, τ, R, s, p⟩ := q
  refine ⟨R.tabs, fun f c' pm ct H1 eN T1 hn hc => ?_⟩
  have R1 := R.extN eN T1
  have p1 := PostE.mono p (Ext.ofN (α := α) eN)
  have x : RepO g (α ++ [f]) (upd H1 f (LamO f (X.env.qual ++ "<lambda>") params body scope pm c' ct)) f (.lam i) :=
    ⟨_, pm, c', ct, hL, upd_same, by rw [upd_ne (ne_of_none hc hn)]; exact hc⟩
  obtain ⟨a1, a2⟩ := R1.push hn x
  refine p1 _ _ _ a2 a1 (.ref ?_)
  rw [← R1.len]
  simp
/-- what is known of a lambda where it is called -/
structure LamOk (X : Cx) (k : Nat) (I : LamI) (t : XK → TE) : Prop where
  q : I.q = X.env.qual ++ "<lambda>"
  L : LamX.LamS X.env.scope I.scope
  nf : ∀ y ∈ I.scope.names, y.2 ≠ .free
  bind : ∀ (q : Str) (cl : List (Str × Addr)) (pm cv ctv : Value), bindArgs (PySem.W.kla_fn "<lambda>" q I.params I.body I.scope cl pm cv ctv) ⟨[], []⟩ = pure []
  body : ∀ (A : Around) (outer : List Env) (s : Shared) (H : Hp) (E : XK) (f c : Addr), Room k (A.deeper (LamX.lamEnv X I.scope s.heap.objs.size f c)) → PE (LamX.lamCx X A outer s H E I.scope f c) I.body (t E)
def LamAt (H : Hp) (I : LamI) (f c : Addr) (pm ct : Value) : Prop := H f = some (LamO f I.q I.params I.body I.scope pm c ct) ∧ H c = some (LamX.CodeO c I.q)
theorem env_nil {scope : Scope} {L f c : Addr} (nf : ∀ y ∈ scope.names, y.2 ≠ .free) : PySem.W.envX (X.env.qual ++ "<lambda>") scope L f (.ref c) [] = LamX.lamEnv X scope L f c := by
  unfold LamX.lamEnv
  rw [clo_nil nf]
section
variable {pins : List (Addr × Obj)} {σ : L2.St} {H : Hp} {s : Shared}
/-- a(), where a holds a lambda of ours: in the def that was called out of X's frame at s -/
theorem pe_actV {CXg : CXT} {Eg : XK} {Ng : List Str} {qg : Str} {sg : Scope} {gg f c : Addr} {cdg pm ctv : Value} {I0 : LamI} {k i : Nat} {a : Str} {pn : List (Addr × Obj)} {xe : Value → Shared → Prop} {E : XK} {t : XK → TE} {p1 p2 : Pos}
    (I : Inv X pins σ H s) (O : LamOk X k I0 t)
    (tk : Takes ((cxOf CXg X.prog X.w X.K X.mg X.base Ng qg sg gg cdg X.A X.stack s H Eg).tr pn xe) W) (hW : ∀ cls d σ' H', E cls d H' → W cls d σ' H') (hr : Room (k + 1) (X.A.deeper (PyProof.Rows.envOfC qg sg s.heap.objs.size gg cdg)))
    (hN : Ng[i]? = some a) (hv : Vis sg a) (hd : (a == ("__debug__" : Str)) = false) (hcd : (a == ("__classdict__" : Str)) = false) :
    PE ((cxOf CXg X.prog X.w X.K X.mg X.base Ng qg sg gg cdg X.A X.stack s H Eg).tr pn xe) (.Call (.Name a p1) [] [] p2)
      (fun σZ HZ Q => σZ[i]? = some (some (.ref f)) ∧ HZ c = some (LamX.CodeO c I0.q) ∧ (HZ f = some (LamO f I0.q I0.params I0.body I0.scope pm c ctv) ∧ t E σ HZ Q)) := by
  obtain ⟨q, params, body, scope⟩ := I0
  obtain ⟨hq, L, nf, hbind, hbody⟩ := O
  simp only [] at hq L nf hbind hbody
  subst hq
  constructor
  intro pinsZ sZ σZ HZ Q IZ h
  obtain ⟨hs, hc, hf, ht⟩ := h
  have rd := (pe_var (pos := p1) (i := i) hN hv hd hcd).run pinsZ sZ σZ HZ (fun v H1 => v = .ref f ∧ H1 = HZ) IZ ⟨.ref f, hs, rfl, rfl⟩
  refine wpAny_Call_Name_kw (wpAny_mono rd (fun u s1 hu => ?_) fun _ _ z => z)
  obtain ⟨v, H1, I1, r1, ev, eH⟩ := hu
  subst ev
  rw [eH] at I1
  obtain rfl : u = Value.ref f := r1
  have of1 := lamO_get I1 hf
  refine PySem.W.callWith_F0 ⟨_, _, _, _, of1⟩ ?_
  obtain ⟨⟨oc, vs, tt, hoc, hdc, hvc⟩, _, _⟩ := I1.hok c _ hc
  have kept : Un (frs X.stack) [] H HZ s.heap s1.heap := I1.base
  have rc : codeAny (model X.prog X.w) (X.A.deeper (PyProof.Rows.envOfC qg sg s.heap.objs.size gg cdg)) (.call (.ref f) ⟨[], []⟩) (CR (L2.CX X.prog X.w) (PyProof.Rows.envOfC qg sg s.heap.objs.size gg cdg :: X.stack) X.prog X.w HZ s1 Q E) s1 := by
    refine PySem.W.kla_callFunE hr.depth of1 rfl L.co L.gen rfl ⟨c, oc, vs, tt, rfl, hoc, hdc, hvc⟩ ?_
    rw [hbind]
    refine wpAny_pure (wpAny_newFunctionEnv (fun y hy => (L.own y hy).2) (fun y hy => absurd hy (by simp)) (fun h₁ hns hsb => ?_) L.kind)
    have kp : ∀ b o, s1.heap.get? b = some o → h₁.get? b = some o := fun b o e => hsb.extBut b o (Nat.ne_of_lt (Heap.lt_size e)) (Heap.get?_push_of_some _ e)
    refine ⟨I1.nolimit.fresh _ hsb, ?_⟩
    show codeAny _ _ (.expr body (PySem.W.envX (X.env.qual ++ "<lambda>") scope s1.heap.objs.size f (.ref c) [])) _ _
    rw [env_nil nf]
    have J := LamX.lam_start2 (f := f) (c' := c) (E := E) (tk := s1.toks + ([] : List (Str × Value)).length) I L I1.env0 hr.hd kept hns kp
    have run := (hbody _ _ s1 HZ E f c (hr.deeper _)).run [] _ _ HZ Q J ht
    refine PySem.W.kla_codeExpr (wpAny_mono run (fun v s' hq => ?_) fun e s' hq => hq)
    obtain ⟨w', H', J', rv, q'⟩ := hq
    exact ⟨w', H', J'.os, J'.bare, J'.base, J'.hok, rv, q'⟩
  have hx := passes_call tk hW
  refine wpAny_call (codeAny_mono rc fun r s' hq => ?_)
  match r, hq with
  | .error e, hq => exact hx pinsZ σZ HZ s1 e s' I1 hq
  | .ok (.ret u), hq => exact I1.after hq
  | .ok .next, hq => exact False.elim hq
  | .ok .brk, hq => exact False.elim hq
  | .ok .cont, hq => exact False.elim hq
end
/-- x(e), where e gives a lambda of ours and x calls it -/
theorem pe_toldV {TT : (XK → Hp → VK → Prop) → Hp → VK → Prop} {x a : Str} {gg : Addr} {k : Nat} {pg : Arguments} {bg : List Stmt} {sg : Scope} {dV kV doc pm0 cdv ct0 oc : Value} {an od : Option Addr} {osl : Array (Option Value)} {Ng : List Str} {e : Expr} {ta : TA} {p pos : Pos}
    (hg : Gl X x) (hm : X.mg x = some (.ref gg)) (hk : PySem.W.keepIn X.K (.ref gg) = true) (lk : X.K.lookup gg = some ⟨oc, od, .func (PySem.W.fnOf x x pg bg sg dV kV doc pm0 an cdv ct0), osl⟩) (hcg : PySem.W.codeIn X.K cdv x = true)
    (hb : L2.Binds X.K (PySem.W.fnOf x x pg bg sg dV kV doc pm0 an cdv ct0) [a] []) (Sg : FnScope Ng [a] sg) (hNg : Ng[0]? = some a) (hva : Vis sg a) (hG : LamX.GivesTo X Ng x sg gg cdv bg a (X.env.qual ++ "<lambda>") TT) (hr : Room (k + 2) X.A) (ha : PA X [e] ta)
    (hs : starEach [e] X.env = (false, eval e X.env) :: starEach [] X.env) (hpl : (backTo pos (starEach [] X.env)).any (·.1) = false) (hdb : (x == ("__debug__" : Str)) = false) (hd : (a == ("__debug__" : Str)) = false) (hcd : (a == ("__classdict__" : Str)) = false) :
    PE X (.Call (.Name x p) [e] [] pos) (fun σ H Q => ta σ H fun vs H1 => ∃ (f c : Addr) (pm ct : Value) (I0 : LamI) (t : XK → TE), vs = [.ref f] ∧ LamOk X k I0 t ∧ LamAt H1 I0 f c pm ct ∧
      TT (fun E H' Q' => H' f = some (LamO f I0.q I0.params I0.body I0.scope pm c ct) ∧ t E σ H' Q') H1 Q) := by
  constructor
  intro pins s σ H Q I h
  have args := ha.run pos pins s σ H _ I h
  refine wpAny_Call_Name_kw (ld_glob I hg hm ?_ hdb)
  refine PySem.W.callWith_K (h₀ := X.base) I.ok.mod.kin hk (wpAny_mono args (fun us s1 hu => ?_) fun _ _ z => z) hs hpl
  obtain ⟨vs, H1, I1, rv, f, c, pm, ct, I0, t, ev, O, ⟨at1, at2⟩, q⟩ := hu
  subst ev
  obtain ⟨u, rfl⟩ : ∃ u, us = [u] := by
    cases rv with
    | cons r1 r2 =>
      cases r2
      exact ⟨_, rfl⟩
  have ru : u = Value.ref f := by
    cases rv with
    | cons r1 r2 => exact r1
  subst ru
  refine ⟨I1.kIn, ?_⟩
  have rc : codeAny (model X.prog X.w) X.A (.call (.ref gg) ⟨[.ref f], []⟩) (CR C8.CX0 X.stack X.prog X.w H1 s1 Q C8.E0) s1 := by
    refine LamX.run_ofS (N := Ng) (ps := [a]) (us := [.ref f]) (vs := [.ref f]) lk hcg Sg hr I1.env0 (hb s1 [.ref f] I1.kIn rfl) (.cons rfl .nil) rfl fun hr' => ?_
    have hq := O.q
    rw [hq] at at2
    obtain ⟨t', ht', hq'⟩ := hG f c s1 H1 Q (fun E H' Q' => H' f = some (LamO f I0.q I0.params I0.body I0.scope pm c ct) ∧ t E σ H' Q') (fun W pn xe E p1 p2 tk hW => by
      have act := pe_actV (W := W) (f := f) (c := c) (pm := pm) (ctv := ct) (i := 0) (p1 := p1) (p2 := p2) I1 O tk hW hr' hNg hva hd hcd
      rw [hq] at act ⊢
      exact act) at2 q
    exact ⟨t', ht'.nox, hq'⟩
  refine wpAny_call (codeAny_mono rc fun r s2 hq => ?_)
  match r, hq with
  | .error e, hq => exact (show False from hq).elim
  | .ok (.ret u), hq => exact I1.after hq
  | .ok .next, hq => exact False.elim hq
  | .ok .brk, hq => exact False.elim hq
  | .ok .cont, hq => exact False.elim hq
end
section
variable {X : Cx} {g : G} {W : WX}
/-- x(e) where x tells and e gives the lambda of some number -/
def toldVM (c : Nat → Option Bool) (ret : Str) (ms : Nat → EM) (mf : EM) : EM := fun τ h => (mf τ h).bind fun d h1 => match d with
  | .ref l => (match h1[l]? with
    | some (.lam i) => toldM c ret (ms i) τ h1
    | _ => .bad)
  | _ => .bad
theorem de_toldV {x a e' : Str} {fg CS : Addr} {k : Nat} {pg : Arguments} {sg : Scope} {dV kV doc pm cdv ct oc : Value} {an od : Option Addr} {osl : Array (Option Value)} {Ng : List Str} {e : Expr} {me : EM} {ms : Nat → EM} {p pos : Pos}
    {ret : Str} {ci : Nat → Option Bool} {j : Nat} {p1 p2 p3 p4 p5 p6 p7 p8 : Pos}
    (hcl : ∀ i b, ci i = some b → PySem.W.exmOne X.K (.ref (g.cl i)) (.ref CS) = some b)
    (hge : sg.names.lookup e' = some .globalImplicit) (hme : X.mg e' = some (.ref CS)) (hde : (e' == ("__debug__" : Str)) = false) (h0 : ∀ f : Addr, (L2.start Ng [V.ref f])[0]? = some (some (V.ref f)))
    (hg : Gl X x) (hm : X.mg x = some (.ref fg)) (hk : PySem.W.keepIn X.K (.ref fg) = true)
    (lk : X.K.lookup fg = some ⟨oc, od, .func (PySem.W.fnOf x x pg [.Try [.Return (some (.Call (.Name a p1) [] [] p2)) p3] [.ExceptHandler (some (.Name e' p4)) none [.Return (some (.Constant (.str ret) j p5)) p6] p7] [] [] p8] sg dV kV doc pm an cdv ct), osl⟩) (hcg : PySem.W.codeIn X.K cdv x = true)
    (hb : L2.Binds X.K (PySem.W.fnOf x x pg [.Try [.Return (some (.Call (.Name a p1) [] [] p2)) p3] [.ExceptHandler (some (.Name e' p4)) none [.Return (some (.Constant (.str ret) j p5)) p6] p7] [] [] p8] sg dV kV doc pm an cdv ct) [a] []) (Sg : FnScope Ng [a] sg) (hNg : Ng[0]? = some a) (hva : Vis sg a)
    (hr : Room (k + 2) X.A) (he : PE X e (tE g W me)) (fam : ∀ i I0, g.L i = some I0 → LamOk X k I0 (fun E => tE g (fun cls d _ H => E cls d H) (ms i)))
    (hs : starEach [e] X.env = (false, eval e X.env) :: starEach [] X.env := by rfl) (hpl : (backTo pos (starEach [] X.env)).any (·.1) = false := by rfl)
    (hdb : (x == ("__debug__" : Str)) = false := by decide) (hd : (a == ("__debug__" : Str)) = false := by decide) (hcd : (a == ("__classdict__" : Str)) = false := by decide) :
    PE X (.Call (.Name x p) [e] [] pos) (tE g W (toldVM ci ret ms me)) := by
  refine PE.imp (pe_toldV hg hm hk lk hcg hb Sg hNg hva (LamX.told_gives hge hme hde h0) hr (pa_cons he pa_nil hs) hs hpl hdb hd hcd) fun σ H Q q => ?_
  obtain ⟨α, h, τ, R, s, q⟩ := q
  refine ⟨α, h, τ, R, s, PostE.imp (PostE.bind q) ?_⟩
  rintro v H1 ⟨α1, d, h1, E1, R1, D1, p1⟩
  cases D1 <;> try exact False.elim p1
  rename_i l f hl
  simp only [] at p1
  split at p1
  · rename_i i ei
    obtain ⟨I0, pm', c, ct', hL, at1, at2⟩ := R1.ob _ _ _ ei hl
    refine ⟨f, c, pm', ct', I0, _, rfl, fam i I0 hL, ⟨at1, at2⟩, at1, α1, h1, τ, R1, s.ext E1, ?_⟩
    unfold toldM at p1
    cases em : ms i τ h1 with
    | ok d h' => rw [em] at p1; exact p1
    | exc n h' =>
      rw [em] at p1
      simp only at p1
      split at p1
      · rename_i hc
        intro α' H' e2 R'
        exact ⟨true, hcl n true hc, fun _ => p1 α' H' _ e2 R' (.str _), fun z => by cases z⟩
      · exact p1.elim
    | bad => rw [em] at p1; exact p1.elim
  · exact p1.elim
end
end DD
end

section
set_option Elab.async false
set_option linter.all false
set_option maxRecDepth 100000
set_option maxHeartbeats 2000000
/-! sets of texts and numbers whose members can be walked: made, added to, sorted -/
namespace DD
open PySem PySem.Spec PyProof.Rows L2
/-- the key that a member is -/
def kyV : Value → Key
  | .str x _ => .inr x
  | .int i _ => .inl i
  | _ => .inl 0
theorem kyV_of {k : Key} {v : Value} (h : keyIs k v = true) : kyV v = k := by
  rcases keyIs_shape h with ⟨i, t, rfl, rfl⟩ | ⟨x, t, rfl, rfl⟩ <;> rfl
def kys (es : Array (Int × Value)) : List Key := es.toList.map fun e => kyV e.2
/-- members in their table -/
structure InT (P : Program) (w : World) (S : Key → Bool) (es : Array (Int × Value)) (t : SetTable) : Prop where
  el : ElemsOf (mixKind P w) es.toList
  nd : (kys es).Nodup
  mem : ∀ k, S k = true ↔ k ∈ kys es
  few : es.size < scanBound
  fit : t.fits es.size = true
  ris : Ris t.place.toList
  ord : w.params.followText "set-order" = true ∨ t.led = true
def SeT (P : Program) (w : World) (h : Heap) (a : Addr) (S : Key → Bool) (n : Nat) : Prop := ∃ o es ep t, h.get? a = some o ∧ o.ExactSet ∧ o.data = .set es ep t ∧ InT P w S es t ∧ es.size = n
section
variable {P : Program} {w : World} {S : Key → Bool} {es es' : Array (Int × Value)} {t t' : SetTable}
theorem kys_perm (p : es'.toList.Perm es.toList) : (kys es').Perm (kys es) := p.map _
theorem perm_size (p : es'.toList.Perm es.toList) : es'.size = es.size := by rw [← Array.length_toList, p.length_eq, Array.length_toList]
theorem InT.perm (i : InT P w S es t) (p : es'.toList.Perm es.toList) (f : t'.fits es'.size = true) (r : Ris t'.place.toList) (l : t'.led = t.led) : InT P w S es' t' where
  el := fun e he => i.el e (p.mem_iff.mp he)
  nd := (kys_perm p).nodup_iff.mpr i.nd
  mem := fun k => (i.mem k).trans (kys_perm p).mem_iff.symm
  few := by rw [perm_size p]; exact i.few
  fit := f
  ris := r
  ord := i.ord.imp id fun z => l.trans z
theorem InT.has (i : InT P w S es t) {k : Key} {e : Int × Value} (he : e ∈ es.toList) (q : keyIs k e.2 = true) : S k = true := by
  rw [i.mem]
  exact List.mem_map.mpr ⟨e, he, kyV_of q⟩
theorem InT.get (i : InT P w S es t) {k : Key} (q : S k = true) : ∃ e ∈ es.toList, keyIs k e.2 = true := by
  obtain ⟨e, he, z⟩ := List.mem_map.mp ((i.mem k).mp q)
  obtain ⟨⟨k0, h0, _⟩, _⟩ := i.el e he
  have : k0 = k := (kyV_of h0).symm.trans z
  exact ⟨e, he, this ▸ h0⟩
theorem InT.more (i : InT P w S es t) {k : Key} {v : Value} (hv : keyIs k v = true) (hk : S k = false) (p : es'.toList.Perm (((mixKind P w).hash k, v) :: es.toList)) (f : t'.fits es'.size = true) (r : Ris t'.place.toList) (l : t'.led = t.led)
    (z : es.size + 1 < scanBound) : InT P w (fun j => S j || decide (j = k)) es' t' ∧ es'.size = es.size + 1 := by
  have pk : (kys es').Perm (k :: kys es) := by
    have := p.map fun e => kyV e.2
    rw [List.map_cons, kyV_of hv] at this
    exact this
  have sz : es'.size = es.size + 1 := by rw [← Array.length_toList, p.length_eq, List.length_cons, Array.length_toList]
  refine ⟨{ el := fun e he => ?_, nd := ?_, mem := fun j => ?_, few := by omega, fit := f, ris := r, ord := i.ord.imp id fun z => l.trans z }, sz⟩
  · rcases List.mem_cons.mp (p.mem_iff.mp he) with q | q
    · rw [q]
      exact ⟨⟨k, hv, rfl⟩, by rcases keyIs_shape hv with ⟨j, u, _, rfl⟩ | ⟨x, u, _, rfl⟩ <;> rfl⟩
    · exact i.el e q
  · rw [pk.nodup_iff, List.nodup_cons]
    exact ⟨fun m => (by rw [(i.mem k).mpr m] at hk; cases hk), i.nd⟩
  · rw [pk.mem_iff, List.mem_cons, Bool.or_eq_true, decide_eq_true_eq, i.mem j]
    exact Or.comm
theorem SeT.keep {h h' : Heap} {a : Addr} {n : Nat} (R : SeT P w h a S n) (k : ∀ o, h.get? a = some o → h'.get? a = some o) : SeT P w h' a S n :=
  let ⟨o, es, ep, t, ho, r⟩ := R
  ⟨o, es, ep, t, k o ho, r⟩
theorem SeT.of_set {h : Heap} {a : Addr} {n : Nat} (R : SeT P w h a S n) : h.SetOf (mixKind P w) a S n := by
  obtain ⟨o, es, ep, t, ho, hx, hd, i, hn⟩ := R
  exact ⟨o, es, ep, t, ho, hx, hd, i.el, fun k => ⟨fun q => i.get q, fun ⟨e, he, q⟩ => i.has he q⟩, i.few, i.fit, hn⟩
end
section
variable {P : Program} {w : World} {A : Around} {E : Value → Shared → Prop} {s : Shared} {a : Addr} {S S' : Key → Bool} {n : Nat}
theorem laid_set {h : Heap} {o : Obj} {es e2 : Array (Int × Value)} {ep : Nat} {t tb : SetTable} (ho : h.get? a = some o) (hd : o.data = .set es ep t) : (h.update a (Obj.putSet e2 tb)).get? a = some { o with data := .set e2 (ep + 1) tb } := by
  have q := Heap.get?_update_self (Obj.putSet e2 tb) ho (by rw [putSet_of e2 tb hd]; rfl)
  rwa [putSet_of e2 tb hd] at q
theorem lay_tail {gv : Bool → Sem Unit} (hg : ∀ (b : Bool) (s1 : Shared) (Z : Unit → Shared → Prop), Z () s1 → wpAny (model P w) A (gv b) Z E s1) {o : Obj} {es e2 : Array (Int × Value)} {ep : Nat} {t tb : SetTable} {wd : Bool} {R : Option Bool → Shared → Prop}
    (ho : s.heap.get? a = some o) (hex : o.ExactSet) (hd : o.data = .set es ep t) (i : InT P w S' e2 tb) (hR : ∀ h', Heap.SameBut a s.heap h' → SeT P w h' a S' e2.size → R (some true) { s with heap := h' }) :
    wpAny (model P w) A (do
        storeSet a e2 tb
        if (!wd && tb.tooFull) = true then do
            gv (relayAll tb e2 (SetTable.grown e2.size)).2.2
            storeSet a (relayAll tb e2 (SetTable.grown e2.size)).1 (relayAll tb e2 (SetTable.grown e2.size)).2.1
            pure (some true)
          else pure (some true)) R E s := by
  refine wpAny_bind (wpAny_storeSet_of ho hd ?_ (fits_of_scanBound i.few))
  have o1 := laid_set (e2 := e2) (tb := tb) ho hd
  have b1 := Heap.SameBut.update s.heap a (Obj.putSet e2 tb)
  split
  · have p3 := relayAll_perm tb e2 (SetTable.grown e2.size)
    have i3 := i.perm p3 (relayAll_fits tb e2 (SetTable.grown e2.size)) (relayAll_ris tb e2 (SetTable.grown e2.size)) (relayAll_led tb e2 (SetTable.grown e2.size))
    have z3 := perm_size p3
    refine wpAny_bind (hg _ _ _ (wpAny_bind (wpAny_storeSet_of o1 rfl ?_ (fits_of_scanBound i3.few))))
    exact wpAny_pure (hR _ (b1.trans (Heap.SameBut.update _ a _)) ⟨_, _, _, _, laid_set o1 rfl, hex, rfl, i3, z3⟩)
  · exact wpAny_pure (hR _ b1 ⟨_, _, _, _, o1, hex, rfl, i, rfl⟩)
theorem add_hashed {k : Key} {v : Value} {Q : Bool → Shared → Prop} (hv : keyIs k v = true) (R : SeT P w s.heap a S n) (room : n + 1 < scanBound)
    (hQ : ∀ h', Heap.SameBut a s.heap h' → SeT P w h' a (fun j => S j || decide (j = k)) (if S k = true then n else n + 1) → Q (!S k) { s with heap := h' }) : wpAny (model P w) A (setAddHashed a v ((mixKind P w).hash k)) Q E s := by
  obtain ⟨o, es, ep, t, ho, hex, hd, i, hn⟩ := R
  have hsc : v.scannable = true := by rcases keyIs_shape hv with ⟨j, u, _, rfl⟩ | ⟨x, u, _, rfl⟩ <;> rfl
  have hkey : (mixKind P w).is k v = true := hv
  unfold setAddHashed setAddHashedIn
  refine wpAny_holding (wpAny_bind (wpAny_setState_of ho hd i.fit ?_))
  dsimp only
  rw [byScan_of hsc i.few i.el]
  simp only [↓reduceIte]
  unfold setAddByScan
  refine wpAny_bind ?_
  refine wpAny_bind (wpAny_rule ?_)
  refine wpAny_bind (wpAny_setScan_of hkey ho hd i.fit i.el ?_)
  cases hfi : List.findIdx? (fun e => (mixKind P w).is k e.2) es.toList with
  | some j =>
    dsimp only
    obtain ⟨hj, pj, _⟩ := List.findIdx?_eq_some_iff_getElem.mp hfi
    have hSk : S k = true := i.has (List.getElem_mem hj) pj
    have q := hQ s.heap (Heap.SameBut.refl a s.heap)
    rw [hSk, if_pos rfl] at q
    refine wpAny_pure (wpAny_pure (q ⟨o, es, ep, t, ho, hex, hd, ?_, hn⟩))
    have e : (fun j => S j || decide (j = k)) = S := funext fun j => by
      by_cases c : j = k
      · rw [c, hSk]; rfl
      · rw [decide_eq_false c, Bool.or_false]
    rw [e]
    exact i
  | none =>
    dsimp only
    have hSk : S k = false := by
      cases q : S k with
      | false => rfl
      | true =>
        obtain ⟨e, he, z⟩ := i.get q
        have c := List.findIdx?_eq_none_iff.mp hfi e he
        rw [show (mixKind P w).is k e.2 = true from z] at c
        cases c
    have gaveWay : ∀ (b : Bool) {s1 : Shared} {Z : Unit → Shared → Prop}, Z () s1 → wpAny (model P w) A (match b with | true => rule "set.scan.the-table-gave-way" | false => pure ()) Z E s1 := by
      intro b s1 Z q
      cases b <;> first | exact wpAny_pure q | exact wpAny_rule q
    have pm := layNew_perm t es ((mixKind P w).hash k) v
    have f1 := layNew_fits t es ((mixKind P w).hash k) v
    have r1 := layNew_ris t es ((mixKind P w).hash k) v i.ris
    have l1 := layNew_led t es ((mixKind P w).hash k) v
    generalize layNew t es ((mixKind P w).hash k) v = lay at pm f1 r1 l1 ⊢
    obtain ⟨e2, tb, wd, gave⟩ := lay
    dsimp only at pm f1 r1 l1 ⊢
    rw [Array.toList_push] at pm
    have pc := pm.trans (List.perm_append_singleton _ _)
    have fin : ∀ tc : SetTable, tc.fits e2.size = true → Ris tc.place.toList → tc.led = t.led → InT P w (fun j => S j || decide (j = k)) e2 tc ∧ e2.size = es.size + 1 := fun tc f r l => i.more hv hSk pc f r l (by rw [hn]; exact room)
    have out : ∀ h', Heap.SameBut a s.heap h' → SeT P w h' a (fun j => S j || decide (j = k)) e2.size → Q true { s with heap := h' } := fun h' sb r => by
      have q := hQ h' sb
      rw [hSk] at q
      rw [(fin tb f1 r1 l1).2, hn] at r
      exact q r
    refine wpAny_bind (gaveWay _ ?_)
    split
    · refine wpAny_bind ?_
      rw [hashByValue_scannable 8 hsc]
      refine wpAny_pure ?_
      refine lay_tail ?_ ho hex hd (fin _ ?_ ?_ ?_).1 ?_
      · intro b s1 Z q; cases b <;> first | exact wpAny_pure q | exact wpAny_rule q
      · first | (split <;> first | exact f1 | exact SetTable.fits_plain_off f1) | exact f1
      · first | (split <;> exact r1) | exact r1
      · first | (split <;> exact l1) | exact l1
      · intro h' sb r; dsimp only; exact wpAny_pure (out h' sb r)
    · refine wpAny_bind (wpAny_pure ?_)
      simp only [↓reduceIte]
      refine lay_tail ?_ ho hex hd (fin _ f1 r1 l1).1 ?_
      · intro b s1 Z q; cases b <;> first | exact wpAny_pure q | exact wpAny_rule q
      · intro h' sb r; dsimp only; exact wpAny_pure (out h' sb r)
theorem seT_add {k : Key} {v : Value} {Q : Value → Shared → Prop} (hv : keyIs k v = true) (R : SeT P w s.heap a S n) (room : n + 1 < scanBound)
    (hQ : ∀ h', Heap.SameBut a s.heap h' → SeT P w h' a (fun j => S j || decide (j = k)) (if S k = true then n else n + 1) → Q .none { s with heap := h', toks := s.toks + 1 }) : wpAny (model P w) A (call (.builtin "set.add") [.ref a, v]) Q E s := by
  refine wpAny_call_entry F.slot_set_add R.of_set.typeIs F.entry_set_add ?_ (F.args_set_add_2 _ _)
  unfold Builtin.«set.add» Builtin.Frozenset.oneOther
  simp only [List.isEmpty_nil, bind_assoc]
  unfold Builtin.Frozenset.addrOf setAdd
  refine wpAny_bind (wpAny_pure ?_)
  try dsimp only
  refine wpAny_bind (wpAny_pure ?_)
  try dsimp only
  refine wpAny_bind (wpAny_holding (wpAny_bind ((mixKind P w).pyHash (k := k) hv ?_)))
  refine add_hashed (s := { s with toks := s.toks + 1 }) hv R room fun h' sb r => ?_
  show wpAny _ _ (ret Value.none) _ _ _
  exact wpAny_pure ⟨_, rfl, hQ h' sb r⟩
theorem seT_fresh {h : Heap} (P : Program) (w : World) : SeT P w (h.push { cls := .type "set", dict := none, data := .set #[] 0 (.fresh 0 0 (!w.params.followText "set-order")) }) h.objs.size (fun _ => false) 0 := by
  refine ⟨_, #[], 0, _, Heap.get?_push_size _ rfl, ⟨rfl, rfl, rfl⟩, rfl, ⟨fun e he => by simp at he, by simp [kys], fun k => by simp [kys], by decide, rfl, List.Pairwise.nil, ?_⟩, rfl⟩
  show _ ∨ (!w.params.followText "set-order") = true
  cases w.params.followText "set-order" <;> simp
end
end DD
end

section
set_option Elab.async false
set_option linter.all false
set_option maxRecDepth 100000
set_option maxHeartbeats 2000000
/-! sets of texts and numbers by a comprehension; sorted(..) of such a set of texts -/
namespace DD
open PySem PySem.Spec PyProof.Rows L2
def SeTO (P : Program) (w : World) (a : Addr) (S : Key → Bool) (n : Nat) : HO := .ext fun h => SeT P w h a S n
section
variable {X : Cx} {pins : List (Addr × Obj)} {σ : L2.St} {H : Hp} {s : Shared} {S : Key → Bool} {n : Nat} {D a : Addr}
theorem seTO_ok {P : Program} {w : World} {h : Heap} (R : SeT P w h a S n) : ObjOk P w H h a (SeTO P w a S n) := by
  have ⟨o, _, _, _, ho, _⟩ := R
  exact ⟨R, ⟨o, ho⟩, fun _ _ p k => SeT.keep p k⟩
theorem seTO_at (I : Inv X pins σ H s) (e : H a = some (SeTO X.prog X.w a S n)) : SeT X.prog X.w s.heap a S n := (I.hok a _ e).1
theorem seTO_add {E : Value → Shared → Prop} {k : Key} {u : Value} {Q : Value → Shared → Prop} (I : Inv X pins σ H s) (hD : H D = some (SeTO X.prog X.w D S n)) (room : n + 1 < scanBound) (ru : RelV (kV k) u)
    (go : ∀ s1, Inv X pins σ (upd H D (SeTO X.prog X.w D (fun j => S j || decide (j = k)) (if S k = true then n else n + 1))) s1 → Q .none s1) : wpAny (model X.prog X.w) X.A (call (.builtin "set.add") [.ref D, u]) Q E s := by
  refine seT_add (kV_is (P := X.prog) (w := X.w) ru) (seTO_at I hD) room fun h1 sb new => go _ ?_
  have ⟨o, _, _, _, ho, _⟩ := new
  exact I.write (e := D) (t' := s.toks + 1) (by rw [hD]; trivial) (.inl rfl) (fun b u hb hu => (sb.2 b hb).trans hu) ⟨o, ho⟩ (seTO_ok new)
end
/-! ### the comprehension -/
/-- {y for target in iter if ..}, y a text or a number; D the new set -/
def tScK (P : Program) (w : World) (wi : TI) (g : TG) (tt : TT) (te : TE) (vs : List Nat) : TE := fun σ H Q => wi σ H fun J H1 => ∀ D, H1 D = none → ∃ W : Nat → Nat → Hp → Prop, (∃ m, W 0 m (upd H1 D (SeTO P w D (fun _ => false) 0))) ∧
  ∀ i m H, W i m H → (J.stop i H ∧ Q (.ref D) H) ∨ (J.go i H ∧ ∃ Nx : Hp → Prop, (∀ H', Nx H' → ∃ m', m' < m ∧ W (i + 1) m' H') ∧ ∀ x H', J.yld i H x H' → g x (wipe σ vs) H' fun σ2 H2 => wipe σ2 vs = wipe σ vs ∧ tt σ2 H2 fun b H3 =>
    if b = true then te σ2 H3 fun y H4 => ∃ (k : Key) (S : Key → Bool) (n : Nat), y = kV k ∧ H4 D = some (SeTO P w D S n) ∧ n + 1 < scanBound ∧ Nx (upd H4 D (SeTO P w D (fun j => S j || decide (j = k)) (if S k = true then n else n + 1))) else Nx H3)
section
variable {X : Cx}
theorem setComp_run {elt tg iter : Expr} {ifs : List Expr} {scope : Scope} {own : List (PySem.Str × Nat)} {pos : Pos} {wi : TI} {g : TG} {tt : TT} {te : TE} (hc : X.calm = true) (hN : X.N.Nodup) (hi : PI X tg iter wi) (ok : BlkOk X.N X.env.scope scope own)
    (hg : ∀ (s : Shared) (H : Hp) (C : Addr) (cl : List (PySem.Str × Addr)) (fp : List Addr), PG (X.blk s H scope (compEnvC scope cl C X.env) fp) tg g)
    (ht : ∀ (s : Shared) (H : Hp) (C : Addr) (cl : List (PySem.Str × Addr)) (fp : List Addr), PTs (X.blk s H scope (compEnvC scope cl C X.env) fp) ifs tt)
    (he : ∀ (s : Shared) (H : Hp) (C : Addr) (cl : List (PySem.Str × Addr)) (fp : List Addr), PE (X.blk s H scope (compEnvC scope cl C X.env) fp) elt te) (hs : ∀ x, foldedSetIterable iter X.env x = pure x := by intro _; rfl) :
    PE X (.SetComp elt [⟨tg, iter, ifs, 0⟩] scope pos) (tScK X.prog X.w wi g tt te (own.map (·.2))) := by
  refine ⟨fun pins s σ H Q I h => ?_⟩
  rw [PpSet.eval_SetComp]
  have seen : ∀ y ∈ scope.names, y.2 = .free → ∃ c, X.env.cells.lookup y.1 = some c := fun y hy e => (ok.free y hy e).elim (fun z => I.ok.has _ (.inl z)) fun z => I.ok.has _ (.inr z)
  refine wpAny_comprehension_free (use := none) rfl hs (closure_ok seen) ok.kind (fun y hy e => by rw [ok.uniq y hy, e]) (thn (hi.run pins s σ H _ I h) fun xv s1 hx => thn hx fun itv s2 h2 => ?_)
  obtain ⟨it, fp, tn, J, H2, e, I2, T, st2, f2, q⟩ := h2
  subst e
  refine PpSet.newSet_ok (newEnv_comp ?_)
  generalize eD : s2.heap.objs.size = D
  obtain ⟨W, ⟨m0, w0⟩, turn⟩ := q D (I2.hok.fresh (Nat.le_of_eq eD))
  generalize e3 : ({ s2 with heap := s2.heap.push { cls := .type "set", dict := none, data := .set #[] 0 (.fresh 0 0 (!X.w.params.followText "set-order")) } } : Shared) = s3
  have p3 : s3.heap = s2.heap.push { cls := .type "set", dict := none, data := .set #[] 0 (.fresh 0 0 (!X.w.params.followText "set-order")) } := by rw [← e3]
  have up : ∀ b o, s2.heap.get? b = some o → s3.heap.get? b = some o := fun b o z => by rw [p3]; exact Heap.get?_push_of_some _ z
  have I3 : Inv X pins σ (upd H2 D (SeTO X.prog X.w D (fun _ => false) 0)) s3 := by
    rw [← e3]
    refine I2.laid (t' := s2.toks) (fun b o z => Heap.get?_push_of_some _ z) (Nat.le_of_eq eD) ?_
    rw [← eD]
    exact seTO_ok (seT_fresh X.prog X.w)
  generalize e4 : upd H2 D (SeTO X.prog X.w D (fun _ => false) 0) = H3 at I3 w0
  have low : ∀ b ∈ fp, b < s2.heap.objs.size := fun b hb => let ⟨o, z, _⟩ := T.obj _ _ st2 b hb; Heap.lt_size z
  have f3 : ∀ b ∈ fp, FpOk X pins H3 b ∧ b < s3.heap.objs.size := fun b hb => by
    have lb := low b hb
    refine ⟨⟨?_, (f2 b hb).2⟩, by rw [p3, Heap.size_push]; exact Nat.lt_succ_of_lt lb⟩
    rw [← e4, upd_ne (by rw [← eD]; exact Nat.ne_of_lt lb)]
    exact (f2 b hb).1
  have st3 := T.keep _ _ _ st2 fun b _ o z => up b o z
  have I4 := block_start I3 ok hN f3
  have pg := hg s3 H3 s3.heap.objs.size (cellsFrom (s3.heap.objs.size + 1) scope.names (cloFrom X.env.cells scope.names [])) fp
  have pt := ht s3 H3 s3.heap.objs.size (cellsFrom (s3.heap.objs.size + 1) scope.names (cloFrom X.env.cells scope.names [])) fp
  have pe := he s3 H3 s3.heap.objs.size (cellsFrom (s3.heap.objs.size + 1) scope.names (cloFrom X.env.cells scope.names [])) fp
  let post := compPost (model X.prog X.w) X.A X.xe none (fun v s' => ∃ x H', Inv X pins σ H' s' ∧ RelV x v ∧ Q x H') (.ref D) s3.heap.objs.size
  show codeAny _ _ (.compStart (.SetComp elt [⟨tg, iter, ifs, 0⟩] scope pos) 0 (.ref it) (.ref D) (compEnvC scope (cellsFrom (s3.heap.objs.size + 1) scope.names (cloFrom X.env.cells scope.names [])) s3.heap.objs.size X.env)) _ { s3 with heap := pushCells (s3.heap.push { cls := .type "dict", data := .dict #[] }) scope.names }
  generalize hce : compEnvC scope (cellsFrom (s3.heap.objs.size + 1) scope.names (cloFrom X.env.cells scope.names [])) s3.heap.objs.size X.env = ce at I4 pg pt pe ⊢
  have cL : ce.locals = s3.heap.objs.size := by rw [← hce]; rfl
  generalize e5 : ({ s3 with heap := pushCells (s3.heap.push { cls := .type "dict", data := .dict #[] }) scope.names } : Shared) = s4 at I4 ⊢
  have st4 := T.keep _ _ _ st3 fun b _ o z => show s4.heap.get? b = some o by rw [← e5]; exact pushCells_keeps _ _ _ _ (Heap.get?_push_of_some _ z)
  have stat : ∀ {σ' : L2.St} {H' : Hp} {s' : Shared}, Inv (X.blk s3 H3 scope ce fp) [] σ' H' s' → (∀ b ∈ fp, H' b = none) → ∀ b ∈ fp, FpOk (X.blk s3 H3 scope ce fp) [] H' b :=
    fun I' hn b hb => ⟨hn b hb, (I'.ok.exf b hb).1, I'.ok.exfs b hb, .inl hb, fun x c z => (I'.ok.exf b hb).2 x c z, fun p hp => absurd (show p ∈ ([] : List (Addr × Obj)) ++ [] from hp) (by simp)⟩
  have loop : codeAny (model X.prog X.w) X.A (.compLoop (.SetComp elt [⟨tg, iter, ifs, 0⟩] scope pos) 0 (.ref it) (.ref D) ce) (compPost (model X.prog X.w) X.A X.xe none (fun v s' => ∃ x H', Inv X pins σ H' s' ∧ RelV x v ∧ Q x H') (.ref D) s3.heap.objs.size) s4 := by
    refine PpSet.compLoopS_any (fun n s' => ∃ i H', Inv (X.blk s3 H3 scope ce fp) [] (wipe σ (own.map (·.2))) H' s' ∧ tn i s'.heap ∧ (∀ b ∈ fp, H' b = none) ∧ W i n H') ?_ m0 ⟨0, H3, I4, st4, fun b hb => (f3 b hb).1.1, w0⟩
    rintro n s5 ⟨i, H5, I5, st5, n5, w5⟩
    rcases turn i n H5 w5 with ⟨stop, qq⟩ | ⟨go, Nx, hNx, step⟩
    · refine thnF (T.done (X.blk s3 H3 scope ce fp) rfl rfl rfl hc i [] s5 _ H5 (fun _ _ => False) I5 (stat I5 n5) st5 stop) fun r s6 ⟨hr, I6⟩ => ?_
      subst hr
      have I7 : Inv X pins σ H5 s6 := I3.call' (ch := fp) I6.os I6.base I6.hok I6.bare fun b hb => let z := (f3 b hb).1.2; ⟨z.2.2.1, z.1, z.2.2.2.1, z.2.2.2.2⟩
      have nC : H5 s3.heap.objs.size = none := cL ▸ (show H5 ce.locals = none from I6.free)
      obtain ⟨m, hn, _⟩ := I6.loc
      refine ⟨m, cL ▸ (show s6.heap.Ns ce.locals m from hn), fun h6 sb => ?_⟩
      obtain ⟨g0, g1, g2, g3, g4, g5⟩ := I3.fpOk (Nat.le_refl _) nC
      exact ⟨.ref D, H5, I7.turned (t' := s6.toks) (fun b o hb z => (sb.2 b hb).trans z) g0 g1 g3 g4 g5, rfl, qq⟩
    · refine thnF (T.item (X.blk s3 H3 scope ce fp) rfl rfl rfl hc i [] s5 _ H5 (fun _ _ => False) I5 (stat I5 n5) st5 go) fun r s6 ⟨u, hr, h6⟩ => ?_
      subst hr
      refine thnF h6 fun _ s7 ⟨x, H7, I7, r7, y7, st7, n7⟩ => ?_
      refine thnF (pg.run _ s7 _ H7 x u _ (I7.pinned (stat I7 n7) (T.obj _ _ st7)) r7 (step x H7 y7)) fun _ s8 ⟨σ8, H8, I8, hw8, q8⟩ => ?_
      refine thnF (pt.run _ s8 σ8 H8 _ I8 q8) fun b s9 ⟨H9, I9, q9⟩ => ?_
      have fin : ∀ {sz : Shared} {Hz : Hp}, Inv (X.blk s3 H3 scope ce fp) ([] ++ pinsAt fp s7.heap) σ8 Hz sz → Nx Hz → ∃ m, m < n ∧ ∃ i H', Inv (X.blk s3 H3 scope ce fp) [] (wipe σ (own.map (·.2))) H' sz ∧ tn i sz.heap ∧ (∀ b ∈ fp, H' b = none) ∧ W i m H' := by
        intro sz Hz Iz nx
        obtain ⟨m1, lt, w1⟩ := hNx Hz nx
        have pin : ∀ b ∈ fp, ∀ o, s7.heap.get? b = some o → sz.heap.get? b = some o ∧ Hz b = none := fun b hb o z =>
          let y := Iz.pin (b, o) (List.mem_append_right _ (List.mem_append_right _ (mem_pinsAt hb z))); ⟨y.1, y.2.1⟩
        refine ⟨m1, lt, i + 1, Hz, (Iz.unpinned (pins := [])).weak (by rw [← hw8, wipe_length]) (fun j v z => ?_), T.keep _ _ _ st7 fun b hb o z => (pin b hb o z).1, fun b hb => ?_, w1⟩
        · exact (wipe_some (hw8 ▸ z)).1
        · obtain ⟨o, z, _⟩ := T.obj _ _ st7 b hb
          exact (pin b hb o z).2
      cases b with
      | false => simpa using fin I9 (by simpa using q9)
      | true =>
        simp only [if_true] at q9 ⊢
        refine thnF (pe.run _ s9 σ8 H9 _ I9 q9) fun z s10 ⟨yv, H10, I10, r10, kb, S0, n0, ey, hD10, hz10, nx⟩ => ?_
        subst ey
        exact seTO_add (X := X.blk s3 H3 scope ce fp) I10 hD10 hz10 r10 fun s11 I11 => fin I11 nx
  exact PpSet.codeAny_compStart_set loop (T.self X.A 0 _ _ _ st4 loop)
end
end DD
end

section
set_option Elab.async false
set_option linter.all false
set_option maxRecDepth 100000
set_option maxHeartbeats 2000000
/-! sorted({y for target in iter if ..}), y texts -/
namespace DD
open PySem PySem.Spec PyProof.Rows L2
/-! ### a set's object is no other's -/
theorem seTO_eq {P : Program} {w : World} {a : Addr} {S : Key → Bool} {n : Nat} {p : Heap → Prop} (e : SeTO P w a S n = .ext p) (h : Heap) (q : p h) : ∃ o es ep t, h.get? a = some o ∧ o.data = .set es ep t := by
  unfold SeTO at e
  injection e with e
  rw [← e] at q
  obtain ⟨o, es, ep, t, h1, _, h2, _⟩ := q
  exact ⟨o, es, ep, t, h1, h2⟩
theorem get_rep {o : Obj} {a : Addr} (k : o.data ≠ .freed) : ({ objs := Array.replicate (a + 1) o } : Heap).get? a = some o := by
  unfold Heap.get?
  have z : ({ objs := Array.replicate (a + 1) o } : Heap).objs[a]? = some o := by simp
  rw [z]
  cases o with
  | mk c d x s => cases x <;> first | rfl | exact absurd rfl k
theorem seTO_ne_code {P : Program} {w : World} {a : Addr} {S : Key → Bool} {n : Nat} {q : Str} : SeTO P w a S n ≠ LamX.CodeO a q := fun e => by
  let ob : Obj := { cls := .type "code", data := .fields #[.none, .str q 0] }
  have k : ob.data ≠ .freed := by intro z; cases z
  obtain ⟨o, es, ep, t, h1, h2⟩ := seTO_eq (p := _) e { objs := Array.replicate (a + 1) ob } ⟨ob, #[.none, .str q 0], 0, get_rep k, rfl, rfl⟩
  rw [get_rep k] at h1
  cases h1
  cases h2
theorem seTO_ne_lam {P : Program} {w : World} {a : Addr} {S : Key → Bool} {n : Nat} {q : Str} {ps : Arguments} {b : Expr} {sc : Scope} {pm : Value} {c : Addr} {ct : Value} : SeTO P w a S n ≠ LamO a q ps b sc pm c ct := fun e => by
  have k : (PySem.W.kla_obj "<lambda>" q ps b sc [] pm c ct).data ≠ .freed := by intro z; cases z
  obtain ⟨o, es, ep, t, h1, h2⟩ := seTO_eq (p := _) e { objs := Array.replicate (a + 1) (PySem.W.kla_obj "<lambda>" q ps b sc [] pm c ct) } (get_rep k)
  rw [get_rep k] at h1
  cases h1
  cases h2
section
variable {P : Program} {w : World} {g : G} {α α' : List Addr} {H H' : Hp} {h : AH} {da : Addr} {S S' : Key → Bool} {n n' : Nat} {u : HO} {W : WX} {σ : L2.St} {Q : VK}
theorem Ext.putNew (e : Ext α H α' H') (hD : H da = none) : Ext α H α' (upd H' da u) := by
  have n1 : ∀ {b : Addr} {x : HO}, H b = some x → b ≠ da := fun q z => by rw [z, hD] at q; cases q
  refine ⟨e.pre, fun b xs r => ?_, fun b o xs q => by rw [upd_ne (n1 q)]; exact e.frl b o xs q, fun b p q => by rw [upd_ne (n1 q)]; exact e.ext b p q⟩
  have hb : b ≠ da := by
    rcases r with r | ⟨o, r⟩ <;> exact n1 r
  have z := e.tup b xs r
  rcases z with z | ⟨o, z⟩
  · exact .inl (by rw [upd_ne hb]; exact z)
  · exact .inr ⟨o, by rw [upd_ne hb]; exact z⟩
theorem Rep.putSet (R : Rep g α h H) (hD : H da = some (SeTO P w da S n)) : Rep g α h (upd H da (SeTO P w da S' n')) := by
  have nd : ∀ {b : Addr} {q : Str}, H b = some (LamX.CodeO b q) → b ≠ da := fun {b q} z e => by
    subst e
    rw [hD] at z
    exact seTO_ne_code (Option.some.inj z)
  have nc : ∀ {b : Addr} {q : Str}, H b = some (LamX.CodeO b q) → upd H da (SeTO P w da S' n') b = some (LamX.CodeO b q) := fun z => by rw [upd_ne (nd z)]; exact z
  have ew : ExtW α H α (upd H da (SeTO P w da S' n')) := by
    refine ⟨fun _ _ z => z, fun b xs r => ?_, fun b o xs q => ?_, fun c q z => nc z⟩
    · rcases r with r | ⟨o, r⟩
      · have hb : b ≠ da := fun z => by rw [z, hD] at r; cases r
        exact .inl (by rw [upd_ne hb]; exact r)
      · have hb : b ≠ da := fun z => by rw [z, hD] at r; cases r
        exact .inr ⟨o, by rw [upd_ne hb]; exact r⟩
    · have hb : b ≠ da := fun z => by rw [z, hD] at q; cases q
      rw [upd_ne hb]; exact q
  refine ⟨R.len, R.nd, fun p hp => ?_, fun l o a h1 h2 => ?_⟩
  · obtain ⟨ps, t1, t2, t3⟩ := R.tabs p hp
    have hb : p.1 ≠ da := fun z => by rw [z, hD] at t1; cases t1
    refine ⟨ps, by rw [upd_ne hb]; exact t1, t2, fun pos cv hc => ?_⟩
    obtain ⟨c, c1, c2⟩ := t3 pos cv hc
    exact ⟨c, c1, nc c2⟩
  · have x := R.ob l o a h1 h2
    refine x.extW ew (upd_ne fun z => ?_)
    subst z
    cases o with
    | lst ds => obtain ⟨vs, q, _⟩ := x; rw [hD] at q; cases q
    | dct ds => obtain ⟨vs, q, _⟩ := x; rw [hD] at q; cases q
    | ins c fs => obtain ⟨dx, vs, q, _⟩ := x; rw [hD] at q; cases q
    | lam i => obtain ⟨I, pm, c, ct, _, q, _⟩ := x; rw [hD] at q; exact seTO_ne_lam (Option.some.inj q)
theorem PostE.bindB {αb : List Addr} {Hb : Hp} {o : EO} {f : D → AH → EO} (p : PostE g W αb Hb σ Q (o.bind f)) (e : Ext αb Hb α H) :
    PostE g W α H σ (fun v H1 => ∃ α1 d h1, Ext α H α1 H1 ∧ Rep g α1 h1 H1 ∧ Den g α1 H1 d v ∧ PostE g W αb Hb σ Q (f d h1)) o := by
  cases o with
  | ok d h => exact fun α2 H2 v e2 r dd => ⟨α2, d, h, e2, r, dd, p⟩
  | exc c h => exact fun α2 H2 e2 r => p α2 H2 (e.trans e2) r
  | bad => exact p
end
/-! ### sorted -/
section
variable {P : Program} {w : World} {A : Around} {E : Value → Shared → Prop} {s : Shared} {a : Addr} {S : Key → Bool} {n : Nat}
theorem strs_each : ∀ (l : List Value), (∀ v ∈ l, ∃ x t, v = Value.str x t) → StrsAre l (l.map strOf) := strsAre_map
theorem sorted_texts {Q : Value → Shared → Prop} (R : SeT P w s.heap a S n) (hh : A.handled = none) (h64 : n < 64) (ht : ∀ k, S k = true → ∃ x, k = .inr x)
    (hQ : ∀ s1 p (out : Array Value) (c : Nat) (ys : List Str), (∀ b o, s.heap.get? b = some o → s1.heap.get? b = some o) → s1.gens = s.gens → s1.os = s.os → s.heap.objs.size ≤ p → s1.heap.get? p = some (seqObj "list" out c) → StrsAre out.toList ys →
      sortedS ys = true → ys.Nodup → (∀ x, x ∈ ys ↔ S (.inr x) = true) → ys.length = n → Q (.ref p) s1) : wpAny (model P w) A (call (.builtin "sorted") [.ref a]) Q E s := by
  obtain ⟨o, es, ep, t, ho, hex, hd, i, hn⟩ := R
  refine Calls.call_function_entry kind_sorted plain_sorted entry_sorted (args_sorted1 _) ?_
  unfold Builtin.«sorted»
  refine wpAny_bind (m := checkCount "sorted" 1 1 _) (wpAny_pure (wpAny_bind (collect_set (A := A.in1) hh ⟨o, ho, hex.1, hd⟩ i.fit i.few i.ris i.ord fun s1 vs k1 hz g1 o1 pm => ?_)))
  have lv : vs.length = n := by rw [pm.length_eq, List.length_map, Array.length_toList]; exact hn
  have hv : ∀ v ∈ vs, ∃ x u, v = Value.str x u := fun v m => by
    obtain ⟨e, he, q⟩ := List.mem_map.mp (pm.mem_iff.mp m)
    obtain ⟨⟨k, hk, _⟩, _⟩ := i.el e he
    obtain ⟨x, rfl⟩ := ht k (i.has he hk)
    obtain ⟨u, z⟩ := Value.isStrOf_shape (x := x) (v := e.2) hk
    exact ⟨x, u, by rw [← q, z]⟩
  have hS := strsAre_map vs hv
  have pk : (vs.map strOf).map Sum.inr = vs.map kyV := by
    rw [List.map_map]
    refine List.map_congr_left fun v m => ?_
    obtain ⟨x, u, rfl⟩ := hv v m
    rfl
  have pk2 : (vs.map kyV).Perm (kys es) := by
    have := pm.map kyV
    rw [List.map_map] at this
    exact this
  refine wpAny_bind (wpAny_newList ?_ (by rw [lv, sizeLine_eq]; omega))
  have oL : (s1.heap.push (seqObj "list" vs.toArray 0)).get? s1.heap.objs.size = some (seqObj "list" vs.toArray 0) := Heap.get?_push_size _ rfl
  refine wpAny_bind (wpAny_holding (wpAny_call_entry slot_list_sort ⟨_, oL, rfl⟩ entry_list_sort
    (list_sort_treeK strKind_oneLt oL hS.keysOf (fun v1 v2 rest e => keyKind_strs (by rw [← e]; exact hS)) (by rw [lv]; exact h64) fun st' hp hs => ⟨_, rfl, ?_⟩) (args_list_sort _)))
  obtain ⟨ys, g2, g3, g4⟩ := sorted_out_str hS hp hs
  obtain ⟨c, hc⟩ := sortedHeap_at (vs := vs) (out := (arrOf st').map (·.2)) oL
  have py : (ys.map Sum.inr).Perm (kys es) := by
    have := g3.map (Sum.inr : Str → Key)
    rw [pk] at this
    exact this.trans pk2
  refine wpAny_pure ⟨_, rfl, hQ _ s1.heap.objs.size ((arrOf st').map (·.2)) c ys (fun b u e => ?_) g1 o1 hz hc (by simpa using g2) g4 ?_ (fun x => ?_) ?_⟩
  · have q := k1 b u e
    have lt := Heap.lt_size q
    show (sortedHeap (s1.heap.push (seqObj "list" vs.toArray 0)) s1.heap.objs.size vs _).get? b = some u
    rw [sortedHeap_old (Nat.ne_of_lt lt) (by rw [size_push']; exact Nat.lt_succ_of_lt lt)]
    exact Heap.get?_push_of_some _ q
  · have := py.nodup_iff.mpr i.nd
    exact (List.pairwise_map.mp this).imp fun h e => h (congrArg _ e)
  · rw [i.mem, ← py.mem_iff]
    constructor
    · intro q; exact List.mem_map.mpr ⟨x, q, rfl⟩
    · intro q
      obtain ⟨y, hy, e⟩ := List.mem_map.mp q
      rw [← Sum.inr.inj e]; exact hy
  · have := py.length_eq
    rw [List.length_map] at this
    rw [this, ← hn]
    simp [kys]
/-- sorted(found), texts, fewer than 64 -/
def rSortSe (P : Program) (w : World) : List V → Hp → VK → Prop := fun vs H Q => ∃ (a : Addr) (S : Key → Bool) (n : Nat), vs = [V.ref a] ∧ H a = some (SeTO P w a S n) ∧ n < 64 ∧ (∀ k, S k = true → ∃ x, k = .inr x) ∧
  ∀ (ys : List Str) (p : Addr), sortedS ys = true → ys.Nodup → (∀ x, x ∈ ys ↔ S (.inr x) = true) → H p = none → Q (.ref p) (upd H p (.lst (ys.map V.str)))
theorem cr_sortSe {X : Cx} (hc : X.calm = true) : CallR X (.builtin "sorted") (rSortSe X.prog X.w) := by
  intro pins s σ H vs us Q I r h
  obtain ⟨a, S, n, rfl, ha, h64, ht, q⟩ := h
  rw [Vals.ref1 r]
  refine sorted_texts (seTO_at I ha) (I.ok.hd hc) h64 ht fun s1 p out c ys k g o hp hg hi hs hd hm hl => ?_
  have hn : H p = none := I.hok.fresh hp
  have J : Inv X pins σ (upd H p (.lst (ys.map V.str))) { s with heap := s1.heap, gens := s1.gens, drawn := s1.drawn, toks := s1.toks } :=
    I.call (ch := []) (Un.laid k hp hn) (I.hok.laid k hp ⟨by rw [List.length_map, hl, sizeLine_eq]; omega, out.toList, c, vals_of_strs hi, hg⟩) (by rw [g]; exact I.bare) (fun _ z => nomatch z)
  have e : s1 = { s with heap := s1.heap, gens := s1.gens, drawn := s1.drawn, toks := s1.toks } := by
    cases s1
    cases s
    cases o
    rfl
  rw [e]
  exact ⟨.ref p, _, J, rfl, q ys p hs hd hm hn⟩
end
end DD
end

section
set_option Elab.async false
set_option linter.all false
set_option maxRecDepth 100000
set_option maxHeartbeats 2000000
/-! sorted({y for target in iter if ..}), y texts: the mirror -/
namespace DD
open PySem L2
def addT (acc : List Str) (x : Str) : List Str := if x ∈ acc then acc else acc ++ [x]
def scLoop (live : AH → Bool) (f : TM) (mc : Option EM) (me : EM) (own : List Nat) (τ : SL) : List D → List Str → AH → EO
  | [], acc => fun h => if live h = true ∧ acc.length < 64 then newL ((sortT acc).map D.str) h else .bad
  | d :: ds, acc => fun h => if live h = true then match f d (wipeD τ own) h with
    | .nx τ1 h1 => (match mc with
      | none => EO.ok (.bl true) h1
      | some c => c τ1 h1).bind fun k h2 => match k with
        | .bl true => (me τ1 h2).bind fun y h3 => match y with
          | .str x => if acc.length < 64 then scLoop live f mc me own τ ds (addT acc x) h3 else .bad
          | _ => .bad
        | .bl false => scLoop live f mc me own τ ds acc h2
        | _ => .bad
    | _ => .bad else .bad
def scM (e : EM) (items : D → AH → Option (List D × (AH → Bool))) (f : TM) (mc : Option EM) (me : EM) (own : List Nat) : EM := fun τ h => (e τ h).bind fun d h1 => match items d h1 with
  | some (ds, live) => scLoop live f mc me own τ ds [] h1
  | none => .bad
def scQ (e : EM) (items : D → AH → Option (List D × (AH → Bool))) (f : TM) (mc : Option EM) (me : EM) (own : List Nat) : EM := fun τ h => noexc (scM e items f mc me own τ h)
def inAcc (acc : List Str) : Key → Bool
  | .inr x => decide (x ∈ acc)
  | .inl _ => false
theorem inAcc_add (acc : List Str) (x : Str) : inAcc (addT acc x) = fun j => inAcc acc j || decide (j = .inr x) := by
  funext j
  cases j with
  | inl i => rfl
  | inr y =>
    rw [key_rr]
    show decide (y ∈ addT acc x) = (decide (y ∈ acc) || decide (y = x))
    unfold addT
    by_cases h : x ∈ acc
    · rw [if_pos h]
      by_cases e : y = x
      · subst e; simp [h]
      · simp [e]
    · rw [if_neg h]
      by_cases e : y = x
      · subst e; simp
      · simp [e]
theorem addT_len (acc : List Str) (x : Str) : (addT acc x).length = if inAcc acc (.inr x) = true then acc.length else acc.length + 1 := by
  unfold addT inAcc
  by_cases h : x ∈ acc <;> simp [h]
theorem addT_nd {acc : List Str} (x : Str) (h : acc.Nodup) : (addT acc x).Nodup := by
  unfold addT
  split
  · exact h
  · rename_i q
    rw [List.nodup_append]
    refine ⟨h, by simp, fun a ha b hb => ?_⟩
    rw [List.mem_singleton] at hb
    subst hb
    exact fun e => q (e ▸ ha)
section
variable {X : Cx} {g : G} {W : WX} {a b c e o y : Expr} {ma mb mo me : EM} {mc : Option EM} {pos p p2 : Pos} {σ : L2.St} {H H' : Hp} {Q : VK} {α α' : List Addr} {τ : SL} {tg iter : Expr} {ifs : List Expr} {scope : Scope} {own : List (Str × Nat)} {wi : TI} {t : TG} {f : TM} {items : D → AH → Option (List D × (AH → Bool))} {h : AH} {P : Program} {w : World}
theorem tE_sc (io : IterOk g W0 wi ma items) (rg : ∀ W, RG g W t f) (gf : Goes f) (ot : OwnT t (own.map (·.2))) (q : tE g W (fun τ h => noexc (scM ma items f mc me (own.map (·.2)) τ h)) σ H Q) :
    tScK P w wi t (tTs g W0 mc) (tE g W0 me) (own.map (·.2)) σ H fun v H1 => rSortSe P w [v] H1 Q := by
  unfold tScK
  refine io σ H _ ?_
  obtain ⟨α, h, τ, R, s, q⟩ := q
  have q := PostE.noexc q
  refine ⟨α, h, τ, R, s, ?_⟩
  unfold scM at q
  cases e0 : ma τ h with
  | exc c h1 => rw [e0] at q; exact q
  | bad => rw [e0] at q; exact q
  | ok d h1 =>
    rw [e0] at q
    intro α1 H1 E1 R1 _
    have p1 := PostE.mono q E1
    simp only [EO.bind] at p1
    obtain ⟨⟨ds, live⟩, hit⟩ : ∃ dl, items d h1 = some dl := by
      cases hit : items d h1 with
      | none => rw [hit] at p1; exact p1.elim
      | some dl => exact ⟨dl, rfl⟩
    rw [hit] at p1
    refine ⟨ds, live, hit, fun J wk => ?_⟩
    obtain ⟨stop, go, yld⟩ := wk
    intro L hD
    refine ⟨fun i m H' => m = ds.length - i ∧ ∃ acc α' h', acc.Nodup ∧ H' L = some (SeTO P w L (inAcc acc) acc.length) ∧ Ext α1 H1 α' H' ∧ Rep g α' h' H' ∧ PostE g W0 α1 H1 σ Q (scLoop live f mc me (own.map (·.2)) τ (ds.drop i) acc h'), ⟨ds.length, by simp, [], α1, h1, .nil, ?_, Ext.refl.putNew hD, R1.new hD, p1⟩, ?_⟩
    · rw [upd_same, show inAcc [] = fun _ => false from funext fun j => by cases j <;> simp [inAcc]]
      rfl
    rintro i m H' ⟨rfl, acc, α', h', nd, hL, EE, R', p'⟩
    by_cases hi : i < ds.length
    · have hd : ds.drop i = ds[i] :: ds.drop (i + 1) := by rw [List.drop_eq_getElem_cons hi]
      have hg : ds[i]? = some ds[i] := List.getElem?_eq_getElem hi
      rw [hd] at p'
      simp only [scLoop] at p'
      split at p'
      · rename_i hl
        refine .inr ⟨go α' H' h' EE R' hl i _ hg, fun H3 => ∃ acc α' h', acc.Nodup ∧ H3 L = some (SeTO P w L (inAcc acc) acc.length) ∧ Ext α1 H1 α' H3 ∧ Rep g α' h' H3 ∧ PostE g W0 α1 H1 σ Q (scLoop live f mc me (own.map (·.2)) τ (ds.drop (i + 1)) acc h'), fun H3 w => ⟨ds.length - (i + 1), by omega, rfl, w⟩, fun x H3 hy => ?_⟩
        obtain ⟨E3, R3, D3⟩ := yld α' H' h' x H3 EE R' hl i _ hg hy
        have s3 : DenS g α' H3 (wipeD τ (own.map (·.2))) (wipe σ (own.map (·.2))) := wipe_wipeD (((s.ext E1).ext EE).ext E3) _
        split at p'
        · rename_i τ4 h4 e4
          refine ot x _ H3 _ (rg W0 α' h' H3 _ _ x _ _ R3 s3 D3 ?_)
          rw [e4]
          intro α4 H4 σ4 E4 R4 s4 hw
          rw [wipe_wipe] at hw
          have E14 := (EE.trans E3).trans E4
          have hL4 := E4.ext L _ (E3.ext L _ hL)
          refine ⟨hw, ?_⟩
          have fin : ∀ (k : Bool) (α5 : List Addr) (h5 : AH) (H5 : Hp), Ext α4 H4 α5 H5 → Rep g α5 h5 H5 → PostE g W0 α1 H1 σ Q (match D.bl k with
              | .bl true => (me τ4 h5).bind fun y h3 => match y with
                | .str x => if acc.length < 64 then scLoop live f mc me (own.map (·.2)) τ (ds.drop (i + 1)) (addT acc x) h3 else .bad
                | _ => .bad
              | .bl false => scLoop live f mc me (own.map (·.2)) τ (ds.drop (i + 1)) acc h5
              | _ => .bad) → (if k = true then tE g W0 me σ4 H5 fun y H4 => ∃ (k : Key) (S : Key → Bool) (n : Nat), y = kV k ∧ H4 L = some (SeTO P w L S n) ∧ n + 1 < scanBound ∧ ∃ acc α' h', acc.Nodup ∧ (upd H4 L (SeTO P w L (fun j => S j || decide (j = k)) (if S k = true then n else n + 1))) L = some (SeTO P w L (inAcc acc) acc.length) ∧
                  Ext α1 H1 α' (upd H4 L (SeTO P w L (fun j => S j || decide (j = k)) (if S k = true then n else n + 1))) ∧ Rep g α' h' (upd H4 L (SeTO P w L (fun j => S j || decide (j = k)) (if S k = true then n else n + 1))) ∧ PostE g W0 α1 H1 σ Q (scLoop live f mc me (own.map (·.2)) τ (ds.drop (i + 1)) acc h')
              else ∃ acc α' h', acc.Nodup ∧ H5 L = some (SeTO P w L (inAcc acc) acc.length) ∧ Ext α1 H1 α' H5 ∧ Rep g α' h' H5 ∧ PostE g W0 α1 H1 σ Q (scLoop live f mc me (own.map (·.2)) τ (ds.drop (i + 1)) acc h')) := by
            intro k α5 h5 H5 E5 R5 p5
            cases k with
            | false => exact iteF ⟨acc, α5, h5, nd, E5.ext L _ hL4, E14.trans E5, R5, p5⟩
            | true =>
              refine iteT ⟨α5, h5, τ4, R5, s4.ext E5, PostE.imp (PostE.bindB p5 (E14.trans E5)) ?_⟩
              rintro y H6 ⟨α6, dy, h6, E6, R6, D6, p6⟩
              cases D6 <;> try exact False.elim p6
              rename_i x
              simp only at p6
              split at p6
              · rename_i hz
                have hL6 := E6.ext L _ (E5.ext L _ hL4)
                refine ⟨.inr x, inAcc acc, acc.length, rfl, hL6, by rw [show scanBound = scanBound from rfl]; exact Nat.lt_of_le_of_lt (by omega : acc.length + 1 ≤ 64) (by decide), addT acc x, α6, h6, addT_nd x nd, ?_, ((E14.trans E5).trans E6).putNew hD, R6.putSet hL6, p6⟩
                rw [upd_same, inAcc_add, addT_len]
              · exact p6.elim
          cases mc with
          | none => exact fin true α4 h4 H4 .refl R4 p'
          | some c =>
            show tT g W0 c σ4 H4 _
            refine ⟨α4, h4, τ4, R4, s4, PostE.imp (PostE.bindB p' E14) ?_⟩
            rintro z H5 ⟨α5, dz, h5, E5, R5, D5, p5⟩
            cases D5 <;> try exact False.elim p5
            rename_i k
            exact ⟨k, rfl, fin k α5 h5 H5 E5 R5 p5⟩
        · exact p'.elim
      · exact p'.elim
    · have hd : ds.drop i = [] := List.drop_eq_nil_of_le (by omega)
      rw [hd] at p'
      simp only [scLoop] at p'
      split at p'
      · rename_i hl
        refine .inl ⟨stop α' H' h' EE R' hl.1 i (by omega), L, inAcc acc, acc.length, rfl, hL, hl.2, fun k hk => ?_, fun ys z st ny hm hz => ?_⟩
        · cases k with
          | inl i => cases hk
          | inr x => exact ⟨x, rfl⟩
        · have pm : ys.Perm acc := (List.perm_ext_iff_of_nodup ny nd).mpr fun x => by rw [hm x]; simp [inAcc]
          rw [sortT_eq pm st]
          exact newL_post R' (fun _ _ => den_strs _) (PostE.mono p' EE) hz
      · exact p'.elim
end
end DD
namespace DD
open PySem L2
section
variable {X : Cx} {g : G} {W : WX} {y : Expr} {ma me : EM} {mc : Option EM} {pos p p2 : Pos} {tg iter : Expr} {ifs : List Expr} {scope : Scope} {own : List (Str × Nat)} {wi : TI} {t : TG} {f : TM} {items : D → AH → Option (List D × (AH → Bool))}
theorem de_sortSc (hc : X.calm = true) (hN : X.N.Nodup) (hi : PI X tg iter wi) (io : IterOk g W0 wi ma items) (ok : BlkOk X.N X.env.scope scope own) (rg : ∀ W, RG g W t f) (gf : Goes f) (ot : OwnT t (own.map (·.2)))
    (hg : ∀ (s : Shared) (H : Hp) (C : Addr) (cl : List (Str × Addr)) (fp : List Addr), PG (X.blk s H scope (compEnvC scope cl C X.env) fp) tg t) (ht : ∀ (s : Shared) (H : Hp) (C : Addr) (cl : List (Str × Addr)) (fp : List Addr), PTs (X.blk s H scope (compEnvC scope cl C X.env) fp) ifs (tTs g W0 mc))
    (hy : ∀ (s : Shared) (H : Hp) (C : Addr) (cl : List (Str × Addr)) (fp : List Addr), PE (X.blk s H scope (compEnvC scope cl C X.env) fp) y (tE g W0 me)) (hgl : Gl X "sorted") (hm : X.mg "sorted" = none) (hv : bootBuiltins "sorted" = some (.builtin "sorted"))
    (hs : ∀ x, foldedSetIterable iter X.env x = pure x := by intro _; rfl) (he : starEach [Expr.SetComp y [⟨tg, iter, ifs, 0⟩] scope p2] X.env = (false, eval (.SetComp y [⟨tg, iter, ifs, 0⟩] scope p2) X.env) :: starEach [] X.env := by rfl) (hpl : (backTo pos (starEach [] X.env)).any (·.1) = false := by rfl) :
    PE X (.Call (.Name "sorted" p) [.SetComp y [⟨tg, iter, ifs, 0⟩] scope p2] [] pos) (tE g W (scQ ma items f mc me (own.map (·.2)))) :=
  PE.imp (pe_callB (cr_sortSe hc) hgl hm hv (pa_cons (setComp_run hc hN hi ok hg ht hy hs) pa_nil he) (by decide) (by decide) he hpl) fun _ _ _ q => tE_sc io rg gf ot q
end
end DD
end

section
set_option Elab.async false
set_option linter.all false
set_option maxRecDepth 100000
set_option maxHeartbeats 0
namespace K08
open PySem L2 DD
def top (i : Nat) : Stmt := PySem.Challenge.pw_shardstack_k08_who_hears_of_whom.main.body.getD i (.Pass ⟨0, 0, 0, 0⟩)
abbrev s_View_init : Stmt := inClass (top 9) 0
abbrev s_View_tick : Stmt := inClass (top 9) 1
abbrev s_View_news : Stmt := inClass (top 9) 2
abbrev s_View_hear : Stmt := inClass (top 9) 3
abbrev s_View_known_count : Stmt := inClass (top 9) 4
abbrev s_View_state_of : Stmt := inClass (top 9) 5
abbrev s_View_names_in : Stmt := inClass (top 9) 6
abbrev s_View_forget_dead : Stmt := inClass (top 9) 7
abbrev s_Crowd_init : Stmt := inClass (top 10) 0
abbrev s_Crowd_partner : Stmt := inClass (top 10) 1
abbrev s_Crowd_names_up : Stmt := inClass (top 10) 2
abbrev s_Crowd_tell_round : Stmt := inClass (top 10) 3
abbrev s_Crowd_set_down : Stmt := inClass (top 10) 4
abbrev s_Crowd_agree_on : Stmt := inClass (top 10) 5
abbrev s__law_dice : Stmt := top 12
abbrev s__law_roll : Stmt := top 13
abbrev s__law_rounds : Stmt := top 14
abbrev s__law_told : Stmt := top 15
abbrev s__law_state : Stmt := top 16
abbrev s__law_hear : Stmt := top 17
abbrev s__law_news : Stmt := top 18
abbrev s_law : Stmt := top 19
abbrev g_ALIVE : Str := "alive"
abbrev g_SUSPECT : Str := "suspect"
abbrev g_DEAD : Str := "dead"
def dd_View_init : He.DefD := ⟨("View", some "__init__"), "__init__", "View.__init__", defArgs s_View_init, defBody s_View_init, defScope s_View_init, [], []⟩
def dd_View_tick : He.DefD := ⟨("View", some "tick"), "tick", "View.tick", defArgs s_View_tick, defBody s_View_tick, defScope s_View_tick, [], []⟩
def dd_View_news : He.DefD := ⟨("View", some "news"), "news", "View.news", defArgs s_View_news, defBody s_View_news, defScope s_View_news, [], []⟩
def dd_View_hear : He.DefD := ⟨("View", some "hear"), "hear", "View.hear", defArgs s_View_hear, defBody s_View_hear, defScope s_View_hear, [], []⟩
def dd_View_known_count : He.DefD := ⟨("View", some "known_count"), "known_count", "View.known_count", defArgs s_View_known_count, defBody s_View_known_count, defScope s_View_known_count, [], []⟩
def dd_View_state_of : He.DefD := ⟨("View", some "state_of"), "state_of", "View.state_of", defArgs s_View_state_of, defBody s_View_state_of, defScope s_View_state_of, [], []⟩
def dd_View_names_in : He.DefD := ⟨("View", some "names_in"), "names_in", "View.names_in", defArgs s_View_names_in, defBody s_View_names_in, defScope s_View_names_in, [], []⟩
def dd_View_forget_dead : He.DefD := ⟨("View", some "forget_dead"), "forget_dead", "View.forget_dead", defArgs s_View_forget_dead, defBody s_View_forget_dead, defScope s_View_forget_dead, [], []⟩
def dd_Crowd_init : He.DefD := ⟨("Crowd", some "__init__"), "__init__", "Crowd.__init__", defArgs s_Crowd_init, defBody s_Crowd_init, defScope s_Crowd_init, [.int 1], []⟩
def dd_Crowd_partner : He.DefD := ⟨("Crowd", some "partner"), "partner", "Crowd.partner", defArgs s_Crowd_partner, defBody s_Crowd_partner, defScope s_Crowd_partner, [], []⟩
def dd_Crowd_names_up : He.DefD := ⟨("Crowd", some "names_up"), "names_up", "Crowd.names_up", defArgs s_Crowd_names_up, defBody s_Crowd_names_up, defScope s_Crowd_names_up, [], []⟩
def dd_Crowd_tell_round : He.DefD := ⟨("Crowd", some "tell_round"), "tell_round", "Crowd.tell_round", defArgs s_Crowd_tell_round, defBody s_Crowd_tell_round, defScope s_Crowd_tell_round, [], []⟩
def dd_Crowd_set_down : He.DefD := ⟨("Crowd", some "set_down"), "set_down", "Crowd.set_down", defArgs s_Crowd_set_down, defBody s_Crowd_set_down, defScope s_Crowd_set_down, [], []⟩
def dd_Crowd_agree_on : He.DefD := ⟨("Crowd", some "agree_on"), "agree_on", "Crowd.agree_on", defArgs s_Crowd_agree_on, defBody s_Crowd_agree_on, defScope s_Crowd_agree_on, [], []⟩
def dd__law_dice : He.DefD := ⟨("_law_dice", none), "_law_dice", "_law_dice", defArgs s__law_dice, defBody s__law_dice, defScope s__law_dice, [], []⟩
def dd__law_roll : He.DefD := ⟨("_law_roll", none), "_law_roll", "_law_roll", defArgs s__law_roll, defBody s__law_roll, defScope s__law_roll, [], []⟩
def dd__law_rounds : He.DefD := ⟨("_law_rounds", none), "_law_rounds", "_law_rounds", defArgs s__law_rounds, defBody s__law_rounds, defScope s__law_rounds, [], []⟩
def dd__law_told : He.DefD := ⟨("_law_told", none), "_law_told", "_law_told", defArgs s__law_told, defBody s__law_told, defScope s__law_told, [], []⟩
def dd__law_state : He.DefD := ⟨("_law_state", none), "_law_state", "_law_state", defArgs s__law_state, defBody s__law_state, defScope s__law_state, [], []⟩
def dd__law_hear : He.DefD := ⟨("_law_hear", none), "_law_hear", "_law_hear", defArgs s__law_hear, defBody s__law_hear, defScope s__law_hear, [], []⟩
def dd__law_news : He.DefD := ⟨("_law_news", none), "_law_news", "_law_news", defArgs s__law_news, defBody s__law_news, defScope s__law_news, [], []⟩
def dd_law : He.DefD := ⟨("law", none), "law", "law", defArgs s_law, defBody s_law, defScope s_law, [], []⟩
def ci_MachineError : Nat → Option Bool
  | 0 => some true
  | _ => none
def cs_down : List Nat := [2]
def cs_forgotten : List Nat := [1]
def cs_name : List Nat := [1]
def cs_rows : List Nat := [1]
def cs_time : List Nat := [1]
def cs_turn : List Nat := [2]
def cs_views : List Nat := [2]
def fn : List He.DefD := [dd_View_init, dd_View_tick, dd_View_news, dd_View_hear, dd_View_known_count, dd_View_state_of, dd_View_names_in, dd_View_forget_dead, dd_Crowd_init, dd_Crowd_partner, dd_Crowd_names_up, dd_Crowd_tell_round, dd_Crowd_set_down, dd_Crowd_agree_on, dd__law_dice, dd__law_roll, dd__law_rounds, dd__law_told, dd__law_state, dd__law_hear, dd__law_news, dd_law]
def fa : List He.Fa := [.mkr "View",
  .meth "View" "tick",
  .meth "View" "news",
  .meth "View" "hear",
  .meth "View" "known_count",
  .meth "View" "state_of",
  .meth "View" "names_in",
  .meth "View" "forget_dead",
  .mkr "Crowd",
  .meth "Crowd" "partner",
  .meth "Crowd" "names_up",
  .meth "Crowd" "tell_round",
  .meth "Crowd" "set_down",
  .meth "Crowd" "agree_on",
  .glo "_law_dice",
  .glo "_law_roll",
  .glo "_law_rounds",
  .glo "_law_told",
  .glo "_law_state",
  .glo "_law_hear",
  .glo "_law_news",
  .glo "law",
  .str "ALIVE" g_ALIVE,
  .str "SUSPECT" g_SUSPECT,
  .str "DEAD" g_DEAD,
  .int "SUSPECT_TICKS" 6,
  .int "DEAD_TICKS" 15,
  .free "abs",
  .free "dict",
  .free "int",
  .free "len",
  .free "list",
  .free "range",
  .free "sorted",
  .free "tuple",
  .glo "MachineError",
  .exc "MachineError",
  .exm "MachineError" "MachineError" true,
  .glo "View",
  .cls "View",
  .glo "Crowd",
  .cls "Crowd",
  .noat "Crowd" "down",
  .noat "View" "forgotten",
  .noat "View" "name",
  .noat "View" "rows",
  .noat "View" "time",
  .noat "Crowd" "turn",
  .noat "Crowd" "views"]
def lams : List (Str × Option Str) := [("law", none)]
def gg (K : PySem.W.Frag) : G := ⟨K, fun i => match i with
  | 0 => He.ga K "MachineError"
  | 1 => He.ga K "View"
  | 2 => He.ga K "Crowd"
  | _ => 0, [(tabA K ("law", none), ("law" : Str) ++ ".<locals>." ++ "<lambda>")], fun _ => none⟩
/-- what the head has written -/
structure Cnd (K : PySem.W.Frag) (mg : Str → Option Value) (base : Heap) : Prop where
  c : He.SaysD fa fn K
  X : K.In base
  G : base.Ns mainGlobals mg
  tb : ∀ p ∈ lams, LamX.TabB base mg (codeA K p) (tabA K p)
  cd : ∀ p ∈ lams, ∀ x y par body sc dvs kws fd, FunD K x y par body sc dvs kws (He.fAd K p) fd → fd.code = .ref (codeA K p)
  nd : (lams.map (tabA K)).Nodup
section
variable {P : Program} {w : World} {K : PySem.W.Frag} {mg : Str → Option Value} {base : Heap}
theorem Cnd.def_View_init (C : Cnd K mg base) : FunD K "__init__" "View.__init__" (defArgs s_View_init) (defBody s_View_init) (defScope s_View_init) [] [] (He.fAd K ("View", some "__init__")) (fdA K ("View", some "__init__")) := fdA_ok (C.c.def_ 0 (d := dd_View_init) rfl)
theorem Cnd.b_View_init (C : Cnd K mg base) : Binds K (fdA K ("View", some "__init__")) ["self", "name", "names"] [] := C.def_View_init.bindsN fun _ _ _ _ _ _ us hl => match us, hl with | [_, _, _], _ => rfl
theorem Cnd.kp_View_init (C : Cnd K mg base) : PySem.W.keepIn K (.ref (He.fAd K ("View", some "__init__"))) = true := C.def_View_init.kp
theorem Cnd.mk_View (C : Cnd K mg base) : Mk K ((gg K).cl 1) (He.fAd K ("View", some "__init__")) := He.mkr_ok (C.c.fact 0 (f := .mkr "View") rfl)
theorem Cnd.def_View_tick (C : Cnd K mg base) : FunD K "tick" "View.tick" (defArgs s_View_tick) (defBody s_View_tick) (defScope s_View_tick) [] [] (He.fAd K ("View", some "tick")) (fdA K ("View", some "tick")) := fdA_ok (C.c.def_ 1 (d := dd_View_tick) rfl)
theorem Cnd.b_View_tick (C : Cnd K mg base) : Binds K (fdA K ("View", some "tick")) ["self"] [] := C.def_View_tick.bindsN fun _ _ _ _ _ _ us hl => match us, hl with | [_], _ => rfl
theorem Cnd.kp_View_tick (C : Cnd K mg base) : PySem.W.keepIn K (.ref (He.fAd K ("View", some "tick"))) = true := C.def_View_tick.kp
theorem Cnd.me_View_tick (C : Cnd K mg base) : Meth K ((gg K).cl 1) "tick" (He.fAd K ("View", some "tick")) := He.meth_ok (C.c.fact 1 (f := .meth "View" "tick") rfl)
theorem Cnd.def_View_news (C : Cnd K mg base) : FunD K "news" "View.news" (defArgs s_View_news) (defBody s_View_news) (defScope s_View_news) [] [] (He.fAd K ("View", some "news")) (fdA K ("View", some "news")) := fdA_ok (C.c.def_ 2 (d := dd_View_news) rfl)
theorem Cnd.b_View_news (C : Cnd K mg base) : Binds K (fdA K ("View", some "news")) ["self"] [] := C.def_View_news.bindsN fun _ _ _ _ _ _ us hl => match us, hl with | [_], _ => rfl
theorem Cnd.kp_View_news (C : Cnd K mg base) : PySem.W.keepIn K (.ref (He.fAd K ("View", some "news"))) = true := C.def_View_news.kp
theorem Cnd.me_View_news (C : Cnd K mg base) : Meth K ((gg K).cl 1) "news" (He.fAd K ("View", some "news")) := He.meth_ok (C.c.fact 2 (f := .meth "View" "news") rfl)
theorem Cnd.def_View_hear (C : Cnd K mg base) : FunD K "hear" "View.hear" (defArgs s_View_hear) (defBody s_View_hear) (defScope s_View_hear) [] [] (He.fAd K ("View", some "hear")) (fdA K ("View", some "hear")) := fdA_ok (C.c.def_ 3 (d := dd_View_hear) rfl)
theorem Cnd.b_View_hear (C : Cnd K mg base) : Binds K (fdA K ("View", some "hear")) ["self", "news"] [] := C.def_View_hear.bindsN fun _ _ _ _ _ _ us hl => match us, hl with | [_, _], _ => rfl
theorem Cnd.kp_View_hear (C : Cnd K mg base) : PySem.W.keepIn K (.ref (He.fAd K ("View", some "hear"))) = true := C.def_View_hear.kp
theorem Cnd.me_View_hear (C : Cnd K mg base) : Meth K ((gg K).cl 1) "hear" (He.fAd K ("View", some "hear")) := He.meth_ok (C.c.fact 3 (f := .meth "View" "hear") rfl)
theorem Cnd.def_View_known_count (C : Cnd K mg base) : FunD K "known_count" "View.known_count" (defArgs s_View_known_count) (defBody s_View_known_count) (defScope s_View_known_count) [] [] (He.fAd K ("View", some "known_count")) (fdA K ("View", some "known_count")) := fdA_ok (C.c.def_ 4 (d := dd_View_known_count) rfl)
theorem Cnd.b_View_known_count (C : Cnd K mg base) : Binds K (fdA K ("View", some "known_count")) ["self", "name"] [] := C.def_View_known_count.bindsN fun _ _ _ _ _ _ us hl => match us, hl with | [_, _], _ => rfl
theorem Cnd.kp_View_known_count (C : Cnd K mg base) : PySem.W.keepIn K (.ref (He.fAd K ("View", some "known_count"))) = true := C.def_View_known_count.kp
theorem Cnd.me_View_known_count (C : Cnd K mg base) : Meth K ((gg K).cl 1) "known_count" (He.fAd K ("View", some "known_count")) := He.meth_ok (C.c.fact 4 (f := .meth "View" "known_count") rfl)
theorem Cnd.def_View_state_of (C : Cnd K mg base) : FunD K "state_of" "View.state_of" (defArgs s_View_state_of) (defBody s_View_state_of) (defScope s_View_state_of) [] [] (He.fAd K ("View", some "state_of")) (fdA K ("View", some "state_of")) := fdA_ok (C.c.def_ 5 (d := dd_View_state_of) rfl)
theorem Cnd.b_View_state_of (C : Cnd K mg base) : Binds K (fdA K ("View", some "state_of")) ["self", "name"] [] := C.def_View_state_of.bindsN fun _ _ _ _ _ _ us hl => match us, hl with | [_, _], _ => rfl
theorem Cnd.kp_View_state_of (C : Cnd K mg base) : PySem.W.keepIn K (.ref (He.fAd K ("View", some "state_of"))) = true := C.def_View_state_of.kp
theorem Cnd.me_View_state_of (C : Cnd K mg base) : Meth K ((gg K).cl 1) "state_of" (He.fAd K ("View", some "state_of")) := He.meth_ok (C.c.fact 5 (f := .meth "View" "state_of") rfl)
theorem Cnd.def_View_names_in (C : Cnd K mg base) : FunD K "names_in" "View.names_in" (defArgs s_View_names_in) (defBody s_View_names_in) (defScope s_View_names_in) [] [] (He.fAd K ("View", some "names_in")) (fdA K ("View", some "names_in")) := fdA_ok (C.c.def_ 6 (d := dd_View_names_in) rfl)
theorem Cnd.b_View_names_in (C : Cnd K mg base) : Binds K (fdA K ("View", some "names_in")) ["self", "state"] [] := C.def_View_names_in.bindsN fun _ _ _ _ _ _ us hl => match us, hl with | [_, _], _ => rfl
theorem Cnd.kp_View_names_in (C : Cnd K mg base) : PySem.W.keepIn K (.ref (He.fAd K ("View", some "names_in"))) = true := C.def_View_names_in.kp
theorem Cnd.me_View_names_in (C : Cnd K mg base) : Meth K ((gg K).cl 1) "names_in" (He.fAd K ("View", some "names_in")) := He.meth_ok (C.c.fact 6 (f := .meth "View" "names_in") rfl)
theorem Cnd.def_View_forget_dead (C : Cnd K mg base) : FunD K "forget_dead" "View.forget_dead" (defArgs s_View_forget_dead) (defBody s_View_forget_dead) (defScope s_View_forget_dead) [] [] (He.fAd K ("View", some "forget_dead")) (fdA K ("View", some "forget_dead")) := fdA_ok (C.c.def_ 7 (d := dd_View_forget_dead) rfl)
theorem Cnd.b_View_forget_dead (C : Cnd K mg base) : Binds K (fdA K ("View", some "forget_dead")) ["self"] [] := C.def_View_forget_dead.bindsN fun _ _ _ _ _ _ us hl => match us, hl with | [_], _ => rfl
theorem Cnd.kp_View_forget_dead (C : Cnd K mg base) : PySem.W.keepIn K (.ref (He.fAd K ("View", some "forget_dead"))) = true := C.def_View_forget_dead.kp
theorem Cnd.me_View_forget_dead (C : Cnd K mg base) : Meth K ((gg K).cl 1) "forget_dead" (He.fAd K ("View", some "forget_dead")) := He.meth_ok (C.c.fact 7 (f := .meth "View" "forget_dead") rfl)
theorem Cnd.def_Crowd_init (C : Cnd K mg base) : FunD K "__init__" "Crowd.__init__" (defArgs s_Crowd_init) (defBody s_Crowd_init) (defScope s_Crowd_init) [.int 1] [] (He.fAd K ("Crowd", some "__init__")) (fdA K ("Crowd", some "__init__")) := fdA_ok (C.c.def_ 8 (d := dd_Crowd_init) rfl)
theorem Cnd.bd_Crowd_init (C : Cnd K mg base) : ∃ ds, Vals [.int 1] ds ∧ Binds K (fdA K ("Crowd", some "__init__")) ["self", "names", "seed"] ds := C.def_Crowd_init.binds1 2 0 (by decide) rfl fun _ _ _ _ _ _ _ us its hl hi => match us, its, hl, hi with | [_, _], [_], _, _ => ⟨_, rfl, rfl⟩
theorem Cnd.bf_Crowd_init (C : Cnd K mg base) : ∃ ds, Vals [] ds ∧ Binds K (fdA K ("Crowd", some "__init__")) ["self", "names", "seed"] ds := C.def_Crowd_init.binds1 3 1 (by decide) rfl fun _ _ _ _ _ _ _ us its hl hi => match us, its, hl, hi with | [_, _, _], [_], _, _ => ⟨_, rfl, rfl⟩
theorem Cnd.kp_Crowd_init (C : Cnd K mg base) : PySem.W.keepIn K (.ref (He.fAd K ("Crowd", some "__init__"))) = true := C.def_Crowd_init.kp
theorem Cnd.mk_Crowd (C : Cnd K mg base) : Mk K ((gg K).cl 2) (He.fAd K ("Crowd", some "__init__")) := He.mkr_ok (C.c.fact 8 (f := .mkr "Crowd") rfl)
theorem Cnd.def_Crowd_partner (C : Cnd K mg base) : FunD K "partner" "Crowd.partner" (defArgs s_Crowd_partner) (defBody s_Crowd_partner) (defScope s_Crowd_partner) [] [] (He.fAd K ("Crowd", some "partner")) (fdA K ("Crowd", some "partner")) := fdA_ok (C.c.def_ 9 (d := dd_Crowd_partner) rfl)
theorem Cnd.b_Crowd_partner (C : Cnd K mg base) : Binds K (fdA K ("Crowd", some "partner")) ["self", "name"] [] := C.def_Crowd_partner.bindsN fun _ _ _ _ _ _ us hl => match us, hl with | [_, _], _ => rfl
theorem Cnd.kp_Crowd_partner (C : Cnd K mg base) : PySem.W.keepIn K (.ref (He.fAd K ("Crowd", some "partner"))) = true := C.def_Crowd_partner.kp
theorem Cnd.me_Crowd_partner (C : Cnd K mg base) : Meth K ((gg K).cl 2) "partner" (He.fAd K ("Crowd", some "partner")) := He.meth_ok (C.c.fact 9 (f := .meth "Crowd" "partner") rfl)
theorem Cnd.def_Crowd_names_up (C : Cnd K mg base) : FunD K "names_up" "Crowd.names_up" (defArgs s_Crowd_names_up) (defBody s_Crowd_names_up) (defScope s_Crowd_names_up) [] [] (He.fAd K ("Crowd", some "names_up")) (fdA K ("Crowd", some "names_up")) := fdA_ok (C.c.def_ 10 (d := dd_Crowd_names_up) rfl)
theorem Cnd.b_Crowd_names_up (C : Cnd K mg base) : Binds K (fdA K ("Crowd", some "names_up")) ["self"] [] := C.def_Crowd_names_up.bindsN fun _ _ _ _ _ _ us hl => match us, hl with | [_], _ => rfl
theorem Cnd.kp_Crowd_names_up (C : Cnd K mg base) : PySem.W.keepIn K (.ref (He.fAd K ("Crowd", some "names_up"))) = true := C.def_Crowd_names_up.kp
theorem Cnd.me_Crowd_names_up (C : Cnd K mg base) : Meth K ((gg K).cl 2) "names_up" (He.fAd K ("Crowd", some "names_up")) := He.meth_ok (C.c.fact 10 (f := .meth "Crowd" "names_up") rfl)
theorem Cnd.def_Crowd_tell_round (C : Cnd K mg base) : FunD K "tell_round" "Crowd.tell_round" (defArgs s_Crowd_tell_round) (defBody s_Crowd_tell_round) (defScope s_Crowd_tell_round) [] [] (He.fAd K ("Crowd", some "tell_round")) (fdA K ("Crowd", some "tell_round")) := fdA_ok (C.c.def_ 11 (d := dd_Crowd_tell_round) rfl)
theorem Cnd.b_Crowd_tell_round (C : Cnd K mg base) : Binds K (fdA K ("Crowd", some "tell_round")) ["self"] [] := C.def_Crowd_tell_round.bindsN fun _ _ _ _ _ _ us hl => match us, hl with | [_], _ => rfl
theorem Cnd.kp_Crowd_tell_round (C : Cnd K mg base) : PySem.W.keepIn K (.ref (He.fAd K ("Crowd", some "tell_round"))) = true := C.def_Crowd_tell_round.kp
theorem Cnd.me_Crowd_tell_round (C : Cnd K mg base) : Meth K ((gg K).cl 2) "tell_round" (He.fAd K ("Crowd", some "tell_round")) := He.meth_ok (C.c.fact 11 (f := .meth "Crowd" "tell_round") rfl)
theorem Cnd.def_Crowd_set_down (C : Cnd K mg base) : FunD K "set_down" "Crowd.set_down" (defArgs s_Crowd_set_down) (defBody s_Crowd_set_down) (defScope s_Crowd_set_down) [] [] (He.fAd K ("Crowd", some "set_down")) (fdA K ("Crowd", some "set_down")) := fdA_ok (C.c.def_ 12 (d := dd_Crowd_set_down) rfl)
theorem Cnd.b_Crowd_set_down (C : Cnd K mg base) : Binds K (fdA K ("Crowd", some "set_down")) ["self", "name", "down"] [] := C.def_Crowd_set_down.bindsN fun _ _ _ _ _ _ us hl => match us, hl with | [_, _, _], _ => rfl
theorem Cnd.kp_Crowd_set_down (C : Cnd K mg base) : PySem.W.keepIn K (.ref (He.fAd K ("Crowd", some "set_down"))) = true := C.def_Crowd_set_down.kp
theorem Cnd.me_Crowd_set_down (C : Cnd K mg base) : Meth K ((gg K).cl 2) "set_down" (He.fAd K ("Crowd", some "set_down")) := He.meth_ok (C.c.fact 12 (f := .meth "Crowd" "set_down") rfl)
theorem Cnd.def_Crowd_agree_on (C : Cnd K mg base) : FunD K "agree_on" "Crowd.agree_on" (defArgs s_Crowd_agree_on) (defBody s_Crowd_agree_on) (defScope s_Crowd_agree_on) [] [] (He.fAd K ("Crowd", some "agree_on")) (fdA K ("Crowd", some "agree_on")) := fdA_ok (C.c.def_ 13 (d := dd_Crowd_agree_on) rfl)
theorem Cnd.b_Crowd_agree_on (C : Cnd K mg base) : Binds K (fdA K ("Crowd", some "agree_on")) ["self", "name"] [] := C.def_Crowd_agree_on.bindsN fun _ _ _ _ _ _ us hl => match us, hl with | [_, _], _ => rfl
theorem Cnd.kp_Crowd_agree_on (C : Cnd K mg base) : PySem.W.keepIn K (.ref (He.fAd K ("Crowd", some "agree_on"))) = true := C.def_Crowd_agree_on.kp
theorem Cnd.me_Crowd_agree_on (C : Cnd K mg base) : Meth K ((gg K).cl 2) "agree_on" (He.fAd K ("Crowd", some "agree_on")) := He.meth_ok (C.c.fact 13 (f := .meth "Crowd" "agree_on") rfl)
theorem Cnd.def__law_dice (C : Cnd K mg base) : FunD K "_law_dice" "_law_dice" (defArgs s__law_dice) (defBody s__law_dice) (defScope s__law_dice) [] [] (He.fAd K ("_law_dice", none)) (fdA K ("_law_dice", none)) := fdA_ok (C.c.def_ 14 (d := dd__law_dice) rfl)
theorem Cnd.b__law_dice (C : Cnd K mg base) : Binds K (fdA K ("_law_dice", none)) ["cell"] [] := C.def__law_dice.bindsN fun _ _ _ _ _ _ us hl => match us, hl with | [_], _ => rfl
theorem Cnd.kp__law_dice (C : Cnd K mg base) : PySem.W.keepIn K (.ref (He.fAd K ("_law_dice", none))) = true := C.def__law_dice.kp
theorem Cnd.gl__law_dice (C : Cnd K mg base) : mg "_law_dice" = some (.ref (He.fAd K ("_law_dice", none))) := He.glo_ok C.X C.G (C.c.fact 14 (f := .glo "_law_dice") rfl)
theorem Cnd.def__law_roll (C : Cnd K mg base) : FunD K "_law_roll" "_law_roll" (defArgs s__law_roll) (defBody s__law_roll) (defScope s__law_roll) [] [] (He.fAd K ("_law_roll", none)) (fdA K ("_law_roll", none)) := fdA_ok (C.c.def_ 15 (d := dd__law_roll) rfl)
theorem Cnd.b__law_roll (C : Cnd K mg base) : Binds K (fdA K ("_law_roll", none)) ["dice", "many"] [] := C.def__law_roll.bindsN fun _ _ _ _ _ _ us hl => match us, hl with | [_, _], _ => rfl
theorem Cnd.kp__law_roll (C : Cnd K mg base) : PySem.W.keepIn K (.ref (He.fAd K ("_law_roll", none))) = true := C.def__law_roll.kp
theorem Cnd.gl__law_roll (C : Cnd K mg base) : mg "_law_roll" = some (.ref (He.fAd K ("_law_roll", none))) := He.glo_ok C.X C.G (C.c.fact 15 (f := .glo "_law_roll") rfl)
theorem Cnd.def__law_rounds (C : Cnd K mg base) : FunD K "_law_rounds" "_law_rounds" (defArgs s__law_rounds) (defBody s__law_rounds) (defScope s__law_rounds) [] [] (He.fAd K ("_law_rounds", none)) (fdA K ("_law_rounds", none)) := fdA_ok (C.c.def_ 16 (d := dd__law_rounds) rfl)
theorem Cnd.b__law_rounds (C : Cnd K mg base) : Binds K (fdA K ("_law_rounds", none)) ["script", "most"] [] := C.def__law_rounds.bindsN fun _ _ _ _ _ _ us hl => match us, hl with | [_, _], _ => rfl
theorem Cnd.kp__law_rounds (C : Cnd K mg base) : PySem.W.keepIn K (.ref (He.fAd K ("_law_rounds", none))) = true := C.def__law_rounds.kp
theorem Cnd.gl__law_rounds (C : Cnd K mg base) : mg "_law_rounds" = some (.ref (He.fAd K ("_law_rounds", none))) := He.glo_ok C.X C.G (C.c.fact 16 (f := .glo "_law_rounds") rfl)
theorem Cnd.def__law_told (C : Cnd K mg base) : FunD K "_law_told" "_law_told" (defArgs s__law_told) (defBody s__law_told) (defScope s__law_told) [] [] (He.fAd K ("_law_told", none)) (fdA K ("_law_told", none)) := fdA_ok (C.c.def_ 17 (d := dd__law_told) rfl)
theorem Cnd.b__law_told (C : Cnd K mg base) : Binds K (fdA K ("_law_told", none)) ["what"] [] := C.def__law_told.bindsN fun _ _ _ _ _ _ us hl => match us, hl with | [_], _ => rfl
theorem Cnd.kp__law_told (C : Cnd K mg base) : PySem.W.keepIn K (.ref (He.fAd K ("_law_told", none))) = true := C.def__law_told.kp
theorem Cnd.gl__law_told (C : Cnd K mg base) : mg "_law_told" = some (.ref (He.fAd K ("_law_told", none))) := He.glo_ok C.X C.G (C.c.fact 17 (f := .glo "_law_told") rfl)
theorem Cnd.def__law_state (C : Cnd K mg base) : FunD K "_law_state" "_law_state" (defArgs s__law_state) (defBody s__law_state) (defScope s__law_state) [] [] (He.fAd K ("_law_state", none)) (fdA K ("_law_state", none)) := fdA_ok (C.c.def_ 18 (d := dd__law_state) rfl)
theorem Cnd.b__law_state (C : Cnd K mg base) : Binds K (fdA K ("_law_state", none)) ["view", "name", "mine"] [] := C.def__law_state.bindsN fun _ _ _ _ _ _ us hl => match us, hl with | [_, _, _], _ => rfl
theorem Cnd.kp__law_state (C : Cnd K mg base) : PySem.W.keepIn K (.ref (He.fAd K ("_law_state", none))) = true := C.def__law_state.kp
theorem Cnd.gl__law_state (C : Cnd K mg base) : mg "_law_state" = some (.ref (He.fAd K ("_law_state", none))) := He.glo_ok C.X C.G (C.c.fact 18 (f := .glo "_law_state") rfl)
theorem Cnd.def__law_hear (C : Cnd K mg base) : FunD K "_law_hear" "_law_hear" (defArgs s__law_hear) (defBody s__law_hear) (defScope s__law_hear) [] [] (He.fAd K ("_law_hear", none)) (fdA K ("_law_hear", none)) := fdA_ok (C.c.def_ 19 (d := dd__law_hear) rfl)
theorem Cnd.b__law_hear (C : Cnd K mg base) : Binds K (fdA K ("_law_hear", none)) ["view", "news"] [] := C.def__law_hear.bindsN fun _ _ _ _ _ _ us hl => match us, hl with | [_, _], _ => rfl
theorem Cnd.kp__law_hear (C : Cnd K mg base) : PySem.W.keepIn K (.ref (He.fAd K ("_law_hear", none))) = true := C.def__law_hear.kp
theorem Cnd.gl__law_hear (C : Cnd K mg base) : mg "_law_hear" = some (.ref (He.fAd K ("_law_hear", none))) := He.glo_ok C.X C.G (C.c.fact 19 (f := .glo "_law_hear") rfl)
theorem Cnd.def__law_news (C : Cnd K mg base) : FunD K "_law_news" "_law_news" (defArgs s__law_news) (defBody s__law_news) (defScope s__law_news) [] [] (He.fAd K ("_law_news", none)) (fdA K ("_law_news", none)) := fdA_ok (C.c.def_ 20 (d := dd__law_news) rfl)
theorem Cnd.b__law_news (C : Cnd K mg base) : Binds K (fdA K ("_law_news", none)) ["view"] [] := C.def__law_news.bindsN fun _ _ _ _ _ _ us hl => match us, hl with | [_], _ => rfl
theorem Cnd.kp__law_news (C : Cnd K mg base) : PySem.W.keepIn K (.ref (He.fAd K ("_law_news", none))) = true := C.def__law_news.kp
theorem Cnd.gl__law_news (C : Cnd K mg base) : mg "_law_news" = some (.ref (He.fAd K ("_law_news", none))) := He.glo_ok C.X C.G (C.c.fact 20 (f := .glo "_law_news") rfl)
theorem Cnd.def_law (C : Cnd K mg base) : FunD K "law" "law" (defArgs s_law) (defBody s_law) (defScope s_law) [] [] (He.fAd K ("law", none)) (fdA K ("law", none)) := fdA_ok (C.c.def_ 21 (d := dd_law) rfl)
theorem Cnd.b_law (C : Cnd K mg base) : Binds K (fdA K ("law", none)) ["script"] [] := C.def_law.bindsN fun _ _ _ _ _ _ us hl => match us, hl with | [_], _ => rfl
theorem Cnd.kp_law (C : Cnd K mg base) : PySem.W.keepIn K (.ref (He.fAd K ("law", none))) = true := C.def_law.kp
theorem Cnd.gl_law (C : Cnd K mg base) : mg "law" = some (.ref (He.fAd K ("law", none))) := He.glo_ok C.X C.G (C.c.fact 21 (f := .glo "law") rfl)
theorem Cnd.gs_ALIVE (C : Cnd K mg base) : ∃ t, mg "ALIVE" = some (.str g_ALIVE t) := He.str_ok C.X C.G (C.c.fact 22 (f := .str "ALIVE" g_ALIVE) rfl)
theorem Cnd.gs_SUSPECT (C : Cnd K mg base) : ∃ t, mg "SUSPECT" = some (.str g_SUSPECT t) := He.str_ok C.X C.G (C.c.fact 23 (f := .str "SUSPECT" g_SUSPECT) rfl)
theorem Cnd.gs_DEAD (C : Cnd K mg base) : ∃ t, mg "DEAD" = some (.str g_DEAD t) := He.str_ok C.X C.G (C.c.fact 24 (f := .str "DEAD" g_DEAD) rfl)
theorem Cnd.gi_SUSPECT_TICKS (C : Cnd K mg base) : ∃ t, mg "SUSPECT_TICKS" = some (.int 6 t) := He.int_ok C.X C.G (C.c.fact 25 (f := .int "SUSPECT_TICKS" 6) rfl)
theorem Cnd.gi_DEAD_TICKS (C : Cnd K mg base) : ∃ t, mg "DEAD_TICKS" = some (.int 15 t) := He.int_ok C.X C.G (C.c.fact 26 (f := .int "DEAD_TICKS" 15) rfl)
theorem Cnd.fr_abs (C : Cnd K mg base) : mg "abs" = none := He.free_ok C.X C.G (C.c.fact 27 (f := .free "abs") rfl)
theorem Cnd.fr_dict (C : Cnd K mg base) : mg "dict" = none := He.free_ok C.X C.G (C.c.fact 28 (f := .free "dict") rfl)
theorem Cnd.fr_int (C : Cnd K mg base) : mg "int" = none := He.free_ok C.X C.G (C.c.fact 29 (f := .free "int") rfl)
theorem Cnd.fr_len (C : Cnd K mg base) : mg "len" = none := He.free_ok C.X C.G (C.c.fact 30 (f := .free "len") rfl)
theorem Cnd.fr_list (C : Cnd K mg base) : mg "list" = none := He.free_ok C.X C.G (C.c.fact 31 (f := .free "list") rfl)
theorem Cnd.fr_range (C : Cnd K mg base) : mg "range" = none := He.free_ok C.X C.G (C.c.fact 32 (f := .free "range") rfl)
theorem Cnd.fr_sorted (C : Cnd K mg base) : mg "sorted" = none := He.free_ok C.X C.G (C.c.fact 33 (f := .free "sorted") rfl)
theorem Cnd.fr_tuple (C : Cnd K mg base) : mg "tuple" = none := He.free_ok C.X C.G (C.c.fact 34 (f := .free "tuple") rfl)
theorem Cnd.gl_MachineError (C : Cnd K mg base) : mg "MachineError" = some (.ref ((gg K).cl 0)) := He.glo_ok C.X C.G (C.c.fact 35 (f := .glo "MachineError") rfl)
theorem Cnd.pm_MachineError (C : Cnd K mg base) {X : Cx} (hK : X.K = K) (hm : X.mg = mg) {m : Str} {j : Nat} {p p2 pos : Pos} (hg : Gl X "MachineError" := by rfl) : PMk X (.Call (.Name "MachineError" p) [.Constant (.str m) j p2] [] pos) (fun _ H Q => Q (.ref ((gg K).cl 0)) none H) := by
  subst hK hm
  obtain ⟨q1, q2, q3, q4⟩ := He.exc_ok (C.c.fact 36 (f := .exc "MachineError") rfl)
  exact pmk_own PySem.F.excBase_ValueError q1 C.gl_MachineError q2 (raises_own q3 q4) hg
theorem Cnd.nm_MachineError (C : Cnd K mg base) {X : Cx} (hm : X.mg = mg) (hg : Gl X "MachineError" := by rfl) : Names X "MachineError" (.ref ((gg K).cl 0)) := ⟨hg, by decide, .inl (by rw [hm]; exact C.gl_MachineError)⟩
theorem Cnd.ex_MachineError (C : Cnd K mg base) : ∀ i b, ci_MachineError i = some b → PySem.W.exmOne K (.ref ((gg K).cl i)) (.ref ((gg K).cl 0)) = some b := by
  intro i b h
  unfold ci_MachineError at h
  split at h
  · cases h; exact He.exm_ok (C.c.fact 37 (f := .exm "MachineError" "MachineError" true) rfl)
  · cases h
theorem Cnd.gl_View (C : Cnd K mg base) : mg "View" = some (.ref ((gg K).cl 1)) := He.glo_ok C.X C.G (C.c.fact 38 (f := .glo "View") rfl)
theorem Cnd.cl_View (C : Cnd K mg base) : Cls K ((gg K).cl 1) := He.cls_ok (C.c.fact 39 (f := .cls "View") rfl)
theorem Cnd.gl_Crowd (C : Cnd K mg base) : mg "Crowd" = some (.ref ((gg K).cl 2)) := He.glo_ok C.X C.G (C.c.fact 40 (f := .glo "Crowd") rfl)
theorem Cnd.cl_Crowd (C : Cnd K mg base) : Cls K ((gg K).cl 2) := He.cls_ok (C.c.fact 41 (f := .cls "Crowd") rfl)
theorem Cnd.no_down (C : Cnd K mg base) : ∀ c ∈ cs_down, Cls K ((gg K).cl c) ∧ NoAttr K ((gg K).cl c) "down" := by
  intro c hc
  unfold cs_down at hc
  simp only [List.mem_cons, List.mem_nil_iff, or_false] at hc
  subst hc
  · exact ⟨C.cl_Crowd, He.noat_ok (C.c.fact 42 (f := .noat "Crowd" "down") rfl)⟩
theorem Cnd.no_forgotten (C : Cnd K mg base) : ∀ c ∈ cs_forgotten, Cls K ((gg K).cl c) ∧ NoAttr K ((gg K).cl c) "forgotten" := by
  intro c hc
  unfold cs_forgotten at hc
  simp only [List.mem_cons, List.mem_nil_iff, or_false] at hc
  subst hc
  · exact ⟨C.cl_View, He.noat_ok (C.c.fact 43 (f := .noat "View" "forgotten") rfl)⟩
theorem Cnd.no_name (C : Cnd K mg base) : ∀ c ∈ cs_name, Cls K ((gg K).cl c) ∧ NoAttr K ((gg K).cl c) "name" := by
  intro c hc
  unfold cs_name at hc
  simp only [List.mem_cons, List.mem_nil_iff, or_false] at hc
  subst hc
  · exact ⟨C.cl_View, He.noat_ok (C.c.fact 44 (f := .noat "View" "name") rfl)⟩
theorem Cnd.no_rows (C : Cnd K mg base) : ∀ c ∈ cs_rows, Cls K ((gg K).cl c) ∧ NoAttr K ((gg K).cl c) "rows" := by
  intro c hc
  unfold cs_rows at hc
  simp only [List.mem_cons, List.mem_nil_iff, or_false] at hc
  subst hc
  · exact ⟨C.cl_View, He.noat_ok (C.c.fact 45 (f := .noat "View" "rows") rfl)⟩
theorem Cnd.no_time (C : Cnd K mg base) : ∀ c ∈ cs_time, Cls K ((gg K).cl c) ∧ NoAttr K ((gg K).cl c) "time" := by
  intro c hc
  unfold cs_time at hc
  simp only [List.mem_cons, List.mem_nil_iff, or_false] at hc
  subst hc
  · exact ⟨C.cl_View, He.noat_ok (C.c.fact 46 (f := .noat "View" "time") rfl)⟩
theorem Cnd.no_turn (C : Cnd K mg base) : ∀ c ∈ cs_turn, Cls K ((gg K).cl c) ∧ NoAttr K ((gg K).cl c) "turn" := by
  intro c hc
  unfold cs_turn at hc
  simp only [List.mem_cons, List.mem_nil_iff, or_false] at hc
  subst hc
  · exact ⟨C.cl_Crowd, He.noat_ok (C.c.fact 47 (f := .noat "Crowd" "turn") rfl)⟩
theorem Cnd.no_views (C : Cnd K mg base) : ∀ c ∈ cs_views, Cls K ((gg K).cl c) ∧ NoAttr K ((gg K).cl c) "views" := by
  intro c hc
  unfold cs_views at hc
  simp only [List.mem_cons, List.mem_nil_iff, or_false] at hc
  subst hc
  · exact ⟨C.cl_Crowd, He.noat_ok (C.c.fact 48 (f := .noat "Crowd" "views") rfl)⟩
theorem Cnd.tb_law (C : Cnd K mg base) : LamX.TabB base mg (codeA K ("law", none)) (tabA K ("law", none)) := C.tb _ (by unfold lams; simp)
theorem Cnd.hc_law (C : Cnd K mg base) : (fdA K ("law", none)).code = .ref (codeA K ("law", none)) := C.cd _ (by unfold lams; simp) _ _ _ _ _ _ _ _ C.def_law
theorem Cnd.hT_law (C : Cnd K mg base) : (tabA K ("law", none), ("law" : Str) ++ ".<locals>." ++ "<lambda>") ∈ (gg K).T := by unfold gg; simp
theorem Cnd.hu_law (C : Cnd K mg base) : ∀ p ∈ (gg K).T, p.1 = tabA K ("law", none) → p.2 = ("law" : Str) ++ ".<locals>." ++ "<lambda>" := by
  intro p hp _
  unfold gg at hp
  simp only [List.mem_cons, List.mem_nil_iff, or_false] at hp
  subst hp
  rfl
def N__law_told : List Str := ["what"]
theorem sc__law_told : FnScope N__law_told ["what"] (defScope s__law_told) := ⟨rfl, rfl, rfl, by decide +kernel, rfl, by decide +kernel, by decide +kernel⟩
theorem tolds__law_told (C : Cnd K mg base) {X : Cx} {W : WX} {k : Nat} {c P : Addr} {params : Arguments} {body : Expr} {scope : Scope} {p lpos pos : Pos} {mb : EM} (hr : Room (k + 2) X.A) (hX : X.K = K ∧ X.mg = mg ∧ X.base = base) (TB : LamX.TabB base mg c P) (hcode : X.env.code = .ref c) (hmT : (P, X.env.qual ++ "<lambda>") ∈ (gg K).T) (hu : ∀ p ∈ (gg K).T, p.1 = P → p.2 = X.env.qual ++ "<lambda>") (L : LamX.LamS X.env.scope scope) (hdef : defaultsOf params X.env = ([], []))
    (hbind : ∀ (q : Str) (cl : List (Str × Addr)) (pm cv ctv : Value), bindArgs (PySem.W.kla_fn "<lambda>" q params body scope cl pm cv ctv) ⟨[], []⟩ = pure [])
    (hbody : ∀ (A : Around) (outer : List Env) (s : Shared) (H : Hp) (E : XK) (f c' : Addr), Room k (A.deeper (LamX.lamEnv X scope s.heap.objs.size f c')) → PE (LamX.lamCx X A outer s H E scope f c') body (tE (gg K) (fun cls d _ H => E cls d H) mb)) (hg : Gl X "_law_told" := by rfl) :
    PE X (.Call (.Name "_law_told" p) [.Lambda params body scope lpos] [] pos) (tE (gg K) W (toldM ci_MachineError "MachineError" mb)) := by
  obtain ⟨hK, hm, hb⟩ := hX
  subst hK hm hb
  have F := C.def__law_told
  have b := C.b__law_told
  obtain ⟨oc, od, dV, kV, doc, pm, an, cdv, ct, osl, e, lk, hcd, _, _⟩ := F.ex
  rw [e] at lk b
  exact de_told (ci := ci_MachineError) (x := "_law_told") (Ng := N__law_told) C.ex_MachineError (by rfl) C.gl_MachineError (by decide) (fun f => rfl) hg C.gl__law_told F.kp lk hcd b sc__law_told (by rfl) (by first | exact Or.inl rfl | exact Or.inr (Or.inl rfl)) TB hcode hmT hu hr L hdef hbind hbody
end
end K08
end

section
set_option Elab.async false
set_option linter.all false
set_option maxRecDepth 100000
set_option maxHeartbeats 0
namespace K08
open PySem L2 DD
noncomputable section
def N_View_init : List Str := ["self", "name", "names", "one"]
def m_View_init : SM := (seqM (ifSM (binM (varM 1) (varM 2) ninM)
  (raiseM 0)
  passM)
  (seqM (fldSetM "name" cs_name (varM 0) (varM 1))
  (seqM (fldSetM "time" cs_time (varM 0) (cM (.int 0)))
  (seqM (fldSetM "rows" cs_rows (varM 0) (dcQ (varM 2) lstIt (nameG 3) none (varM 3) (tupM (consM (cM (.int 0)) (consM (cM (.int 0)) nilM))) [3]))
  (fldSetM "forgotten" cs_forgotten (varM 0) dnewM)))))
def F_View_init : List D → AH → EO := fun ds h => retOf (m_View_init (startD N_View_init.length ds) h)
def N_View_tick : List Str := ["self", "count", "_"]
def m_View_tick : SM := (seqM (fldSetM "time" cs_time (varM 0) (binM (unM (varM 0) (fldM "time" cs_time)) (cM (.int 1)) addM))
  (seqM (asgM (binM (unM (varM 0) (fldM "rows" cs_rows)) (unM (varM 0) (fldM "name" cs_name)) dgetM) (tupG ([1, 2].map nameG)))
  (asgM (tupM (consM (binM (varM 1) (cM (.int 1)) addM) (consM (unM (varM 0) (fldM "time" cs_time)) nilM))) (subG (unM (varM 0) (fldM "rows" cs_rows)) (unM (varM 0) (fldM "name" cs_name)) setDF))))
def F_View_tick : List D → AH → EO := fun ds h => retOf (m_View_tick (startD N_View_tick.length ds) h)
def N_View_news : List Str := ["self", "name"]
def m_View_news : SM := (retM (unM (lcQ (callM (consM (unM (varM 0) (fldM "rows" cs_rows)) nilM) sortedF) lstIt (nameG 1) none (tupM (consM (varM 1) (consM (binM (binM (unM (varM 0) (fldM "rows" cs_rows)) (varM 1) dgetM) (cM (.int 0)) itM) nilM))) [1]) tupF))
def F_View_news : List D → AH → EO := fun ds h => retOf (m_View_news (startD N_View_news.length ds) h)
def N_View_known_count : List Str := ["self", "name"]
def m_View_known_count : SM := (seqM (ifSM (binM (varM 1) (unM (varM 0) (fldM "rows" cs_rows)) dinM)
  (retM (binM (binM (unM (varM 0) (fldM "rows" cs_rows)) (varM 1) dgetM) (cM (.int 0)) itM))
  passM)
  (retM (dg2M (unM (varM 0) (fldM "forgotten" cs_forgotten)) (varM 1) (unM (cM (.int 1)) negF))))
def F_View_known_count : List D → AH → EO := fun ds h => retOf (m_View_known_count (startD N_View_known_count.length ds) h)
def N_View_hear : List Str := ["self", "news", "name", "count"]
def View_hear_f0b : SM := (ifSM (binM (varM 3) (methF "known_count" 1 2 [] F_View_known_count (varM 0) (consM (varM 2) nilM)) gtM)
  (seqM (asgM (tupM (consM (varM 3) (consM (unM (varM 0) (fldM "time" cs_time)) nilM))) (subG (unM (varM 0) (fldM "rows" cs_rows)) (varM 2) setDF))
  (exprM (dp2M (unM (varM 0) (fldM "forgotten" cs_forgotten)) (varM 2) (cM .non))))
  passM)
def m_View_hear : SM := (DD.forM (varM 1) tupIt (tupG ([2, 3].map nameG)) (View_hear_f0b))
def F_View_hear : List D → AH → EO := fun ds h => retOf (m_View_hear (startD N_View_hear.length ds) h)
def N_View_state_of : List Str := ["self", "name", "ticks"]
def m_View_state_of : SM := (seqM (ifSM (binM (varM 1) (unM (varM 0) (fldM "rows" cs_rows)) dninM)
  (raiseM 0)
  passM)
  (seqM (setM 2 (binM (unM (varM 0) (fldM "time" cs_time)) (binM (binM (unM (varM 0) (fldM "rows" cs_rows)) (varM 1) dgetM) (cM (.int 1)) itM) subM))
  (seqM (ifSM (binM (varM 2) (cM (.int 15)) geM)
  (retM (cM (.str g_DEAD)))
  passM)
  (retM (ifM (binM (varM 2) (cM (.int 6)) geM) (cM (.str g_SUSPECT)) (cM (.str g_ALIVE)))))))
def F_View_state_of : List D → AH → EO := fun ds h => retOf (m_View_state_of (startD N_View_state_of.length ds) h)
def N_View_names_in : List Str := ["self", "state", "name"]
def m_View_names_in : SM := (retM (lcQ (callM (consM (unM (varM 0) (fldM "rows" cs_rows)) nilM) sortedF) lstIt (nameG 2) (some (binM (methF "state_of" 1 2 [] F_View_state_of (varM 0) (consM (varM 2) nilM)) (varM 1) eqM)) (varM 2) [2]))
def F_View_names_in : List D → AH → EO := fun ds h => retOf (m_View_names_in (startD N_View_names_in.length ds) h)
def N_View_forget_dead : List Str := ["self", "found", "name", "count", "_"]
def View_forget_dead_f0b : SM := (seqM (asgM (dp1M (unM (varM 0) (fldM "rows" cs_rows)) (varM 2)) (tupG ([3, 4].map nameG)))
  (asgM (varM 3) (subG (unM (varM 0) (fldM "forgotten" cs_forgotten)) (varM 2) setDF)))
def m_View_forget_dead : SM := (seqM (setM 1 (methF "names_in" 1 2 [] F_View_names_in (varM 0) (consM (cM (.str g_DEAD)) nilM)))
  (seqM (DD.forM (varM 1) lstIt (nameG 2) (View_forget_dead_f0b))
  (retM (varM 1))))
def F_View_forget_dead : List D → AH → EO := fun ds h => retOf (m_View_forget_dead (startD N_View_forget_dead.length ds) h)
def N_Crowd_init : List Str := ["self", "names", "seed", "name"]
def m_Crowd_init : SM := (seqM (fldSetM "views" cs_views (varM 0) (dcQ (varM 1) lstIt (nameG 3) none (varM 3) (callM (consM (varM 3) (consM (varM 1) nilM)) (makeF 1 3 [] F_View_init)) [3]))
  (seqM (fldSetM "down" cs_down (varM 0) dnewM)
  (fldSetM "turn" cs_turn (varM 0) (varM 2))))
def F_Crowd_init : List D → AH → EO := fun ds h => retOf (m_Crowd_init (startD N_Crowd_init.length ds) h)
def N_Crowd_partner : List Str := ["self", "name", "others", "one"]
def m_Crowd_partner : SM := (seqM (setM 2 (lcQ (callM (consM (unM (varM 0) (fldM "views" cs_views)) nilM) sortedF) lstIt (nameG 3) (some (binM (varM 3) (varM 1) neM)) (varM 3) [3]))
  (seqM (ifSM (binM (varM 2) (lstM nilM) eqM)
  (retM (cM .non))
  passM)
  (retM (binM (varM 2) (binM (unM (varM 0) (fldM "turn" cs_turn)) (callM (consM (varM 2) nilM) lenF) modM) itM))))
def F_Crowd_partner : List D → AH → EO := fun ds h => retOf (m_Crowd_partner (startD N_Crowd_partner.length ds) h)
def N_Crowd_names_up : List Str := ["self", "name"]
def m_Crowd_names_up : SM := (retM (lcQ (callM (consM (unM (varM 0) (fldM "views" cs_views)) nilM) sortedF) lstIt (nameG 1) (some (binM (varM 1) (unM (varM 0) (fldM "down" cs_down)) dninM)) (varM 1) [1]))
def F_Crowd_names_up : List D → AH → EO := fun ds h => retOf (m_Crowd_names_up (startD N_Crowd_names_up.length ds) h)
def N_Crowd_tell_round : List Str := ["self", "names", "name", "partner"]
def Crowd_tell_round_f0b : SM := (exprM (methF "tick" 1 1 [] F_View_tick (binM (unM (varM 0) (fldM "views" cs_views)) (varM 2) dgetM) nilM))
def Crowd_tell_round_f1b : SM := (seqM (setM 3 (methF "partner" 2 2 [] F_Crowd_partner (varM 0) (consM (varM 2) nilM)))
  (ifSM (binM (varM 3) (varM 1) inM)
  (seqM (exprM (methF "hear" 1 2 [] F_View_hear (binM (unM (varM 0) (fldM "views" cs_views)) (varM 3) dgetM) (consM (methF "news" 1 1 [] F_View_news (binM (unM (varM 0) (fldM "views" cs_views)) (varM 2) dgetM) nilM) nilM)))
  (exprM (methF "hear" 1 2 [] F_View_hear (binM (unM (varM 0) (fldM "views" cs_views)) (varM 2) dgetM) (consM (methF "news" 1 1 [] F_View_news (binM (unM (varM 0) (fldM "views" cs_views)) (varM 3) dgetM) nilM) nilM))))
  passM))
def m_Crowd_tell_round : SM := (seqM (fldSetM "turn" cs_turn (varM 0) (binM (unM (varM 0) (fldM "turn" cs_turn)) (cM (.int 1)) addM))
  (seqM (setM 1 (methF "names_up" 2 1 [] F_Crowd_names_up (varM 0) nilM))
  (seqM (DD.forM (varM 1) lstIt (nameG 2) (Crowd_tell_round_f0b))
  (DD.forM (varM 1) lstIt (nameG 2) (Crowd_tell_round_f1b)))))
def F_Crowd_tell_round : List D → AH → EO := fun ds h => retOf (m_Crowd_tell_round (startD N_Crowd_tell_round.length ds) h)
def N_Crowd_set_down : List Str := ["self", "name", "down"]
def m_Crowd_set_down : SM := (seqM (ifSM (binM (varM 1) (unM (varM 0) (fldM "views" cs_views)) dninM)
  (raiseM 0)
  passM)
  (ifSM (varM 2)
  (asgM (cM (.bl true)) (subG (unM (varM 0) (fldM "down" cs_down)) (varM 1) setDF))
  (exprM (dp2M (unM (varM 0) (fldM "down" cs_down)) (varM 1) (cM .non)))))
def F_Crowd_set_down : List D → AH → EO := fun ds h => retOf (m_Crowd_set_down (startD N_Crowd_set_down.length ds) h)
def N_Crowd_agree_on : List Str := ["self", "name", "views", "one", "view"]
def m_Crowd_agree_on : SM := (seqM (setM 2 (lcQ (methF "names_up" 2 1 [] F_Crowd_names_up (varM 0) nilM) lstIt (nameG 3) none (binM (unM (varM 0) (fldM "views" cs_views)) (varM 3) dgetM) [3]))
  (retM (scQ (varM 2) lstIt (nameG 4) (some (binM (varM 1) (unM (varM 4) (fldM "rows" cs_rows)) dinM)) (methF "state_of" 1 2 [] F_View_state_of (varM 4) (consM (varM 1) nilM)) [4])))
def F_Crowd_agree_on : List D → AH → EO := fun ds h => retOf (m_Crowd_agree_on (startD N_Crowd_agree_on.length ds) h)
def N__law_dice : List Str := ["cell"]
def m__law_dice : SM := (seqM (ifSM (chainM (binM (cM (.int 0)) (cM (.int 10)) subM) (varM 0) (cM (.int 10)) ltM ltM)
  (retM (lstM (consM (callM (consM (varM 0) nilM) absF) (consM (cM (.int 0)) (consM (cM (.int 2)) nilM)))))
  passM)
  (retM (lstM (consM (varM 0) (consM (binM (cM (.int 1)) (binM (callM (consM (varM 0) nilM) intF) (cM (.int 1009)) modM) addM) (consM (callM (consM (binM (varM 0) (binM (cM (.int 10)) (cM (.int 18)) powM) geM) nilM) intF) nilM))))))
def F__law_dice : List D → AH → EO := fun ds h => retOf (m__law_dice (startD N__law_dice.length ds) h)
def N__law_roll : List Str := ["dice", "many", "found"]
def m__law_roll (R : List D → AH → EO) : SM := (seqM (ifSM (orM (binM (binM (varM 0) (cM (.int 2)) itM) (cM (.int 2)) eqM) (andM (binM (binM (varM 0) (cM (.int 2)) itM) (cM (.int 1)) eqM) (binM (binM (varM 0) (cM (.int 0)) itM) (cM (.int 0)) gtM)))
  (seqM (setM 2 (binM (callM (consM (binM (varM 0) (cM (.int 0)) itM) nilM) intF) (varM 1) modM))
  (seqM (asgM (binM (binM (varM 0) (cM (.int 0)) itM) (varM 1) fdivM) (subG (varM 0) (cM (.int 0)) setLF))
  (retM (varM 2))))
  passM)
  (seqM (asgM (cM (.int 0)) (subG (varM 0) (cM (.int 2)) setLF))
  (seqM (ifSM (binM (varM 1) (cM (.int 100000000)) gtM)
  (retM (binM (callM (consM (binM (binM (callM (consM (varM 0) (consM (binM (binM (varM 1) (cM (.int 100000000)) fdivM) (cM (.int 1)) addM) nilM)) (callF 2 [] R)) (cM (.int 100000000)) mulM) (callM (consM (varM 0) (consM (cM (.int 100000000)) nilM)) (callF 2 [] R)) addM) nilM) intF) (varM 1) modM))
  passM)
  (seqM (asgM (binM (callM (consM (binM (binM (binM (binM (varM 0) (cM (.int 0)) itM) (cM (.int 48271)) mulM) (binM (binM (varM 0) (cM (.int 1)) itM) (cM (.int 69621)) mulM) addM) (cM (.int 11)) addM) nilM) intF) (cM (.int 2147483647)) modM) (subG (varM 0) (cM (.int 0)) setLF))
  (seqM (asgM (binM (binM (varM 0) (cM (.int 1)) itM) (cM (.int 1)) addM) (subG (varM 0) (cM (.int 1)) setLF))
  (retM (binM (callM (consM (binM (binM (varM 0) (cM (.int 0)) itM) (cM (.int 7)) fdivM) nilM) intF) (varM 1) modM)))))))
def R__law_roll : Nat → List D → AH → EO
  | 0 => fun _ _ => .bad
  | n + 1 => fun ds h => retOf (m__law_roll (R__law_roll n) (startD N__law_roll.length ds) h)
def N__law_rounds : List Str := ["script", "most", "cells", "cell"]
def m__law_rounds : SM := (seqM (setM 2 (slM (varM 0) .none (.some (varM 1))))
  (seqM (ifSM (binM (varM 2) (lstM nilM) eqM)
  (setM 2 (lstM (consM (cM (.int 0)) nilM)))
  passM)
  (retM (lcQ (varM 2) lstIt (nameG 3) none (callM (consM (varM 3) nilM) (callF 1 [] F__law_dice)) [3]))))
def F__law_rounds : List D → AH → EO := fun ds h => retOf (m__law_rounds (startD N__law_rounds.length ds) h)
def N__law_state : List Str := ["view", "name", "mine", "silence"]
def m__law_state : SM := (seqM (ifSM (binM (varM 1) (varM 2) eqM)
  (retM (cM (.str "alive")))
  passM)
  (seqM (setM 3 (binM (binM (varM 0) (cM (.str "time")) dgetM) (binM (binM (binM (varM 0) (cM (.str "rows")) dgetM) (varM 1) dgetM) (cM (.int 1)) itM) subM))
  (retM (ifM (binM (varM 3) (cM (.int 6)) ltM) (cM (.str "alive")) (ifM (binM (varM 3) (cM (.int 15)) ltM) (cM (.str "suspect")) (cM (.str "dead")))))))
def F__law_state : List D → AH → EO := fun ds h => retOf (m__law_state (startD N__law_state.length ds) h)
def N__law_hear : List Str := ["view", "news", "rows", "name", "count"]
def _law_hear_f0b : SM := (ifSM (orM (andM (binM (varM 3) (varM 2) dinM) (binM (varM 4) (binM (binM (varM 2) (varM 3) dgetM) (cM (.int 0)) itM) gtM)) (andM (binM (varM 3) (varM 2) dninM) (binM (varM 4) (dg2M (binM (varM 0) (cM (.str "gone")) dgetM) (varM 3) (binM (cM (.int 0)) (cM (.int 1)) subM)) gtM)))
  (asgM (tupM (consM (varM 4) (consM (binM (varM 0) (cM (.str "time")) dgetM) nilM))) (subG (varM 2) (varM 3) setDF))
  passM)
def m__law_hear : SM := (seqM (setM 2 (binM (varM 0) (cM (.str "rows")) dgetM))
  (DD.forM (varM 1) lstIt (tupG ([3, 4].map nameG)) (_law_hear_f0b)))
def F__law_hear : List D → AH → EO := fun ds h => retOf (m__law_hear (startD N__law_hear.length ds) h)
def N__law_news : List Str := ["view", "name"]
def m__law_news : SM := (retM (lcQ (callM (consM (binM (varM 0) (cM (.str "rows")) dgetM) nilM) sortedF) lstIt (nameG 1) none (tupM (consM (varM 1) (consM (binM (binM (binM (varM 0) (cM (.str "rows")) dgetM) (varM 1) dgetM) (cM (.int 0)) itM) nilM))) [1]))
def F__law_news : List D → AH → EO := fun ds h => retOf (m__law_news (startD N__law_news.length ds) h)
def N_law : List Str := ["script", "dice", "names", "crowd", "views", "step", "name", "turn", "up", "down", "seen", "sort", "one", "other", "view", "gone", "rows", "due", "forgotten", "here"]
def law_f0b : SM := (seqM (exprM (methF "tick" 1 1 [] F_View_tick (binM (unM (varM 3) (fldM "views" cs_views)) (varM 12) dgetM) nilM))
  (seqM (setM 14 (binM (varM 4) (varM 12) dgetM))
  (seqM (asgM (tupM (consM (binM (binM (varM 14) (cM (.str "time")) dgetM) (cM (.int 1)) addM) (consM (binM (varM 14) (cM (.str "rows")) dgetM) nilM))) (tupX [(subG (varM 14) (cM (.str "time")) setDF), (nameG 16)]))
  (asgM (tupM (consM (binM (binM (binM (varM 16) (varM 12) dgetM) (cM (.int 0)) itM) (cM (.int 1)) addM) (consM (binM (varM 14) (cM (.str "time")) dgetM) nilM))) (subG (varM 16) (varM 12) setDF)))))
def law_f1b : SM := (seqM (setM 18 (binM (binM (varM 4) (varM 12) dgetM) (cM (.str "gone")) dgetM))
  (asgM (binM (dp1M (varM 16) (varM 6)) (cM (.int 0)) itM) (subG (varM 18) (varM 6) setDF)))
def law_f2b : SM := (seqM (setM 14 (binM (unM (varM 3) (fldM "views" cs_views)) (varM 6) dgetM))
  (seqM (ifSM (orM (binM (callM (consM (methF "news" 1 1 [] F_View_news (varM 14) nilM) nilM) listF) (callM (consM (binM (varM 4) (varM 6) dgetM) nilM) (callF 1 [] F__law_news)) neM) (binM (lcQ (callM (consM (unM (varM 14) (fldM "rows" cs_rows)) nilM) sortedF) lstIt (nameG 19) none (methF "state_of" 1 2 [] F_View_state_of (varM 14) (consM (varM 19) nilM)) [19]) (lcQ (callM (consM (binM (binM (varM 4) (varM 6) dgetM) (cM (.str "rows")) dgetM) nilM) sortedF) lstIt (nameG 19) none (callM (consM (binM (varM 4) (varM 6) dgetM) (consM (varM 19) (consM (varM 6) nilM))) (callF 3 [] F__law_state)) [19]) neM))
  (retM (cM (.bl false)))
  passM)
  (ifSM (binM (methF "names_in" 1 2 [] F_View_names_in (varM 14) (consM (cM (.str "alive")) nilM)) (lcQ (callM (consM (binM (binM (varM 4) (varM 6) dgetM) (cM (.str "rows")) dgetM) nilM) sortedF) lstIt (nameG 19) (some (binM (callM (consM (binM (varM 4) (varM 6) dgetM) (consM (varM 19) (consM (varM 6) nilM))) (callF 3 [] F__law_state)) (cM (.str "alive")) eqM)) (varM 19) [19]) neM)
  (retM (cM (.bl false)))
  passM)))
def law_f3b : SM := (seqM (asgM (tupM (consM (callM (consM (varM 1) (consM (cM (.int 6)) nilM)) (callF 2 [] (R__law_roll 5))) (consM (binM (varM 2) (callM (consM (varM 1) (consM (callM (consM (varM 2) nilM) lenF) nilM)) (callF 2 [] (R__law_roll 5))) itM) (consM (binM (varM 2) (callM (consM (varM 1) (consM (callM (consM (varM 2) nilM) lenF) nilM)) (callF 2 [] (R__law_roll 5))) itM) nilM)))) (tupG ([11, 12, 13].map nameG)))
  (seqM (ifSM (binM (varM 11) (cM (.int 3)) ltM)
  (DD.forM (binM (cM (.int 1)) (binM (cM (.int 4)) (callM (consM (binM (varM 11) (cM (.int 2)) eqM) nilM) intF) mulM) addM) rngIt1 (nameG 7) (law_f0b))
  (ifSM (binM (varM 11) (cM (.int 5)) ltM)
  (seqM (exprM (methF "hear" 1 2 [] F_View_hear (binM (unM (varM 3) (fldM "views" cs_views)) (varM 12) dgetM) (consM (methF "news" 1 1 [] F_View_news (binM (unM (varM 3) (fldM "views" cs_views)) (varM 13) dgetM) nilM) nilM)))
  (exprM (callM (consM (binM (varM 4) (varM 12) dgetM) (consM (callM (consM (binM (varM 4) (varM 13) dgetM) nilM) (callF 1 [] F__law_news)) nilM)) (callF 2 [] F__law_hear))))
  (seqM (setM 15 (methF "forget_dead" 1 1 [] F_View_forget_dead (binM (unM (varM 3) (fldM "views" cs_views)) (varM 12) dgetM) nilM))
  (seqM (setM 16 (binM (binM (varM 4) (varM 12) dgetM) (cM (.str "rows")) dgetM))
  (seqM (setM 17 (lcQ (callM (consM (varM 16) nilM) sortedF) lstIt (nameG 6) (some (binM (callM (consM (binM (varM 4) (varM 12) dgetM) (consM (varM 6) (consM (varM 12) nilM))) (callF 3 [] F__law_state)) (cM (.str "dead")) eqM)) (varM 6) [6]))
  (seqM (ifSM (binM (varM 15) (varM 17) neM)
  (retM (cM (.bl false)))
  passM)
  (DD.forM (varM 17) lstIt (nameG 6) (law_f1b))))))))
  (DD.forM (varM 2) lstIt (nameG 6) (law_f2b))))
def law_f4b : SM := (exprM (methF "set_down" 2 3 [] F_Crowd_set_down (varM 3) (consM (varM 6) (consM (cM (.bl true)) nilM))))
def law_f5b : SM := (exprM (methF "tell_round" 2 1 [] F_Crowd_tell_round (varM 3) nilM))
def law_f6b : SM := (seqM (setM 10 (methF "agree_on" 2 2 [] F_Crowd_agree_on (varM 3) (consM (varM 6) nilM)))
  (seqM (ifSM (orM (andM (binM (varM 6) (varM 9) inM) (andM (binM (varM 8) (lstM nilM) neM) (binM (varM 10) (lstM (consM (cM (.str "dead")) nilM)) neM))) (andM (binM (varM 8) (lstM nilM) eqM) (binM (varM 10) (lstM nilM) neM)))
  (retM (cM (.bl false)))
  passM)
  (seqM (ifSM (orM (andM (binM (varM 6) (varM 8) inM) (binM (lcQ (varM 10) lstIt (nameG 12) (some (binM (varM 12) (cM (.str "dead")) eqM)) (varM 12) [12]) (lstM nilM) neM)) (andM (binM (varM 6) (varM 8) inM) (andM (binM (callM (consM (varM 8) nilM) lenF) (cM (.int 1)) eqM) (binM (varM 10) (lstM (consM (cM (.str "alive")) nilM)) neM))))
  (retM (cM (.bl false)))
  passM)
  (ifSM (andM (binM (callM (consM (varM 2) nilM) lenF) (cM (.int 1)) gtM) (binM (methF "partner" 2 2 [] F_Crowd_partner (varM 3) (consM (varM 6) nilM)) (lcQ (varM 2) lstIt (nameG 12) (some (binM (varM 12) (varM 6) neM)) (varM 12) [12]) ninM))
  (retM (cM (.bl false)))
  passM))))
def law_f7b : SM := (seqM (setM 2 (slM (lstM (consM (cM (.str "p")) (consM (cM (.str "q")) (consM (cM (.str "r")) (consM (cM (.str "s")) (consM (cM (.str "t")) (consM (cM (.str "u")) nilM))))))) .none (.some (binM (cM (.int 2)) (callM (consM (varM 1) (consM (cM (.int 5)) nilM)) (callF 2 [] (R__law_roll 5))) addM))))
  (seqM (setM 3 (callM (consM (varM 2) (consM (callM (consM (varM 1) (consM (cM (.int 1000)) nilM)) (callF 2 [] (R__law_roll 5))) nilM)) (makeF 2 3 [] F_Crowd_init)))
  (seqM (setM 4 (callM (consM (lcQ (varM 2) lstIt (nameG 6) none (tupM (consM (varM 6) (consM (dispM [((cM (.str "time")), (cM (.int 0))), ((cM (.str "gone")), dnewM), ((cM (.str "rows")), (callM (consM (lcQ (varM 2) lstIt (nameG 12) none (tupM (consM (varM 12) (consM (tupM (consM (cM (.int 0)) (consM (cM (.int 0)) nilM))) nilM))) [12]) nilM) dictF))]) nilM))) [6]) nilM) dictF))
  (seqM (DD.forM (callM (consM (varM 1) (consM (cM (.int 61)) nilM)) (callF 2 [] (R__law_roll 5))) rngIt1 (nameG 5) (law_f3b))
  (seqM (asgM (tupM (consM (callM (consM (varM 2) (consM (callM (consM (varM 1) (consM (cM (.int 1000)) nilM)) (callF 2 [] (R__law_roll 5))) nilM)) (makeF 2 3 [] F_Crowd_init)) (consM (lcQ (varM 2) lstIt (nameG 6) (some (binM (callM (consM (varM 1) (consM (cM (.int 3)) nilM)) (callF 2 [] (R__law_roll 5))) (cM (.int 0)) eqM)) (varM 6) [6]) nilM))) (tupG ([3, 9].map nameG)))
  (seqM (DD.forM (varM 9) lstIt (nameG 6) (law_f4b))
  (seqM (DD.forM (cM (.int 120)) rngIt1 (nameG 7) (law_f5b))
  (seqM (setM 8 (lcQ (varM 2) lstIt (nameG 6) (some (binM (varM 6) (varM 9) ninM)) (varM 6) [6]))
  (seqM (DD.forM (varM 2) lstIt (nameG 6) (law_f6b))
  (ifSM (binM (varM 9) (lstM nilM) neM)
  (seqM (exprM (methF "set_down" 2 3 [] F_Crowd_set_down (varM 3) (consM (binM (varM 9) (cM (.int 0)) itM) (consM (cM (.bl false)) nilM))))
  (seqM (exprM (methF "tell_round" 2 1 [] F_Crowd_tell_round (varM 3) nilM))
  (ifSM (binM (unM (binM (unM (varM 3) (fldM "views" cs_views)) (binM (varM 9) (cM (.int 0)) itM) dgetM) (fldM "time" cs_time)) (cM (.int 1)) neM)
  (retM (cM (.bl false)))
  passM)))
  passM))))))))))
def m_law : SM := (seqM (DD.forM (callM (consM (varM 0) (consM (cM (.int 1)) nilM)) (callF 2 [] F__law_rounds)) lstIt (nameG 1) (law_f7b))
  (seqM (ifSM (orM (binM (toldM ci_MachineError "MachineError" (callM (consM (cM (.str "x")) (consM (lstM (consM (cM (.str "y")) nilM)) nilM)) (makeF 1 3 [] F_View_init))) (cM (.str "MachineError")) neM) (binM (toldM ci_MachineError "MachineError" (methF "set_down" 2 3 [] F_Crowd_set_down (callM (consM (lstM (consM (cM (.str "a")) (consM (cM (.str "b")) nilM))) nilM) (makeF 2 3 [(.int 1)] F_Crowd_init)) (consM (cM (.str "c")) (consM (cM (.bl true)) nilM)))) (cM (.str "MachineError")) neM))
  (retM (cM (.bl false)))
  passM)
  (retM (binM (toldM ci_MachineError "MachineError" (methF "state_of" 1 2 [] F_View_state_of (callM (consM (cM (.str "a")) (consM (lstM (consM (cM (.str "a")) nilM)) nilM)) (makeF 1 3 [] F_View_init)) (consM (cM (.str "b")) nilM))) (cM (.str "MachineError")) eqM))))
def F_law : List D → AH → EO := fun ds h => retOf (m_law (startD N_law.length ds) h)
end
end K08
end

section
set_option Elab.async false
set_option linter.all false
set_option maxRecDepth 100000
set_option maxHeartbeats 0
namespace K08
open PySem L2 DD
section
variable {P : Program} {w : World} {K : PySem.W.Frag} {mg : Str → Option Value} {base : Heap}
theorem sc_View_init : FnScope N_View_init ["self", "name", "names"] (defScope s_View_init) := ⟨rfl, rfl, rfl, by decide +kernel, rfl, by decide +kernel, by decide +kernel⟩
theorem ok_View_init (C : Cnd K mg base) : FnOk P w K mg base (L2.CX P w) 1 (He.fAd K ("View", some "__init__")) (fdA K ("View", some "__init__")) ["self", "name", "names"] (spD (gg K) 3 F_View_init) := by
    refine fn_okD3 (m := m_View_init) C.def_View_init sc_View_init rfl rfl fun A outer s H E hr => ?_
    have tk : Takes (cxOf (L2.CX P w) P w K mg base N_View_init "View.__init__" (defScope s_View_init) (He.fAd K ("View", some "__init__")) (fdA K ("View", some "__init__")).code A outer s H E) (fun cls d _ H => E cls d H) := takes_of rfl rfl rfl rfl
    have po : PassesOwn (model P w) (A.deeper (PyProof.Rows.envOfC "View.__init__" (defScope s_View_init) s.heap.objs.size (He.fAd K ("View", some "__init__")) (fdA K ("View", some "__init__")).code)) (PyProof.Rows.envOfC "View.__init__" (defScope s_View_init) s.heap.objs.size (He.fAd K ("View", some "__init__")) (fdA K ("View", some "__init__")).code) (cxOf (L2.CX P w) P w K mg base N_View_init "View.__init__" (defScope s_View_init) (He.fAd K ("View", some "__init__")) (fdA K ("View", some "__init__")).code A outer s H E).xe := passes_of rfl
    exact (dss_cons (ds_if (dt_nin rfl (dv 1) (dv 2) rfl)
  (dss_one (ds_raise (c := 0) rfl tk (C.pm_MachineError rfl rfl) (fun _ _ _ z => z)))
  dss_nil)
  (dss_cons (ds_fld C.no_name (dv 0) (dv 1))
  (dss_cons (ds_fld C.no_time (dv 0) dk_int)
  (dss_cons (ds_fld C.no_rows (dv 0) (de_dcQ (own := [("one", 3)]) rfl sc_View_init.nd (pi_list (dv 2)) (it_lst rfl) (blkOk_by (N := N_View_init) (sc := (defScope s_View_init)) (own := [("one", 3)]) (by decide +kernel)) (fun _ => (rg_name)) (goes_name) (own_name (by decide)) (fun _ _ _ _ _ => (pg_name (i := 3) sc_View_init.nd rfl (Or.inl rfl))) (fun _ _ _ _ _ => pts_nil) (fun _ _ _ _ _ => (dv 3)) (fun _ _ _ _ _ => (de_tup (dl_cons dk_int (dl_cons dk_int dl_nil))))))
  (dss_one (ds_fld C.no_forgotten (dv 0) de_dnew))))))
theorem sc_View_tick : FnScope N_View_tick ["self"] (defScope s_View_tick) := ⟨rfl, rfl, rfl, by decide +kernel, rfl, by decide +kernel, by decide +kernel⟩
theorem ok_View_tick (C : Cnd K mg base) : FnOk P w K mg base (L2.CX P w) 1 (He.fAd K ("View", some "tick")) (fdA K ("View", some "tick")) ["self"] (spD (gg K) 1 F_View_tick) := by
    refine fn_okD3 (m := m_View_tick) C.def_View_tick sc_View_tick rfl rfl fun A outer s H E hr => ?_
    have tk : Takes (cxOf (L2.CX P w) P w K mg base N_View_tick "View.tick" (defScope s_View_tick) (He.fAd K ("View", some "tick")) (fdA K ("View", some "tick")).code A outer s H E) (fun cls d _ H => E cls d H) := takes_of rfl rfl rfl rfl
    have po : PassesOwn (model P w) (A.deeper (PyProof.Rows.envOfC "View.tick" (defScope s_View_tick) s.heap.objs.size (He.fAd K ("View", some "tick")) (fdA K ("View", some "tick")).code)) (PyProof.Rows.envOfC "View.tick" (defScope s_View_tick) s.heap.objs.size (He.fAd K ("View", some "tick")) (fdA K ("View", some "tick")).code) (cxOf (L2.CX P w) P w K mg base N_View_tick "View.tick" (defScope s_View_tick) (He.fAd K ("View", some "tick")) (fdA K ("View", some "tick")).code A outer s H E).xe := passes_of rfl
    exact (dss_cons (ds_fld C.no_time (dv 0) (de_op op_addAny rs_add (de_fld rfl C.no_time (dv 0)) dk_int))
  (dss_cons (ds_asgG (de_dget (u1 hr.units) (de_fld rfl C.no_rows (dv 0)) (de_fld rfl C.no_name (dv 0)) (fun _ _ => rfl)) (pg_tup rfl (pgs_cons (pg_name (i := 1) sc_View_tick.nd rfl (Or.inl rfl)) (pgs_cons (pg_name (i := 2) sc_View_tick.nd rfl (Or.inl rfl)) pgs_nil))) (rg_names (is := [1, 2]) (rgs_cons rg_name (rgs_cons rg_name rgs_nil))) (goes_names))
  (dss_one (ds_asgG (de_tup (dl_cons (de_op op_addAny rs_add (dv 1) dk_int) (dl_cons (de_fld rfl C.no_time (dv 0)) dl_nil))) (pg_sub (de_fld rfl C.no_rows (dv 0)) (de_fld rfl C.no_name (dv 0)) (set_dict (u1 hr.units)) (fun _ => rfl)) (rg_sub rset_dict) goes_sub))))
theorem sc_View_news : FnScope N_View_news ["self"] (defScope s_View_news) := ⟨rfl, rfl, rfl, by decide +kernel, rfl, by decide +kernel, by decide +kernel⟩
theorem ok_View_news (C : Cnd K mg base) : FnOk P w K mg base (L2.CX P w) 1 (He.fAd K ("View", some "news")) (fdA K ("View", some "news")) ["self"] (spD (gg K) 1 F_View_news) := by
    refine fn_okD3 (m := m_View_news) C.def_View_news sc_View_news rfl rfl fun A outer s H E hr => ?_
    have tk : Takes (cxOf (L2.CX P w) P w K mg base N_View_news "View.news" (defScope s_View_news) (He.fAd K ("View", some "news")) (fdA K ("View", some "news")).code A outer s H E) (fun cls d _ H => E cls d H) := takes_of rfl rfl rfl rfl
    have po : PassesOwn (model P w) (A.deeper (PyProof.Rows.envOfC "View.news" (defScope s_View_news) s.heap.objs.size (He.fAd K ("View", some "news")) (fdA K ("View", some "news")).code)) (PyProof.Rows.envOfC "View.news" (defScope s_View_news) s.heap.objs.size (He.fAd K ("View", some "news")) (fdA K ("View", some "news")).code) (cxOf (L2.CX P w) P w K mg base N_View_news "View.news" (defScope s_View_news) (He.fAd K ("View", some "news")) (fdA K ("View", some "news")).code A outer s H E).xe := passes_of rfl
    exact (dss_one (ds_ret (de_tuple rfl rfl (C.fr_tuple) (de_lcQ (own := [("name", 1)]) rfl sc_View_news.nd (pi_list (de_callB (call_sortAny rfl) rs_sorted rfl (C.fr_sorted) (by decide +kernel) (dl_cons (de_fld rfl C.no_rows (dv 0)) dl_nil))) (it_lst rfl) (blkOk_by (N := N_View_news) (sc := (defScope s_View_news)) (own := [("name", 1)]) (by decide +kernel)) (fun _ => (rg_name)) (goes_name) (own_name (by decide)) (fun _ _ _ _ _ => (pg_name (i := 1) sc_View_news.nd rfl (Or.inl rfl))) (fun _ _ _ _ _ => pts_nil) (fun _ _ _ _ _ => (de_tup (dl_cons (dv 1) (dl_cons (de_ix ix_seq rs_it (de_dget (u1 hr.units) (de_fld rfl C.no_rows (dv 0)) (dv 1) (fun _ _ => rfl)) dk_int (fun _ _ => rfl)) dl_nil))))))))
theorem sc_View_known_count : FnScope N_View_known_count ["self", "name"] (defScope s_View_known_count) := ⟨rfl, rfl, rfl, by decide +kernel, rfl, by decide +kernel, by decide +kernel⟩
theorem ok_View_known_count (C : Cnd K mg base) : FnOk P w K mg base (L2.CX P w) 1 (He.fAd K ("View", some "known_count")) (fdA K ("View", some "known_count")) ["self", "name"] (spD (gg K) 2 F_View_known_count) := by
    refine fn_okD3 (m := m_View_known_count) C.def_View_known_count sc_View_known_count rfl rfl fun A outer s H E hr => ?_
    have tk : Takes (cxOf (L2.CX P w) P w K mg base N_View_known_count "View.known_count" (defScope s_View_known_count) (He.fAd K ("View", some "known_count")) (fdA K ("View", some "known_count")).code A outer s H E) (fun cls d _ H => E cls d H) := takes_of rfl rfl rfl rfl
    have po : PassesOwn (model P w) (A.deeper (PyProof.Rows.envOfC "View.known_count" (defScope s_View_known_count) s.heap.objs.size (He.fAd K ("View", some "known_count")) (fdA K ("View", some "known_count")).code)) (PyProof.Rows.envOfC "View.known_count" (defScope s_View_known_count) s.heap.objs.size (He.fAd K ("View", some "known_count")) (fdA K ("View", some "known_count")).code) (cxOf (L2.CX P w) P w K mg base N_View_known_count "View.known_count" (defScope s_View_known_count) (He.fAd K ("View", some "known_count")) (fdA K ("View", some "known_count")).code A outer s H E).xe := passes_of rfl
    exact (dss_cons (ds_if (dt_din (u1 hr.units) (dv 1) (de_fld rfl C.no_rows (dv 0)) rfl)
  (dss_one (ds_ret (de_ix ix_seq rs_it (de_dget (u1 hr.units) (de_fld rfl C.no_rows (dv 0)) (dv 1) (fun _ _ => rfl)) dk_int (fun _ _ => rfl))))
  dss_nil)
  (dss_one (ds_ret (de_dget2 (u1 hr.units) (de_fld rfl C.no_forgotten (dv 0)) (dv 1) (de_un un_neg rs_neg dk_int) ⟨rfl, rfl, rfl, rfl⟩))))
theorem sc_View_hear : FnScope N_View_hear ["self", "news"] (defScope s_View_hear) := ⟨rfl, rfl, rfl, by decide +kernel, rfl, by decide +kernel, by decide +kernel⟩
theorem ok_View_hear (C : Cnd K mg base) : FnOk P w K mg base (L2.CX P w) 2 (He.fAd K ("View", some "hear")) (fdA K ("View", some "hear")) ["self", "news"] (spD (gg K) 2 F_View_hear) := by
    refine fn_okD3 (m := m_View_hear) C.def_View_hear sc_View_hear rfl rfl fun A outer s H E hr => ?_
    have tk : Takes (cxOf (L2.CX P w) P w K mg base N_View_hear "View.hear" (defScope s_View_hear) (He.fAd K ("View", some "hear")) (fdA K ("View", some "hear")).code A outer s H E) (fun cls d _ H => E cls d H) := takes_of rfl rfl rfl rfl
    have po : PassesOwn (model P w) (A.deeper (PyProof.Rows.envOfC "View.hear" (defScope s_View_hear) s.heap.objs.size (He.fAd K ("View", some "hear")) (fdA K ("View", some "hear")).code)) (PyProof.Rows.envOfC "View.hear" (defScope s_View_hear) s.heap.objs.size (He.fAd K ("View", some "hear")) (fdA K ("View", some "hear")).code) (cxOf (L2.CX P w) P w K mg base N_View_hear "View.hear" (defScope s_View_hear) (He.fAd K ("View", some "hear")) (fdA K ("View", some "hear")).code A outer s H E).xe := passes_of rfl
    exact (dss_one (ds_for (it_tup rfl) (pi_tup (dv 1)) po rfl (pg_tup rfl (pgs_cons (pg_name (i := 2) sc_View_hear.nd rfl (Or.inl rfl)) (pgs_cons (pg_name (i := 3) sc_View_hear.nd rfl (Or.inl rfl)) pgs_nil))) (rg_names (is := [2, 3]) (rgs_cons rg_name (rgs_cons rg_name rgs_nil))) (goes_names)
  (dss_one (ds_if (dt_cmp op_gt rs_gt (dv 3) (de_meth (ci := 1) (dv 0) C.cl_View C.me_View_known_count (ok_View_known_count C) (Pas.of tk) (hr.mono (by first | omega | decide)) C.b_View_known_count .nil (fun _ _ => .nil) (dl_cons (dv 2) dl_nil)) (nomark _))
  (dss_cons (ds_asgG (de_tup (dl_cons (dv 3) (dl_cons (de_fld rfl C.no_time (dv 0)) dl_nil))) (pg_sub (de_fld rfl C.no_rows (dv 0)) (dv 2) (set_dict (u1 hr.units)) (fun _ => rfl)) (rg_sub rset_dict) goes_sub)
  (dss_one (ds_expr (de_dpop2 (de_fld rfl C.no_forgotten (dv 0)) (dv 2) dk_non ⟨rfl, rfl, rfl, rfl⟩))))
  dss_nil))))
theorem sc_View_state_of : FnScope N_View_state_of ["self", "name"] (defScope s_View_state_of) := ⟨rfl, rfl, rfl, by decide +kernel, rfl, by decide +kernel, by decide +kernel⟩
theorem ok_View_state_of (C : Cnd K mg base) : FnOk P w K mg base (L2.CX P w) 1 (He.fAd K ("View", some "state_of")) (fdA K ("View", some "state_of")) ["self", "name"] (spD (gg K) 2 F_View_state_of) := by
    refine fn_okD3 (m := m_View_state_of) C.def_View_state_of sc_View_state_of rfl rfl fun A outer s H E hr => ?_
    have tk : Takes (cxOf (L2.CX P w) P w K mg base N_View_state_of "View.state_of" (defScope s_View_state_of) (He.fAd K ("View", some "state_of")) (fdA K ("View", some "state_of")).code A outer s H E) (fun cls d _ H => E cls d H) := takes_of rfl rfl rfl rfl
    have po : PassesOwn (model P w) (A.deeper (PyProof.Rows.envOfC "View.state_of" (defScope s_View_state_of) s.heap.objs.size (He.fAd K ("View", some "state_of")) (fdA K ("View", some "state_of")).code)) (PyProof.Rows.envOfC "View.state_of" (defScope s_View_state_of) s.heap.objs.size (He.fAd K ("View", some "state_of")) (fdA K ("View", some "state_of")).code) (cxOf (L2.CX P w) P w K mg base N_View_state_of "View.state_of" (defScope s_View_state_of) (He.fAd K ("View", some "state_of")) (fdA K ("View", some "state_of")).code A outer s H E).xe := passes_of rfl
    exact (dss_cons (ds_if (dt_dnin (u1 hr.units) (dv 1) (de_fld rfl C.no_rows (dv 0)) rfl)
  (dss_one (ds_raise (c := 0) rfl tk (C.pm_MachineError rfl rfl) (fun _ _ _ z => z)))
  dss_nil)
  (dss_cons (ds_set (i := 2) sc_View_state_of.nd rfl (Or.inl rfl) (de_op op_sub rs_sub (de_fld rfl C.no_time (dv 0)) (de_ix ix_seq rs_it (de_dget (u1 hr.units) (de_fld rfl C.no_rows (dv 0)) (dv 1) (fun _ _ => rfl)) dk_int (fun _ _ => rfl))))
  (dss_cons (ds_if (dt_cmp op_ge rs_ge (dv 2) (dg_int C.gi_DEAD_TICKS) (nomark _))
  (dss_one (ds_ret (dg_str C.gs_DEAD)))
  dss_nil)
  (dss_one (ds_ret (de_if (dt_cmp op_ge rs_ge (dv 2) (dg_int C.gi_SUSPECT_TICKS) (nomark _)) (dg_str C.gs_SUSPECT) (dg_str C.gs_ALIVE)))))))
theorem sc_View_names_in : FnScope N_View_names_in ["self", "state"] (defScope s_View_names_in) := ⟨rfl, rfl, rfl, by decide +kernel, rfl, by decide +kernel, by decide +kernel⟩
theorem ok_View_names_in (C : Cnd K mg base) : FnOk P w K mg base (L2.CX P w) 2 (He.fAd K ("View", some "names_in")) (fdA K ("View", some "names_in")) ["self", "state"] (spD (gg K) 2 F_View_names_in) := by
    refine fn_okD3 (m := m_View_names_in) C.def_View_names_in sc_View_names_in rfl rfl fun A outer s H E hr => ?_
    have tk : Takes (cxOf (L2.CX P w) P w K mg base N_View_names_in "View.names_in" (defScope s_View_names_in) (He.fAd K ("View", some "names_in")) (fdA K ("View", some "names_in")).code A outer s H E) (fun cls d _ H => E cls d H) := takes_of rfl rfl rfl rfl
    have po : PassesOwn (model P w) (A.deeper (PyProof.Rows.envOfC "View.names_in" (defScope s_View_names_in) s.heap.objs.size (He.fAd K ("View", some "names_in")) (fdA K ("View", some "names_in")).code)) (PyProof.Rows.envOfC "View.names_in" (defScope s_View_names_in) s.heap.objs.size (He.fAd K ("View", some "names_in")) (fdA K ("View", some "names_in")).code) (cxOf (L2.CX P w) P w K mg base N_View_names_in "View.names_in" (defScope s_View_names_in) (He.fAd K ("View", some "names_in")) (fdA K ("View", some "names_in")).code A outer s H E).xe := passes_of rfl
    exact (dss_one (ds_ret (de_lcQ (own := [("name", 2)]) rfl sc_View_names_in.nd (pi_list (de_callB (call_sortAny rfl) rs_sorted rfl (C.fr_sorted) (by decide +kernel) (dl_cons (de_fld rfl C.no_rows (dv 0)) dl_nil))) (it_lst rfl) (blkOk_by (N := N_View_names_in) (sc := (defScope s_View_names_in)) (own := [("name", 2)]) (by decide +kernel)) (fun _ => (rg_name)) (goes_name) (own_name (by decide)) (fun _ _ _ _ _ => (pg_name (i := 2) sc_View_names_in.nd rfl (Or.inl rfl))) (fun _ _ _ _ _ => (pts_one (dt_cmp (op_eqAny hr.units) rs_eq (de_meth (ci := 1) (dv 0) C.cl_View C.me_View_state_of (ok_View_state_of C) (Pas.of LamX.takes0) (hr.mono (by first | omega | decide)) C.b_View_state_of .nil (fun _ _ => .nil) (dl_cons (dv 2) dl_nil)) (dv 1) (nomark _)))) (fun _ _ _ _ _ => (dv 2)))))
theorem sc_View_forget_dead : FnScope N_View_forget_dead ["self"] (defScope s_View_forget_dead) := ⟨rfl, rfl, rfl, by decide +kernel, rfl, by decide +kernel, by decide +kernel⟩
theorem ok_View_forget_dead (C : Cnd K mg base) : FnOk P w K mg base (L2.CX P w) 3 (He.fAd K ("View", some "forget_dead")) (fdA K ("View", some "forget_dead")) ["self"] (spD (gg K) 1 F_View_forget_dead) := by
    refine fn_okD3 (m := m_View_forget_dead) C.def_View_forget_dead sc_View_forget_dead rfl rfl fun A outer s H E hr => ?_
    have tk : Takes (cxOf (L2.CX P w) P w K mg base N_View_forget_dead "View.forget_dead" (defScope s_View_forget_dead) (He.fAd K ("View", some "forget_dead")) (fdA K ("View", some "forget_dead")).code A outer s H E) (fun cls d _ H => E cls d H) := takes_of rfl rfl rfl rfl
    have po : PassesOwn (model P w) (A.deeper (PyProof.Rows.envOfC "View.forget_dead" (defScope s_View_forget_dead) s.heap.objs.size (He.fAd K ("View", some "forget_dead")) (fdA K ("View", some "forget_dead")).code)) (PyProof.Rows.envOfC "View.forget_dead" (defScope s_View_forget_dead) s.heap.objs.size (He.fAd K ("View", some "forget_dead")) (fdA K ("View", some "forget_dead")).code) (cxOf (L2.CX P w) P w K mg base N_View_forget_dead "View.forget_dead" (defScope s_View_forget_dead) (He.fAd K ("View", some "forget_dead")) (fdA K ("View", some "forget_dead")).code A outer s H E).xe := passes_of rfl
    exact (dss_cons (ds_set (i := 1) sc_View_forget_dead.nd rfl (Or.inl rfl) (de_meth (ci := 1) (dv 0) C.cl_View C.me_View_names_in (ok_View_names_in C) (Pas.of tk) (hr.mono (by first | omega | decide)) C.b_View_names_in .nil (fun _ _ => .nil) (dl_cons (dg_str C.gs_DEAD) dl_nil)))
  (dss_cons (ds_for (it_lst rfl) (pi_list (dv 1)) po rfl (pg_name (i := 2) sc_View_forget_dead.nd rfl (Or.inl rfl)) (rg_name) (goes_name)
  (dss_cons (ds_asgG (de_dpop1 (de_fld rfl C.no_rows (dv 0)) (dv 2) ⟨rfl, rfl, rfl, rfl⟩) (pg_tup rfl (pgs_cons (pg_name (i := 3) sc_View_forget_dead.nd rfl (Or.inl rfl)) (pgs_cons (pg_name (i := 4) sc_View_forget_dead.nd rfl (Or.inl rfl)) pgs_nil))) (rg_names (is := [3, 4]) (rgs_cons rg_name (rgs_cons rg_name rgs_nil))) (goes_names))
  (dss_one (ds_asgG (dv 3) (pg_sub (de_fld rfl C.no_forgotten (dv 0)) (dv 2) (set_dict (u1 hr.units)) (fun _ => rfl)) (rg_sub rset_dict) goes_sub))))
  (dss_one (ds_ret (dv 1)))))
theorem sc_Crowd_init : FnScope N_Crowd_init ["self", "names", "seed"] (defScope s_Crowd_init) := ⟨rfl, rfl, rfl, by decide +kernel, rfl, by decide +kernel, by decide +kernel⟩
theorem ok_Crowd_init (C : Cnd K mg base) : FnOk P w K mg base (L2.CX P w) 3 (He.fAd K ("Crowd", some "__init__")) (fdA K ("Crowd", some "__init__")) ["self", "names", "seed"] (spD (gg K) 3 F_Crowd_init) := by
    refine fn_okD3 (m := m_Crowd_init) C.def_Crowd_init sc_Crowd_init rfl rfl fun A outer s H E hr => ?_
    have tk : Takes (cxOf (L2.CX P w) P w K mg base N_Crowd_init "Crowd.__init__" (defScope s_Crowd_init) (He.fAd K ("Crowd", some "__init__")) (fdA K ("Crowd", some "__init__")).code A outer s H E) (fun cls d _ H => E cls d H) := takes_of rfl rfl rfl rfl
    have po : PassesOwn (model P w) (A.deeper (PyProof.Rows.envOfC "Crowd.__init__" (defScope s_Crowd_init) s.heap.objs.size (He.fAd K ("Crowd", some "__init__")) (fdA K ("Crowd", some "__init__")).code)) (PyProof.Rows.envOfC "Crowd.__init__" (defScope s_Crowd_init) s.heap.objs.size (He.fAd K ("Crowd", some "__init__")) (fdA K ("Crowd", some "__init__")).code) (cxOf (L2.CX P w) P w K mg base N_Crowd_init "Crowd.__init__" (defScope s_Crowd_init) (He.fAd K ("Crowd", some "__init__")) (fdA K ("Crowd", some "__init__")).code A outer s H E).xe := passes_of rfl
    exact (dss_cons (ds_fld C.no_views (dv 0) (de_dcQ (own := [("name", 3)]) rfl sc_Crowd_init.nd (pi_list (dv 1)) (it_lst rfl) (blkOk_by (N := N_Crowd_init) (sc := (defScope s_Crowd_init)) (own := [("name", 3)]) (by decide +kernel)) (fun _ => (rg_name)) (goes_name) (own_name (by decide)) (fun _ _ _ _ _ => (pg_name (i := 3) sc_Crowd_init.nd rfl (Or.inl rfl))) (fun _ _ _ _ _ => pts_nil) (fun _ _ _ _ _ => (dv 3)) (fun _ _ _ _ _ => (de_make (ci := 1) (dfl := []) C.mk_View (ok_View_init C) (Pas.of LamX.takes0) (hr.mono (by first | omega | decide)) rfl C.gl_View C.b_View_init .nil (fun _ _ => .nil) (dl_cons (dv 3) (dl_cons (dv 1) dl_nil))))))
  (dss_cons (ds_fld C.no_down (dv 0) de_dnew)
  (dss_one (ds_fld C.no_turn (dv 0) (dv 2)))))
theorem sc_Crowd_partner : FnScope N_Crowd_partner ["self", "name"] (defScope s_Crowd_partner) := ⟨rfl, rfl, rfl, by decide +kernel, rfl, by decide +kernel, by decide +kernel⟩
theorem ok_Crowd_partner (C : Cnd K mg base) : FnOk P w K mg base (L2.CX P w) 1 (He.fAd K ("Crowd", some "partner")) (fdA K ("Crowd", some "partner")) ["self", "name"] (spD (gg K) 2 F_Crowd_partner) := by
    refine fn_okD3 (m := m_Crowd_partner) C.def_Crowd_partner sc_Crowd_partner rfl rfl fun A outer s H E hr => ?_
    have tk : Takes (cxOf (L2.CX P w) P w K mg base N_Crowd_partner "Crowd.partner" (defScope s_Crowd_partner) (He.fAd K ("Crowd", some "partner")) (fdA K ("Crowd", some "partner")).code A outer s H E) (fun cls d _ H => E cls d H) := takes_of rfl rfl rfl rfl
    have po : PassesOwn (model P w) (A.deeper (PyProof.Rows.envOfC "Crowd.partner" (defScope s_Crowd_partner) s.heap.objs.size (He.fAd K ("Crowd", some "partner")) (fdA K ("Crowd", some "partner")).code)) (PyProof.Rows.envOfC "Crowd.partner" (defScope s_Crowd_partner) s.heap.objs.size (He.fAd K ("Crowd", some "partner")) (fdA K ("Crowd", some "partner")).code) (cxOf (L2.CX P w) P w K mg base N_Crowd_partner "Crowd.partner" (defScope s_Crowd_partner) (He.fAd K ("Crowd", some "partner")) (fdA K ("Crowd", some "partner")).code A outer s H E).xe := passes_of rfl
    exact (dss_cons (ds_setLcQ (i := 2) (own := [("one", 3)]) rfl sc_Crowd_partner.nd rfl rfl (sw_true rfl rfl rfl (by decide +kernel)) (pi_list (de_callB (call_sortAny rfl) rs_sorted rfl (C.fr_sorted) (by decide +kernel) (dl_cons (de_fld rfl C.no_views (dv 0)) dl_nil))) (it_lst rfl) (blkOk_by (N := N_Crowd_partner) (sc := (defScope s_Crowd_partner)) (own := [("one", 3)]) (by decide +kernel)) (fun _ => (rg_name)) (goes_name) (own_name (by decide)) (fun _ _ _ _ _ => (pg_name (i := 3) sc_Crowd_partner.nd rfl (Or.inl rfl))) (fun _ _ _ _ _ => (pts_one (dt_cmp (op_neAny hr.units) rs_ne (dv 3) (dv 1) (nomark _)))) (fun _ _ _ _ _ => (dv 3)))
  (dss_cons (ds_if (dt_cmp (op_eqAny hr.units) rs_eq (dv 2) (de_lst dl_nil) (nomark _))
  (dss_one (ds_ret dk_non))
  dss_nil)
  (dss_one (ds_ret (de_ix ix_seq rs_it (dv 2) (de_op op_mod rs_mod (de_fld rfl C.no_turn (dv 0)) (d_len rfl (C.fr_len) (dv 2))) (fun _ _ => rfl))))))
theorem sc_Crowd_names_up : FnScope N_Crowd_names_up ["self"] (defScope s_Crowd_names_up) := ⟨rfl, rfl, rfl, by decide +kernel, rfl, by decide +kernel, by decide +kernel⟩
theorem ok_Crowd_names_up (C : Cnd K mg base) : FnOk P w K mg base (L2.CX P w) 1 (He.fAd K ("Crowd", some "names_up")) (fdA K ("Crowd", some "names_up")) ["self"] (spD (gg K) 1 F_Crowd_names_up) := by
    refine fn_okD3 (m := m_Crowd_names_up) C.def_Crowd_names_up sc_Crowd_names_up rfl rfl fun A outer s H E hr => ?_
    have tk : Takes (cxOf (L2.CX P w) P w K mg base N_Crowd_names_up "Crowd.names_up" (defScope s_Crowd_names_up) (He.fAd K ("Crowd", some "names_up")) (fdA K ("Crowd", some "names_up")).code A outer s H E) (fun cls d _ H => E cls d H) := takes_of rfl rfl rfl rfl
    have po : PassesOwn (model P w) (A.deeper (PyProof.Rows.envOfC "Crowd.names_up" (defScope s_Crowd_names_up) s.heap.objs.size (He.fAd K ("Crowd", some "names_up")) (fdA K ("Crowd", some "names_up")).code)) (PyProof.Rows.envOfC "Crowd.names_up" (defScope s_Crowd_names_up) s.heap.objs.size (He.fAd K ("Crowd", some "names_up")) (fdA K ("Crowd", some "names_up")).code) (cxOf (L2.CX P w) P w K mg base N_Crowd_names_up "Crowd.names_up" (defScope s_Crowd_names_up) (He.fAd K ("Crowd", some "names_up")) (fdA K ("Crowd", some "names_up")).code A outer s H E).xe := passes_of rfl
    exact (dss_one (ds_ret (de_lcQ (own := [("name", 1)]) rfl sc_Crowd_names_up.nd (pi_list (de_callB (call_sortAny rfl) rs_sorted rfl (C.fr_sorted) (by decide +kernel) (dl_cons (de_fld rfl C.no_views (dv 0)) dl_nil))) (it_lst rfl) (blkOk_by (N := N_Crowd_names_up) (sc := (defScope s_Crowd_names_up)) (own := [("name", 1)]) (by decide +kernel)) (fun _ => (rg_name)) (goes_name) (own_name (by decide)) (fun _ _ _ _ _ => (pg_name (i := 1) sc_Crowd_names_up.nd rfl (Or.inl rfl))) (fun _ _ _ _ _ => (pts_one (dt_dnin (u1 hr.units) (dv 1) (de_fld rfl C.no_down (dv 0)) rfl))) (fun _ _ _ _ _ => (dv 1)))))
theorem sc_Crowd_tell_round : FnScope N_Crowd_tell_round ["self"] (defScope s_Crowd_tell_round) := ⟨rfl, rfl, rfl, by decide +kernel, rfl, by decide +kernel, by decide +kernel⟩
theorem ok_Crowd_tell_round (C : Cnd K mg base) : FnOk P w K mg base (L2.CX P w) 3 (He.fAd K ("Crowd", some "tell_round")) (fdA K ("Crowd", some "tell_round")) ["self"] (spD (gg K) 1 F_Crowd_tell_round) := by
    refine fn_okD3 (m := m_Crowd_tell_round) C.def_Crowd_tell_round sc_Crowd_tell_round rfl rfl fun A outer s H E hr => ?_
    have tk : Takes (cxOf (L2.CX P w) P w K mg base N_Crowd_tell_round "Crowd.tell_round" (defScope s_Crowd_tell_round) (He.fAd K ("Crowd", some "tell_round")) (fdA K ("Crowd", some "tell_round")).code A outer s H E) (fun cls d _ H => E cls d H) := takes_of rfl rfl rfl rfl
    have po : PassesOwn (model P w) (A.deeper (PyProof.Rows.envOfC "Crowd.tell_round" (defScope s_Crowd_tell_round) s.heap.objs.size (He.fAd K ("Crowd", some "tell_round")) (fdA K ("Crowd", some "tell_round")).code)) (PyProof.Rows.envOfC "Crowd.tell_round" (defScope s_Crowd_tell_round) s.heap.objs.size (He.fAd K ("Crowd", some "tell_round")) (fdA K ("Crowd", some "tell_round")).code) (cxOf (L2.CX P w) P w K mg base N_Crowd_tell_round "Crowd.tell_round" (defScope s_Crowd_tell_round) (He.fAd K ("Crowd", some "tell_round")) (fdA K ("Crowd", some "tell_round")).code A outer s H E).xe := passes_of rfl
    exact (dss_cons (ds_fld C.no_turn (dv 0) (de_op op_addAny rs_add (de_fld rfl C.no_turn (dv 0)) dk_int))
  (dss_cons (ds_set (i := 1) sc_Crowd_tell_round.nd rfl (Or.inl rfl) (de_meth0 (ci := 2) (dv 0) C.cl_Crowd C.me_Crowd_names_up (ok_Crowd_names_up C) (Pas.of tk) (hr.mono (by first | omega | decide)) C.b_Crowd_names_up .nil (fun _ _ => .nil)))
  (dss_cons (ds_for (it_lst rfl) (pi_list (dv 1)) po rfl (pg_name (i := 2) sc_Crowd_tell_round.nd rfl (Or.inl rfl)) (rg_name) (goes_name)
  (dss_one (ds_expr (de_meth0 (ci := 1) (de_dget (u1 hr.units) (de_fld rfl C.no_views (dv 0)) (dv 2) (fun _ _ => rfl)) C.cl_View C.me_View_tick (ok_View_tick C) (Pas.of tk) (hr.mono (by first | omega | decide)) C.b_View_tick .nil (fun _ _ => .nil)))))
  (dss_one (ds_for (it_lst rfl) (pi_list (dv 1)) po rfl (pg_name (i := 2) sc_Crowd_tell_round.nd rfl (Or.inl rfl)) (rg_name) (goes_name)
  (dss_cons (ds_set (i := 3) sc_Crowd_tell_round.nd rfl (Or.inl rfl) (de_meth (ci := 2) (dv 0) C.cl_Crowd C.me_Crowd_partner (ok_Crowd_partner C) (Pas.of tk) (hr.mono (by first | omega | decide)) C.b_Crowd_partner .nil (fun _ _ => .nil) (dl_cons (dv 2) dl_nil)))
  (dss_one (ds_if (dt_in rfl (dv 3) (dv 1) rfl)
  (dss_cons (ds_expr (de_meth (ci := 1) (de_dget (u1 hr.units) (de_fld rfl C.no_views (dv 0)) (dv 3) (fun _ _ => rfl)) C.cl_View C.me_View_hear (ok_View_hear C) (Pas.of tk) (hr.mono (by first | omega | decide)) C.b_View_hear .nil (fun _ _ => .nil) (dl_cons (de_meth0 (ci := 1) (de_dget (u1 hr.units) (de_fld rfl C.no_views (dv 0)) (dv 2) (fun _ _ => rfl)) C.cl_View C.me_View_news (ok_View_news C) (Pas.of tk) (hr.mono (by first | omega | decide)) C.b_View_news .nil (fun _ _ => .nil)) dl_nil)))
  (dss_one (ds_expr (de_meth (ci := 1) (de_dget (u1 hr.units) (de_fld rfl C.no_views (dv 0)) (dv 2) (fun _ _ => rfl)) C.cl_View C.me_View_hear (ok_View_hear C) (Pas.of tk) (hr.mono (by first | omega | decide)) C.b_View_hear .nil (fun _ _ => .nil) (dl_cons (de_meth0 (ci := 1) (de_dget (u1 hr.units) (de_fld rfl C.no_views (dv 0)) (dv 3) (fun _ _ => rfl)) C.cl_View C.me_View_news (ok_View_news C) (Pas.of tk) (hr.mono (by first | omega | decide)) C.b_View_news .nil (fun _ _ => .nil)) dl_nil)))))
  dss_nil))))))))
theorem sc_Crowd_set_down : FnScope N_Crowd_set_down ["self", "name", "down"] (defScope s_Crowd_set_down) := ⟨rfl, rfl, rfl, by decide +kernel, rfl, by decide +kernel, by decide +kernel⟩
theorem ok_Crowd_set_down (C : Cnd K mg base) : FnOk P w K mg base (L2.CX P w) 1 (He.fAd K ("Crowd", some "set_down")) (fdA K ("Crowd", some "set_down")) ["self", "name", "down"] (spD (gg K) 3 F_Crowd_set_down) := by
    refine fn_okD3 (m := m_Crowd_set_down) C.def_Crowd_set_down sc_Crowd_set_down rfl rfl fun A outer s H E hr => ?_
    have tk : Takes (cxOf (L2.CX P w) P w K mg base N_Crowd_set_down "Crowd.set_down" (defScope s_Crowd_set_down) (He.fAd K ("Crowd", some "set_down")) (fdA K ("Crowd", some "set_down")).code A outer s H E) (fun cls d _ H => E cls d H) := takes_of rfl rfl rfl rfl
    have po : PassesOwn (model P w) (A.deeper (PyProof.Rows.envOfC "Crowd.set_down" (defScope s_Crowd_set_down) s.heap.objs.size (He.fAd K ("Crowd", some "set_down")) (fdA K ("Crowd", some "set_down")).code)) (PyProof.Rows.envOfC "Crowd.set_down" (defScope s_Crowd_set_down) s.heap.objs.size (He.fAd K ("Crowd", some "set_down")) (fdA K ("Crowd", some "set_down")).code) (cxOf (L2.CX P w) P w K mg base N_Crowd_set_down "Crowd.set_down" (defScope s_Crowd_set_down) (He.fAd K ("Crowd", some "set_down")) (fdA K ("Crowd", some "set_down")).code A outer s H E).xe := passes_of rfl
    exact (dss_cons (ds_if (dt_dnin (u1 hr.units) (dv 1) (de_fld rfl C.no_views (dv 0)) rfl)
  (dss_one (ds_raise (c := 0) rfl tk (C.pm_MachineError rfl rfl) (fun _ _ _ z => z)))
  dss_nil)
  (dss_one (ds_if (dt_val (dv 2))
  (dss_one (ds_asgG dk_bl (pg_sub (de_fld rfl C.no_down (dv 0)) (dv 1) (set_dict (u1 hr.units)) (fun _ => rfl)) (rg_sub rset_dict) goes_sub))
  (dss_one (ds_expr (de_dpop2 (de_fld rfl C.no_down (dv 0)) (dv 1) dk_non ⟨rfl, rfl, rfl, rfl⟩))))))
theorem sc_Crowd_agree_on : FnScope N_Crowd_agree_on ["self", "name"] (defScope s_Crowd_agree_on) := ⟨rfl, rfl, rfl, by decide +kernel, rfl, by decide +kernel, by decide +kernel⟩
theorem ok_Crowd_agree_on (C : Cnd K mg base) : FnOk P w K mg base (L2.CX P w) 2 (He.fAd K ("Crowd", some "agree_on")) (fdA K ("Crowd", some "agree_on")) ["self", "name"] (spD (gg K) 2 F_Crowd_agree_on) := by
    refine fn_okD3 (m := m_Crowd_agree_on) C.def_Crowd_agree_on sc_Crowd_agree_on rfl rfl fun A outer s H E hr => ?_
    have tk : Takes (cxOf (L2.CX P w) P w K mg base N_Crowd_agree_on "Crowd.agree_on" (defScope s_Crowd_agree_on) (He.fAd K ("Crowd", some "agree_on")) (fdA K ("Crowd", some "agree_on")).code A outer s H E) (fun cls d _ H => E cls d H) := takes_of rfl rfl rfl rfl
    have po : PassesOwn (model P w) (A.deeper (PyProof.Rows.envOfC "Crowd.agree_on" (defScope s_Crowd_agree_on) s.heap.objs.size (He.fAd K ("Crowd", some "agree_on")) (fdA K ("Crowd", some "agree_on")).code)) (PyProof.Rows.envOfC "Crowd.agree_on" (defScope s_Crowd_agree_on) s.heap.objs.size (He.fAd K ("Crowd", some "agree_on")) (fdA K ("Crowd", some "agree_on")).code) (cxOf (L2.CX P w) P w K mg base N_Crowd_agree_on "Crowd.agree_on" (defScope s_Crowd_agree_on) (He.fAd K ("Crowd", some "agree_on")) (fdA K ("Crowd", some "agree_on")).code A outer s H E).xe := passes_of rfl
    exact (dss_cons (ds_setLcQ (i := 2) (own := [("one", 3)]) rfl sc_Crowd_agree_on.nd rfl rfl (sw_true rfl rfl rfl (by decide +kernel)) (pi_list (de_meth0 (ci := 2) (dv 0) C.cl_Crowd C.me_Crowd_names_up (ok_Crowd_names_up C) (Pas.of LamX.takes0) (hr.mono (by first | omega | decide)) C.b_Crowd_names_up .nil (fun _ _ => .nil))) (it_lst rfl) (blkOk_by (N := N_Crowd_agree_on) (sc := (defScope s_Crowd_agree_on)) (own := [("one", 3)]) (by decide +kernel)) (fun _ => (rg_name)) (goes_name) (own_name (by decide)) (fun _ _ _ _ _ => (pg_name (i := 3) sc_Crowd_agree_on.nd rfl (Or.inl rfl))) (fun _ _ _ _ _ => pts_nil) (fun _ _ _ _ _ => (de_dget (u1 hr.units) (de_fld rfl C.no_views (dv 0)) (dv 3) (fun _ _ => rfl))))
  (dss_one (ds_ret (de_sortSc (own := [("view", 4)]) rfl sc_Crowd_agree_on.nd (pi_list (dv 2)) (it_lst rfl) (blkOk_by (N := N_Crowd_agree_on) (sc := (defScope s_Crowd_agree_on)) (own := [("view", 4)]) (by decide +kernel)) (fun _ => (rg_name)) (goes_name) (own_name (by decide)) (fun _ _ _ _ _ => (pg_name (i := 4) sc_Crowd_agree_on.nd rfl (Or.inl rfl))) (fun _ _ _ _ _ => (pts_one (dt_din (u1 hr.units) (dv 1) (de_fld rfl C.no_rows (dv 4)) rfl))) (fun _ _ _ _ _ => (de_meth (ci := 1) (dv 4) C.cl_View C.me_View_state_of (ok_View_state_of C) (Pas.of LamX.takes0) (hr.mono (by first | omega | decide)) C.b_View_state_of .nil (fun _ _ => .nil) (dl_cons (dv 1) dl_nil))) rfl (C.fr_sorted) (by decide +kernel)))))
theorem sc__law_dice : FnScope N__law_dice ["cell"] (defScope s__law_dice) := ⟨rfl, rfl, rfl, by decide +kernel, rfl, by decide +kernel, by decide +kernel⟩
theorem ok__law_dice (C : Cnd K mg base) : FnOk P w K mg base (L2.CX P w) 1 (He.fAd K ("_law_dice", none)) (fdA K ("_law_dice", none)) ["cell"] (spD (gg K) 1 F__law_dice) := by
    refine fn_okD3 (m := m__law_dice) C.def__law_dice sc__law_dice rfl rfl fun A outer s H E hr => ?_
    have tk : Takes (cxOf (L2.CX P w) P w K mg base N__law_dice "_law_dice" (defScope s__law_dice) (He.fAd K ("_law_dice", none)) (fdA K ("_law_dice", none)).code A outer s H E) (fun cls d _ H => E cls d H) := takes_of rfl rfl rfl rfl
    have po : PassesOwn (model P w) (A.deeper (PyProof.Rows.envOfC "_law_dice" (defScope s__law_dice) s.heap.objs.size (He.fAd K ("_law_dice", none)) (fdA K ("_law_dice", none)).code)) (PyProof.Rows.envOfC "_law_dice" (defScope s__law_dice) s.heap.objs.size (He.fAd K ("_law_dice", none)) (fdA K ("_law_dice", none)).code) (cxOf (L2.CX P w) P w K mg base N__law_dice "_law_dice" (defScope s__law_dice) (He.fAd K ("_law_dice", none)) (fdA K ("_law_dice", none)).code A outer s H E).xe := passes_of rfl
    exact (dss_cons (ds_if (dt_chain op_lt op_lt rs_lt rs_lt (de_op op_sub rs_sub dk_int dk_int) (dv 0) dk_int)
  (dss_one (ds_ret (de_lst (dl_cons (de_callB call_abs rs_abs rfl (C.fr_abs) (by decide +kernel) (dl_cons (dv 0) dl_nil)) (dl_cons dk_int (dl_cons dk_int dl_nil))))))
  dss_nil)
  (dss_one (ds_ret (de_lst (dl_cons (dv 0) (dl_cons (de_op op_addAny rs_add dk_int (de_op op_mod rs_mod (de_callTy call_int1 rs_int rfl (C.fr_int) (by decide +kernel) (dl_cons (dv 0) dl_nil)) dk_int)) (dl_cons (de_callTy call_int1 rs_int rfl (C.fr_int) (by decide +kernel) (dl_cons (de_cmp op_ge rs_ge (dv 0) (de_op op_pow rs_pow dk_int dk_int) (nomark _)) dl_nil)) dl_nil)))))))
theorem sc__law_roll : FnScope N__law_roll ["dice", "many"] (defScope s__law_roll) := ⟨rfl, rfl, rfl, by decide +kernel, rfl, by decide +kernel, by decide +kernel⟩
theorem ok__law_roll (C : Cnd K mg base) : ∀ n, FnOk P w K mg base (L2.CX P w) (0 + n) (He.fAd K ("_law_roll", none)) (fdA K ("_law_roll", none)) ["dice", "many"] (spD (gg K) 2 (R__law_roll n))
  | 0 => fn_bot
  | n + 1 => by
    have ih__law_roll := fun (_ : Cnd K mg base) => ok__law_roll C n
    refine fn_okD3 (m := m__law_roll (R__law_roll n)) C.def__law_roll sc__law_roll rfl rfl fun A outer s H E hr => ?_
    have hr : Room (0 + n) _ := hr
    have tk : Takes (cxOf (L2.CX P w) P w K mg base N__law_roll "_law_roll" (defScope s__law_roll) (He.fAd K ("_law_roll", none)) (fdA K ("_law_roll", none)).code A outer s H E) (fun cls d _ H => E cls d H) := takes_of rfl rfl rfl rfl
    have po : PassesOwn (model P w) (A.deeper (PyProof.Rows.envOfC "_law_roll" (defScope s__law_roll) s.heap.objs.size (He.fAd K ("_law_roll", none)) (fdA K ("_law_roll", none)).code)) (PyProof.Rows.envOfC "_law_roll" (defScope s__law_roll) s.heap.objs.size (He.fAd K ("_law_roll", none)) (fdA K ("_law_roll", none)).code) (cxOf (L2.CX P w) P w K mg base N__law_roll "_law_roll" (defScope s__law_roll) (He.fAd K ("_law_roll", none)) (fdA K ("_law_roll", none)).code A outer s H E).xe := passes_of rfl
    exact (dss_cons (ds_if (PW.pt (dw_or (dt_cmp (op_eqAny hr.units) rs_eq (de_ix ix_seq rs_it (dv 0) dk_int (fun _ _ => rfl)) dk_int (nomark _)) (pw_or1 (PW.pt (dw_and (dt_cmp (op_eqAny hr.units) rs_eq (de_ix ix_seq rs_it (dv 0) dk_int (fun _ _ => rfl)) dk_int (nomark _)) (pw_and1 (dt_cmp op_gt rs_gt (de_ix ix_seq rs_it (dv 0) dk_int (fun _ _ => rfl)) dk_int (nomark _))))))))
  (dss_cons (ds_set (i := 2) sc__law_roll.nd rfl (Or.inl rfl) (de_op op_mod rs_mod (de_callTy call_int1 rs_int rfl (C.fr_int) (by decide +kernel) (dl_cons (de_ix ix_seq rs_it (dv 0) dk_int (fun _ _ => rfl)) dl_nil)) (dv 1)))
  (dss_cons (ds_asgG (de_op op_fdivW rs_fdiv (de_ix ix_seq rs_it (dv 0) dk_int (fun _ _ => rfl)) (dv 1)) (pg_sub (dv 0) dk_int set_list (fun _ => rfl)) (rg_sub rset_list) goes_sub)
  (dss_one (ds_ret (dv 2)))))
  dss_nil)
  (dss_cons (ds_asgG dk_int (pg_sub (dv 0) dk_int set_list (fun _ => rfl)) (rg_sub rset_list) goes_sub)
  (dss_cons (ds_if (dt_cmp op_gt rs_gt (dv 1) dk_int (nomark _))
  (dss_one (ds_ret (de_op op_mod rs_mod (de_callTy call_int1 rs_int rfl (C.fr_int) (by decide +kernel) (dl_cons (de_op op_addAny rs_add (de_op op_mulAny rs_mul (de_call (dfl := []) (ih__law_roll C) (Pas.of tk) (hr.mono (by first | omega | decide)) rfl C.gl__law_roll C.kp__law_roll C.b__law_roll .nil (fun _ _ => .nil) (dl_cons (dv 0) (dl_cons (de_op op_addAny rs_add (de_op op_fdivW rs_fdiv (dv 1) dk_int) dk_int) dl_nil))) dk_int) (de_call (dfl := []) (ih__law_roll C) (Pas.of tk) (hr.mono (by first | omega | decide)) rfl C.gl__law_roll C.kp__law_roll C.b__law_roll .nil (fun _ _ => .nil) (dl_cons (dv 0) (dl_cons dk_int dl_nil)))) dl_nil)) (dv 1))))
  dss_nil)
  (dss_cons (ds_asgG (de_op op_mod rs_mod (de_callTy call_int1 rs_int rfl (C.fr_int) (by decide +kernel) (dl_cons (de_op op_addAny rs_add (de_op op_addAny rs_add (de_op op_mulAny rs_mul (de_ix ix_seq rs_it (dv 0) dk_int (fun _ _ => rfl)) dk_int) (de_op op_mulAny rs_mul (de_ix ix_seq rs_it (dv 0) dk_int (fun _ _ => rfl)) dk_int)) dk_int) dl_nil)) dk_int) (pg_sub (dv 0) dk_int set_list (fun _ => rfl)) (rg_sub rset_list) goes_sub)
  (dss_cons (ds_asgG (de_op op_addAny rs_add (de_ix ix_seq rs_it (dv 0) dk_int (fun _ _ => rfl)) dk_int) (pg_sub (dv 0) dk_int set_list (fun _ => rfl)) (rg_sub rset_list) goes_sub)
  (dss_one (ds_ret (de_op op_mod rs_mod (de_callTy call_int1 rs_int rfl (C.fr_int) (by decide +kernel) (dl_cons (de_op op_fdivW rs_fdiv (de_ix ix_seq rs_it (dv 0) dk_int (fun _ _ => rfl)) dk_int) dl_nil)) (dv 1)))))))))
theorem sc__law_rounds : FnScope N__law_rounds ["script", "most"] (defScope s__law_rounds) := ⟨rfl, rfl, rfl, by decide +kernel, rfl, by decide +kernel, by decide +kernel⟩
theorem ok__law_rounds (C : Cnd K mg base) : FnOk P w K mg base (L2.CX P w) 2 (He.fAd K ("_law_rounds", none)) (fdA K ("_law_rounds", none)) ["script", "most"] (spD (gg K) 2 F__law_rounds) := by
    refine fn_okD3 (m := m__law_rounds) C.def__law_rounds sc__law_rounds rfl rfl fun A outer s H E hr => ?_
    have tk : Takes (cxOf (L2.CX P w) P w K mg base N__law_rounds "_law_rounds" (defScope s__law_rounds) (He.fAd K ("_law_rounds", none)) (fdA K ("_law_rounds", none)).code A outer s H E) (fun cls d _ H => E cls d H) := takes_of rfl rfl rfl rfl
    have po : PassesOwn (model P w) (A.deeper (PyProof.Rows.envOfC "_law_rounds" (defScope s__law_rounds) s.heap.objs.size (He.fAd K ("_law_rounds", none)) (fdA K ("_law_rounds", none)).code)) (PyProof.Rows.envOfC "_law_rounds" (defScope s__law_rounds) s.heap.objs.size (He.fAd K ("_law_rounds", none)) (fdA K ("_law_rounds", none)).code) (cxOf (L2.CX P w) P w K mg base N__law_rounds "_law_rounds" (defScope s__law_rounds) (He.fAd K ("_law_rounds", none)) (fdA K ("_law_rounds", none)).code A outer s H E).xe := passes_of rfl
    exact (dss_cons (ds_set (i := 2) sc__law_rounds.nd rfl (Or.inl rfl) (de_slice rfl (dv 0) do_none (do_some (dv 1))))
  (dss_cons (ds_if (dt_cmp (op_eqAny hr.units) rs_eq (dv 2) (de_lst dl_nil) (nomark _))
  (dss_one (ds_set (i := 2) sc__law_rounds.nd rfl (Or.inl rfl) (de_lst (dl_cons dk_int dl_nil))))
  dss_nil)
  (dss_one (ds_ret (de_lcQ (own := [("cell", 3)]) rfl sc__law_rounds.nd (pi_list (dv 2)) (it_lst rfl) (blkOk_by (N := N__law_rounds) (sc := (defScope s__law_rounds)) (own := [("cell", 3)]) (by decide +kernel)) (fun _ => (rg_name)) (goes_name) (own_name (by decide)) (fun _ _ _ _ _ => (pg_name (i := 3) sc__law_rounds.nd rfl (Or.inl rfl))) (fun _ _ _ _ _ => pts_nil) (fun _ _ _ _ _ => (de_call (dfl := []) (ok__law_dice C) (Pas.of LamX.takes0) (hr.mono (by first | omega | decide)) rfl C.gl__law_dice C.kp__law_dice C.b__law_dice .nil (fun _ _ => .nil) (dl_cons (dv 3) dl_nil))))))))
theorem sc__law_state : FnScope N__law_state ["view", "name", "mine"] (defScope s__law_state) := ⟨rfl, rfl, rfl, by decide +kernel, rfl, by decide +kernel, by decide +kernel⟩
theorem ok__law_state (C : Cnd K mg base) : FnOk P w K mg base (L2.CX P w) 1 (He.fAd K ("_law_state", none)) (fdA K ("_law_state", none)) ["view", "name", "mine"] (spD (gg K) 3 F__law_state) := by
    refine fn_okD3 (m := m__law_state) C.def__law_state sc__law_state rfl rfl fun A outer s H E hr => ?_
    have tk : Takes (cxOf (L2.CX P w) P w K mg base N__law_state "_law_state" (defScope s__law_state) (He.fAd K ("_law_state", none)) (fdA K ("_law_state", none)).code A outer s H E) (fun cls d _ H => E cls d H) := takes_of rfl rfl rfl rfl
    have po : PassesOwn (model P w) (A.deeper (PyProof.Rows.envOfC "_law_state" (defScope s__law_state) s.heap.objs.size (He.fAd K ("_law_state", none)) (fdA K ("_law_state", none)).code)) (PyProof.Rows.envOfC "_law_state" (defScope s__law_state) s.heap.objs.size (He.fAd K ("_law_state", none)) (fdA K ("_law_state", none)).code) (cxOf (L2.CX P w) P w K mg base N__law_state "_law_state" (defScope s__law_state) (He.fAd K ("_law_state", none)) (fdA K ("_law_state", none)).code A outer s H E).xe := passes_of rfl
    exact (dss_cons (ds_if (dt_cmp (op_eqAny hr.units) rs_eq (dv 1) (dv 2) (nomark _))
  (dss_one (ds_ret dk_str))
  dss_nil)
  (dss_cons (ds_set (i := 3) sc__law_state.nd rfl (Or.inl rfl) (de_op op_sub rs_sub (de_dget (u1 hr.units) (dv 0) dk_str (fun _ _ => rfl)) (de_ix ix_seq rs_it (de_dget (u1 hr.units) (de_dget (u1 hr.units) (dv 0) dk_str (fun _ _ => rfl)) (dv 1) (fun _ _ => rfl)) dk_int (fun _ _ => rfl))))
  (dss_one (ds_ret (de_if (dt_cmp op_lt rs_lt (dv 3) dk_int (nomark _)) dk_str (de_if (dt_cmp op_lt rs_lt (dv 3) dk_int (nomark _)) dk_str dk_str))))))
theorem sc__law_hear : FnScope N__law_hear ["view", "news"] (defScope s__law_hear) := ⟨rfl, rfl, rfl, by decide +kernel, rfl, by decide +kernel, by decide +kernel⟩
theorem ok__law_hear (C : Cnd K mg base) : FnOk P w K mg base (L2.CX P w) 1 (He.fAd K ("_law_hear", none)) (fdA K ("_law_hear", none)) ["view", "news"] (spD (gg K) 2 F__law_hear) := by
    refine fn_okD3 (m := m__law_hear) C.def__law_hear sc__law_hear rfl rfl fun A outer s H E hr => ?_
    have tk : Takes (cxOf (L2.CX P w) P w K mg base N__law_hear "_law_hear" (defScope s__law_hear) (He.fAd K ("_law_hear", none)) (fdA K ("_law_hear", none)).code A outer s H E) (fun cls d _ H => E cls d H) := takes_of rfl rfl rfl rfl
    have po : PassesOwn (model P w) (A.deeper (PyProof.Rows.envOfC "_law_hear" (defScope s__law_hear) s.heap.objs.size (He.fAd K ("_law_hear", none)) (fdA K ("_law_hear", none)).code)) (PyProof.Rows.envOfC "_law_hear" (defScope s__law_hear) s.heap.objs.size (He.fAd K ("_law_hear", none)) (fdA K ("_law_hear", none)).code) (cxOf (L2.CX P w) P w K mg base N__law_hear "_law_hear" (defScope s__law_hear) (He.fAd K ("_law_hear", none)) (fdA K ("_law_hear", none)).code A outer s H E).xe := passes_of rfl
    exact (dss_cons (ds_set (i := 2) sc__law_hear.nd rfl (Or.inl rfl) (de_dget (u1 hr.units) (dv 0) dk_str (fun _ _ => rfl)))
  (dss_one (ds_for (it_lst rfl) (pi_list (dv 1)) po rfl (pg_tup rfl (pgs_cons (pg_name (i := 3) sc__law_hear.nd rfl (Or.inl rfl)) (pgs_cons (pg_name (i := 4) sc__law_hear.nd rfl (Or.inl rfl)) pgs_nil))) (rg_names (is := [3, 4]) (rgs_cons rg_name (rgs_cons rg_name rgs_nil))) (goes_names)
  (dss_one (ds_if (PW.pt (dw_or (PW.pt (dw_and (dt_din (u1 hr.units) (dv 3) (dv 2) rfl) (pw_and1 (dt_cmp op_gt rs_gt (dv 4) (de_ix ix_seq rs_it (de_dget (u1 hr.units) (dv 2) (dv 3) (fun _ _ => rfl)) dk_int (fun _ _ => rfl)) (nomark _))))) (pw_or1 (PW.pt (dw_and (dt_dnin (u1 hr.units) (dv 3) (dv 2) rfl) (pw_and1 (dt_cmp op_gt rs_gt (dv 4) (de_dget2 (u1 hr.units) (de_dget (u1 hr.units) (dv 0) dk_str (fun _ _ => rfl)) (dv 3) (de_op op_sub rs_sub dk_int dk_int) ⟨rfl, rfl, rfl, rfl⟩) (nomark _))))))))
  (dss_one (ds_asgG (de_tup (dl_cons (dv 4) (dl_cons (de_dget (u1 hr.units) (dv 0) dk_str (fun _ _ => rfl)) dl_nil))) (pg_sub (dv 2) (dv 3) (set_dict (u1 hr.units)) (fun _ => rfl)) (rg_sub rset_dict) goes_sub))
  dss_nil)))))
theorem sc__law_news : FnScope N__law_news ["view"] (defScope s__law_news) := ⟨rfl, rfl, rfl, by decide +kernel, rfl, by decide +kernel, by decide +kernel⟩
theorem ok__law_news (C : Cnd K mg base) : FnOk P w K mg base (L2.CX P w) 1 (He.fAd K ("_law_news", none)) (fdA K ("_law_news", none)) ["view"] (spD (gg K) 1 F__law_news) := by
    refine fn_okD3 (m := m__law_news) C.def__law_news sc__law_news rfl rfl fun A outer s H E hr => ?_
    have tk : Takes (cxOf (L2.CX P w) P w K mg base N__law_news "_law_news" (defScope s__law_news) (He.fAd K ("_law_news", none)) (fdA K ("_law_news", none)).code A outer s H E) (fun cls d _ H => E cls d H) := takes_of rfl rfl rfl rfl
    have po : PassesOwn (model P w) (A.deeper (PyProof.Rows.envOfC "_law_news" (defScope s__law_news) s.heap.objs.size (He.fAd K ("_law_news", none)) (fdA K ("_law_news", none)).code)) (PyProof.Rows.envOfC "_law_news" (defScope s__law_news) s.heap.objs.size (He.fAd K ("_law_news", none)) (fdA K ("_law_news", none)).code) (cxOf (L2.CX P w) P w K mg base N__law_news "_law_news" (defScope s__law_news) (He.fAd K ("_law_news", none)) (fdA K ("_law_news", none)).code A outer s H E).xe := passes_of rfl
    exact (dss_one (ds_ret (de_lcQ (own := [("name", 1)]) rfl sc__law_news.nd (pi_list (de_callB (call_sortAny rfl) rs_sorted rfl (C.fr_sorted) (by decide +kernel) (dl_cons (de_dget (u1 hr.units) (dv 0) dk_str (fun _ _ => rfl)) dl_nil))) (it_lst rfl) (blkOk_by (N := N__law_news) (sc := (defScope s__law_news)) (own := [("name", 1)]) (by decide +kernel)) (fun _ => (rg_name)) (goes_name) (own_name (by decide)) (fun _ _ _ _ _ => (pg_name (i := 1) sc__law_news.nd rfl (Or.inl rfl))) (fun _ _ _ _ _ => pts_nil) (fun _ _ _ _ _ => (de_tup (dl_cons (dv 1) (dl_cons (de_ix ix_seq rs_it (de_dget (u1 hr.units) (de_dget (u1 hr.units) (dv 0) dk_str (fun _ _ => rfl)) (dv 1) (fun _ _ => rfl)) dk_int (fun _ _ => rfl)) dl_nil)))))))
theorem sc_law : FnScope N_law ["script"] (defScope s_law) := ⟨rfl, rfl, rfl, by decide +kernel, rfl, by decide +kernel, by decide +kernel⟩
theorem ok_law (C : Cnd K mg base) : FnOk P w K mg base (L2.CX P w) 7 (He.fAd K ("law", none)) (fdA K ("law", none)) ["script"] (spD (gg K) 1 F_law) := by
    refine fn_okD3 (m := m_law) C.def_law sc_law rfl rfl fun A outer s H E hr => ?_
    have tk : Takes (cxOf (L2.CX P w) P w K mg base N_law "law" (defScope s_law) (He.fAd K ("law", none)) (fdA K ("law", none)).code A outer s H E) (fun cls d _ H => E cls d H) := takes_of rfl rfl rfl rfl
    have po : PassesOwn (model P w) (A.deeper (PyProof.Rows.envOfC "law" (defScope s_law) s.heap.objs.size (He.fAd K ("law", none)) (fdA K ("law", none)).code)) (PyProof.Rows.envOfC "law" (defScope s_law) s.heap.objs.size (He.fAd K ("law", none)) (fdA K ("law", none)).code) (cxOf (L2.CX P w) P w K mg base N_law "law" (defScope s_law) (He.fAd K ("law", none)) (fdA K ("law", none)).code A outer s H E).xe := passes_of rfl
    exact (dss_cons (ds_for (it_lst rfl) (pi_list (de_call (dfl := []) (ok__law_rounds C) (Pas.of tk) (hr.mono (by first | omega | decide)) rfl C.gl__law_rounds C.kp__law_rounds C.b__law_rounds .nil (fun _ _ => .nil) (dl_cons (dv 0) (dl_cons dk_int dl_nil)))) po rfl (pg_name (i := 1) sc_law.nd rfl (Or.inr rfl)) (rg_name) (goes_name)
  (dss_cons (ds_set (i := 2) sc_law.nd rfl (Or.inr rfl) (de_slice rfl (de_lst (dl_cons dk_str (dl_cons dk_str (dl_cons dk_str (dl_cons dk_str (dl_cons dk_str (dl_cons dk_str dl_nil))))))) do_none (do_some (de_op op_addAny rs_add dk_int (de_call (dfl := []) (ok__law_roll C 5) (Pas.of tk) (hr.mono (by first | omega | decide)) rfl C.gl__law_roll C.kp__law_roll C.b__law_roll .nil (fun _ _ => .nil) (dl_cons (dv 1) (dl_cons dk_int dl_nil)))))))
  (dss_cons (ds_set (i := 3) sc_law.nd rfl (Or.inl rfl) (de_make (ci := 2) (dfl := []) C.mk_Crowd (ok_Crowd_init C) (Pas.of tk) (hr.mono (by first | omega | decide)) rfl C.gl_Crowd C.bf_Crowd_init.choose_spec.2 C.bf_Crowd_init.choose_spec.1 (fun _ _ => .nil) (dl_cons (dv 2) (dl_cons (de_call (dfl := []) (ok__law_roll C 5) (Pas.of tk) (hr.mono (by first | omega | decide)) rfl C.gl__law_roll C.kp__law_roll C.b__law_roll .nil (fun _ _ => .nil) (dl_cons (dv 1) (dl_cons dk_int dl_nil))) dl_nil))))
  (dss_cons (ds_set (i := 4) sc_law.nd rfl (Or.inr rfl) (de_callTy (call_dictAny rfl) rs_dict rfl (C.fr_dict) (by decide +kernel) (dl_cons (de_lcQ (own := [("name", 6)]) rfl sc_law.nd (pi_list (dv 2)) (it_lst rfl) (blkOk_by (N := N_law) (sc := (defScope s_law)) (own := [("name", 6)]) (by decide +kernel)) (fun _ => (rg_name)) (goes_name) (own_name (by decide)) (fun _ _ _ _ _ => (pg_name (i := 6) sc_law.nd rfl (Or.inl rfl))) (fun _ _ _ _ _ => pts_nil) (fun _ _ _ _ _ => (de_tup (dl_cons (dv 6) (dl_cons (de_disp (ms := [((cM (.str "time")), (cM (.int 0))), ((cM (.str "gone")), dnewM), ((cM (.str "rows")), (callM (consM (lcQ (varM 2) lstIt (nameG 12) none (tupM (consM (varM 12) (consM (tupM (consM (cM (.int 0)) (consM (cM (.int 0)) nilM))) nilM))) [12]) nilM) dictF))]) (pps_cons dk_str dk_int (pps_cons dk_str de_dnew (pps_cons dk_str (de_callTy (call_dictAny rfl) rs_dict rfl (C.fr_dict) (by decide +kernel) (dl_cons (de_lcQ (own := [("one", 12)]) rfl sc_law.nd (pi_list (dv 2)) (it_lst rfl) (blkOk_by (N := N_law) (sc := _) (own := [("one", 12)]) (by rfl)) (fun _ => (rg_name)) (goes_name) (own_name (by decide)) (fun _ _ _ _ _ => (pg_name (i := 12) sc_law.nd rfl (Or.inl rfl))) (fun _ _ _ _ _ => pts_nil) (fun _ _ _ _ _ => (de_tup (dl_cons (dv 12) (dl_cons (de_tup (dl_cons dk_int (dl_cons dk_int dl_nil))) dl_nil))))) dl_nil)) pps_nil))) rfl rfl (fun z => by cases z) (by decide)) dl_nil))))) dl_nil)))
  (dss_cons (ds_for it_rng1 (pi_range1 rfl (C.fr_range) (pa_cons (de_call (dfl := []) (ok__law_roll C 5) (Pas.of tk) (hr.mono (by first | omega | decide)) rfl C.gl__law_roll C.kp__law_roll C.b__law_roll .nil (fun _ _ => .nil) (dl_cons (dv 1) (dl_cons dk_int dl_nil))) pa_nil)) po rfl (pg_name (i := 5) sc_law.nd rfl (Or.inl rfl)) (rg_name) (goes_name)
  (dss_cons (ds_asgG (de_tup (dl_cons (de_call (dfl := []) (ok__law_roll C 5) (Pas.of tk) (hr.mono (by first | omega | decide)) rfl C.gl__law_roll C.kp__law_roll C.b__law_roll .nil (fun _ _ => .nil) (dl_cons (dv 1) (dl_cons dk_int dl_nil))) (dl_cons (de_ix ix_seq rs_it (dv 2) (de_call (dfl := []) (ok__law_roll C 5) (Pas.of tk) (hr.mono (by first | omega | decide)) rfl C.gl__law_roll C.kp__law_roll C.b__law_roll .nil (fun _ _ => .nil) (dl_cons (dv 1) (dl_cons (d_len rfl (C.fr_len) (dv 2)) dl_nil))) (fun _ _ => rfl)) (dl_cons (de_ix ix_seq rs_it (dv 2) (de_call (dfl := []) (ok__law_roll C 5) (Pas.of tk) (hr.mono (by first | omega | decide)) rfl C.gl__law_roll C.kp__law_roll C.b__law_roll .nil (fun _ _ => .nil) (dl_cons (dv 1) (dl_cons (d_len rfl (C.fr_len) (dv 2)) dl_nil))) (fun _ _ => rfl)) dl_nil)))) (pg_tup rfl (pgs_cons (pg_name (i := 11) sc_law.nd rfl (Or.inl rfl)) (pgs_cons (pg_name (i := 12) sc_law.nd rfl (Or.inr rfl)) (pgs_cons (pg_name (i := 13) sc_law.nd rfl (Or.inl rfl)) pgs_nil)))) (rg_names (is := [11, 12, 13]) (rgs_cons rg_name (rgs_cons rg_name (rgs_cons rg_name rgs_nil)))) (goes_names))
  (dss_cons (ds_if (dt_cmp op_lt rs_lt (dv 11) dk_int (nomark _))
  (dss_one (ds_for it_rng1 (pi_range1 rfl (C.fr_range) (pa_cons (de_op op_addAny rs_add dk_int (de_op op_mulAny rs_mul dk_int (de_callTy call_int1 rs_int rfl (C.fr_int) (by decide +kernel) (dl_cons (de_cmp (op_eqAny hr.units) rs_eq (dv 11) dk_int (nomark _)) dl_nil)))) pa_nil)) po rfl (pg_name (i := 7) sc_law.nd rfl (Or.inl rfl)) (rg_name) (goes_name)
  (dss_cons (ds_expr (de_meth0 (ci := 1) (de_dget (u1 hr.units) (de_fld rfl C.no_views (dv 3)) (dv 12) (fun _ _ => rfl)) C.cl_View C.me_View_tick (ok_View_tick C) (Pas.of tk) (hr.mono (by first | omega | decide)) C.b_View_tick .nil (fun _ _ => .nil)))
  (dss_cons (ds_set (i := 14) sc_law.nd rfl (Or.inr rfl) (de_dget (u1 hr.units) (dv 4) (dv 12) (fun _ _ => rfl)))
  (dss_cons (ds_asgG (de_tup (dl_cons (de_op op_addAny rs_add (de_dget (u1 hr.units) (dv 14) dk_str (fun _ _ => rfl)) dk_int) (dl_cons (de_dget (u1 hr.units) (dv 14) dk_str (fun _ _ => rfl)) dl_nil))) (pg_tup rfl (pgs_cons (pg_sub (dv 14) dk_str (set_dict (u1 hr.units)) (fun _ => rfl)) (pgs_cons (pg_name (i := 16) sc_law.nd rfl (Or.inl rfl)) pgs_nil))) (rg_tups (fs := [(subG (varM 14) (cM (.str "time")) setDF), (nameG 16)]) (rgs_cons (rg_sub rset_dict) (rgs_cons (rg_name) rgs_nil))) (goes_tupX (gl_cons goes_sub (gl_cons (goes_name) gl_nil))))
  (dss_one (ds_asgG (de_tup (dl_cons (de_op op_addAny rs_add (de_ix ix_seq rs_it (de_dget (u1 hr.units) (dv 16) (dv 12) (fun _ _ => rfl)) dk_int (fun _ _ => rfl)) dk_int) (dl_cons (de_dget (u1 hr.units) (dv 14) dk_str (fun _ _ => rfl)) dl_nil))) (pg_sub (dv 16) (dv 12) (set_dict (u1 hr.units)) (fun _ => rfl)) (rg_sub rset_dict) goes_sub)))))))
  (dss_one (ds_if (dt_cmp op_lt rs_lt (dv 11) dk_int (nomark _))
  (dss_cons (ds_expr (de_meth (ci := 1) (de_dget (u1 hr.units) (de_fld rfl C.no_views (dv 3)) (dv 12) (fun _ _ => rfl)) C.cl_View C.me_View_hear (ok_View_hear C) (Pas.of tk) (hr.mono (by first | omega | decide)) C.b_View_hear .nil (fun _ _ => .nil) (dl_cons (de_meth0 (ci := 1) (de_dget (u1 hr.units) (de_fld rfl C.no_views (dv 3)) (dv 13) (fun _ _ => rfl)) C.cl_View C.me_View_news (ok_View_news C) (Pas.of tk) (hr.mono (by first | omega | decide)) C.b_View_news .nil (fun _ _ => .nil)) dl_nil)))
  (dss_one (ds_expr (de_call (dfl := []) (ok__law_hear C) (Pas.of tk) (hr.mono (by first | omega | decide)) rfl C.gl__law_hear C.kp__law_hear C.b__law_hear .nil (fun _ _ => .nil) (dl_cons (de_dget (u1 hr.units) (dv 4) (dv 12) (fun _ _ => rfl)) (dl_cons (de_call (dfl := []) (ok__law_news C) (Pas.of tk) (hr.mono (by first | omega | decide)) rfl C.gl__law_news C.kp__law_news C.b__law_news .nil (fun _ _ => .nil) (dl_cons (de_dget (u1 hr.units) (dv 4) (dv 13) (fun _ _ => rfl)) dl_nil)) dl_nil))))))
  (dss_cons (ds_set (i := 15) sc_law.nd rfl (Or.inl rfl) (de_meth0 (ci := 1) (de_dget (u1 hr.units) (de_fld rfl C.no_views (dv 3)) (dv 12) (fun _ _ => rfl)) C.cl_View C.me_View_forget_dead (ok_View_forget_dead C) (Pas.of tk) (hr.mono (by first | omega | decide)) C.b_View_forget_dead .nil (fun _ _ => .nil)))
  (dss_cons (ds_set (i := 16) sc_law.nd rfl (Or.inl rfl) (de_dget (u1 hr.units) (de_dget (u1 hr.units) (dv 4) (dv 12) (fun _ _ => rfl)) dk_str (fun _ _ => rfl)))
  (dss_cons (ds_setLcQ (i := 17) (own := [("name", 6)]) rfl sc_law.nd rfl rfl (sw_true rfl rfl rfl (by decide +kernel)) (pi_list (de_callB (call_sortAny rfl) rs_sorted rfl (C.fr_sorted) (by decide +kernel) (dl_cons (dv 16) dl_nil))) (it_lst rfl) (blkOk_by (N := N_law) (sc := (defScope s_law)) (own := [("name", 6)]) (by decide +kernel)) (fun _ => (rg_name)) (goes_name) (own_name (by decide)) (fun _ _ _ _ _ => (pg_name (i := 6) sc_law.nd rfl (Or.inl rfl))) (fun _ _ _ _ _ => (pts_one (dt_cmp (op_eqAny hr.units) rs_eq (de_call (dfl := []) (ok__law_state C) (Pas.of LamX.takes0) (hr.mono (by first | omega | decide)) rfl C.gl__law_state C.kp__law_state C.b__law_state .nil (fun _ _ => .nil) (dl_cons (de_dget (u1 hr.units) (dv 4) (dv 12) (fun _ _ => rfl)) (dl_cons (dv 6) (dl_cons (dv 12) dl_nil)))) dk_str (nomark _)))) (fun _ _ _ _ _ => (dv 6)))
  (dss_cons (ds_if (dt_cmp (op_neAny hr.units) rs_ne (dv 15) (dv 17) (nomark _))
  (dss_one (ds_ret dk_bl))
  dss_nil)
  (dss_one (ds_for (it_lst rfl) (pi_list (dv 17)) po rfl (pg_name (i := 6) sc_law.nd rfl (Or.inr rfl)) (rg_name) (goes_name)
  (dss_cons (ds_set (i := 18) sc_law.nd rfl (Or.inl rfl) (de_dget (u1 hr.units) (de_dget (u1 hr.units) (dv 4) (dv 12) (fun _ _ => rfl)) dk_str (fun _ _ => rfl)))
  (dss_one (ds_asgG (de_ix ix_seq rs_it (de_dpop1 (dv 16) (dv 6) ⟨rfl, rfl, rfl, rfl⟩) dk_int (fun _ _ => rfl)) (pg_sub (dv 18) (dv 6) (set_dict (u1 hr.units)) (fun _ => rfl)) (rg_sub rset_dict) goes_sub))))))))))))
  (dss_one (ds_for (it_lst rfl) (pi_list (dv 2)) po rfl (pg_name (i := 6) sc_law.nd rfl (Or.inr rfl)) (rg_name) (goes_name)
  (dss_cons (ds_set (i := 14) sc_law.nd rfl (Or.inr rfl) (de_dget (u1 hr.units) (de_fld rfl C.no_views (dv 3)) (dv 6) (fun _ _ => rfl)))
  (dss_cons (ds_if (PW.pt (dw_or (dt_cmp (op_neAny hr.units) rs_ne (de_callTy call_list_of rs_list rfl (C.fr_list) (by decide +kernel) (dl_cons (de_meth0 (ci := 1) (dv 14) C.cl_View C.me_View_news (ok_View_news C) (Pas.of tk) (hr.mono (by first | omega | decide)) C.b_View_news .nil (fun _ _ => .nil)) dl_nil)) (de_call (dfl := []) (ok__law_news C) (Pas.of tk) (hr.mono (by first | omega | decide)) rfl C.gl__law_news C.kp__law_news C.b__law_news .nil (fun _ _ => .nil) (dl_cons (de_dget (u1 hr.units) (dv 4) (dv 6) (fun _ _ => rfl)) dl_nil)) (nomark _)) (pw_or1 (dt_cmp (op_neAny hr.units) rs_ne (de_lcQ (own := [("here", 19)]) rfl sc_law.nd (pi_list (de_callB (call_sortAny rfl) rs_sorted rfl (C.fr_sorted) (by decide +kernel) (dl_cons (de_fld rfl C.no_rows (dv 14)) dl_nil))) (it_lst rfl) (blkOk_by (N := N_law) (sc := (defScope s_law)) (own := [("here", 19)]) (by decide +kernel)) (fun _ => (rg_name)) (goes_name) (own_name (by decide)) (fun _ _ _ _ _ => (pg_name (i := 19) sc_law.nd rfl (Or.inl rfl))) (fun _ _ _ _ _ => pts_nil) (fun _ _ _ _ _ => (de_meth (ci := 1) (dv 14) C.cl_View C.me_View_state_of (ok_View_state_of C) (Pas.of LamX.takes0) (hr.mono (by first | omega | decide)) C.b_View_state_of .nil (fun _ _ => .nil) (dl_cons (dv 19) dl_nil)))) (de_lcQ (own := [("here", 19)]) rfl sc_law.nd (pi_list (de_callB (call_sortAny rfl) rs_sorted rfl (C.fr_sorted) (by decide +kernel) (dl_cons (de_dget (u1 hr.units) (de_dget (u1 hr.units) (dv 4) (dv 6) (fun _ _ => rfl)) dk_str (fun _ _ => rfl)) dl_nil))) (it_lst rfl) (blkOk_by (N := N_law) (sc := (defScope s_law)) (own := [("here", 19)]) (by decide +kernel)) (fun _ => (rg_name)) (goes_name) (own_name (by decide)) (fun _ _ _ _ _ => (pg_name (i := 19) sc_law.nd rfl (Or.inl rfl))) (fun _ _ _ _ _ => pts_nil) (fun _ _ _ _ _ => (de_call (dfl := []) (ok__law_state C) (Pas.of LamX.takes0) (hr.mono (by first | omega | decide)) rfl C.gl__law_state C.kp__law_state C.b__law_state .nil (fun _ _ => .nil) (dl_cons (de_dget (u1 hr.units) (dv 4) (dv 6) (fun _ _ => rfl)) (dl_cons (dv 19) (dl_cons (dv 6) dl_nil)))))) (nomark _)))))
  (dss_one (ds_ret dk_bl))
  dss_nil)
  (dss_one (ds_if (dt_cmp (op_neAny hr.units) rs_ne (de_meth (ci := 1) (dv 14) C.cl_View C.me_View_names_in (ok_View_names_in C) (Pas.of tk) (hr.mono (by first | omega | decide)) C.b_View_names_in .nil (fun _ _ => .nil) (dl_cons dk_str dl_nil)) (de_lcQ (own := [("here", 19)]) rfl sc_law.nd (pi_list (de_callB (call_sortAny rfl) rs_sorted rfl (C.fr_sorted) (by decide +kernel) (dl_cons (de_dget (u1 hr.units) (de_dget (u1 hr.units) (dv 4) (dv 6) (fun _ _ => rfl)) dk_str (fun _ _ => rfl)) dl_nil))) (it_lst rfl) (blkOk_by (N := N_law) (sc := (defScope s_law)) (own := [("here", 19)]) (by decide +kernel)) (fun _ => (rg_name)) (goes_name) (own_name (by decide)) (fun _ _ _ _ _ => (pg_name (i := 19) sc_law.nd rfl (Or.inl rfl))) (fun _ _ _ _ _ => (pts_one (dt_cmp (op_eqAny hr.units) rs_eq (de_call (dfl := []) (ok__law_state C) (Pas.of LamX.takes0) (hr.mono (by first | omega | decide)) rfl C.gl__law_state C.kp__law_state C.b__law_state .nil (fun _ _ => .nil) (dl_cons (de_dget (u1 hr.units) (dv 4) (dv 6) (fun _ _ => rfl)) (dl_cons (dv 19) (dl_cons (dv 6) dl_nil)))) dk_str (nomark _)))) (fun _ _ _ _ _ => (dv 19))) (nomark _))
  (dss_one (ds_ret dk_bl))
  dss_nil)))))))))
  (dss_cons (ds_asgG (de_tup (dl_cons (de_make (ci := 2) (dfl := []) C.mk_Crowd (ok_Crowd_init C) (Pas.of tk) (hr.mono (by first | omega | decide)) rfl C.gl_Crowd C.bf_Crowd_init.choose_spec.2 C.bf_Crowd_init.choose_spec.1 (fun _ _ => .nil) (dl_cons (dv 2) (dl_cons (de_call (dfl := []) (ok__law_roll C 5) (Pas.of tk) (hr.mono (by first | omega | decide)) rfl C.gl__law_roll C.kp__law_roll C.b__law_roll .nil (fun _ _ => .nil) (dl_cons (dv 1) (dl_cons dk_int dl_nil))) dl_nil))) (dl_cons (de_lcQ (own := [("name", 6)]) rfl sc_law.nd (pi_list (dv 2)) (it_lst rfl) (blkOk_by (N := N_law) (sc := (defScope s_law)) (own := [("name", 6)]) (by decide +kernel)) (fun _ => (rg_name)) (goes_name) (own_name (by decide)) (fun _ _ _ _ _ => (pg_name (i := 6) sc_law.nd rfl (Or.inl rfl))) (fun _ _ _ _ _ => (pts_one (dt_cmp (op_eqAny hr.units) rs_eq (de_call (dfl := []) (ok__law_roll C 5) (Pas.of LamX.takes0) (hr.mono (by first | omega | decide)) rfl C.gl__law_roll C.kp__law_roll C.b__law_roll .nil (fun _ _ => .nil) (dl_cons (dv 1) (dl_cons dk_int dl_nil))) dk_int (nomark _)))) (fun _ _ _ _ _ => (dv 6))) dl_nil))) (pg_tup rfl (pgs_cons (pg_name (i := 3) sc_law.nd rfl (Or.inl rfl)) (pgs_cons (pg_name (i := 9) sc_law.nd rfl (Or.inr rfl)) pgs_nil))) (rg_names (is := [3, 9]) (rgs_cons rg_name (rgs_cons rg_name rgs_nil))) (goes_names))
  (dss_cons (ds_for (it_lst rfl) (pi_list (dv 9)) po rfl (pg_name (i := 6) sc_law.nd rfl (Or.inr rfl)) (rg_name) (goes_name)
  (dss_one (ds_expr (de_meth (ci := 2) (dv 3) C.cl_Crowd C.me_Crowd_set_down (ok_Crowd_set_down C) (Pas.of tk) (hr.mono (by first | omega | decide)) C.b_Crowd_set_down .nil (fun _ _ => .nil) (dl_cons (dv 6) (dl_cons dk_bl dl_nil))))))
  (dss_cons (ds_for it_rng1 (pi_range1 rfl (C.fr_range) (pa_cons dk_int pa_nil)) po rfl (pg_name (i := 7) sc_law.nd rfl (Or.inl rfl)) (rg_name) (goes_name)
  (dss_one (ds_expr (de_meth0 (ci := 2) (dv 3) C.cl_Crowd C.me_Crowd_tell_round (ok_Crowd_tell_round C) (Pas.of tk) (hr.mono (by first | omega | decide)) C.b_Crowd_tell_round .nil (fun _ _ => .nil)))))
  (dss_cons (ds_setLcQ (i := 8) (own := [("name", 6)]) rfl sc_law.nd rfl rfl (sw_true rfl rfl rfl (by decide +kernel)) (pi_list (dv 2)) (it_lst rfl) (blkOk_by (N := N_law) (sc := (defScope s_law)) (own := [("name", 6)]) (by decide +kernel)) (fun _ => (rg_name)) (goes_name) (own_name (by decide)) (fun _ _ _ _ _ => (pg_name (i := 6) sc_law.nd rfl (Or.inl rfl))) (fun _ _ _ _ _ => (pts_one (dt_nin rfl (dv 6) (dv 9) rfl))) (fun _ _ _ _ _ => (dv 6)))
  (dss_cons (ds_for (it_lst rfl) (pi_list (dv 2)) po rfl (pg_name (i := 6) sc_law.nd rfl (Or.inr rfl)) (rg_name) (goes_name)
  (dss_cons (ds_set (i := 10) sc_law.nd rfl (Or.inl rfl) (de_meth (ci := 2) (dv 3) C.cl_Crowd C.me_Crowd_agree_on (ok_Crowd_agree_on C) (Pas.of tk) (hr.mono (by first | omega | decide)) C.b_Crowd_agree_on .nil (fun _ _ => .nil) (dl_cons (dv 6) dl_nil)))
  (dss_cons (ds_if (PW.pt (dw_or (PW.pt (dw_and (dt_in rfl (dv 6) (dv 9) rfl) (dw_and (dt_cmp (op_neAny hr.units) rs_ne (dv 8) (de_lst dl_nil) (nomark _)) (pw_and1 (dt_cmp (op_neAny hr.units) rs_ne (dv 10) (de_lst (dl_cons dk_str dl_nil)) (nomark _)))))) (pw_or1 (PW.pt (dw_and (dt_cmp (op_eqAny hr.units) rs_eq (dv 8) (de_lst dl_nil) (nomark _)) (pw_and1 (dt_cmp (op_neAny hr.units) rs_ne (dv 10) (de_lst dl_nil) (nomark _))))))))
  (dss_one (ds_ret dk_bl))
  dss_nil)
  (dss_cons (ds_if (PW.pt (dw_or (PW.pt (dw_and (dt_in rfl (dv 6) (dv 8) rfl) (pw_and1 (dt_cmp (op_neAny hr.units) rs_ne (de_lcQ (own := [("one", 12)]) rfl sc_law.nd (pi_list (dv 10)) (it_lst rfl) (blkOk_by (N := N_law) (sc := (defScope s_law)) (own := [("one", 12)]) (by decide +kernel)) (fun _ => (rg_name)) (goes_name) (own_name (by decide)) (fun _ _ _ _ _ => (pg_name (i := 12) sc_law.nd rfl (Or.inl rfl))) (fun _ _ _ _ _ => (pts_one (dt_cmp (op_eqAny hr.units) rs_eq (dv 12) dk_str (nomark _)))) (fun _ _ _ _ _ => (dv 12))) (de_lst dl_nil) (nomark _))))) (pw_or1 (PW.pt (dw_and (dt_in rfl (dv 6) (dv 8) rfl) (dw_and (dt_cmp (op_eqAny hr.units) rs_eq (d_len rfl (C.fr_len) (dv 8)) dk_int (nomark _)) (pw_and1 (dt_cmp (op_neAny hr.units) rs_ne (dv 10) (de_lst (dl_cons dk_str dl_nil)) (nomark _)))))))))
  (dss_one (ds_ret dk_bl))
  dss_nil)
  (dss_one (ds_if (PW.pt (dw_and (dt_cmp op_gt rs_gt (d_len rfl (C.fr_len) (dv 2)) dk_int (nomark _)) (pw_and1 (dt_nin rfl (de_meth (ci := 2) (dv 3) C.cl_Crowd C.me_Crowd_partner (ok_Crowd_partner C) (Pas.of tk) (hr.mono (by first | omega | decide)) C.b_Crowd_partner .nil (fun _ _ => .nil) (dl_cons (dv 6) dl_nil)) (de_lcQ (own := [("one", 12)]) rfl sc_law.nd (pi_list (dv 2)) (it_lst rfl) (blkOk_by (N := N_law) (sc := (defScope s_law)) (own := [("one", 12)]) (by decide +kernel)) (fun _ => (rg_name)) (goes_name) (own_name (by decide)) (fun _ _ _ _ _ => (pg_name (i := 12) sc_law.nd rfl (Or.inl rfl))) (fun _ _ _ _ _ => (pts_one (dt_cmp (op_neAny hr.units) rs_ne (dv 12) (dv 6) (nomark _)))) (fun _ _ _ _ _ => (dv 12))) rfl))))
  (dss_one (ds_ret dk_bl))
  dss_nil))))))
  (dss_one (ds_if (dt_cmp (op_neAny hr.units) rs_ne (dv 9) (de_lst dl_nil) (nomark _))
  (dss_cons (ds_expr (de_meth (ci := 2) (dv 3) C.cl_Crowd C.me_Crowd_set_down (ok_Crowd_set_down C) (Pas.of tk) (hr.mono (by first | omega | decide)) C.b_Crowd_set_down .nil (fun _ _ => .nil) (dl_cons (de_ix ix_seq rs_it (dv 9) dk_int (fun _ _ => rfl)) (dl_cons dk_bl dl_nil))))
  (dss_cons (ds_expr (de_meth0 (ci := 2) (dv 3) C.cl_Crowd C.me_Crowd_tell_round (ok_Crowd_tell_round C) (Pas.of tk) (hr.mono (by first | omega | decide)) C.b_Crowd_tell_round .nil (fun _ _ => .nil)))
  (dss_one (ds_if (dt_cmp (op_neAny hr.units) rs_ne (de_fld rfl C.no_time (de_dget (u1 hr.units) (de_fld rfl C.no_views (dv 3)) (de_ix ix_seq rs_it (dv 9) dk_int (fun _ _ => rfl)) (fun _ _ => rfl))) dk_int (nomark _))
  (dss_one (ds_ret dk_bl))
  dss_nil))))
  dss_nil))))))))))))
  (dss_cons (ds_if (PW.pt (dw_or (dt_cmp (op_neAny hr.units) rs_ne (tolds__law_told C hr ⟨rfl, rfl, rfl⟩ C.tb_law C.hc_law C.hT_law C.hu_law (LamX.lamS_by (by rfl)) rfl (fun _ _ _ _ _ => rfl) (fun A1 outer1 s1 H1 E1 f1 c1 hrl => (de_make (ci := 1) (dfl := []) C.mk_View (ok_View_init C) (Pas.of lam_takes) (hrl.mono (by first | omega | decide)) rfl C.gl_View C.b_View_init .nil (fun _ _ => .nil) (dl_cons dk_str (dl_cons (de_lst (dl_cons dk_str dl_nil)) dl_nil))))) dk_str (nomark _)) (pw_or1 (dt_cmp (op_neAny hr.units) rs_ne (tolds__law_told C hr ⟨rfl, rfl, rfl⟩ C.tb_law C.hc_law C.hT_law C.hu_law (LamX.lamS_by (by rfl)) rfl (fun _ _ _ _ _ => rfl) (fun A1 outer1 s1 H1 E1 f1 c1 hrl => (de_meth (ci := 2) (de_make (ci := 2) (dfl := [(.int 1)]) C.mk_Crowd (ok_Crowd_init C) (Pas.of lam_takes) (hrl.mono (by first | omega | decide)) rfl C.gl_Crowd C.bd_Crowd_init.choose_spec.2 C.bd_Crowd_init.choose_spec.1 (fun _ _ => (.cons (.int _) .nil)) (dl_cons (de_lst (dl_cons dk_str (dl_cons dk_str dl_nil))) dl_nil)) C.cl_Crowd C.me_Crowd_set_down (ok_Crowd_set_down C) (Pas.of lam_takes) (hrl.mono (by first | omega | decide)) C.b_Crowd_set_down .nil (fun _ _ => .nil) (dl_cons dk_str (dl_cons dk_bl dl_nil))))) dk_str (nomark _)))))
  (dss_one (ds_ret dk_bl))
  dss_nil)
  (dss_one (ds_ret (de_cmp (op_eqAny hr.units) rs_eq (tolds__law_told C hr ⟨rfl, rfl, rfl⟩ C.tb_law C.hc_law C.hT_law C.hu_law (LamX.lamS_by (by rfl)) rfl (fun _ _ _ _ _ => rfl) (fun A1 outer1 s1 H1 E1 f1 c1 hrl => (de_meth (ci := 1) (de_make (ci := 1) (dfl := []) C.mk_View (ok_View_init C) (Pas.of lam_takes) (hrl.mono (by first | omega | decide)) rfl C.gl_View C.b_View_init .nil (fun _ _ => .nil) (dl_cons dk_str (dl_cons (de_lst (dl_cons dk_str dl_nil)) dl_nil))) C.cl_View C.me_View_state_of (ok_View_state_of C) (Pas.of lam_takes) (hrl.mono (by first | omega | decide)) C.b_View_state_of .nil (fun _ _ => .nil) (dl_cons dk_str dl_nil)))) dk_str (nomark _))))))
end
end K08
end

section
set_option Elab.async false
set_option linter.all false
set_option maxRecDepth 100000
set_option maxHeartbeats 0
namespace DD
open PySem L2
/-- a list of ints, as the mirror has it -/
theorem den_ints {g : G} {α : List Addr} {H : Hp} : ∀ ns : List Int, DenL g α H (ns.map D.int) (ns.map V.int)
  | [] => .nil
  | n :: ns => .cons (.int n) (den_ints ns)
/-- the script, as it is handed in: two ways in which it may stand -/
def Scr (ns : List Int) (d : D) (h : AH) : Prop := (d = .ref 0 ∧ h = [.lst (ns.map D.int)]) ∨ (d = .fls (ns.map D.int) ∧ h = [])
theorem sp_scr {g : G} {F : List D → AH → EO} {H : Hp} {a : Addr} {ns : List Int} (hT : LamX.Tabs g.T H) (hS : SqL g.K H a (ns.map V.int)) (hF : ∀ d h, Scr ns d h → ∃ h', F [d] h = .ok (.bl true) h') :
    spD g 1 F [.ref a] H (fun v _ => v = .bl true) (fun _ _ _ => False) := by
  have fin : ∀ {α : List Addr} {h : AH} {d : D}, Rep g α h H → Den g α H d (.ref a) → (∃ h', F [d] h = .ok (.bl true) h') → spD g 1 F [.ref a] H (fun v _ => v = .bl true) (fun _ _ _ => False) := fun {α h d} R D1 ⟨h', e⟩ => by
    refine ⟨α, h, [d], R, .cons D1 .nil, rfl, ?_⟩
    rw [e]
    intro α' H' v _ _ Dv
    cases Dv
    rfl
  rcases hS with (hS | ⟨o, hS⟩) | hS
  · refine fin (α := [a]) (h := [.lst (ns.map D.int)]) (d := .ref 0) ⟨rfl, by simp, hT, fun l o b h1 h2 => ?_⟩ (.ref rfl) (hF _ _ (.inl ⟨rfl, rfl⟩))
    have hl : l = 0 := by
      have := (List.getElem?_eq_some_iff.mp h1).1
      simp at this
      exact this
    subst hl
    simp at h1 h2
    subst h1 h2
    exact ⟨_, hS, den_ints ns⟩
  · exact fin (α := []) (h := []) (d := .fls (ns.map D.int)) ⟨rfl, .nil, hT, fun l o b h1 h2 => by simp at h1⟩ (.fls (.inl ⟨o, hS⟩) (den_ints ns)) (hF _ _ (.inr ⟨rfl, rfl⟩))
  · exact fin (α := []) (h := []) (d := .fls (ns.map D.int)) ⟨rfl, .nil, hT, fun l o b h1 h2 => by simp at h1⟩ (.fls (.inr hS) (den_ints ns)) (hF _ _ (.inr ⟨rfl, rfl⟩))
end DD
end

section
set_option Elab.async false
set_option linter.all false
set_option maxRecDepth 100000
set_option maxHeartbeats 0
namespace K08
open PySem L2 DD
theorem lawAt {l : PySem.W.OpenLaw} {w : World} {K : PySem.W.Frag} {mg : Str → Option Value} {f : Addr} {h : Heap} {ts : List Addr} (KX : K.In h) (T : ∀ P ∈ ts, h.get? P = some (PySem.W.tabObj #[])) (G : h.Ns mainGlobals mg) (hf : mg "law" = some (.ref f))
    (c : He.SaysD fa fn K) (lb : lams.all (lamB K ts) = true) (nd : (lams.map (tabA K)).Nodup)
    (math : ∀ ns : List Int, ns.length ≤ 63 → (∀ z ∈ ns, Builtin.Int.intBits z ≤ 1048576) → ∀ d h, Scr ns d h → ∃ h', F_law [d] h = .ok (.bl true) h') :
    LamX.LawAtS l w K (L2.CX l.prog w) 7 63 "script" mg f h := by
  have lb' : ∀ p ∈ lams, lamB K ts p = true := List.all_eq_true.mp lb
  have hT : (gg K).T = lams.map fun p => (tabA K p, ("law" : Str) ++ ".<locals>." ++ "<lambda>") := rfl
  have F0 := fdA_ok (c.def_ (fn.length - 1) (d := dd_law) rfl)
  have e := hf.symm.trans (He.glo_ok KX G (c.fact 21 (f := .glo "law") rfl))
  cases e
  refine ⟨fdA K ("law", none), lams.map fun p => (codeA K p, tabA K p), spD (gg K) 1 F_law, fun p hp => ?_, fun p hp => ?_, fun p hp => ?_, fun s u => ?_, fun H a ns hl hb hH hS => ?_, fun base KB GB TB => ?_⟩
  · obtain ⟨q, hq, rfl⟩ := List.mem_map.mp hp
    exact T _ (lamB_ok (lb' q hq)).2.2.1
  · obtain ⟨q, hq, rfl⟩ := List.mem_map.mp hp
    exact (lamB_ok (lb' q hq)).2.2.2
  · obtain ⟨q, hq, rfl⟩ := List.mem_map.mp hp
    exact PySem.W.codeHd_of_K KX (lamB_ok (lb' q hq)).2.1
  · exact FunD.bindsA (ps := ["script"]) F0 (fun _ _ _ _ _ _ us hl => match us, hl with | [_], _ => rfl) s [u] rfl
  · refine sp_scr ?_ hS (math ns hl hb)
    intro p hp
    rw [hT] at hp
    obtain ⟨q, hq, rfl⟩ := List.mem_map.mp hp
    exact LamX.TabS.nil (hH (codeA K q, tabA K q) (List.mem_map.mpr ⟨q, hq, rfl⟩))
  · have C : Cnd K mg base := ⟨c, KB, GB, fun p hp => TB _ (List.mem_map.mpr ⟨p, hp, rfl⟩), fun p hp => (lamB_ok (lb' p hp)).1, nd⟩
    exact ok_law C
end K08
end

section
set_option Elab.async false
set_option linter.all false
set_option maxRecDepth 100000
set_option maxHeartbeats 1000000
/-! Running the mirrors: each by its equation where it is applied to all of its arguments. -/
namespace DD
open PySem L2
section
variable {d : D} {h : AH} {c : Nat} {f : D → AH → EO} {τ : SL} {fs : D → AH → SO} {fl : D → AH → LO} {ds : List D} {fe : List D → AH → EO} {g : SL → AH → SO} {gl : List D → AH → LO}
theorem bind_ok : (EO.ok d h).bind f = f d h := Eq.trans rfl rfl
theorem bind_exc : (EO.exc c h).bind f = .exc c h := Eq.trans rfl rfl
theorem toS_ok : (EO.ok d h).toS τ fs = fs d h := Eq.trans rfl rfl
theorem toS_exc : (EO.exc c h).toS τ fs = .exc c τ h := Eq.trans rfl rfl
theorem bindL_ok : (EO.ok d h).bindL fl = fl d h := Eq.trans rfl rfl
theorem bindL_exc : (EO.exc c h).bindL fl = .exc c h := Eq.trans rfl rfl
theorem lbind_ok : (LO.ok ds h).bind gl = gl ds h := Eq.trans rfl rfl
theorem lbind_exc : (LO.exc c h).bind gl = .exc c h := Eq.trans rfl rfl
theorem bindE_ok : (LO.ok ds h).bindE fe = fe ds h := Eq.trans rfl rfl
theorem bindE_exc : (LO.exc c h).bindE fe = .exc c h := Eq.trans rfl rfl
theorem sbind_nx : (SO.nx τ h).bind g = g τ h := Eq.trans rfl rfl
theorem sbind_rt : (SO.rt d h).bind g = .rt d h := Eq.trans rfl rfl
theorem sbind_exc : (SO.exc c τ h).bind g = .exc c τ h := Eq.trans rfl rfl
theorem sbind_bk : (SO.bk τ h).bind g = .bk τ h := Eq.trans rfl rfl
theorem sbind_ct : (SO.ct τ h).bind g = .ct τ h := Eq.trans rfl rfl
theorem ret_nx : retOf (.nx τ h) = .ok .non h := Eq.trans rfl rfl
theorem ret_rt : retOf (.rt d h) = .ok d h := Eq.trans rfl rfl
theorem ret_exc : retOf (.exc c τ h) = .exc c h := Eq.trans rfl rfl
end
section
variable {τ : SL} {h : AH} {a b e : EM} {i : Nat} {d : D} {f : D → D → AH → EO} {u : D → AH → EO} {m : LM} {sa sb : SM} {F : List D → AH → EO} {dfl : List D} {n : Nat} {mt : Str}
theorem varM_e : varM i τ h = match τ[i]? with | some (some d) => .ok d h | _ => .bad := Eq.trans rfl rfl
theorem varM_0 {t : SL} : varM 0 (some d :: t) h = .ok d h := Eq.trans rfl rfl
theorem varM_1 {a0 : Option D} {t : SL} : varM 1 (a0 :: some d :: t) h = .ok d h := Eq.trans rfl rfl
theorem varM_2 {a0 a1 : Option D} {t : SL} : varM 2 (a0 :: a1 :: some d :: t) h = .ok d h := Eq.trans rfl rfl
theorem varM_3 {a0 a1 a2 : Option D} {t : SL} : varM 3 (a0 :: a1 :: a2 :: some d :: t) h = .ok d h := Eq.trans rfl rfl
theorem varM_4 {a0 a1 a2 a3 : Option D} {t : SL} : varM 4 (a0 :: a1 :: a2 :: a3 :: some d :: t) h = .ok d h := Eq.trans rfl rfl
theorem varM_5 {a0 a1 a2 a3 a4 : Option D} {t : SL} : varM 5 (a0 :: a1 :: a2 :: a3 :: a4 :: some d :: t) h = .ok d h := Eq.trans rfl rfl
theorem cM_e : cM d τ h = .ok d h := Eq.trans rfl rfl
theorem binM_e : binM a b f τ h = (a τ h).bind fun x h1 => (b τ h1).bind fun y h2 => f x y h2 := Eq.trans rfl rfl
theorem unM_e : unM a u τ h = (a τ h).bind fun x h1 => u x h1 := Eq.trans rfl rfl
theorem seqM_e : seqM sa sb τ h = (sa τ h).bind sb := Eq.trans rfl rfl
theorem setM_e : setM i e τ h = (e τ h).toS τ fun d h1 => .nx (τ.set i (some d)) h1 := Eq.trans rfl rfl
theorem exprM_e : exprM e τ h = (e τ h).toS τ fun _ h1 => .nx τ h1 := Eq.trans rfl rfl
theorem retM_e : retM e τ h = (e τ h).toS τ fun d h1 => .rt d h1 := Eq.trans rfl rfl
theorem raiseM_e : raiseM i τ h = .exc i τ h := Eq.trans rfl rfl
theorem passM_e : passM τ h = .nx τ h := Eq.trans rfl rfl
theorem brkM_e : brkM τ h = .bk τ h := Eq.trans rfl rfl
theorem ifSM_e : ifSM e sa sb τ h = (e τ h).toS τ fun d h1 => match d with | .bl true => sa τ h1 | .bl false => sb τ h1 | _ => .bad := Eq.trans rfl rfl
theorem ifM_e {c : EM} : ifM c a b τ h = (c τ h).bind fun d h1 => match d with | .bl true => a τ h1 | .bl false => b τ h1 | _ => .bad := Eq.trans rfl rfl
theorem andM_e : andM a b τ h = (a τ h).bind fun d h1 => match d with | .bl true => b τ h1 | .bl false => .ok (.bl false) h1 | _ => .bad := Eq.trans rfl rfl
theorem orM_e : orM a b τ h = (a τ h).bind fun d h1 => match d with | .bl false => b τ h1 | .bl true => .ok (.bl true) h1 | _ => .bad := Eq.trans rfl rfl
theorem notM_e : notM a τ h = (a τ h).bind fun d h1 => match d with | .bl b => .ok (.bl (!b)) h1 | _ => .bad := Eq.trans rfl rfl
theorem nilM_e : nilM τ h = .ok [] h := Eq.trans rfl rfl
theorem consM_e : consM a m τ h = (a τ h).bindL fun d h1 => (m τ h1).bind fun ds h2 => .ok (d :: ds) h2 := Eq.trans rfl rfl
theorem callM_e : callM m F τ h = (m τ h).bindE F := Eq.trans rfl rfl
theorem tupM_e : tupM m τ h = (m τ h).bindE fun ds h1 => if ds.length ≤ sizeLine then .ok (.tup ds) h1 else .bad := Eq.trans rfl rfl
theorem lstM_e : lstM m τ h = (m τ h).bindE fun ds h1 => if ds.length ≤ sizeLine then .ok (.ref h1.length) (h1 ++ [.lst ds]) else .bad := Eq.trans rfl rfl
theorem bmM_e {fm : D → List D → AH → EO} : bmM a m fm τ h = (a τ h).bind fun d h1 => match d with | .ref l => (match h1[l]? with | some (.lst _) => (m τ h1).bindE fun ds h2 => fm d ds h2 | _ => .bad) | _ => .bad := Eq.trans rfl rfl
theorem smM_e {fm : Str → D → AH → EO} : smM a b fm τ h = (a τ h).bind fun d h1 => match d with | .str x => (b τ h1).bind fun y h2 => fm x y h2 | _ => .bad := Eq.trans rfl rfl
theorem methF_e {ci : Nat} : methF mt ci n dfl F a m τ h = (a τ h).bind fun d h1 => match d with | .ref l => (match h1[l]? with | some (.ins c' fs) => if c' = ci ∧ fs.lookup mt = none then (m τ h1).bindE fun ds h2 => callF n dfl F (d :: ds) h2 else .bad | _ => .bad) | _ => .bad := Eq.trans rfl rfl
theorem asgM_e {t : TM} : asgM e t τ h = (e τ h).toS τ fun d h1 => t d τ h1 := Eq.trans rfl rfl
theorem subG_e {v : D} {fz : D → D → D → AH → Option AH} : subG a b fz v τ h = (a τ h).toS τ fun d h1 => (b τ h1).toS τ fun k h2 => match fz d k v h2 with | some h3 => .nx τ h3 | none => .bad := Eq.trans rfl rfl
theorem nameG_e {v : D} : nameG i v τ h = .nx (τ.set i (some v)) h := Eq.trans rfl rfl
theorem slM_e {lo hi : OM} : slM a lo hi τ h = (a τ h).bind fun x h1 => lo.run τ h1 fun l h2 => hi.run τ h2 fun u h3 => sliceM x l u h3 := Eq.trans rfl rfl
theorem om_none {k : Option Int → AH → EO} : OM.none.run τ h k = k none h := Eq.trans rfl rfl
theorem om_some {k : Option Int → AH → EO} : (OM.some e).run τ h k = (e τ h).bind fun d h1 => match d with | .int i => k (some i) h1 | _ => .bad := Eq.trans rfl rfl
theorem fldSetM_e {cs : List Nat} {fl : Str} : fldSetM fl cs a b τ h = (b τ h).toS τ fun y h1 => (a τ h1).toS τ fun d h2 => match d with | .ref l => (match h2[l]? with | some (.ins c fs) => if c ∈ cs ∧ fs.length < 1000 then .nx τ (h2.set l (.ins c (putD fl y fs))) else .bad | _ => .bad) | _ => .bad := Eq.trans rfl rfl
theorem toldM_e {c : Nat → Option Bool} {r : Str} : toldM c r e τ h = match e τ h with | .ok d h' => .ok d h' | .exc i h' => (match c i with | some true => .ok (.str r) h' | _ => .bad) | .bad => .bad := Eq.trans rfl rfl
/-! values -/
theorem add_ii {i j : Int} : addM (.int i) (.int j) h = .ok (.int (i + j)) h := Eq.trans rfl rfl
theorem add_tt {x y : List D} : addM (.tup x) (.tup y) h = if x.length + y.length ≤ sizeLine then .ok (.tup (x ++ y)) h else .bad := Eq.trans rfl rfl
theorem sub_ii {i j : Int} : subM (.int i) (.int j) h = .ok (.int (i - j)) h := Eq.trans rfl rfl
theorem mul_ii {i j : Int} : mulM (.int i) (.int j) h = if CMb' i j = true then .ok (.int (i * j)) h else .bad := Eq.trans rfl rfl
theorem lt_ii {i j : Int} : ltM (.int i) (.int j) h = .ok (.bl (decide (i < j))) h := Eq.trans rfl rfl
theorem le_ii {i j : Int} : leM (.int i) (.int j) h = .ok (.bl (decide (i ≤ j))) h := Eq.trans rfl rfl
theorem gt_ii {i j : Int} : gtM (.int i) (.int j) h = .ok (.bl (decide (j < i))) h := Eq.trans rfl rfl
theorem ge_ii {i j : Int} : geM (.int i) (.int j) h = .ok (.bl (decide (j ≤ i))) h := Eq.trans rfl rfl
theorem fdiv_ii {i j : Int} : fdivM (.int i) (.int j) h = if CDb i j = true then .ok (.int (i / j)) h else .bad := Eq.trans rfl rfl
theorem mod_ii {i j : Int} : modM (.int i) (.int j) h = if decide (0 < j) = true then .ok (.int (i % j)) h else .bad := Eq.trans rfl rfl
theorem eq_ii {i j : Int} : eqM (.int i) (.int j) h = .ok (.bl (i == j)) h := by
  simp [eqM, eqB, plD, depD, eqD]
theorem ne_ii {i j : Int} : neM (.int i) (.int j) h = .ok (.bl (!(i == j))) h := by
  simp [neM, eqB, plD, depD, eqD]
theorem eq_ss {i j : Str} : eqM (.str i) (.str j) h = .ok (.bl (i == j)) h := by
  simp [eqM, eqB, plD, depD, eqD]
theorem ne_ss {i j : Str} : neM (.str i) (.str j) h = .ok (.bl (!(i == j))) h := by
  simp [neM, eqB, plD, depD, eqD]
theorem fld_e {fl : Str} {cs : List Nat} {l : Nat} : fldM fl cs (.ref l) h = match h[l]? with
    | some (.ins c fs) => if c ∈ cs then match fs.lookup fl with
      | some v => .ok v h
      | none => .bad else .bad
    | _ => .bad := Eq.trans rfl rfl
theorem len_t {x : List D} : lenF [.tup x] h = .ok (.int x.length) h := Eq.trans rfl rfl
theorem len_s {x : Str} : lenF [.str x] h = if x.length ≤ sizeLine then .ok (.int x.length) h else .bad := Eq.trans rfl rfl
theorem append_e {l : Nat} {y : D} : appendF (.ref l) [y] h = match h[l]? with
    | some (.lst xs) => if xs.length < sizeLine then .ok .non (h.set l (.lst (xs ++ [y]))) else .bad
    | _ => .bad := Eq.trans rfl rfl
theorem extend_t {l : Nat} {zs : List D} : extendF (.ref l) [.tup zs] h = match h[l]? with
    | some (.lst xs) => if xs.length + zs.length ≤ sizeLine then .ok .non (h.set l (.lst (xs ++ zs))) else .bad
    | _ => .bad := Eq.trans rfl rfl
theorem extend_r {l b : Nat} : extendF (.ref l) [.ref b] h = match h[l]?, h[b]? with
    | some (.lst xs), some (.lst zs) => if xs.length + zs.length ≤ sizeLine then .ok .non (h.set l (.lst (xs ++ zs))) else .bad
    | _, _ => .bad := Eq.trans rfl rfl
theorem tup_r {l : Nat} : tupF (.ref l) h = match h[l]? with
    | some (.lst xs) => .ok (.tup xs) h
    | _ => .bad := Eq.trans rfl rfl
theorem it_t {x : List D} {i : Int} : itM (.tup x) (.int i) h = match atI x i with
    | some d => .ok d h
    | none => .bad := Eq.trans rfl rfl
theorem sl_t {x : List D} {lo hi : Option Int} : sliceM (.tup x) lo hi h = .ok (.tup (cutL x lo hi)) h := Eq.trans rfl rfl
end
/-! loops -/
section
variable {c : EM} {b : SM} {τ τ' : SL} {h h1 h' : AH}
theorem while_go (hc : c τ h = .ok (.bl true) h1) (hb : b τ h1 = .nx τ' h') : whileM c b τ h = whileM c b τ' h' := by
  rw [whileM_eq]; simp only [turnM, hc, toS_ok, hb]
theorem while_stop (hc : c τ h = .ok (.bl false) h1) : whileM c b τ h = .nx τ h1 := by
  rw [whileM_eq]; simp only [turnM, hc, toS_ok]
theorem while_exc {i : Nat} (hc : c τ h = .ok (.bl true) h1) (hb : b τ h1 = .exc i τ' h') : whileM c b τ h = .exc i τ' h' := by
  rw [whileM_eq]; simp only [turnM, hc, toS_ok, hb]
theorem while_brk (hc : c τ h = .ok (.bl true) h1) (hb : b τ h1 = .bk τ' h') : whileM c b τ h = .nx τ' h' := by
  rw [whileM_eq]; simp only [turnM, hc, toS_ok, hb]
end
/-! heaps -/
theorem get_app {h gb : AH} {l : Nat} {o : O} (e : h[l]? = some o) : (h ++ gb)[l]? = some o := by
  rw [List.getElem?_append_left (List.getElem?_eq_some_iff.mp e).1]; exact e
theorem get_new {h gb : AH} {o : O} : (h ++ o :: gb)[h.length]? = some o := by simp
theorem set_new {h gb : AH} {o o' : O} : (h ++ o :: gb).set h.length o' = h ++ o' :: gb := by simp
theorem set_app {h gb : AH} {l : Nat} {o : O} (e : l < h.length) : (h ++ gb).set l o = h.set l o ++ gb := by rw [List.set_append_left _ _ e]
theorem get_set {h : AH} {l : Nat} {o : O} (e : l < h.length) : (h.set l o)[l]? = some o := by simp [e]
theorem get_set_ne {h : AH} {l k : Nat} {o : O} (e : l ≠ k) : (h.set l o)[k]? = h[k]? := by simp [e]
theorem set_set {h : AH} {l : Nat} {o o' : O} : (h.set l o).set l o' = h.set l o' := by simp
theorem set_same {h : AH} {l : Nat} {o : O} (e : h[l]? = some o) : h.set l o = h := by
  apply List.ext_getElem?
  intro i
  by_cases hi : l = i
  · subst hi; rw [get_set (List.getElem?_eq_some_iff.mp e).1, e]
  · rw [get_set_ne hi]
theorem lt_of_get {h : AH} {l : Nat} {o : O} (e : h[l]? = some o) : l < h.length := (List.getElem?_eq_some_iff.mp e).1
abbrev B (bs : List Nat) : List D := bs.map fun (b : Nat) => D.int (b : Int)
theorem B_app (a b : List Nat) : B (a ++ b) = B a ++ B b := by simp [B]
theorem B_len (a : List Nat) : (B a).length = a.length := by simp [B]
theorem B_snoc (a : List Nat) (n : Nat) : B a ++ [D.int (n : Int)] = B (a ++ [n]) := by simp [B]
end DD
end

section
set_option Elab.async false
set_option linter.all false
set_option maxRecDepth 100000
set_option maxHeartbeats 2000000
namespace DD
open PySem L2
theorem cdb_pos {i : Int} {n : Nat} (h : 0 < n) (h2 : n < 2 ^ 128) : CDb i (n : Int) = true := by
  unfold CDb
  simp only [Bool.and_eq_true, decide_eq_true_eq]
  omega
theorem cdb128 {i : Int} : CDb i 128 = true := by unfold CDb; decide
theorem forM_e {e : EM} {items : D → AH → Option (List D × (AH → Bool))} {f : TM} {b : SM} {τ : SL} {h : AH} : DD.forM e items f b τ h = (e τ h).toS τ fun d h1 => match items d h1 with | some (ds, live) => loopM live f b ds τ h1 | none => .bad := rfl
theorem loop_nil {f : TM} {b : SM} {τ : SL} {h : AH} : loopM (fun _ => true) f b [] τ h = .nx τ h := rfl
theorem loop_cons {f : TM} {b : SM} {τ : SL} {h : AH} {d : D} {ds : List D} : loopM (fun _ => true) f b (d :: ds) τ h = (f d τ h).bind fun τ1 h1 => nextM (b τ1 h1) (loopM (fun _ => true) f b ds) := rfl
theorem next_nx {τ : SL} {h : AH} {k : SM} : nextM (.nx τ h) k = k τ h := rfl
theorem next_rt {d : D} {h : AH} {k : SM} : nextM (.rt d h) k = .rt d h := rfl
theorem next_exc {τ : SL} {h : AH} {k : SM} {c : Nat} : nextM (.exc c τ h) k = .exc c τ h := rfl
theorem tupIt_e {xs : List D} {h : AH} : tupIt (.tup xs) h = some (xs, fun _ => true) := rfl
theorem strIt_e {x : Str} {h : AH} : strIt (.str x) h = some (signs x, fun _ => true) := rfl
theorem cmb_r {i j : Int} (h : j.natAbs < 2 ^ 64) : CMb' i j = true := by
  unfold CMb'
  simp only [Bool.or_eq_true, decide_eq_true_eq]
  exact .inl (.inr h)
theorem cmb_l {i j : Int} (h : i.natAbs < 2 ^ 64) : CMb' i j = true := by
  unfold CMb'
  simp only [Bool.or_eq_true, decide_eq_true_eq]
  exact .inl (.inl h)
/-- what stood in h stands in h', but at u -/
def Fr (u : Option Nat) (h h' : AH) : Prop := h.length ≤ h'.length ∧ ∀ i, i < h.length → some i ≠ u → h'[i]? = h[i]?
section
variable {u : Option Nat} {h h' h'' : AH} {i : Nat} {o : O}
theorem Fr.refl : Fr u h h := ⟨Nat.le_refl _, fun _ _ _ => rfl⟩
theorem Fr.trans (a : Fr u h h') (b : Fr u h' h'') : Fr u h h'' := ⟨Nat.le_trans a.1 b.1, fun i hi hu => (b.2 i (Nat.lt_of_lt_of_le hi a.1) hu).trans (a.2 i hi hu)⟩
theorem Fr.wk (a : Fr none h h') : Fr u h h' := ⟨a.1, fun i hi _ => a.2 i hi (by simp)⟩
theorem Fr.get (a : Fr u h h') (e : h[i]? = some o) (hu : some i ≠ u) : h'[i]? = some o := (a.2 i (lt_of_get e) hu).trans e
theorem Fr.getN (a : Fr none h h') (e : h[i]? = some o) : h'[i]? = some o := a.get e (by simp)
theorem Fr.app {gb : AH} : Fr u h (h ++ gb) := ⟨by simp, fun i hi _ => by rw [List.getElem?_append_left hi]⟩
theorem Fr.set {k : Nat} : Fr (some k) h (h.set k o) := ⟨by simp, fun i hi hu => get_set_ne (fun e => hu (by rw [e]))⟩
/-- a new thing written later -/
theorem Fr.setN {k : Nat} (a : Fr u h h') (hk : h.length ≤ k) : Fr u h (h'.set k o) := ⟨by simp [a.1], fun i hi hu => by rw [get_set_ne (by omega)]; exact a.2 i hi hu⟩
theorem Fr.setU {k : Nat} (a : Fr (some k) h h') : Fr (some k) h (h'.set k o) := a.trans Fr.set
end
theorem find_e {x y : Str} {h : AH} : findS x (.str y) h = .ok (.int (Txt.find x y)) h := rfl
theorem lcM_e {e : EM} {items : D → AH → Option (List D × (AH → Bool))} {f : TM} {mc : Option EM} {me : EM} {own : List Nat} {τ : SL} {h : AH} : lcM e items f mc me own τ h = (e τ h).bind fun d h1 => match items d h1 with
  | some (ds, live) => lcLoop live f mc me own τ h1.length ds (h1 ++ [.lst []])
  | none => .bad := rfl
theorem is_nn {h : AH} : isM .non .non h = .ok (.bl true) h := rfl
def mcM : Option EM → EM
  | none => fun _ h => .ok (.bl true) h
  | some c => c
theorem lc_nil {mc : Option EM} {me : EM} {own : List Nat} {τ : SL} {L j : Nat} {h : AH} : lcLoop (fun _ => true) (nameG j) mc me own τ L [] h = .ok (.ref L) h := rfl
theorem lc_cons {mc : Option EM} {me : EM} {own : List Nat} {τ : SL} {L j : Nat} {d : D} {ds : List D} {h : AH} : lcLoop (fun _ => true) (nameG j) mc me own τ L (d :: ds) h = (mcM mc ((wipeD τ own).set j (some d)) h).bind fun k h2 => match k with
    | .bl true => (me ((wipeD τ own).set j (some d)) h2).bind fun y h3 => match h3[L]? with
      | some (.lst acc) => if acc.length < sizeLine then lcLoop (fun _ => true) (nameG j) mc me own τ L ds (h3.set L (.lst (acc ++ [y]))) else .bad
      | _ => .bad
    | .bl false => lcLoop (fun _ => true) (nameG j) mc me own τ L ds h2
    | _ => .bad := by cases mc <;> rfl
/-- a list comprehension, turn by turn -/
theorem lc_run {mc : Option EM} {me : EM} {own : List Nat} {τ : SL} {L j : Nat} {ds : List D} (P : Nat → List D → AH → Prop)
    (step : ∀ k d acc h, ds[k]? = some d → P k acc h → ∃ b h2, mcM mc ((wipeD τ own).set j (some d)) h = .ok (.bl b) h2 ∧ (b = false → P (k + 1) acc h2) ∧
      (b = true → ∃ y h3, me ((wipeD τ own).set j (some d)) h2 = .ok y h3 ∧ h3[L]? = some (.lst acc) ∧ acc.length < 16777216 ∧ P (k + 1) (acc ++ [y]) (h3.set L (.lst (acc ++ [y]))))) :
    ∀ (rest : List D) (k : Nat) (acc : List D) (h : AH), ds.drop k = rest → k ≤ ds.length → P k acc h → ∃ acc' h', P ds.length acc' h' ∧ lcLoop (fun _ => true) (nameG j) mc me own τ L rest h = .ok (.ref L) h' := by
  intro rest
  induction rest with
  | nil =>
    intro k acc h hd hk p
    have : k = ds.length := by
      have := List.drop_eq_nil_iff.mp hd
      omega
    subst this
    exact ⟨acc, h, p, rfl⟩
  | cons d rest ih =>
    intro k acc h hd hk p
    have hlt : k < ds.length := by
      apply Classical.byContradiction
      intro hn
      rw [List.drop_eq_nil_of_le (by omega)] at hd
      cases hd
    have hg : ds[k]? = some d := by
      have := List.drop_eq_getElem_cons hlt
      rw [hd] at this
      simp only [List.cons.injEq] at this
      rw [List.getElem?_eq_getElem hlt, this.1]
    have hd' : ds.drop (k + 1) = rest := by
      have := List.drop_eq_getElem_cons hlt
      rw [hd] at this
      simp only [List.cons.injEq] at this
      exact this.2.symm
    obtain ⟨b, h2, e1, e2, e3⟩ := step k d acc h hg p
    cases b with
    | false =>
      obtain ⟨acc', h', q1, q2⟩ := ih (k + 1) acc h2 hd' hlt (e2 rfl)
      refine ⟨acc', h', q1, ?_⟩
      rw [lc_cons, e1]
      exact q2
    | true =>
      obtain ⟨y, h3, f1, f2, f3, f4⟩ := e3 rfl
      obtain ⟨acc', h', q1, q2⟩ := ih (k + 1) (acc ++ [y]) _ hd' hlt f4
      refine ⟨acc', h', q1, ?_⟩
      rw [lc_cons, e1]
      simp only [EO.bind, f1, f2]
      rw [if_pos (by rw [sizeLine_eq]; exact f3)]
      exact q2
/-! slices by places -/
theorem cut_nn {β : Type} {xs : List β} {a b : Nat} : cutL xs (some (a : Int)) (some (b : Int)) = (xs.drop a).take (b - a) := by
  unfold cutL HT.sIx
  simp only [show ¬ ((a : Int) < 0) from by omega, show ¬ ((b : Int) < 0) from by omega, if_false, Int.toNat_natCast]
  by_cases h : a ≤ xs.length
  · have ha : min a xs.length = a := Nat.min_eq_left h
    rw [ha]
    by_cases h2 : b ≤ xs.length
    · have hb : min b xs.length = b := Nat.min_eq_left h2
      rw [hb]
    · have hb : min b xs.length = xs.length := Nat.min_eq_right (by omega)
      rw [hb, List.take_of_length_le (by simp), List.take_of_length_le (by simp; omega)]
  · have ha : min a xs.length = xs.length := Nat.min_eq_right (by omega)
    rw [ha, List.drop_eq_nil_of_le (Nat.le_refl _), List.drop_eq_nil_of_le (by omega)]
    simp
theorem cut_n {β : Type} {xs : List β} {b : Nat} : cutL xs none (some (b : Int)) = xs.take b := by
  have := @cut_nn β xs 0 b
  have e : cutL xs none (some (b : Int)) = cutL xs (some ((0 : Nat) : Int)) (some (b : Int)) := by
    unfold cutL HT.sIx
    simp
  rw [e, this]
  simp
theorem cut_d {β : Type} {xs : List β} {a : Nat} : cutL xs (some (a : Int)) none = xs.drop a := by
  unfold cutL HT.sIx
  simp only [show ¬ ((a : Int) < 0) from by omega, if_false, Int.toNat_natCast]
  by_cases h : a ≤ xs.length
  · rw [Nat.min_eq_left h, List.take_of_length_le (by simp)]
  · rw [Nat.min_eq_right (by omega), List.drop_eq_nil_of_le (Nat.le_refl _), List.drop_eq_nil_of_le (by omega)]
    simp
theorem B_take (xs : List Nat) (k : Nat) : (B xs).take k = B (xs.take k) := by simp [B, List.map_take]
theorem B_drop (xs : List Nat) (k : Nat) : (B xs).drop k = B (xs.drop k) := by simp [B, List.map_drop]
theorem lcQ_e {e : EM} {items : D → AH → Option (List D × (AH → Bool))} {f : TM} {mc : Option EM} {me : EM} {own : List Nat} {τ : SL} {h : AH} : lcQ e items f mc me own τ h = noexc (lcM e items f mc me own τ h) := rfl
theorem noexc_ok {d : D} {h : AH} : noexc (.ok d h) = .ok d h := rfl
theorem any_e {l : Nat} {h : AH} {bs : List Bool} (e : h[l]? = some (.lst (bs.map D.bl))) : anyF [.ref l] h = .ok (.bl (bs.any id)) h := by
  have : ∀ bs : List Bool, blsOf (bs.map D.bl) = some bs := fun bs => by
    induction bs with
    | nil => rfl
    | cons b bs ih => simp only [List.map_cons, blsOf, ih, Option.map_some]
  simp only [anyF, e, this]
theorem strsOf_map (ss : List Str) : strsOf (ss.map D.str) = some ss := by
  induction ss with
  | nil => rfl
  | cons b bs ih => simp only [List.map_cons, strsOf, ih, Option.map_some]
theorem join_e {l : Nat} {h : AH} {ss : List Str} {x : Str} (e : h[l]? = some (.lst (ss.map D.str))) (hz : (ss.map (·.length)).sum + ss.length * x.length ≤ 16777216) : joinS x (.ref l) h = .ok (.str (Txt.join x ss)) h := by
  simp only [joinS, e, strsOf_map, if_pos hz]
theorem eq_nat {m c : Nat} : ((m : Int) == (c : Int)) = decide (m = c) := by
  by_cases h : m = c
  · subst h; simp
  · rw [decide_eq_false h]; exact beq_eq_false_iff_ne.mpr (by omega)
theorem rng1_e {j : Nat} {h : AH} (hj : j < 16777216) : rngIt1 (.int (j : Int)) h = some (rngL 0 j, fun _ => true) := by
  simp only [rngIt1]
  rw [if_pos (by constructor <;> omega)]
  simp
theorem lcM_of {e : EM} {items : D → AH → Option (List D × (AH → Bool))} {f : TM} {mc : Option EM} {me : EM} {own : List Nat} {τ : SL} {h h1 : AH} {d : D} {ds : List D} {live : AH → Bool} (e1 : e τ h = .ok d h1) (e2 : items d h1 = some (ds, live)) :
    lcM e items f mc me own τ h = lcLoop live f mc me own τ h1.length ds (h1 ++ [.lst []]) := by
  rw [lcM_e, e1, bind_ok, e2]
theorem plDs_B : ∀ x : List Nat, plDs (B x) = true
  | [] => rfl
  | a :: x => by show (plD (.int a) && plDs (B x)) = true; rw [plDs_B x]; rfl
theorem depDs_B : ∀ x : List Nat, depDs (B x) = 0
  | [] => rfl
  | a :: x => by show max (depD (.int a)) (depDs (B x)) = 0; rw [depDs_B x]; rfl
theorem eqDs_B : ∀ x y : List Nat, eqDs (B x) (B y) = decide (x = y)
  | [], [] => by simp [eqDs, B]
  | [], _ :: _ => by simp [eqDs, B]
  | _ :: _, [] => by simp [eqDs, B]
  | a :: x, b :: y => by
    show (eqD (.int a) (.int b) && eqDs (B x) (B y)) = _
    rw [eqDs_B x y]
    have : eqD (.int (a : Int)) (.int (b : Int)) = decide (a = b) := by
      show ((a : Int) == (b : Int)) = _
      by_cases h : a = b
      · subst h; simp
      · rw [decide_eq_false h]; exact beq_eq_false_iff_ne.mpr (by omega)
    rw [this]
    by_cases h1 : a = b <;> by_cases h2 : x = y <;> simp [h1, h2]
theorem ne_BB {x y : List Nat} {h : AH} : neM (.tup (B x)) (.tup (B y)) h = .ok (.bl (!decide (x = y))) h := by
  unfold neM eqB
  simp only [plD, plDs_B, depD, depDs_B, Bool.and_self, eqD, eqDs_B]
  rfl
theorem eq_BB {x y : List Nat} {h : AH} : eqM (.tup (B x)) (.tup (B y)) h = .ok (.bl (decide (x = y))) h := by
  unfold eqM eqB
  simp only [plD, plDs_B, depD, depDs_B, Bool.and_self, eqD, eqDs_B]
  rfl
theorem tryQ_nx {b : SM} {hs : List ((Nat → Option Bool) × SM)} {τ τ' : SL} {h h' : AH} (e : b τ h = .nx τ' h') : tryQ b hs τ h = .nx τ' h' := by
  simp only [tryQ, tryM, e]
theorem it_r {l : Nat} {i : Int} {h : AH} : itM (.ref l) (.int i) h = match h[l]? with
    | some (.lst xs) => (match atI xs i with
      | some d => .ok d h
      | none => .bad)
    | _ => .bad := Eq.trans rfl rfl
theorem setL_e {l : Nat} {i : Int} {v : D} {h : AH} : setLF (.ref l) (.int i) v h = match h[l]? with
    | some (.lst xs) => (match ixN xs.length i with
      | some j => some (h.set l (.lst (xs.set j v)))
      | none => none)
    | _ => none := Eq.trans rfl rfl
theorem int_e {i : Int} {h : AH} : intF [.int i] h = .ok (.int i) h := Eq.trans rfl rfl
theorem emod_nat (a : Int) (m : Nat) (h : 0 < m) : ∃ r : Nat, a % (m : Int) = (r : Int) ∧ r < m := by
  have h1 := Int.emod_nonneg a (b := (m : Int)) (by omega)
  have h2 := Int.emod_lt_of_pos a (b := (m : Int)) (by omega)
  exact ⟨(a % (m : Int)).toNat, by omega, by omega⟩
theorem tupG_e {is : List Nat} {ds : List D} {τ : SL} {h : AH} : tupG (is.map nameG) (.tup ds) τ h = unpackG (is.map nameG) ds τ h := Eq.trans rfl rfl
theorem unp2 {i j : Nat} {a b : D} {τ : SL} {h : AH} : unpackG ([i, j].map nameG) [a, b] τ h = .nx ((τ.set i (some a)).set j (some b)) h := Eq.trans rfl rfl
theorem pow_ii {i j : Int} {h : AH} : powM (.int i) (.int j) h = if CPb i j = true then .ok (.int (i ^ j.toNat)) h else .bad := Eq.trans rfl rfl
theorem it_s {z : Str} {i : Int} {h : AH} : itM (.str z) (.int i) h = if z.length ≤ sizeLine then (match atI z.cps.toList i with
    | some c => .ok (.str ⟨#[c]⟩) h
    | none => .bad) else .bad := Eq.trans rfl rfl
theorem lcP_nil {mc : Option EM} {me : EM} {own : List Nat} {τ : SL} {L : Nat} {h : AH} {f : TM} : lcLoop (fun _ => true) f mc me own τ L [] h = .ok (.ref L) h := Eq.trans rfl rfl
/-- a pair that the test leaves out -/
theorem lcP_skip {c me : EM} {own : List Nat} {τ : SL} {L i j : Nat} {a b : D} {ds : List D} {h h2 : AH} (e : c (((wipeD τ own).set i (some a)).set j (some b)) h = .ok (.bl false) h2) :
    lcLoop (fun _ => true) (tupG ([i, j].map nameG)) (some c) me own τ L (.tup [a, b] :: ds) h = lcLoop (fun _ => true) (tupG ([i, j].map nameG)) (some c) me own τ L ds h2 := by
  show (c (((wipeD τ own).set i (some a)).set j (some b)) h).bind _ = _
  rw [e, bind_ok]
theorem pairM_e {a b : EM} {τ : SL} {h : AH} : pairM a b τ h = (a τ h).bind fun x h1 => (b τ h1).bind fun y h2 => .ok (.tup [x, y]) h2 := Eq.trans rfl rfl
theorem zipIt_t {xs ys : List D} {h : AH} : zipIt (.tup [.tup xs, .tup ys]) h = some (zipL xs ys, fun _ => true) := rfl
theorem eq_bb {a b : Bool} {h : AH} : eqM (.bl a) (.bl b) h = .ok (.bl (a == b)) h := by
  simp [eqM, eqB, plD, depD, eqD]
theorem eq_nilnil {i j : Nat} {h : AH} (e1 : h[i]? = some (.lst [])) (e2 : h[j]? = some (.lst [])) : eqM (.ref i) (.ref j) h = .ok (.bl true) h := by
  simp [eqM, eqB, e1, e2, plDs, depDs, eqDs]
theorem chainM_e {a b c : EM} {f f' : D → D → AH → EO} {τ : SL} {h : AH} : chainM a b c f f' τ h = (a τ h).bind fun x h1 => (b τ h1).bind fun y h2 => (f x y h2).bind fun d h3 => match d with
  | .bl true => (c τ h3).bind fun z h4 => f' y z h4
  | .bl false => .ok (.bl false) h3
  | _ => .bad := Eq.trans rfl rfl
theorem abs_e {i : Int} {h : AH} : absF [.int i] h = .ok (.int (if i < 0 then -i else i)) h := Eq.trans rfl rfl
theorem int_b {k : Bool} {h : AH} : intF [.bl k] h = .ok (.int (if k then 1 else 0)) h := Eq.trans rfl rfl
theorem sl_f {x : List D} {lo hi : Option Int} {h : AH} : sliceM (.fls x) lo hi h = .ok (.ref h.length) (h ++ [.lst (cutL x lo hi)]) := Eq.trans rfl rfl
theorem sl_r {l : Nat} {lo hi : Option Int} {h : AH} : sliceM (.ref l) lo hi h = match h[l]? with
    | some (.lst xs) => .ok (.ref h.length) (h ++ [.lst (cutL xs lo hi)])
    | _ => .bad := Eq.trans rfl rfl
theorem lstIt_e {l : Nat} {h : AH} {xs : List D} (e : h[l]? = some (.lst xs)) : lstIt (.ref l) h = some (xs, isLst l xs) := by
  simp only [lstIt, e]
theorem lcL_nil {mc : Option EM} {me : EM} {own : List Nat} {τ : SL} {L j : Nat} {live : AH → Bool} {h : AH} (e : live h = true) : lcLoop live (nameG j) mc me own τ L [] h = .ok (.ref L) h := by
  show (if live h = true then _ else _) = _
  rw [if_pos e]
theorem lcL_cons {me : EM} {own : List Nat} {τ : SL} {L j : Nat} {d : D} {ds : List D} {live : AH → Bool} {h : AH} (e : live h = true) : lcLoop live (nameG j) none me own τ L (d :: ds) h = (me ((wipeD τ own).set j (some d)) h).bind fun y h3 => match h3[L]? with
      | some (.lst acc) => if acc.length < sizeLine then lcLoop live (nameG j) none me own τ L ds (h3.set L (.lst (acc ++ [y]))) else .bad
      | _ => .bad := by
  show (if live h = true then _ else _) = _
  rw [if_pos e]
  rfl
/-! slots by place -/
def Sl (τ : SL) (i : Nat) (d : D) : Prop := τ[i]? = some (some d)
section
variable {τ : SL} {i j : Nat} {d : D} {o : Option D} {h : AH}
theorem varM_at (e : Sl τ i d) : varM i τ h = .ok d h := by
  rw [varM_e]; unfold Sl at e; rw [e]
theorem Sl.set (e : Sl τ i d) (n : j ≠ i) : Sl (τ.set j o) i d := by
  unfold Sl; rw [List.getElem?_set_ne n]; exact e
theorem Sl.new (n : j < τ.length) : Sl (τ.set j (some d)) j d := by
  unfold Sl; simp [n]
end
theorem len_set {τ : SL} {i : Nat} {o : Option D} {n : Nat} (h : τ.length = n) : (τ.set i o).length = n := by rw [List.length_set]; exact h
theorem atI_k {β : Type} {xs : List β} {k : Nat} (h : k < xs.length) : atI xs (k : Int) = xs[k]? := by
  unfold atI ixN
  rw [if_pos (by omega), if_pos (by omega)]
  rfl
theorem rngL_snoc (n : Nat) : rngL 0 (n + 1) = rngL 0 n ++ [.int (n : Int)] := by
  simp [rngL, List.range_succ]
theorem rngL_nat (n : Nat) : rngL 0 n = (List.range n).map fun (k : Nat) => D.int (k : Int) := by
  simp [rngL]
theorem loopL_nil {live : AH → Bool} {f : TM} {b : SM} {τ : SL} {h : AH} (e : live h = true) : loopM live f b [] τ h = .nx τ h := by
  show (if live h = true then _ else _) = _
  rw [if_pos e]
theorem loopL_cons {live : AH → Bool} {f : TM} {b : SM} {τ : SL} {h : AH} {d : D} {ds : List D} (e : live h = true) : loopM live f b (d :: ds) τ h = (f d τ h).bind fun τ1 h1 => nextM (b τ1 h1) (loopM live f b ds) := by
  show (if live h = true then _ else _) = _
  rw [if_pos e]
theorem lcL_skip {c me : EM} {own : List Nat} {τ : SL} {L j : Nat} {d : D} {ds : List D} {live : AH → Bool} {h h2 : AH} (e : live h = true) (e2 : c ((wipeD τ own).set j (some d)) h = .ok (.bl false) h2) :
    lcLoop live (nameG j) (some c) me own τ L (d :: ds) h = lcLoop live (nameG j) (some c) me own τ L ds h2 := by
  show (if live h = true then (c ((wipeD τ own).set j (some d)) h).bind _ else _) = _
  rw [if_pos e, e2, bind_ok]
theorem lcL_nilC {mc : Option EM} {me : EM} {own : List Nat} {τ : SL} {L : Nat} {live : AH → Bool} {f : TM} {h : AH} (e : live h = true) : lcLoop live f mc me own τ L [] h = .ok (.ref L) h := by
  show (if live h = true then _ else _) = _
  rw [if_pos e]
theorem ne_nilnil {i j : Nat} {h : AH} (e1 : h[i]? = some (.lst [])) (e2 : h[j]? = some (.lst [])) : neM (.ref i) (.ref j) h = .ok (.bl false) h := by
  simp [neM, eqB, e1, e2, plDs, depDs, eqDs]
theorem len_r {l : Nat} {h : AH} {xs : List D} (e : h[l]? = some (.lst xs)) : lenF [.ref l] h = .ok (.int xs.length) h := by
  simp only [lenF, e]
theorem Fr.newU {l k : Nat} {h0 h1 h2 : AH} (a : Fr (some l) h0 h1) (hk : h0.length ≤ k) (b : Fr (some k) h1 h2) : Fr (some l) h0 h2 :=
  ⟨Nat.le_trans a.1 b.1, fun i hi hu => (b.2 i (Nat.lt_of_lt_of_le hi a.1) (by intro z; injection z with z; omega)).trans (a.2 i hi hu)⟩
theorem ne_bb {a b : Bool} {h : AH} : neM (.bl a) (.bl b) h = .ok (.bl (!(a == b))) h := by
  simp [neM, eqB, plD, depD, eqD]
theorem eq_Bs {x : List Nat} {s : Str} {h : AH} : eqM (.tup (B x)) (.str s) h = .ok (.bl false) h := by
  have : eqB h (.tup (B x)) (.str s) = if (plDs (B x) && true && decide (min (depDs (B x) + 1) 0 ≤ 64)) = true then some false else none := rfl
  unfold eqM
  rw [this, plDs_B, Nat.min_zero]
  rfl
/-- what stood in h stands in h', but at us -/
def Fs (us : List Nat) (h h' : AH) : Prop := h.length ≤ h'.length ∧ ∀ i, i < h.length → i ∉ us → h'[i]? = h[i]?
section
variable {us : List Nat} {h h' h'' : AH} {i k : Nat} {o : O} {gb : AH}
theorem Fs.refl : Fs us h h := ⟨Nat.le_refl _, fun _ _ _ => rfl⟩
theorem Fs.trans (a : Fs us h h') (b : Fs us h' h'') : Fs us h h'' := ⟨Nat.le_trans a.1 b.1, fun i hi hu => (b.2 i (Nat.lt_of_lt_of_le hi a.1) hu).trans (a.2 i hi hu)⟩
theorem Fs.of (a : Fr none h h') : Fs us h h' := ⟨a.1, fun i hi _ => a.2 i hi (by simp)⟩
theorem Fs.of1 (a : Fr (some k) h h') (hk : k ∈ us) : Fs us h h' := ⟨a.1, fun i hi hu => a.2 i hi (by intro z; injection z with z; subst z; exact hu hk)⟩
theorem Fs.app : Fs us h (h ++ gb) := .of Fr.app
theorem Fs.set (hk : k ∈ us) : Fs us h (h.set k o) := .of1 Fr.set hk
theorem Fs.setN (a : Fs us h h') (hk : h.length ≤ k) : Fs us h (h'.set k o) := ⟨by simp [a.1], fun i hi hu => by rw [get_set_ne (by omega)]; exact a.2 i hi hu⟩
theorem Fs.get (a : Fs us h h') (e : h[i]? = some o) (hu : i ∉ us) : h'[i]? = some o := (a.2 i (lt_of_get e) hu).trans e
theorem Fs.mono {vs : List Nat} (a : Fs us h h') (hs : ∀ x ∈ us, x ∈ vs) : Fs vs h h' := ⟨a.1, fun i hi hu => a.2 i hi fun z => hu (hs i z)⟩
end
theorem valK_put (kvs : List (Key × D)) (k j : Key) (d : D) : valK (putKD kvs k d) j = if j = k then some d else valK kvs j := by
  have up : ∀ kvs : List (Key × D), valK (kvs.map fun kv => if kv.1 = k then (kv.1, d) else kv) j = (valK kvs j).map fun x => if j = k then d else x := by
    intro kvs
    induction kvs with
    | nil => rfl
    | cons p r ih =>
      have q1 : (if p.1 = k then (p.1, d) else p).1 = p.1 := by split <;> rfl
      unfold valK at ih ⊢
      rw [List.map_cons]
      by_cases e : p.1 = j
      · rw [List.find?_cons_of_pos (by rw [q1]; simpa using e), List.find?_cons_of_pos (by simpa using e)]
        simp only [Option.map_some, Option.some.injEq]
        subst e
        split <;> rfl
      · rw [List.find?_cons_of_neg (by rw [q1]; simpa using e), List.find?_cons_of_neg (by simpa using e)]
        exact ih
  have any : ∀ kvs : List (Key × D), (kvs.any fun kv => decide (kv.1 = k)) = (valK kvs k).isSome := by
    intro kvs
    induction kvs with
    | nil => rfl
    | cons p r ih =>
      unfold valK at ih ⊢
      by_cases e : p.1 = k
      · rw [List.find?_cons_of_pos (by simpa using e), List.any_cons, decide_eq_true e]; rfl
      · rw [List.find?_cons_of_neg (by simpa using e), List.any_cons, decide_eq_false e, Bool.false_or]; exact ih
  have snoc : ∀ kvs : List (Key × D), valK kvs k = none → valK (kvs ++ [(k, d)]) j = if j = k then some d else valK kvs j := by
    intro kvs hn
    induction kvs with
    | nil =>
      unfold valK
      by_cases e : k = j
      · rw [List.nil_append, List.find?_cons_of_pos (by simpa using e), if_pos e.symm]; rfl
      · rw [List.nil_append, List.find?_cons_of_neg (by simpa using e), if_neg (fun z => e z.symm)]; first | rfl | done
    | cons p r ih =>
      unfold valK at ih hn ⊢
      have hk : ¬ p.1 = k := fun e => by rw [List.find?_cons_of_pos (by simpa using e)] at hn; cases hn
      rw [List.find?_cons_of_neg (by simpa using hk)] at hn
      rw [List.cons_append]
      by_cases e : p.1 = j
      · rw [List.find?_cons_of_pos (by simpa using e), List.find?_cons_of_pos (by simpa using e), if_neg (fun z => hk (e.trans z))]
      · rw [List.find?_cons_of_neg (by simpa using e), List.find?_cons_of_neg (by simpa using e)]
        exact ih hn
  unfold putKD
  rw [any]
  split
  · rename_i hs
    rw [up]
    by_cases e : j = k
    · subst e
      cases ev : valK kvs j with
      | none => rw [ev] at hs; cases hs
      | some x => simp
    · simp [if_neg e]
  · rename_i hs
    refine snoc kvs ?_
    cases ev : valK kvs k with
    | none => rfl
    | some x => rw [ev] at hs; exact absurd rfl hs
theorem putKD_len (kvs : List (Key × D)) (k : Key) (d : D) : (putKD kvs k d).length ≤ kvs.length + 1 := by
  unfold putKD
  split <;> simp
theorem fwA {fl : Str} {cs : List Nat} {c k : Nat} {fs : List (Str × D)} {o v : EM} {τ : SL} {x : D} {h h1 : AH} (g : h1[k]? = some (.ins c fs)) (hc : c ∈ cs) (hl : fs.length < 1000) (ev : v τ h = .ok x h1) (eo : o τ h1 = .ok (.ref k) h1) : fldSetM fl cs o v τ h = .nx τ (h1.set k (.ins c (putD fl x fs))) := by
  rw [fldSetM_e, ev, toS_ok, eo, toS_ok]
  simp only [g, hc, hl, and_self, ↓reduceIte]
theorem ne_bb' {a b : Bool} {h : AH} : neM (.bl a) (.bl b) h = .ok (.bl (!(a == b))) h := by
  simp [neM, eqB, plD, depD, eqD]
theorem add_rr {i j : Nat} {xs ys : List D} {h : AH} (e1 : h[i]? = some (.lst xs)) (e2 : h[j]? = some (.lst ys)) (hz : xs.length + ys.length ≤ 16777216) : addM (.ref i) (.ref j) h = .ok (.ref h.length) (h ++ [.lst (xs ++ ys)]) := by
  simp only [addM, e1, e2]
  rw [if_pos (by rw [sizeLine_eq]; exact hz)]
theorem unp4 {i j u w : Nat} {a b c d : D} {τ : SL} {h : AH} : unpackG ([i, j, u, w].map nameG) [a, b, c, d] τ h = .nx ((((τ.set i (some a)).set j (some b)).set u (some c)).set w (some d)) h := Eq.trans rfl rfl
mutual
theorem eqD_self : ∀ d : D, plD d = true → eqD d d = true
  | .non, _ => rfl
  | .bl b, _ => by simp [eqD]
  | .int i, _ => by simp [eqD]
  | .str x, _ => by simp [eqD]
  | .tup xs, h => by
    simp only [eqD]
    exact eqDs_self xs (by simpa [plD] using h)
  | .ref _, h => by simp [plD] at h
  | .con _, h => by simp [plD] at h
  | .fls _, h => by simp [plD] at h
theorem eqDs_self : ∀ ds : List D, plDs ds = true → eqDs ds ds = true
  | [], _ => rfl
  | d :: ds, h => by
    simp only [plDs, Bool.and_eq_true] at h
    simp only [eqDs, eqD_self d h.1, eqDs_self ds h.2, Bool.and_self]
end
/-- a plain value is not other than itself -/
theorem ne_self {d : D} {h : AH} (hp : plD d = true) (hd : depD d ≤ 64) : neM d d h = .ok (.bl false) h := by
  have e : eqB h d d = if (plD d && plD d && decide (min (depD d) (depD d) ≤ 64)) = true then some (eqD d d) else none := by
    cases d <;> first | rfl | (simp [plD] at hp)
  unfold neM
  rw [e, hp, Nat.min_self, decide_eq_true hd, eqD_self d hp]
  rfl
theorem ne_lists {i j : Nat} {xs : List D} {h : AH} (e1 : h[i]? = some (.lst xs)) (e2 : h[j]? = some (.lst xs)) (hp : plDs xs = true) (hd : depDs xs < 64) : neM (.ref i) (.ref j) h = .ok (.bl false) h := by
  have e : eqB h (.ref i) (.ref j) = if (plDs xs && plDs xs && decide (min (depDs xs) (depDs xs) < 64)) = true then some (eqDs xs xs) else none := by
    simp only [eqB, e1, e2]
  unfold neM
  rw [e, hp, Nat.min_self, decide_eq_true hd, eqDs_self xs hp]
  rfl
theorem unp7 {a b c d e f g : D} {i1 i2 i3 i4 i5 i6 i7 : Nat} {τ : SL} {h : AH} : unpackG ([i1, i2, i3, i4, i5, i6, i7].map nameG) [a, b, c, d, e, f, g] τ h = .nx (((((((τ.set i1 (some a)).set i2 (some b)).set i3 (some c)).set i4 (some d)).set i5 (some e)).set i6 (some f)).set i7 (some g)) h := Eq.trans rfl rfl
theorem Fs.new {us vs : List Nat} {h0 h1 h2 : AH} (a : Fs us h0 h1) (b : Fs vs h1 h2) (hs : ∀ x ∈ vs, x ∈ us ∨ h0.length ≤ x) : Fs us h0 h2 :=
  ⟨Nat.le_trans a.1 b.1, fun i hi hu => (b.2 i (Nat.lt_of_lt_of_le hi a.1) (fun z => by rcases hs i z with q | q; exact hu q; omega)).trans (a.2 i hi hu)⟩
end DD
end

section
set_option Elab.async false
set_option linter.all false
set_option maxRecDepth 100000
set_option maxHeartbeats 2000000
namespace K08
open PySem L2 DD
def Dc (a b c : Int) : O := .lst [.int a, .int b, .int c]
def RB : Nat → Nat → Prop
  | 0, _ => False
  | n + 1, m => m ≤ 100000000 ∨ RB n (m / 100000000 + 1)
theorem dc0 {a b c : Int} : atI [D.int a, .int b, .int c] 0 = some (.int a) := rfl
theorem dc1 {a b c : Int} : atI [D.int a, .int b, .int c] 1 = some (.int b) := rfl
theorem dc2 {a b c : Int} : atI [D.int a, .int b, .int c] 2 = some (.int c) := rfl
theorem ix0 : ixN 3 0 = some 0 := rfl
theorem ix1 : ixN 3 1 = some 1 := rfl
theorem ix2 : ixN 3 2 = some 2 := rfl
theorem RB_one {n : Nat} (h : RB n 100000000 ∨ 0 < n) : 0 < n → RB n 100000000 := fun hn => by
  cases n with
  | zero => omega
  | succ n => exact .inl (Nat.le_refl _)
theorem roll_run : ∀ (n many : Nat) (h : AH) (l : Nat) (a b c : Int), h[l]? = some (Dc a b c) → 0 < many → RB n many → many < 2 ^ 120 →
    ∃ (r : Nat) (a' b' c' : Int) (h' : AH), R__law_roll n [.ref l, .int (many : Int)] h = .ok (.int (r : Int)) h' ∧ r < many ∧ Fr (some l) h h' ∧ h'[l]? = some (Dc a' b' c') := by
  intro n
  induction n with
  | zero => intro many h l a b c _ _ hb; exact hb.elim
  | succ n ih =>
    intro many h l a b c e hm hb h120
    have hl := lt_of_get e
    have e' : h[l]? = some (O.lst [.int a, .int b, .int c]) := e
    have e0 : startD N__law_roll.length [D.ref l, D.int (many : Int)] = [some (.ref l), some (.int (many : Int)), none] := rfl
    unfold R__law_roll m__law_roll
    rw [e0]
    have dm : decide ((0 : Int) < (many : Int)) = true := decide_eq_true (by omega)
    have cd : CDb a (many : Int) = true := cdb_pos hm (Nat.lt_of_lt_of_le h120 (by decide))
    have first : (c == 2) = true ∨ ((c == 2) = false ∧ (c == 1) = true ∧ decide ((0 : Int) < a) = true) → ∃ (r : Nat) (a' b' c' : Int) (h' : AH), retOf (m__law_roll (R__law_roll n) [some (.ref l), some (.int (many : Int)), none] h) = .ok (.int (r : Int)) h' ∧ r < many ∧ Fr (some l) h h' ∧ h'[l]? = some (Dc a' b' c') := fun hc => by
      obtain ⟨r, er, hr⟩ := emod_nat a many hm
      refine ⟨r, a / (many : Int), b, c, h.set l (Dc (a / (many : Int)) b c), ?_, hr, Fr.set, get_set hl⟩
      unfold m__law_roll Dc
      rcases hc with hc | ⟨hc1, hc2, hc3⟩
      · simp only [it_r, e', dc0, dc1, dc2, hc, int_e, dm, er, cd, setL_e, ix0, DD.bind_ok, DD.bind_exc, DD.toS_ok, DD.toS_exc, DD.bindL_ok, DD.bindL_exc, DD.lbind_ok, DD.lbind_exc, DD.bindE_ok, DD.bindE_exc, DD.sbind_nx, DD.sbind_rt, DD.sbind_exc, DD.sbind_bk, DD.sbind_ct, DD.ret_nx, DD.ret_rt, DD.ret_exc, DD.varM_0, DD.varM_1, DD.varM_2, DD.varM_3, DD.varM_4, DD.varM_5, DD.cM_e, DD.binM_e, DD.unM_e, DD.seqM_e, DD.setM_e, DD.exprM_e, DD.retM_e, DD.raiseM_e, DD.passM_e, DD.brkM_e, DD.ifSM_e, DD.ifM_e, DD.andM_e, DD.orM_e, DD.notM_e, DD.nilM_e, DD.consM_e, DD.callM_e, DD.tupM_e, DD.lstM_e, DD.bmM_e, DD.smM_e, DD.asgM_e, DD.subG_e, DD.nameG_e, DD.slM_e, DD.om_none, DD.om_some, DD.fldSetM_e, DD.toldM_e, DD.add_ii, DD.add_tt, DD.sub_ii, DD.mul_ii, DD.lt_ii, DD.le_ii, DD.gt_ii, DD.ge_ii, DD.fdiv_ii, DD.mod_ii, DD.eq_ii, DD.ne_ii, DD.eq_ss, DD.ne_ss, DD.fld_e, DD.len_t, DD.len_s, DD.append_e, DD.extend_t, DD.extend_r, DD.tup_r, DD.it_t, DD.sl_t, DD.callF, List.length_append, List.length_cons, List.length_nil, List.append_nil, Nat.reduceAdd, List.set_cons_zero, List.set_cons_succ, ↓reduceIte, Bool.not_true, Bool.not_false, Nat.zero_le]
      · simp only [it_r, e', dc0, dc1, dc2, hc1, hc2, hc3, int_e, dm, er, cd, setL_e, ix0, DD.bind_ok, DD.bind_exc, DD.toS_ok, DD.toS_exc, DD.bindL_ok, DD.bindL_exc, DD.lbind_ok, DD.lbind_exc, DD.bindE_ok, DD.bindE_exc, DD.sbind_nx, DD.sbind_rt, DD.sbind_exc, DD.sbind_bk, DD.sbind_ct, DD.ret_nx, DD.ret_rt, DD.ret_exc, DD.varM_0, DD.varM_1, DD.varM_2, DD.varM_3, DD.varM_4, DD.varM_5, DD.cM_e, DD.binM_e, DD.unM_e, DD.seqM_e, DD.setM_e, DD.exprM_e, DD.retM_e, DD.raiseM_e, DD.passM_e, DD.brkM_e, DD.ifSM_e, DD.ifM_e, DD.andM_e, DD.orM_e, DD.notM_e, DD.nilM_e, DD.consM_e, DD.callM_e, DD.tupM_e, DD.lstM_e, DD.bmM_e, DD.smM_e, DD.asgM_e, DD.subG_e, DD.nameG_e, DD.slM_e, DD.om_none, DD.om_some, DD.fldSetM_e, DD.toldM_e, DD.add_ii, DD.add_tt, DD.sub_ii, DD.mul_ii, DD.lt_ii, DD.le_ii, DD.gt_ii, DD.ge_ii, DD.fdiv_ii, DD.mod_ii, DD.eq_ii, DD.ne_ii, DD.eq_ss, DD.ne_ss, DD.fld_e, DD.len_t, DD.len_s, DD.append_e, DD.extend_t, DD.extend_r, DD.tup_r, DD.it_t, DD.sl_t, DD.callF, List.length_append, List.length_cons, List.length_nil, List.append_nil, Nat.reduceAdd, List.set_cons_zero, List.set_cons_succ, ↓reduceIte, Bool.not_true, Bool.not_false, Nat.zero_le]
    by_cases q2 : (c == 2) = true
    · exact first (.inl q2)
    have q2' : (c == 2) = false := by simpa using q2
    by_cases q1 : (c == 1) = true ∧ decide ((0 : Int) < a) = true
    · exact first (.inr ⟨q2', q1.1, q1.2⟩)
    have g1 : (h.set l (Dc a b 0))[l]? = some (O.lst [.int a, .int b, .int 0]) := get_set hl
    by_cases hbig : many > 100000000
    · have hb2 : RB n (many / 100000000 + 1) := by
        rcases hb with hb | hb
        · omega
        · exact hb
      have hn : 0 < n := by cases n with
        | zero => exact hb2.elim
        | succ n => omega
      obtain ⟨r1, a1, b1, c1, h1, s1, s2, s3, s4⟩ := ih (many / 100000000 + 1) (h.set l (Dc a b 0)) l a b 0 g1 (by omega) hb2 (by omega)
      obtain ⟨r2, a2, b2, c2, h2, t1, t2, t3, t4⟩ := ih 100000000 h1 l a1 b1 c1 s4 (by omega) (RB_one (.inr hn) hn) (by decide)
      obtain ⟨r, er, hr⟩ := emod_nat ((r1 : Int) * 100000000 + (r2 : Int)) many hm
      refine ⟨r, a2, b2, c2, h2, ?_, hr, (Fr.set.trans s3).trans t3, t4⟩
      have ed : ((many : Int) / 100000000 + 1) = ((many / 100000000 + 1 : Nat) : Int) := by omega
      have cd2 : CDb (many : Int) 100000000 = true := cdb_pos (n := 100000000) (by decide) (by decide)
      have dbig : decide ((100000000 : Int) < (many : Int)) = true := decide_eq_true (by omega)
      have t1' : R__law_roll n [.ref l, .int 100000000] h1 = .ok (.int (r2 : Int)) h2 := t1
      have cm : CMb' (r1 : Int) 100000000 = true := cmb_r (by decide)
      unfold Dc at s1
      by_cases q3 : (c == 1) = true
      · have q4 : decide ((0 : Int) < a) = false := by
          cases hq : decide ((0 : Int) < a) with
          | true => exact absurd ⟨q3, hq⟩ q1
          | false => rfl
        simp only [it_r, e', dc0, dc1, dc2, q2', q3, q4, setL_e, ix2, dbig, ed, cd2, s1, t1', int_e, cm, dm, er, DD.bind_ok, DD.bind_exc, DD.toS_ok, DD.toS_exc, DD.bindL_ok, DD.bindL_exc, DD.lbind_ok, DD.lbind_exc, DD.bindE_ok, DD.bindE_exc, DD.sbind_nx, DD.sbind_rt, DD.sbind_exc, DD.sbind_bk, DD.sbind_ct, DD.ret_nx, DD.ret_rt, DD.ret_exc, DD.varM_0, DD.varM_1, DD.varM_2, DD.varM_3, DD.varM_4, DD.varM_5, DD.cM_e, DD.binM_e, DD.unM_e, DD.seqM_e, DD.setM_e, DD.exprM_e, DD.retM_e, DD.raiseM_e, DD.passM_e, DD.brkM_e, DD.ifSM_e, DD.ifM_e, DD.andM_e, DD.orM_e, DD.notM_e, DD.nilM_e, DD.consM_e, DD.callM_e, DD.tupM_e, DD.lstM_e, DD.bmM_e, DD.smM_e, DD.asgM_e, DD.subG_e, DD.nameG_e, DD.slM_e, DD.om_none, DD.om_some, DD.fldSetM_e, DD.toldM_e, DD.add_ii, DD.add_tt, DD.sub_ii, DD.mul_ii, DD.lt_ii, DD.le_ii, DD.gt_ii, DD.ge_ii, DD.fdiv_ii, DD.mod_ii, DD.eq_ii, DD.ne_ii, DD.eq_ss, DD.ne_ss, DD.fld_e, DD.len_t, DD.len_s, DD.append_e, DD.extend_t, DD.extend_r, DD.tup_r, DD.it_t, DD.sl_t, DD.callF, List.length_append, List.length_cons, List.length_nil, List.append_nil, Nat.reduceAdd, List.set_cons_zero, List.set_cons_succ, ↓reduceIte, Bool.not_true, Bool.not_false, Nat.zero_le]
      · have q3' : (c == 1) = false := by simpa using q3
        simp only [it_r, e', dc0, dc1, dc2, q2', q3', setL_e, ix2, dbig, ed, cd2, s1, t1', int_e, cm, dm, er, DD.bind_ok, DD.bind_exc, DD.toS_ok, DD.toS_exc, DD.bindL_ok, DD.bindL_exc, DD.lbind_ok, DD.lbind_exc, DD.bindE_ok, DD.bindE_exc, DD.sbind_nx, DD.sbind_rt, DD.sbind_exc, DD.sbind_bk, DD.sbind_ct, DD.ret_nx, DD.ret_rt, DD.ret_exc, DD.varM_0, DD.varM_1, DD.varM_2, DD.varM_3, DD.varM_4, DD.varM_5, DD.cM_e, DD.binM_e, DD.unM_e, DD.seqM_e, DD.setM_e, DD.exprM_e, DD.retM_e, DD.raiseM_e, DD.passM_e, DD.brkM_e, DD.ifSM_e, DD.ifM_e, DD.andM_e, DD.orM_e, DD.notM_e, DD.nilM_e, DD.consM_e, DD.callM_e, DD.tupM_e, DD.lstM_e, DD.bmM_e, DD.smM_e, DD.asgM_e, DD.subG_e, DD.nameG_e, DD.slM_e, DD.om_none, DD.om_some, DD.fldSetM_e, DD.toldM_e, DD.add_ii, DD.add_tt, DD.sub_ii, DD.mul_ii, DD.lt_ii, DD.le_ii, DD.gt_ii, DD.ge_ii, DD.fdiv_ii, DD.mod_ii, DD.eq_ii, DD.ne_ii, DD.eq_ss, DD.ne_ss, DD.fld_e, DD.len_t, DD.len_s, DD.append_e, DD.extend_t, DD.extend_r, DD.tup_r, DD.it_t, DD.sl_t, DD.callF, List.length_append, List.length_cons, List.length_nil, List.append_nil, Nat.reduceAdd, List.set_cons_zero, List.set_cons_succ, ↓reduceIte, Bool.not_true, Bool.not_false, Nat.zero_le]
    · have dbig : decide ((100000000 : Int) < (many : Int)) = false := decide_eq_false (by omega)
      have cm1 : CMb' a 48271 = true := cmb_r (by decide)
      have cm2 : CMb' b 69621 = true := cmb_r (by decide)
      have cd7 : ∀ x : Int, CDb x 7 = true := fun x => cdb_pos (n := 7) (by decide) (by decide)
      have d21 : decide ((0 : Int) < 2147483647) = true := by decide
      obtain ⟨r, er, hr⟩ := emod_nat ((a * 48271 + b * 69621 + 11) % 2147483647 / 7) many hm
      have g1' : (h.set l (O.lst [.int a, .int b, .int 0]))[l]? = some (O.lst [.int a, .int b, .int 0]) := get_set hl
      have g2 : (h.set l (O.lst [.int ((a * 48271 + b * 69621 + 11) % 2147483647), .int b, .int 0]))[l]? = some (O.lst [.int ((a * 48271 + b * 69621 + 11) % 2147483647), .int b, .int 0]) := get_set hl
      have g3 : (h.set l (O.lst [.int ((a * 48271 + b * 69621 + 11) % 2147483647), .int (b + 1), .int 0]))[l]? = some (O.lst [.int ((a * 48271 + b * 69621 + 11) % 2147483647), .int (b + 1), .int 0]) := get_set hl
      refine ⟨r, (a * 48271 + b * 69621 + 11) % 2147483647, b + 1, 0, h.set l (Dc ((a * 48271 + b * 69621 + 11) % 2147483647) (b + 1) 0), ?_, hr, Fr.set, get_set hl⟩
      unfold Dc
      by_cases q3 : (c == 1) = true
      · have q4 : decide ((0 : Int) < a) = false := by
          cases hq : decide ((0 : Int) < a) with
          | true => exact absurd ⟨q3, hq⟩ q1
          | false => rfl
        simp only [it_r, e', dc0, dc1, dc2, q2', q3, q4, setL_e, ix0, ix1, ix2, dbig, cm1, cm2, int_e, d21, dm, set_set, g1', g2, g3, cd7, er, DD.bind_ok, DD.bind_exc, DD.toS_ok, DD.toS_exc, DD.bindL_ok, DD.bindL_exc, DD.lbind_ok, DD.lbind_exc, DD.bindE_ok, DD.bindE_exc, DD.sbind_nx, DD.sbind_rt, DD.sbind_exc, DD.sbind_bk, DD.sbind_ct, DD.ret_nx, DD.ret_rt, DD.ret_exc, DD.varM_0, DD.varM_1, DD.varM_2, DD.varM_3, DD.varM_4, DD.varM_5, DD.cM_e, DD.binM_e, DD.unM_e, DD.seqM_e, DD.setM_e, DD.exprM_e, DD.retM_e, DD.raiseM_e, DD.passM_e, DD.brkM_e, DD.ifSM_e, DD.ifM_e, DD.andM_e, DD.orM_e, DD.notM_e, DD.nilM_e, DD.consM_e, DD.callM_e, DD.tupM_e, DD.lstM_e, DD.bmM_e, DD.smM_e, DD.asgM_e, DD.subG_e, DD.nameG_e, DD.slM_e, DD.om_none, DD.om_some, DD.fldSetM_e, DD.toldM_e, DD.add_ii, DD.add_tt, DD.sub_ii, DD.mul_ii, DD.lt_ii, DD.le_ii, DD.gt_ii, DD.ge_ii, DD.fdiv_ii, DD.mod_ii, DD.eq_ii, DD.ne_ii, DD.eq_ss, DD.ne_ss, DD.fld_e, DD.len_t, DD.len_s, DD.append_e, DD.extend_t, DD.extend_r, DD.tup_r, DD.it_t, DD.sl_t, DD.callF, List.length_append, List.length_cons, List.length_nil, List.append_nil, Nat.reduceAdd, List.set_cons_zero, List.set_cons_succ, ↓reduceIte, Bool.not_true, Bool.not_false, Nat.zero_le]
      · have q3' : (c == 1) = false := by simpa using q3
        simp only [it_r, e', dc0, dc1, dc2, q2', q3', setL_e, ix0, ix1, ix2, dbig, cm1, cm2, int_e, d21, dm, set_set, g1', g2, g3, cd7, er, DD.bind_ok, DD.bind_exc, DD.toS_ok, DD.toS_exc, DD.bindL_ok, DD.bindL_exc, DD.lbind_ok, DD.lbind_exc, DD.bindE_ok, DD.bindE_exc, DD.sbind_nx, DD.sbind_rt, DD.sbind_exc, DD.sbind_bk, DD.sbind_ct, DD.ret_nx, DD.ret_rt, DD.ret_exc, DD.varM_0, DD.varM_1, DD.varM_2, DD.varM_3, DD.varM_4, DD.varM_5, DD.cM_e, DD.binM_e, DD.unM_e, DD.seqM_e, DD.setM_e, DD.exprM_e, DD.retM_e, DD.raiseM_e, DD.passM_e, DD.brkM_e, DD.ifSM_e, DD.ifM_e, DD.andM_e, DD.orM_e, DD.notM_e, DD.nilM_e, DD.consM_e, DD.callM_e, DD.tupM_e, DD.lstM_e, DD.bmM_e, DD.smM_e, DD.asgM_e, DD.subG_e, DD.nameG_e, DD.slM_e, DD.om_none, DD.om_some, DD.fldSetM_e, DD.toldM_e, DD.add_ii, DD.add_tt, DD.sub_ii, DD.mul_ii, DD.lt_ii, DD.le_ii, DD.gt_ii, DD.ge_ii, DD.fdiv_ii, DD.mod_ii, DD.eq_ii, DD.ne_ii, DD.eq_ss, DD.ne_ss, DD.fld_e, DD.len_t, DD.len_s, DD.append_e, DD.extend_t, DD.extend_r, DD.tup_r, DD.it_t, DD.sl_t, DD.callF, List.length_append, List.length_cons, List.length_nil, List.append_nil, Nat.reduceAdd, List.set_cons_zero, List.set_cons_succ, ↓reduceIte, Bool.not_true, Bool.not_false, Nat.zero_le]
/-- the dice stand at l, the rest is kept -/
def Dd (l : Nat) (h h' : AH) : Prop := Fr (some l) h h' ∧ ∃ a b c, h'[l]? = some (Dc a b c)
theorem roll5 (many : Nat) (h : AH) (l : Nat) (hd : ∃ a b c, h[l]? = some (Dc a b c)) (hm : 0 < many) (hb : RB 5 many) (h120 : many < 2 ^ 120) :
    ∃ (r : Nat) (h' : AH), R__law_roll 5 [.ref l, .int (many : Int)] h = .ok (.int (r : Int)) h' ∧ r < many ∧ Dd l h h' := by
  obtain ⟨a, b, c, e⟩ := hd
  obtain ⟨r, a', b', c', h', s1, s2, s3, s4⟩ := roll_run 5 many h l a b c e hm hb h120
  exact ⟨r, h', s1, s2, s3, a', b', c', s4⟩
theorem Dd.trans {l : Nat} {h h1 h2 : AH} (a : Dd l h h1) (b : Dd l h1 h2) : Dd l h h2 := ⟨a.1.trans b.1, b.2⟩
theorem Dd.frame {l : Nat} {h h' : AH} (a : Dd l h h') : Fr (some l) h h' := a.1
/-- a new thing is laid -/
theorem Dd.app {l : Nat} {h h' gb : AH} (a : Dd l h h') : Dd l h (h' ++ gb) := ⟨a.1.trans Fr.app, by
  obtain ⟨x, y, z, q⟩ := a.2
  exact ⟨x, y, z, get_app q⟩⟩
theorem dice_run (x : Int) (h : AH) : ∃ a b c, F__law_dice [.int x] h = .ok (.ref h.length) (h ++ [Dc a b c]) := by
  unfold F__law_dice m__law_dice
  have e0 : startD N__law_dice.length [D.int x] = [some (.int x)] := rfl
  rw [e0]
  have l3 : (0 + 1 + 1 + 1 ≤ sizeLine) = True := by rw [sizeLine_eq]; decide
  have d9 : decide ((0 : Int) < 1009) = true := by decide
  have cp : CPb 10 18 = true := by decide
  have c2 : ∃ a b c, retOf (retM (lstM (consM (varM 0) (consM (binM (cM (.int 1)) (binM (callM (consM (varM 0) nilM) intF) (cM (.int 1009)) modM) addM) (consM (callM (consM (binM (varM 0) (binM (cM (.int 10)) (cM (.int 18)) powM) geM) nilM) intF) nilM)))) [some (.int x)] h) = .ok (.ref h.length) (h ++ [Dc a b c]) := by
    refine ⟨x, 1 + x % 1009, if decide ((10 : Int) ^ (18 : Int).toNat ≤ x) then 1 else 0, ?_⟩
    unfold Dc
    simp only [int_e, int_b, d9, pow_ii, cp, l3, DD.bind_ok, DD.bind_exc, DD.toS_ok, DD.toS_exc, DD.bindL_ok, DD.bindL_exc, DD.lbind_ok, DD.lbind_exc, DD.bindE_ok, DD.bindE_exc, DD.sbind_nx, DD.sbind_rt, DD.sbind_exc, DD.sbind_bk, DD.sbind_ct, DD.ret_nx, DD.ret_rt, DD.ret_exc, DD.varM_0, DD.varM_1, DD.varM_2, DD.varM_3, DD.varM_4, DD.varM_5, DD.cM_e, DD.binM_e, DD.unM_e, DD.seqM_e, DD.setM_e, DD.exprM_e, DD.retM_e, DD.raiseM_e, DD.passM_e, DD.brkM_e, DD.ifSM_e, DD.ifM_e, DD.andM_e, DD.orM_e, DD.notM_e, DD.nilM_e, DD.consM_e, DD.callM_e, DD.tupM_e, DD.lstM_e, DD.bmM_e, DD.smM_e, DD.asgM_e, DD.subG_e, DD.nameG_e, DD.slM_e, DD.om_none, DD.om_some, DD.fldSetM_e, DD.toldM_e, DD.add_ii, DD.add_tt, DD.sub_ii, DD.mul_ii, DD.lt_ii, DD.le_ii, DD.gt_ii, DD.ge_ii, DD.fdiv_ii, DD.mod_ii, DD.eq_ii, DD.ne_ii, DD.eq_ss, DD.ne_ss, DD.fld_e, DD.len_t, DD.len_s, DD.append_e, DD.extend_t, DD.extend_r, DD.tup_r, DD.it_t, DD.sl_t, DD.callF, List.length_append, List.length_cons, List.length_nil, List.append_nil, Nat.reduceAdd, List.set_cons_zero, List.set_cons_succ, ↓reduceIte, Bool.not_true, Bool.not_false, Nat.zero_le]
  by_cases h1 : (0 : Int) - 10 < x
  · by_cases h2 : x < 10
    · refine ⟨if x < 0 then -x else x, 0, 2, ?_⟩
      unfold Dc
      simp only [chainM_e, decide_eq_true h1, decide_eq_true h2, abs_e, l3, DD.bind_ok, DD.bind_exc, DD.toS_ok, DD.toS_exc, DD.bindL_ok, DD.bindL_exc, DD.lbind_ok, DD.lbind_exc, DD.bindE_ok, DD.bindE_exc, DD.sbind_nx, DD.sbind_rt, DD.sbind_exc, DD.sbind_bk, DD.sbind_ct, DD.ret_nx, DD.ret_rt, DD.ret_exc, DD.varM_0, DD.varM_1, DD.varM_2, DD.varM_3, DD.varM_4, DD.varM_5, DD.cM_e, DD.binM_e, DD.unM_e, DD.seqM_e, DD.setM_e, DD.exprM_e, DD.retM_e, DD.raiseM_e, DD.passM_e, DD.brkM_e, DD.ifSM_e, DD.ifM_e, DD.andM_e, DD.orM_e, DD.notM_e, DD.nilM_e, DD.consM_e, DD.callM_e, DD.tupM_e, DD.lstM_e, DD.bmM_e, DD.smM_e, DD.asgM_e, DD.subG_e, DD.nameG_e, DD.slM_e, DD.om_none, DD.om_some, DD.fldSetM_e, DD.toldM_e, DD.add_ii, DD.add_tt, DD.sub_ii, DD.mul_ii, DD.lt_ii, DD.le_ii, DD.gt_ii, DD.ge_ii, DD.fdiv_ii, DD.mod_ii, DD.eq_ii, DD.ne_ii, DD.eq_ss, DD.ne_ss, DD.fld_e, DD.len_t, DD.len_s, DD.append_e, DD.extend_t, DD.extend_r, DD.tup_r, DD.it_t, DD.sl_t, DD.callF, List.length_append, List.length_cons, List.length_nil, List.append_nil, Nat.reduceAdd, List.set_cons_zero, List.set_cons_succ, ↓reduceIte, Bool.not_true, Bool.not_false, Nat.zero_le]
    · obtain ⟨a, b, c, e⟩ := c2
      refine ⟨a, b, c, ?_⟩
      rw [← e]
      simp only [chainM_e, decide_eq_true h1, decide_eq_false h2, DD.bind_ok, DD.bind_exc, DD.toS_ok, DD.toS_exc, DD.bindL_ok, DD.bindL_exc, DD.lbind_ok, DD.lbind_exc, DD.bindE_ok, DD.bindE_exc, DD.sbind_nx, DD.sbind_rt, DD.sbind_exc, DD.sbind_bk, DD.sbind_ct, DD.ret_nx, DD.ret_rt, DD.ret_exc, DD.varM_0, DD.varM_1, DD.varM_2, DD.varM_3, DD.varM_4, DD.varM_5, DD.cM_e, DD.binM_e, DD.unM_e, DD.seqM_e, DD.setM_e, DD.exprM_e, DD.retM_e, DD.raiseM_e, DD.passM_e, DD.brkM_e, DD.ifSM_e, DD.ifM_e, DD.andM_e, DD.orM_e, DD.notM_e, DD.nilM_e, DD.consM_e, DD.callM_e, DD.tupM_e, DD.lstM_e, DD.bmM_e, DD.smM_e, DD.asgM_e, DD.subG_e, DD.nameG_e, DD.slM_e, DD.om_none, DD.om_some, DD.fldSetM_e, DD.toldM_e, DD.add_ii, DD.add_tt, DD.sub_ii, DD.mul_ii, DD.lt_ii, DD.le_ii, DD.gt_ii, DD.ge_ii, DD.fdiv_ii, DD.mod_ii, DD.eq_ii, DD.ne_ii, DD.eq_ss, DD.ne_ss, DD.fld_e, DD.len_t, DD.len_s, DD.append_e, DD.extend_t, DD.extend_r, DD.tup_r, DD.it_t, DD.sl_t, DD.callF, List.length_append, List.length_cons, List.length_nil, List.append_nil, Nat.reduceAdd, List.set_cons_zero, List.set_cons_succ, ↓reduceIte, Bool.not_true, Bool.not_false, Nat.zero_le]
  · obtain ⟨a, b, c, e⟩ := c2
    refine ⟨a, b, c, ?_⟩
    rw [← e]
    simp only [chainM_e, decide_eq_false h1, DD.bind_ok, DD.bind_exc, DD.toS_ok, DD.toS_exc, DD.bindL_ok, DD.bindL_exc, DD.lbind_ok, DD.lbind_exc, DD.bindE_ok, DD.bindE_exc, DD.sbind_nx, DD.sbind_rt, DD.sbind_exc, DD.sbind_bk, DD.sbind_ct, DD.ret_nx, DD.ret_rt, DD.ret_exc, DD.varM_0, DD.varM_1, DD.varM_2, DD.varM_3, DD.varM_4, DD.varM_5, DD.cM_e, DD.binM_e, DD.unM_e, DD.seqM_e, DD.setM_e, DD.exprM_e, DD.retM_e, DD.raiseM_e, DD.passM_e, DD.brkM_e, DD.ifSM_e, DD.ifM_e, DD.andM_e, DD.orM_e, DD.notM_e, DD.nilM_e, DD.consM_e, DD.callM_e, DD.tupM_e, DD.lstM_e, DD.bmM_e, DD.smM_e, DD.asgM_e, DD.subG_e, DD.nameG_e, DD.slM_e, DD.om_none, DD.om_some, DD.fldSetM_e, DD.toldM_e, DD.add_ii, DD.add_tt, DD.sub_ii, DD.mul_ii, DD.lt_ii, DD.le_ii, DD.gt_ii, DD.ge_ii, DD.fdiv_ii, DD.mod_ii, DD.eq_ii, DD.ne_ii, DD.eq_ss, DD.ne_ss, DD.fld_e, DD.len_t, DD.len_s, DD.append_e, DD.extend_t, DD.extend_r, DD.tup_r, DD.it_t, DD.sl_t, DD.callF, List.length_append, List.length_cons, List.length_nil, List.append_nil, Nat.reduceAdd, List.set_cons_zero, List.set_cons_succ, ↓reduceIte, Bool.not_true, Bool.not_false, Nat.zero_le]
theorem rounds_run {ns : List Int} {dd : D} {h0 : AH} (hs : Scr ns dd h0) : ∃ L D1 h' a b c, F__law_rounds [dd, .int 1] h0 = .ok (.ref L) h' ∧ h'[L]? = some (.lst [.ref D1]) ∧ h'[D1]? = some (Dc a b c) ∧ D1 ≠ L := by
  have ec : ∀ xs : List D, cutL xs none (some (1 : Int)) = xs.take 1 := fun xs => cut_n (b := 1)
  have sl : slM (varM 0) .none (.some (varM 1)) [some dd, some (.int 1), none, none] h0 = .ok (.ref h0.length) (h0 ++ [.lst ((ns.map D.int).take 1)]) := by
    rcases hs with ⟨rfl, rfl⟩ | ⟨rfl, rfl⟩
    · simp only [sl_r, ec, show ([O.lst (ns.map D.int)] : AH)[0]? = some (.lst (ns.map D.int)) from rfl, DD.bind_ok, DD.bind_exc, DD.toS_ok, DD.toS_exc, DD.bindL_ok, DD.bindL_exc, DD.lbind_ok, DD.lbind_exc, DD.bindE_ok, DD.bindE_exc, DD.sbind_nx, DD.sbind_rt, DD.sbind_exc, DD.sbind_bk, DD.sbind_ct, DD.ret_nx, DD.ret_rt, DD.ret_exc, DD.varM_0, DD.varM_1, DD.varM_2, DD.varM_3, DD.varM_4, DD.varM_5, DD.cM_e, DD.binM_e, DD.unM_e, DD.seqM_e, DD.setM_e, DD.exprM_e, DD.retM_e, DD.raiseM_e, DD.passM_e, DD.brkM_e, DD.ifSM_e, DD.ifM_e, DD.andM_e, DD.orM_e, DD.notM_e, DD.nilM_e, DD.consM_e, DD.callM_e, DD.tupM_e, DD.lstM_e, DD.bmM_e, DD.smM_e, DD.asgM_e, DD.subG_e, DD.nameG_e, DD.slM_e, DD.om_none, DD.om_some, DD.fldSetM_e, DD.toldM_e, DD.add_ii, DD.add_tt, DD.sub_ii, DD.mul_ii, DD.lt_ii, DD.le_ii, DD.gt_ii, DD.ge_ii, DD.fdiv_ii, DD.mod_ii, DD.eq_ii, DD.ne_ii, DD.eq_ss, DD.ne_ss, DD.fld_e, DD.len_t, DD.len_s, DD.append_e, DD.extend_t, DD.extend_r, DD.tup_r, DD.it_t, DD.sl_t, DD.callF, List.length_append, List.length_cons, List.length_nil, List.append_nil, Nat.reduceAdd, List.set_cons_zero, List.set_cons_succ, ↓reduceIte, Bool.not_true, Bool.not_false, Nat.zero_le]
    · simp only [sl_f, ec, DD.bind_ok, DD.bind_exc, DD.toS_ok, DD.toS_exc, DD.bindL_ok, DD.bindL_exc, DD.lbind_ok, DD.lbind_exc, DD.bindE_ok, DD.bindE_exc, DD.sbind_nx, DD.sbind_rt, DD.sbind_exc, DD.sbind_bk, DD.sbind_ct, DD.ret_nx, DD.ret_rt, DD.ret_exc, DD.varM_0, DD.varM_1, DD.varM_2, DD.varM_3, DD.varM_4, DD.varM_5, DD.cM_e, DD.binM_e, DD.unM_e, DD.seqM_e, DD.setM_e, DD.exprM_e, DD.retM_e, DD.raiseM_e, DD.passM_e, DD.brkM_e, DD.ifSM_e, DD.ifM_e, DD.andM_e, DD.orM_e, DD.notM_e, DD.nilM_e, DD.consM_e, DD.callM_e, DD.tupM_e, DD.lstM_e, DD.bmM_e, DD.smM_e, DD.asgM_e, DD.subG_e, DD.nameG_e, DD.slM_e, DD.om_none, DD.om_some, DD.fldSetM_e, DD.toldM_e, DD.add_ii, DD.add_tt, DD.sub_ii, DD.mul_ii, DD.lt_ii, DD.le_ii, DD.gt_ii, DD.ge_ii, DD.fdiv_ii, DD.mod_ii, DD.eq_ii, DD.ne_ii, DD.eq_ss, DD.ne_ss, DD.fld_e, DD.len_t, DD.len_s, DD.append_e, DD.extend_t, DD.extend_r, DD.tup_r, DD.it_t, DD.sl_t, DD.callF, List.length_append, List.length_cons, List.length_nil, List.append_nil, Nat.reduceAdd, List.set_cons_zero, List.set_cons_succ, ↓reduceIte, Bool.not_true, Bool.not_false, Nat.zero_le]
  -- over the cells
  have fin : ∀ (q : Nat) (x : Int) (h1 : AH), h1[q]? = some (.lst [.int x]) → ∃ L D1 h' a b c, lcQ (varM 2) lstIt (nameG 3) none (callM (consM (varM 3) nilM) (callF 1 [] F__law_dice)) [3] [some dd, some (.int 1), some (.ref q), none] h1 = .ok (.ref L) h' ∧ h'[L]? = some (.lst [.ref D1]) ∧ h'[D1]? = some (Dc a b c) ∧ D1 ≠ L := fun q x h1 e => by
    obtain ⟨a, b, c, er⟩ := dice_run x (h1 ++ [.lst []])
    have hq := lt_of_get e
    have e1 : (h1 ++ [O.lst []])[q]? = some (.lst [.int x]) := get_app e
    have e2 : ((h1 ++ [O.lst []]) ++ [Dc a b c])[q]? = some (.lst [.int x]) := get_app e1
    have e3 : ((h1 ++ [O.lst []]) ++ [Dc a b c])[h1.length]? = some (.lst []) := get_app get_new
    have nq : h1.length ≠ q := by omega
    have e4 : (((h1 ++ [O.lst []]) ++ [Dc a b c]).set h1.length (.lst [.ref (h1 ++ [O.lst []]).length]))[q]? = some (.lst [.int x]) := by rw [get_set_ne nq]; exact e2
    refine ⟨h1.length, (h1 ++ [O.lst []]).length, ((h1 ++ [O.lst []]) ++ [Dc a b c]).set h1.length (.lst [.ref (h1 ++ [O.lst []]).length]), a, b, c, ?_, get_set (lt_of_get e3), ?_, by simp⟩
    · rw [lcQ_e, lcM_of (show varM 2 [some dd, some (.int 1), some (.ref q), none] h1 = .ok (.ref q) h1 from varM_2) (lstIt_e e), lcL_cons (isLst_mk e1)]
      have ew : (wipeD [some dd, some (D.int 1), some (D.ref q), none] [3]).set 3 (some (D.int x)) = [some dd, some (.int 1), some (.ref q), some (.int x)] := rfl
      rw [ew]
      have em : callM (consM (varM 3) nilM) (callF 1 [] F__law_dice) [some dd, some (.int 1), some (.ref q), some (.int x)] (h1 ++ [O.lst []]) = .ok (.ref (h1 ++ [O.lst []]).length) ((h1 ++ [O.lst []]) ++ [Dc a b c]) := by
        rw [callM_e, consM_e, varM_3, bindL_ok, nilM_e, lbind_ok, bindE_ok]
        exact er
      rw [em, bind_ok, e3]
      simp only []
      rw [if_pos (by rw [sizeLine_eq]; decide)]
      rw [List.nil_append, lcL_nil (isLst_mk e4), noexc_ok]
    · rw [get_set_ne (by simp)]
      exact get_new
  unfold F__law_rounds m__law_rounds
  have e0 : startD N__law_rounds.length [dd, D.int 1] = [some dd, some (.int 1), none, none] := rfl
  rw [e0]
  cases ns with
  | nil =>
    have g1 : (h0 ++ [O.lst []])[h0.length]? = some (O.lst []) := get_new
    obtain ⟨L, D1, h', a, b, c, f1, f2⟩ := fin ((h0 ++ [O.lst []]) ++ [O.lst []]).length 0 (((h0 ++ [O.lst []]) ++ [O.lst []]) ++ [.lst [.int 0]]) get_new
    refine ⟨L, D1, h', a, b, c, ?_, f2⟩
    have sl' : slM (varM 0) .none (.some (varM 1)) [some dd, some (.int 1), none, none] h0 = .ok (.ref h0.length) (h0 ++ [.lst []]) := sl
    have l2 : lstM nilM [some dd, some (.int 1), some (.ref h0.length), none] (h0 ++ [O.lst []]) = .ok (.ref (h0 ++ [O.lst []]).length) ((h0 ++ [O.lst []]) ++ [.lst []]) := by rw [lstM_e, nilM_e, bindE_ok, if_pos (by simp)]
    have l3 : lstM (consM (cM (.int 0)) nilM) [some dd, some (.int 1), some (.ref h0.length), none] ((h0 ++ [O.lst []]) ++ [O.lst []]) = .ok (.ref ((h0 ++ [O.lst []]) ++ [O.lst []]).length) (((h0 ++ [O.lst []]) ++ [O.lst []]) ++ [.lst [.int 0]]) := by rw [lstM_e, consM_e, cM_e, bindL_ok, nilM_e, lbind_ok, bindE_ok, if_pos (by rw [sizeLine_eq]; decide)]
    have q1 : eqM (.ref h0.length) (.ref (h0 ++ [O.lst []]).length) ((h0 ++ [O.lst []]) ++ [O.lst []]) = .ok (.bl true) ((h0 ++ [O.lst []]) ++ [O.lst []]) := eq_nilnil (get_app g1) get_new
    rw [seqM_e, setM_e, sl']
    simp only [toS_ok, sbind_nx, List.set_cons_zero, List.set_cons_succ]
    rw [seqM_e, ifSM_e, binM_e, varM_2, bind_ok, l2, bind_ok, q1, toS_ok]
    simp only []
    rw [setM_e, l3]
    simp only [toS_ok, sbind_nx, List.set_cons_zero, List.set_cons_succ]
    rw [retM_e, f1, toS_ok, ret_rt]
  | cons x ns =>
    obtain ⟨L, D1, h', a, b, c, f1, f2⟩ := fin h0.length x ((h0 ++ [O.lst [.int x]]) ++ [O.lst []]) (get_app get_new)
    refine ⟨L, D1, h', a, b, c, ?_, f2⟩
    have sl' : slM (varM 0) .none (.some (varM 1)) [some dd, some (.int 1), none, none] h0 = .ok (.ref h0.length) (h0 ++ [.lst [.int x]]) := sl
    have l2 : lstM nilM [some dd, some (.int 1), some (.ref h0.length), none] (h0 ++ [O.lst [.int x]]) = .ok (.ref (h0 ++ [O.lst [.int x]]).length) ((h0 ++ [O.lst [.int x]]) ++ [.lst []]) := by rw [lstM_e, nilM_e, bindE_ok, if_pos (by simp)]
    have g1 : ((h0 ++ [O.lst [.int x]]) ++ [O.lst []])[h0.length]? = some (O.lst [.int x]) := get_app get_new
    have g2 : ((h0 ++ [O.lst [.int x]]) ++ [O.lst []])[(h0 ++ [O.lst [.int x]]).length]? = some (O.lst []) := get_new
    have q1 : eqM (.ref h0.length) (.ref (h0 ++ [O.lst [.int x]]).length) ((h0 ++ [O.lst [.int x]]) ++ [O.lst []]) = .ok (.bl false) ((h0 ++ [O.lst [.int x]]) ++ [O.lst []]) := by
      simp only [eqM, eqB, g1, g2, plDs, plD, depDs, depD, eqDs]
      rfl
    rw [seqM_e, setM_e, sl']
    simp only [toS_ok, sbind_nx, List.set_cons_zero, List.set_cons_succ]
    rw [seqM_e, ifSM_e, binM_e, varM_2, bind_ok, l2, bind_ok, q1, toS_ok]
    simp only []
    rw [passM_e, sbind_nx, retM_e, f1, toS_ok, ret_rt]
/-- the dice stand at l -/
abbrev Di (h : AH) (l : Nat) : Prop := ∃ a b c, h[l]? = some (Dc a b c)
theorem Dd.of {l : Nat} {h h' : AH} (f : Fr none h h') (hd : Di h l) : Dd l h h' := by
  obtain ⟨a, b, c, e⟩ := hd
  exact ⟨f.wk, a, b, c, f.getN e⟩
theorem Dd.refl {l : Nat} {h : AH} (hd : Di h l) : Dd l h h := Dd.of Fr.refl hd
theorem rb (m : Nat) (h : m ≤ 100000000) : RB 5 m := .inl h
end K08
end

section
set_option Elab.async false
set_option linter.all false
set_option maxRecDepth 100000
set_option maxHeartbeats 2000000
/-! dicts whose keys are some of the texts ns: told by a function -/
namespace DD
open PySem L2
def up {β : Type} (f : Str → β) (x : Str) (b : β) : Str → β := fun y => if y = x then b else f y
theorem up_eq {β : Type} {f : Str → β} {x : Str} {b : β} : up f x b x = b := if_pos rfl
theorem up_ne {β : Type} {f : Str → β} {x y : Str} {b : β} (h : y ≠ x) : up f x b y = f y := if_neg h
structure DctIs (ns : List Str) (kvs : List (Key × D)) (f : Str → Option D) : Prop where
  nd : (kvs.map (·.1)).Nodup
  sub : ∀ k ∈ kvs.map (·.1), ∃ x ∈ ns, k = .inr x
  val : ∀ x, valK kvs (.inr x) = f x
section
variable {ns : List Str} {kvs : List (Key × D)} {f : Str → Option D} {x : Str} {d : D} {l : Nat} {h : AH}
theorem valK_mem : ∀ (kvs : List (Key × D)) (k : Key), (valK kvs k).isSome = true ↔ k ∈ kvs.map (·.1)
  | [], k => by simp [valK]
  | p :: r, k => by
    have ih := valK_mem r k
    unfold valK at ih ⊢
    by_cases e : p.1 = k
    · rw [List.find?_cons_of_pos (by simpa using e)]
      simp [e]
    · rw [List.find?_cons_of_neg (by simpa using e), ih, List.map_cons, List.mem_cons]
      exact ⟨.inr, fun z => z.resolve_left fun z => e z.symm⟩
theorem valK_drop (kvs : List (Key × D)) (k j : Key) : valK (dropKD kvs k) j = if j = k then none else valK kvs j := by
  unfold dropKD
  induction kvs with
  | nil => simp [valK]
  | cons p r ih =>
    unfold valK at ih ⊢
    by_cases e : p.1 = k
    · rw [List.filter_cons_of_neg (by simpa using e), ih]
      by_cases q : j = k
      · rw [if_pos q, if_pos q]
      · rw [if_neg q, if_neg q, List.find?_cons_of_neg (by simp [e]; exact fun z => q z.symm)]
    · rw [List.filter_cons_of_pos (by simpa using e)]
      by_cases q : p.1 = j
      · rw [List.find?_cons_of_pos (by simpa using q), List.find?_cons_of_pos (by simpa using q), if_neg (fun z => e (q.trans z))]
      · rw [List.find?_cons_of_neg (by simpa using q), List.find?_cons_of_neg (by simpa using q), ih]
theorem putKD_keys (kvs : List (Key × D)) (k : Key) (d : D) : (putKD kvs k d).map (·.1) = if (valK kvs k).isSome = true then kvs.map (·.1) else kvs.map (·.1) ++ [k] := by
  have e : (kvs.any fun kv => decide (kv.1 = k)) = (valK kvs k).isSome := by
    rw [Bool.eq_iff_iff, List.any_eq_true, valK_mem, List.mem_map]
    simp
  unfold putKD
  rw [e]
  by_cases c : (valK kvs k).isSome = true
  · rw [if_pos c, if_pos c, List.map_map]
    refine List.map_congr_left fun p _ => ?_
    show (if p.1 = k then (p.1, d) else p).1 = p.1
    split <;> rfl
  · rw [if_neg c, if_neg c, List.map_append]
    rfl
theorem DctIs.nil : DctIs ns [] fun _ => none := ⟨by simp, by simp, fun _ => rfl⟩
theorem DctIs.put (i : DctIs ns kvs f) (hx : x ∈ ns) : DctIs ns (putKD kvs (.inr x) d) (up f x (some d)) := by
  refine ⟨?_, fun k hk => ?_, fun y => ?_⟩
  · rw [putKD_keys]
    split
    · exact i.nd
    · rename_i c
      rw [List.nodup_append]
      refine ⟨i.nd, by simp, fun a ha b hb e => c ?_⟩
      rw [List.mem_singleton] at hb
      rw [valK_mem, ← hb, ← e]; exact ha
  · rw [putKD_keys] at hk
    split at hk
    · exact i.sub k hk
    · rcases List.mem_append.mp hk with hk | hk
      · exact i.sub k hk
      · exact ⟨x, hx, List.mem_singleton.mp hk⟩
  · rw [valK_put, i.val]
    unfold up
    by_cases e : y = x
    · rw [if_pos e, if_pos (by rw [e])]
    · rw [if_neg e, if_neg fun z => e (Sum.inr.inj z)]
theorem DctIs.drop (i : DctIs ns kvs f) : DctIs ns (dropKD kvs (.inr x)) (up f x none) := by
  have sl : ((dropKD kvs (.inr x)).map (·.1)).Sublist (kvs.map (·.1)) := List.Sublist.map _ List.filter_sublist
  refine ⟨i.nd.sublist sl, fun k hk => i.sub k (sl.subset hk), fun y => ?_⟩
  rw [valK_drop, i.val]
  unfold up
  by_cases e : y = x
  · rw [if_pos e, if_pos (by rw [e])]
  · rw [if_neg e, if_neg fun z => e (Sum.inr.inj z)]
theorem DctIs.congr {f' : Str → Option D} (i : DctIs ns kvs f) (e : ∀ x, f' x = f x) : DctIs ns kvs f' := ⟨i.nd, i.sub, fun x => (i.val x).trans (e x).symm⟩
theorem DctIs.has (i : DctIs ns kvs f) : (f x).isSome = true ↔ (.inr x : Key) ∈ kvs.map (·.1) := by rw [← i.val, valK_mem]
theorem DctIs.inn (i : DctIs ns kvs f) (e : (f x).isSome = true) : x ∈ ns := by
  obtain ⟨y, hy, z⟩ := i.sub _ (i.has.mp e)
  rw [Sum.inr.inj z]; exact hy
theorem txtKeys_of : ∀ ks : List Key, (∀ k ∈ ks, ∃ x, k = .inr x) → ∃ ss : List Str, txtKeys ks = some ss ∧ ks = ss.map Sum.inr
  | [], _ => ⟨[], rfl, rfl⟩
  | k :: ks, h => by
    obtain ⟨x, rfl⟩ := h k (by simp)
    obtain ⟨ss, e1, e2⟩ := txtKeys_of ks fun k hk => h k (by simp [hk])
    exact ⟨x :: ss, by simp [txtKeys, e1], by simp [e2]⟩
theorem DctIs.keys (i : DctIs ns kvs f) : ∃ ss : List Str, txtKeys (kvs.map (·.1)) = some ss ∧ ss.Nodup ∧ ∀ x, x ∈ ss ↔ (f x).isSome = true := by
  obtain ⟨ss, e1, e2⟩ := txtKeys_of (kvs.map (·.1)) fun k hk => let ⟨x, _, e⟩ := i.sub k hk; ⟨x, e⟩
  refine ⟨ss, e1, ?_, fun x => ?_⟩
  · have := i.nd
    rw [e2] at this
    exact (List.pairwise_map.mp this).imp fun h e => h (congrArg _ e)
  · rw [i.has, e2, List.mem_map]
    constructor
    · exact fun h => ⟨x, h, rfl⟩
    · rintro ⟨y, hy, e⟩
      rw [← Sum.inr.inj e]; exact hy
theorem sub_len {xs ys : List Str} (nd : xs.Nodup) (h : ∀ x ∈ xs, x ∈ ys) : xs.length ≤ ys.length := by
  induction xs generalizing ys with
  | nil => simp
  | cons x xs ih =>
    obtain ⟨n1, n2⟩ := List.nodup_cons.mp nd
    have hx := h x (by simp)
    have : xs.length ≤ (ys.erase x).length := ih n2 fun y hy => (List.mem_erase_of_ne (fun e => n1 (by rw [← e]; exact hy))).mpr (h y (by simp [hy]))
    rw [List.length_erase_of_mem hx] at this
    have : 0 < ys.length := List.length_pos_of_mem hx
    simp only [List.length_cons]
    omega
theorem DctIs.len (i : DctIs ns kvs f) : kvs.length ≤ ns.length := by
  obtain ⟨ss, e1, e2, e3⟩ := i.keys
  have e := txtKeys_eq e1
  have : kvs.length = ss.length := by
    have := congrArg List.length e
    simpa using this
  rw [this]
  exact sub_len e2 fun x hx => i.inn ((e3 x).mp hx)
/-- names in ascending order -/
structure Asc (ns : List Str) : Prop where
  nd : ns.Nodup
  pw : ns.Pairwise leT
  few : ns.length < 64
theorem sortT_filter {ss : List Str} {p : Str → Bool} (A : Asc ns) (nd : ss.Nodup) (hm : ∀ x, x ∈ ss ↔ x ∈ ns ∧ p x = true) : sortT ss = ns.filter p := by
  refine List.Perm.eq_of_pairwise (le := leT) (fun a b _ _ h1 h2 => leT_anti h1 h2) (sortT_pw ss) (A.pw.sublist List.filter_sublist) ((sortT_perm ss).trans ?_)
  refine (List.perm_ext_iff_of_nodup nd (A.nd.sublist List.filter_sublist)).mpr fun x => ?_
  rw [hm, List.mem_filter]
theorem sorted_run (A : Asc ns) (g : h[l]? = some (.dct kvs)) (i : DctIs ns kvs f) : sortedF [.ref l] h = .ok (.ref h.length) (h ++ [.lst ((ns.filter fun x => (f x).isSome).map D.str)]) := by
  obtain ⟨ss, e1, e2, e3⟩ := i.keys
  have hl : ss.length < 64 := Nat.lt_of_le_of_lt (sub_len e2 fun x hx => i.inn ((e3 x).mp hx)) A.few
  simp only [sortedF, g, e1]
  rw [if_pos hl, sortT_filter A e2 fun x => ⟨fun q => ⟨i.inn ((e3 x).mp q), (e3 x).mp q⟩, fun q => (e3 x).mpr q.2⟩]
  rfl
theorem dget_run (g : h[l]? = some (.dct kvs)) (i : DctIs ns kvs f) (e : f x = some d) : dgetM (.ref l) (.str x) h = .ok d h := by
  simp only [dgetM, g, keyD, i.val, e]
theorem din_run (g : h[l]? = some (.dct kvs)) (i : DctIs ns kvs f) : dinM (.str x) (.ref l) h = .ok (.bl (f x).isSome) h := by
  simp only [dinM, g, keyD, i.val]
theorem dnin_run (g : h[l]? = some (.dct kvs)) (i : DctIs ns kvs f) : dninM (.str x) (.ref l) h = .ok (.bl (!(f x).isSome)) h := by
  simp only [dninM, g, keyD, i.val]
theorem dset_run (g : h[l]? = some (.dct kvs)) (i : DctIs ns kvs f) (hl : ns.length < 64) : setDF (.ref l) (.str x) d h = some (h.set l (.dct (putKD kvs (.inr x) d))) := by
  simp only [setDF, g, keyD]
  rw [if_pos (by have := i.len; rw [sizeLine_eq]; omega)]
theorem dg2_run {τ : SL} {mo mk mx : EM} {z : D} (g : h[l]? = some (.dct kvs)) (i : DctIs ns kvs f) (e1 : mo τ h = .ok (.ref l) h) (e2 : mk τ h = .ok (.str x) h) (e3 : mx τ h = .ok z h) : dg2M mo mk mx τ h = .ok ((f x).getD z) h := by
  simp only [dg2M, e1, e2, e3, bind_ok, g, keyD, i.val]
theorem dg1_run {τ : SL} {mo mk : EM} (g : h[l]? = some (.dct kvs)) (i : DctIs ns kvs f) (e1 : mo τ h = .ok (.ref l) h) (e2 : mk τ h = .ok (.str x) h) : dg1M mo mk τ h = .ok ((f x).getD .non) h := by
  simp only [dg1M, e1, e2, bind_ok, g, keyD, i.val]
theorem dp1_run {τ : SL} {mo mk : EM} (g : h[l]? = some (.dct kvs)) (i : DctIs ns kvs f) (e1 : mo τ h = .ok (.ref l) h) (e2 : mk τ h = .ok (.str x) h) (e : f x = some d) : dp1M mo mk τ h = .ok d (h.set l (.dct (dropKD kvs (.inr x)))) := by
  simp only [dp1M, e1, e2, bind_ok, g, keyD, i.val, e]
theorem dp2_run {τ : SL} {mo mk mx : EM} {z : D} (g : h[l]? = some (.dct kvs)) (i : DctIs ns kvs f) (e1 : mo τ h = .ok (.ref l) h) (e2 : mk τ h = .ok (.str x) h) (e3 : mx τ h = .ok z h) : ∃ d kvs', dp2M mo mk mx τ h = .ok d (h.set l (.dct kvs')) ∧ DctIs ns kvs' (up f x none) := by
  cases e : f x with
  | some d => exact ⟨d, _, by simp only [dp2M, e1, e2, e3, bind_ok, g, keyD, i.val, e], i.drop⟩
  | none =>
    refine ⟨z, kvs, by simp only [dp2M, e1, e2, e3, bind_ok, g, keyD, i.val, e]; rw [set_same g], i.congr fun y => ?_⟩
    unfold up
    split
    · rename_i q; rw [q, e]
    · rfl
end
/-! objects by their tags -/
structure HeapOf {T : Type} (V : T → Prop) (a : T → Nat) (Is : T → O → Prop) (h : AH) : Prop where
  inj : ∀ s t, V s → V t → a s = a t → s = t
  at_ : ∀ t, V t → ∃ o, h[a t]? = some o ∧ Is t o
section
variable {T : Type} {V : T → Prop} {a : T → Nat} {Is Is' : T → O → Prop} {h h' : AH} {t : T} {o : O}
theorem HeapOf.frame (H : HeapOf V a Is h) (f : Fr none h h') : HeapOf V a Is h' := ⟨H.inj, fun t v => let ⟨o, e, i⟩ := H.at_ t v; ⟨o, f.getN e, i⟩⟩
theorem HeapOf.imp (H : HeapOf V a Is h) (k : ∀ t o, V t → Is t o → Is' t o) : HeapOf V a Is' h := ⟨H.inj, fun t v => let ⟨o, e, i⟩ := H.at_ t v; ⟨o, e, k t o v i⟩⟩
theorem HeapOf.write (H : HeapOf V a Is h) (v : V t) (io : Is' t o) (k : ∀ s o, V s → s ≠ t → Is s o → Is' s o) : HeapOf V a Is' (h.set (a t) o) := by
  refine ⟨H.inj, fun s vs => ?_⟩
  obtain ⟨o0, e0, i0⟩ := H.at_ s vs
  by_cases q : s = t
  · subst q
    exact ⟨o, get_set (lt_of_get e0), io⟩
  · exact ⟨o0, by rw [get_set_ne (fun z => q (H.inj _ _ v vs z).symm)]; exact e0, k s o0 vs q i0⟩
/-- only what t tags was written -/
theorem HeapOf.one (H : HeapOf V a Is h) (v : V t) (f : Fr (some (a t)) h h') (g : h'[a t]? = some o) (io : Is' t o) (k : ∀ s o, V s → s ≠ t → Is s o → Is' s o) : HeapOf V a Is' h' := by
  refine ⟨H.inj, fun s vs => ?_⟩
  obtain ⟨o0, e0, i0⟩ := H.at_ s vs
  by_cases q : s = t
  · subst q
    exact ⟨o, g, io⟩
  · exact ⟨o0, f.get e0 (by intro z; injection z with z; exact q (H.inj _ _ vs v z)), k s o0 vs q i0⟩
end
end DD
end

section
set_option Elab.async false
set_option linter.all false
set_option maxRecDepth 100000
set_option maxHeartbeats 2000000
namespace K08
open PySem L2 DD
/-! ### the crowd and the law's views, as they stand in the heap -/
inductive Tg where
  | dice | names | extra | crowd | views | down | view (x : Str) | rows (x : Str) | forg (x : Str) | lviews | lview (x : Str) | lrows (x : Str) | lgone (x : Str)
structure St where
  time : Str → Nat
  row : Str → Str → Option (Nat × Nat)
  fg : Str → Str → Option Nat
  ltime : Str → Nat
  lrow : Str → Str → Option (Nat × Nat)
  gn : Str → Str → Option Nat
  turn : Nat
  dn : Str → Bool
def pr (p : Nat × Nat) : D := .tup [.int p.1, .int p.2]
def ni (n : Nat) : D := .int n
def Vd (ns : List Str) (lw : Bool) : Tg → Prop
  | .dice => True
  | .names => True
  | .extra => True
  | .crowd => True
  | .views => True
  | .down => True
  | .view x => x ∈ ns
  | .rows x => x ∈ ns
  | .forg x => x ∈ ns
  | .lviews => lw = true
  | .lview x => lw = true ∧ x ∈ ns
  | .lrows x => lw = true ∧ x ∈ ns
  | .lgone x => lw = true ∧ x ∈ ns
/-- a view's fields -/
abbrev FV (n t r f : D) : List (Str × D) := [("name", n), ("time", t), ("rows", r), ("forgotten", f)]
/-- a crowd's fields -/
abbrev FC (v d t : D) : List (Str × D) := [("views", v), ("down", d), ("turn", t)]
abbrev LW (t g r : D) : List (Key × D) := [(.inr "time", t), (.inr "gone", g), (.inr "rows", r)]
def refs (ns : List Str) (f : Str → Nat) : Str → Option D := fun x => if x ∈ ns then some (.ref (f x)) else none
def Is (ns : List Str) (a : Tg → Nat) (S : St) : Tg → O → Prop
  | .dice, o => ∃ x y z, o = Dc x y z
  | .names, o => o = .lst (ns.map D.str)
  | .extra, o => o = .lst [.ref (a .dice)]
  | .crowd, o => o = .ins 2 (FC (.ref (a .views)) (.ref (a .down)) (.int S.turn))
  | .views, o => ∃ kvs, o = .dct kvs ∧ DctIs ns kvs (refs ns fun x => a (.view x))
  | .down, o => ∃ kvs, o = .dct kvs ∧ DctIs ns kvs fun x => if S.dn x = true then some (.bl true) else none
  | .view x, o => o = .ins 1 (FV (.str x) (.int (S.time x)) (.ref (a (.rows x))) (.ref (a (.forg x))))
  | .rows x, o => ∃ kvs, o = .dct kvs ∧ DctIs ns kvs fun y => (S.row x y).map pr
  | .forg x, o => ∃ kvs, o = .dct kvs ∧ DctIs ns kvs fun y => (S.fg x y).map ni
  | .lviews, o => ∃ kvs, o = .dct kvs ∧ DctIs ns kvs (refs ns fun x => a (.lview x))
  | .lview x, o => o = .dct (LW (.int (S.ltime x)) (.ref (a (.lgone x))) (.ref (a (.lrows x))))
  | .lrows x, o => ∃ kvs, o = .dct kvs ∧ DctIs ns kvs fun y => (S.lrow x y).map pr
  | .lgone x, o => ∃ kvs, o = .dct kvs ∧ DctIs ns kvs fun y => (S.gn x y).map ni
abbrev Cr (ns : List Str) (lw : Bool) (a : Tg → Nat) (S : St) (h : AH) : Prop := HeapOf (Vd ns lw) a (Is ns a S) h
/-- nothing but what is tagged was written -/
def Ft (ns : List Str) (lw : Bool) (a : Tg → Nat) (h h' : AH) : Prop := h.length ≤ h'.length ∧ ∀ i, i < h.length → (∀ t, Vd ns lw t → a t ≠ i) → h'[i]? = h[i]?
section
variable {ns : List Str} {lw : Bool} {a : Tg → Nat} {S S' : St} {h h' h'' : AH} {x y : Str} {o : O} {t : Tg} {i : Nat}
theorem Ft.refl : Ft ns lw a h h := ⟨Nat.le_refl _, fun _ _ _ => rfl⟩
theorem Ft.trans (p : Ft ns lw a h h') (q : Ft ns lw a h' h'') : Ft ns lw a h h'' := ⟨Nat.le_trans p.1 q.1, fun i hi hu => (q.2 i (Nat.lt_of_lt_of_le hi p.1) hu).trans (p.2 i hi hu)⟩
theorem Ft.of (p : Fr none h h') : Ft ns lw a h h' := ⟨p.1, fun i hi _ => p.2 i hi (by simp)⟩
theorem Ft.set (v : Vd ns lw t) : Ft ns lw a h (h.set (a t) o) := ⟨by simp, fun i hi hu => get_set_ne (hu t v)⟩
theorem Ft.fr (v : Vd ns lw t) (p : Fr (some (a t)) h h') : Ft ns lw a h h' := ⟨p.1, fun i hi hu => p.2 i hi (by intro z; injection z with z; exact hu t v z.symm)⟩
theorem Ft.get (p : Ft ns lw a h h') (e : h[i]? = some o) (hu : ∀ t, Vd ns lw t → a t ≠ i) : h'[i]? = some o := (p.2 i (lt_of_get e) hu).trans e
/-- what has just been laid is no tag's -/
theorem Cr.fresh (C : Cr ns lw a S h) (hi : h.length ≤ i) : ∀ t, Vd ns lw t → a t ≠ i := fun t v e => by
  obtain ⟨o, q, _⟩ := C.at_ t v
  have := lt_of_get q
  omega
theorem Cr.crowd (C : Cr ns lw a S h) : h[a .crowd]? = some (.ins 2 (FC (.ref (a .views)) (.ref (a .down)) (.int S.turn))) := by
  obtain ⟨o, e, i⟩ := C.at_ .crowd True.intro
  rw [e, show o = _ from i]
theorem Cr.nms (C : Cr ns lw a S h) : h[a .names]? = some (.lst (ns.map D.str)) := by
  obtain ⟨o, e, i⟩ := C.at_ .names True.intro
  rw [e, show o = _ from i]
theorem Cr.ext (C : Cr ns lw a S h) : h[a .extra]? = some (.lst [.ref (a .dice)]) := by
  obtain ⟨o, e, i⟩ := C.at_ .extra True.intro
  rw [e, show o = _ from i]
theorem Cr.view (C : Cr ns lw a S h) (hx : x ∈ ns) : h[a (.view x)]? = some (.ins 1 (FV (.str x) (.int (S.time x)) (.ref (a (.rows x))) (.ref (a (.forg x))))) := by
  obtain ⟨o, e, i⟩ := C.at_ (.view x) hx
  rw [e, show o = _ from i]
theorem Cr.views (C : Cr ns lw a S h) : ∃ kvs, h[a .views]? = some (.dct kvs) ∧ DctIs ns kvs (refs ns fun x => a (.view x)) := by
  obtain ⟨o, e, kvs, rfl, i⟩ := C.at_ .views True.intro
  exact ⟨kvs, e, i⟩
theorem Cr.down (C : Cr ns lw a S h) : ∃ kvs, h[a .down]? = some (.dct kvs) ∧ DctIs ns kvs fun x => if S.dn x = true then some (.bl true) else none := by
  obtain ⟨o, e, kvs, rfl, i⟩ := C.at_ .down True.intro
  exact ⟨kvs, e, i⟩
theorem Cr.rows (C : Cr ns lw a S h) (hx : x ∈ ns) : ∃ kvs, h[a (.rows x)]? = some (.dct kvs) ∧ DctIs ns kvs fun y => (S.row x y).map pr := by
  obtain ⟨o, e, kvs, rfl, i⟩ := C.at_ (.rows x) hx
  exact ⟨kvs, e, i⟩
theorem Cr.forg (C : Cr ns lw a S h) (hx : x ∈ ns) : ∃ kvs, h[a (.forg x)]? = some (.dct kvs) ∧ DctIs ns kvs fun y => (S.fg x y).map ni := by
  obtain ⟨o, e, kvs, rfl, i⟩ := C.at_ (.forg x) hx
  exact ⟨kvs, e, i⟩
theorem Cr.lviews (C : Cr ns true a S h) : ∃ kvs, h[a .lviews]? = some (.dct kvs) ∧ DctIs ns kvs (refs ns fun x => a (.lview x)) := by
  obtain ⟨o, e, kvs, rfl, i⟩ := C.at_ .lviews rfl
  exact ⟨kvs, e, i⟩
theorem Cr.lview (C : Cr ns true a S h) (hx : x ∈ ns) : h[a (.lview x)]? = some (.dct (LW (.int (S.ltime x)) (.ref (a (.lgone x))) (.ref (a (.lrows x))))) := by
  obtain ⟨o, e, i⟩ := C.at_ (.lview x) ⟨rfl, hx⟩
  rw [e, show o = _ from i]
theorem Cr.lrows (C : Cr ns true a S h) (hx : x ∈ ns) : ∃ kvs, h[a (.lrows x)]? = some (.dct kvs) ∧ DctIs ns kvs fun y => (S.lrow x y).map pr := by
  obtain ⟨o, e, kvs, rfl, i⟩ := C.at_ (.lrows x) ⟨rfl, hx⟩
  exact ⟨kvs, e, i⟩
theorem Cr.lgone (C : Cr ns true a S h) (hx : x ∈ ns) : ∃ kvs, h[a (.lgone x)]? = some (.dct kvs) ∧ DctIs ns kvs fun y => (S.gn x y).map ni := by
  obtain ⟨o, e, kvs, rfl, i⟩ := C.at_ (.lgone x) ⟨rfl, hx⟩
  exact ⟨kvs, e, i⟩
theorem Cr.dice (C : Cr ns lw a S h) : Di h (a .dice) := by
  obtain ⟨o, e, x, y, z, rfl⟩ := C.at_ .dice True.intro
  exact ⟨x, y, z, e⟩
theorem refs_some {f : Str → Nat} (hx : x ∈ ns) : refs ns f x = some (.ref (f x)) := if_pos hx
/-- the dice have rolled -/
theorem Cr.rolled (C : Cr ns lw a S h) (d : Dd (a .dice) h h') : Cr ns lw a S h' := by
  obtain ⟨x, y, z, e⟩ := d.2
  exact C.one (t := .dice) True.intro d.1 e ⟨x, y, z, rfl⟩ fun _ _ _ _ q => q
end
/-! ### fields -/
theorem iv1 : (1 ∈ cs_name) = True := eq_true (by unfold cs_name; simp)
theorem iv2 : (1 ∈ cs_time) = True := eq_true (by unfold cs_time; simp)
theorem iv3 : (1 ∈ cs_rows) = True := eq_true (by unfold cs_rows; simp)
theorem iv4 : (1 ∈ cs_forgotten) = True := eq_true (by unfold cs_forgotten; simp)
theorem ic1 : (2 ∈ cs_views) = True := eq_true (by unfold cs_views; simp)
theorem ic2 : (2 ∈ cs_down) = True := eq_true (by unfold cs_down; simp)
theorem ic3 : (2 ∈ cs_turn) = True := eq_true (by unfold cs_turn; simp)
section
variable {n t r f v d x : D} {h h1 : AH} {k : Nat} {τ : SL} {o e : EM}
theorem lv1 : List.lookup ("name" : Str) (FV n t r f) = some n := rfl
theorem lv2 : List.lookup ("time" : Str) (FV n t r f) = some t := rfl
theorem lv3 : List.lookup ("rows" : Str) (FV n t r f) = some r := rfl
theorem lv4 : List.lookup ("forgotten" : Str) (FV n t r f) = some f := rfl
theorem lc1 : List.lookup ("views" : Str) (FC v d t) = some v := rfl
theorem lc2 : List.lookup ("down" : Str) (FC v d t) = some d := rfl
theorem lc3 : List.lookup ("turn" : Str) (FC v d t) = some t := rfl
theorem rv1 (g : h[k]? = some (.ins 1 (FV n t r f))) : fldM "name" cs_name (.ref k) h = .ok n h := by rw [fld_e]; simp only [g, iv1, lv1, ↓reduceIte]
theorem rv2 (g : h[k]? = some (.ins 1 (FV n t r f))) : fldM "time" cs_time (.ref k) h = .ok t h := by rw [fld_e]; simp only [g, iv2, lv2, ↓reduceIte]
theorem rv3 (g : h[k]? = some (.ins 1 (FV n t r f))) : fldM "rows" cs_rows (.ref k) h = .ok r h := by rw [fld_e]; simp only [g, iv3, lv3, ↓reduceIte]
theorem rv4 (g : h[k]? = some (.ins 1 (FV n t r f))) : fldM "forgotten" cs_forgotten (.ref k) h = .ok f h := by rw [fld_e]; simp only [g, iv4, lv4, ↓reduceIte]
theorem rc1 (g : h[k]? = some (.ins 2 (FC v d t))) : fldM "views" cs_views (.ref k) h = .ok v h := by rw [fld_e]; simp only [g, ic1, lc1, ↓reduceIte]
theorem rc2 (g : h[k]? = some (.ins 2 (FC v d t))) : fldM "down" cs_down (.ref k) h = .ok d h := by rw [fld_e]; simp only [g, ic2, lc2, ↓reduceIte]
theorem rc3 (g : h[k]? = some (.ins 2 (FC v d t))) : fldM "turn" cs_turn (.ref k) h = .ok t h := by rw [fld_e]; simp only [g, ic3, lc3, ↓reduceIte]
theorem wv2 (g : h1[k]? = some (.ins 1 (FV n t r f))) (ev : e τ h = .ok x h1) (eo : o τ h1 = .ok (.ref k) h1) : fldSetM "time" cs_time o e τ h = .nx τ (h1.set k (.ins 1 (FV n x r f))) := by
  rw [fldSetM_e, ev, toS_ok, eo, toS_ok]; simp only [g, iv2, show ((FV n t r f).length < 1000) = True from eq_true (by simp), and_self, ↓reduceIte, show putD "time" x (FV n t r f) = FV n x r f from rfl]
theorem wc3 (g : h1[k]? = some (.ins 2 (FC v d t))) (ev : e τ h = .ok x h1) (eo : o τ h1 = .ok (.ref k) h1) : fldSetM "turn" cs_turn o e τ h = .nx τ (h1.set k (.ins 2 (FC v d x))) := by
  rw [fldSetM_e, ev, toS_ok, eo, toS_ok]; simp only [g, ic3, show ((FC v d t).length < 1000) = True from eq_true (by simp), and_self, ↓reduceIte, show putD "turn" x (FC v d t) = FC v d x from rfl]
/-- a method of a view, of a crowd -/
theorem meth_v {mt : Str} {nn : Nat} {F : List D → AH → EO} {m : LM} (g : h1[k]? = some (.ins 1 (FV n t r f))) (hm : List.lookup mt (FV n t r f) = none) (ev : o τ h = .ok (.ref k) h1) :
    methF mt 1 nn [] F o m τ h = (m τ h1).bindE fun ds h2 => callF nn [] F (.ref k :: ds) h2 := by
  rw [methF_e]
  simp only [ev, bind_ok, g, hm, and_self, ↓reduceIte]
theorem meth_c {mt : Str} {nn : Nat} {F : List D → AH → EO} {m : LM} (g : h1[k]? = some (.ins 2 (FC v d t))) (hm : List.lookup mt (FC v d t) = none) (ev : o τ h = .ok (.ref k) h1) :
    methF mt 2 nn [] F o m τ h = (m τ h1).bindE fun ds h2 => callF nn [] F (.ref k :: ds) h2 := by
  rw [methF_e]
  simp only [ev, bind_ok, g, hm, and_self, ↓reduceIte]
end
end K08
end

section
set_option Elab.async false
set_option linter.all false
set_option maxRecDepth 100000
set_option maxHeartbeats 2000000
/-! loops and list comprehensions over lists of the heap -/
namespace DD
open PySem L2
theorem lcL_go {mc : Option EM} {me : EM} {own : List Nat} {τ : SL} {L j : Nat} {d : D} {ds : List D} {live : AH → Bool} {h : AH} (e : live h = true) : lcLoop live (nameG j) mc me own τ L (d :: ds) h = (mcM mc ((wipeD τ own).set j (some d)) h).bind fun k h2 => match k with
    | .bl true => (me ((wipeD τ own).set j (some d)) h2).bind fun y h3 => match h3[L]? with
      | some (.lst acc) => if acc.length < sizeLine then lcLoop live (nameG j) mc me own τ L ds (h3.set L (.lst (acc ++ [y]))) else .bad
      | _ => .bad
    | .bl false => lcLoop live (nameG j) mc me own τ L ds h2
    | _ => .bad := by
  show (if live h = true then _ else _) = _
  rw [if_pos e]
  cases mc <;> rfl
section
variable {β : Type} {e me : EM} {mc : Option EM} {own : List Nat} {τ : SL} {L j q : Nat} {h h1 : AH} {φ : β → D} {xs : List β} {p : β → Bool} {g : β → D}
theorem lc_loop (hq : ∀ h2, Fr none h1 h2 → isLst q (xs.map φ) h2 = true) (few : xs.length ≤ 100000)
    (step : ∀ x ∈ xs, ∀ h2, Fr none h1 h2 → ∃ h3, mcM mc ((wipeD τ own).set j (some (φ x))) h2 = .ok (.bl (p x)) h3 ∧ Fr none h2 h3 ∧ (p x = true → ∃ h4, me ((wipeD τ own).set j (some (φ x))) h3 = .ok (g x) h4 ∧ Fr none h3 h4)) :
    ∀ (rest done : List β) (h2 : AH), xs = done ++ rest → Fr none h1 h2 → h1.length < h2.length → h2[h1.length]? = some (.lst ((done.filter p).map g)) → ∃ h', lcLoop (isLst q (xs.map φ)) (nameG j) mc me own τ h1.length (rest.map φ) h2 = .ok (.ref h1.length) h' ∧ h'[h1.length]? = some (.lst ((xs.filter p).map g)) ∧ Fr none h1 h' := by
  intro rest
  induction rest with
  | nil =>
    intro done h2 hx f hl hL
    rw [List.append_nil] at hx
    subst hx
    exact ⟨h2, by rw [List.map_nil, lcL_nil (hq h2 f)], hL, f⟩
  | cons x rest ih =>
    intro done h2 hx f hl hL
    obtain ⟨h3, a1, a2, a3⟩ := step x (by rw [hx]; simp) h2 f
    rw [List.map_cons, lcL_go (hq h2 f), a1, bind_ok]
    have hx' : xs = (done ++ [x]) ++ rest := by rw [hx]; simp
    cases hp : p x with
    | false =>
      simp only []
      refine ih (done ++ [x]) h3 hx' (f.trans a2) (Nat.lt_of_lt_of_le hl a2.1) ?_
      rw [a2.getN hL, List.filter_append, List.filter_cons_of_neg (by simp [hp]), List.filter_nil, List.append_nil]
    | true =>
      obtain ⟨h4, b1, b2⟩ := a3 hp
      have g4 := b2.getN (a2.getN hL)
      simp only []
      rw [b1, bind_ok, g4]
      simp only []
      have lf : ((done.filter p).map g).length < sizeLine := by
        have h5 : (done.filter p).length ≤ done.length := List.length_filter_le _ _
        have h6 : done.length ≤ xs.length := by rw [hx]; simp
        rw [List.length_map, sizeLine_eq]
        omega
      rw [if_pos lf]
      have l4 : h1.length < h4.length := Nat.lt_of_lt_of_le hl (Nat.le_trans a2.1 b2.1)
      refine ih (done ++ [x]) _ hx' (((f.trans a2).trans b2).setN (Nat.le_refl _)) (by simpa using l4) ?_
      rw [get_set l4, List.filter_append, List.filter_cons_of_pos (by simp [hp]), List.filter_nil, List.map_append]
      rfl
/-- [g(x) for x in xs if p(x)], nothing written -/
theorem lc_list (he : e τ h = .ok (.ref q) h1) (hq : h1[q]? = some (.lst (xs.map φ))) (few : xs.length ≤ 100000)
    (step : ∀ x ∈ xs, ∀ h2, Fr none h1 h2 → ∃ h3, mcM mc ((wipeD τ own).set j (some (φ x))) h2 = .ok (.bl (p x)) h3 ∧ Fr none h2 h3 ∧ (p x = true → ∃ h4, me ((wipeD τ own).set j (some (φ x))) h3 = .ok (g x) h4 ∧ Fr none h3 h4)) :
    ∃ h', lcQ e lstIt (nameG j) mc me own τ h = .ok (.ref h1.length) h' ∧ h'[h1.length]? = some (.lst ((xs.filter p).map g)) ∧ Fr none h1 h' := by
  obtain ⟨h', a1, a2, a3⟩ := lc_loop (τ := τ) (own := own) (me := me) (mc := mc) (j := j) (fun h2 f => isLst_mk (f.getN hq)) few step xs [] (h1 ++ [.lst []]) rfl Fr.app (by simp) get_new
  exact ⟨h', by rw [lcQ_e, lcM_of he (lstIt_e hq), a1, noexc_ok], a2, a3⟩
/-- the test is not there -/
theorem lc_all (he : e τ h = .ok (.ref q) h1) (hq : h1[q]? = some (.lst (xs.map φ))) (few : xs.length ≤ 100000)
    (step : ∀ x ∈ xs, ∀ h2, Fr none h1 h2 → ∃ h4, me ((wipeD τ own).set j (some (φ x))) h2 = .ok (g x) h4 ∧ Fr none h2 h4) :
    ∃ h', lcQ e lstIt (nameG j) none me own τ h = .ok (.ref h1.length) h' ∧ h'[h1.length]? = some (.lst (xs.map g)) ∧ Fr none h1 h' := by
  obtain ⟨h', a1, a2, a3⟩ := lc_list (mc := none) (p := fun _ => true) (g := g) (own := own) (j := j) (me := me) he hq few fun x hx h2 f => ⟨h2, rfl, .refl, fun _ => step x hx h2 f⟩
  exact ⟨h', a1, by rw [a2, List.filter_eq_self.mpr (fun _ _ => rfl)], a3⟩
/-- for x in xs: what is left tells where the loop stands -/
theorem for_list {f : TM} {b : SM} {live : AH → Bool} (P : List β → SL → AH → Prop) (hl : ∀ r τ h, P r τ h → live h = true)
    (step : ∀ x r τ h, P (x :: r) τ h → ∃ τ1 h1, (f (φ x) τ h).bind b = .nx τ1 h1 ∧ P r τ1 h1) :
    ∀ (xs : List β) (τ : SL) (h : AH), P xs τ h → ∃ τ' h', loopM live f b (xs.map φ) τ h = .nx τ' h' ∧ P [] τ' h' := by
  intro xs
  induction xs with
  | nil => exact fun τ h p => ⟨τ, h, loopL_nil (hl _ _ _ p), p⟩
  | cons x r ih =>
    intro τ h p
    obtain ⟨τ1, h1, e1, p1⟩ := step x r τ h p
    obtain ⟨τ2, h2, e2, p2⟩ := ih τ1 h1 p1
    refine ⟨τ2, h2, ?_, p2⟩
    rw [List.map_cons, loopL_cons (hl _ _ _ p)]
    cases ef : f (φ x) τ h with
    | nx τ3 h3 =>
      rw [ef, sbind_nx] at e1
      rw [sbind_nx, e1, next_nx, e2]
    | rt d h3 => rw [ef] at e1; cases e1
    | bk τ3 h3 => rw [ef] at e1; cases e1
    | ct τ3 h3 => rw [ef] at e1; cases e1
    | exc c τ3 h3 => rw [ef] at e1; cases e1
    | bad => rw [ef] at e1; cases e1
end
end DD
end

section
set_option Elab.async false
set_option linter.all false
set_option maxRecDepth 100000
set_option maxHeartbeats 2000000
namespace K08
open PySem L2 DD
section
variable {ns : List Str} {lw : Bool} {a : Tg → Nat} {S S' : St} {h h' h'' : AH} {x y z : Str} {o : O} {t s : Tg} {i : Nat}
theorem is_time {n : Nat} (hs : s ≠ .view x) (q : Is ns a S s o) : Is ns a { S with time := up S.time x n } s o := by
  cases s <;> try exact q
  rename_i y
  have e : y ≠ x := fun e => hs (by rw [e])
  simp only [Is, up_ne e]; exact q
theorem is_row {r : Str → Option (Nat × Nat)} (hs : s ≠ .rows x) (q : Is ns a S s o) : Is ns a { S with row := up S.row x r } s o := by
  cases s <;> try exact q
  rename_i y
  have e : y ≠ x := fun e => hs (by rw [e])
  simp only [Is, up_ne e]; exact q
theorem is_fg {r : Str → Option Nat} (hs : s ≠ .forg x) (q : Is ns a S s o) : Is ns a { S with fg := up S.fg x r } s o := by
  cases s <;> try exact q
  rename_i y
  have e : y ≠ x := fun e => hs (by rw [e])
  simp only [Is, up_ne e]; exact q
theorem is_ltime {n : Nat} (hs : s ≠ .lview x) (q : Is ns a S s o) : Is ns a { S with ltime := up S.ltime x n } s o := by
  cases s <;> try exact q
  rename_i y
  have e : y ≠ x := fun e => hs (by rw [e])
  simp only [Is, up_ne e]; exact q
theorem is_lrow {r : Str → Option (Nat × Nat)} (hs : s ≠ .lrows x) (q : Is ns a S s o) : Is ns a { S with lrow := up S.lrow x r } s o := by
  cases s <;> try exact q
  rename_i y
  have e : y ≠ x := fun e => hs (by rw [e])
  simp only [Is, up_ne e]; exact q
theorem is_gn {r : Str → Option Nat} (hs : s ≠ .lgone x) (q : Is ns a S s o) : Is ns a { S with gn := up S.gn x r } s o := by
  cases s <;> try exact q
  rename_i y
  have e : y ≠ x := fun e => hs (by rw [e])
  simp only [Is, up_ne e]; exact q
theorem is_turn {n : Nat} (hs : s ≠ .crowd) (q : Is ns a S s o) : Is ns a { S with turn := n } s o := by
  cases s <;> first | exact q | exact absurd rfl hs
theorem is_dn {f : Str → Bool} (hs : s ≠ .down) (q : Is ns a S s o) : Is ns a { S with dn := f } s o := by
  cases s <;> first | exact q | exact absurd rfl hs
/-! what is written to one object -/
theorem Cr.setTime (C : Cr ns lw a S h) (hx : x ∈ ns) (n : Nat) : Cr ns lw a { S with time := up S.time x n } (h.set (a (.view x)) (.ins 1 (FV (.str x) (.int n) (.ref (a (.rows x))) (.ref (a (.forg x)))))) :=
  HeapOf.write C (t := Tg.view x) hx (by simp only [Is, up_eq]) fun s o _ hs q => is_time hs q
theorem Cr.setRows {kvs : List (Key × D)} {r : Str → Option (Nat × Nat)} (C : Cr ns lw a S h) (hx : x ∈ ns) (i : DctIs ns kvs fun y => (r y).map pr) : Cr ns lw a { S with row := up S.row x r } (h.set (a (.rows x)) (.dct kvs)) :=
  HeapOf.write C (t := Tg.rows x) hx ⟨kvs, rfl, by simp only [up_eq]; exact i⟩ fun s o _ hs q => is_row hs q
theorem Cr.setForg {kvs : List (Key × D)} {r : Str → Option Nat} (C : Cr ns lw a S h) (hx : x ∈ ns) (i : DctIs ns kvs fun y => (r y).map ni) : Cr ns lw a { S with fg := up S.fg x r } (h.set (a (.forg x)) (.dct kvs)) :=
  HeapOf.write C (t := Tg.forg x) hx ⟨kvs, rfl, by simp only [up_eq]; exact i⟩ fun s o _ hs q => is_fg hs q
theorem Cr.setLt (C : Cr ns true a S h) (hx : x ∈ ns) (n : Nat) : Cr ns true a { S with ltime := up S.ltime x n } (h.set (a (.lview x)) (.dct (LW (.int n) (.ref (a (.lgone x))) (.ref (a (.lrows x)))))) :=
  HeapOf.write C (t := Tg.lview x) ⟨rfl, hx⟩ (by simp only [Is, up_eq]) fun s o _ hs q => is_ltime hs q
theorem Cr.setLr {kvs : List (Key × D)} {r : Str → Option (Nat × Nat)} (C : Cr ns true a S h) (hx : x ∈ ns) (i : DctIs ns kvs fun y => (r y).map pr) : Cr ns true a { S with lrow := up S.lrow x r } (h.set (a (.lrows x)) (.dct kvs)) :=
  HeapOf.write C (t := Tg.lrows x) ⟨rfl, hx⟩ ⟨kvs, rfl, by simp only [up_eq]; exact i⟩ fun s o _ hs q => is_lrow hs q
theorem Cr.setGn {kvs : List (Key × D)} {r : Str → Option Nat} (C : Cr ns true a S h) (hx : x ∈ ns) (i : DctIs ns kvs fun y => (r y).map ni) : Cr ns true a { S with gn := up S.gn x r } (h.set (a (.lgone x)) (.dct kvs)) :=
  HeapOf.write C (t := Tg.lgone x) ⟨rfl, hx⟩ ⟨kvs, rfl, by simp only [up_eq]; exact i⟩ fun s o _ hs q => is_gn hs q
theorem Cr.setTurn (C : Cr ns lw a S h) (n : Nat) : Cr ns lw a { S with turn := n } (h.set (a .crowd) (.ins 2 (FC (.ref (a .views)) (.ref (a .down)) (.int n)))) :=
  HeapOf.write C (t := Tg.crowd) True.intro rfl fun s o _ hs q => is_turn hs q
theorem Cr.setDn {kvs : List (Key × D)} {f : Str → Bool} (C : Cr ns lw a S h) (i : DctIs ns kvs fun x => if f x = true then some (.bl true) else none) : Cr ns lw a { S with dn := f } (h.set (a .down) (.dct kvs)) :=
  HeapOf.write C (t := Tg.down) True.intro ⟨kvs, rfl, i⟩ fun s o _ hs q => is_dn hs q
theorem map_up {β : Type} {f : Str → Option β} {g : β → D} {b : β} : (fun y => (up f x (some b) y).map g) = up (fun y => (f y).map g) x (some (g b)) := by
  funext y
  unfold up
  split <;> rfl
theorem map_upN {β : Type} {f : Str → Option β} {g : β → D} : (fun y => (up f x (none : Option β) y).map g) = up (fun y => (f y).map g) x none := by
  funext y
  unfold up
  split <;> rfl
/-! ### a tick -/
def tickS (S : St) (x : Str) (c : Nat) : St := { S with time := up S.time x (S.time x + 1), row := up S.row x (up (S.row x) x (some (c + 1, S.time x + 1))) }
theorem sz2 : ((0 + 1 + 1 : Nat) ≤ sizeLine) = True := by rw [sizeLine_eq]; decide
theorem tup12 {p q : D} {i j : Nat} {τ : SL} {h : AH} : tupG ([i, j].map nameG) (.tup [p, q]) τ h = .nx ((τ.set i (some p)).set j (some q)) h := by rw [tupG_e, unp2]
theorem tick_run (C : Cr ns lw a S h) (A : Asc ns) (hx : x ∈ ns) {c t0 : Nat} (er : S.row x x = some (c, t0)) : ∃ h', F_View_tick [.ref (a (.view x))] h = .ok .non h' ∧ Cr ns lw a (tickS S x c) h' ∧ Ft ns lw a h h' := by
  unfold F_View_tick m_View_tick
  have e0 : startD N_View_tick.length [D.ref (a (.view x))] = [some (.ref (a (.view x))), none, none] := rfl
  rw [e0]
  have g := C.view hx
  have ev : binM (unM (varM 0) (fldM "time" cs_time)) (cM (.int 1)) addM [some (.ref (a (.view x))), none, none] h = .ok (.int ((S.time x + 1 : Nat) : Int)) h := by
    simp only [g, iv1, iv2, iv3, iv4, lv1, lv2, lv3, lv4, DD.bind_ok, DD.bind_exc, DD.toS_ok, DD.toS_exc, DD.bindL_ok, DD.bindL_exc, DD.lbind_ok, DD.lbind_exc, DD.bindE_ok, DD.bindE_exc, DD.sbind_nx, DD.sbind_rt, DD.sbind_exc, DD.sbind_bk, DD.sbind_ct, DD.ret_nx, DD.ret_rt, DD.ret_exc, DD.varM_0, DD.varM_1, DD.varM_2, DD.varM_3, DD.varM_4, DD.varM_5, DD.cM_e, DD.binM_e, DD.unM_e, DD.seqM_e, DD.setM_e, DD.exprM_e, DD.retM_e, DD.raiseM_e, DD.passM_e, DD.brkM_e, DD.ifSM_e, DD.ifM_e, DD.andM_e, DD.orM_e, DD.notM_e, DD.nilM_e, DD.consM_e, DD.callM_e, DD.tupM_e, DD.lstM_e, DD.bmM_e, DD.smM_e, DD.asgM_e, DD.subG_e, DD.nameG_e, DD.slM_e, DD.om_none, DD.om_some, DD.fldSetM_e, DD.toldM_e, DD.add_ii, DD.add_tt, DD.sub_ii, DD.mul_ii, DD.lt_ii, DD.le_ii, DD.gt_ii, DD.ge_ii, DD.fdiv_ii, DD.mod_ii, DD.eq_ii, DD.ne_ii, DD.eq_ss, DD.ne_ss, DD.fld_e, DD.len_t, DD.len_s, DD.append_e, DD.extend_t, DD.extend_r, DD.tup_r, DD.it_t, DD.sl_t, DD.callF, List.length_append, List.length_cons, List.length_nil, List.append_nil, Nat.reduceAdd, List.set_cons_zero, List.set_cons_succ, ↓reduceIte, Bool.not_true, Bool.not_false, Nat.zero_le]
    rfl
  rw [seqM_e, wv2 g ev varM_0, sbind_nx]
  have C1 := C.setTime hx (S.time x + 1)
  have F1 : Ft ns lw a h _ := Ft.set (t := Tg.view x) (o := .ins 1 (FV (.str x) (.int ((S.time x + 1 : Nat) : Int)) (.ref (a (.rows x))) (.ref (a (.forg x))))) hx
  generalize h.set (a (.view x)) (.ins 1 (FV (.str x) (.int ((S.time x + 1 : Nat) : Int)) (.ref (a (.rows x))) (.ref (a (.forg x))))) = h1 at *
  have g1 := C1.view hx
  obtain ⟨kvs, g2, i2⟩ := C1.rows hx
  have er' : (S.row x x).map pr = some (.tup [.int (c : Int), .int (t0 : Int)]) := by rw [er]; rfl
  have e1 : binM (unM (varM 0) (fldM "rows" cs_rows)) (unM (varM 0) (fldM "name" cs_name)) dgetM [some (.ref (a (.view x))), none, none] h1 = .ok (.tup [.int (c : Int), .int (t0 : Int)]) h1 := by
    simp only [g1, iv1, iv2, iv3, iv4, lv1, lv2, lv3, lv4, dget_run g2 i2 er', DD.bind_ok, DD.bind_exc, DD.toS_ok, DD.toS_exc, DD.bindL_ok, DD.bindL_exc, DD.lbind_ok, DD.lbind_exc, DD.bindE_ok, DD.bindE_exc, DD.sbind_nx, DD.sbind_rt, DD.sbind_exc, DD.sbind_bk, DD.sbind_ct, DD.ret_nx, DD.ret_rt, DD.ret_exc, DD.varM_0, DD.varM_1, DD.varM_2, DD.varM_3, DD.varM_4, DD.varM_5, DD.cM_e, DD.binM_e, DD.unM_e, DD.seqM_e, DD.setM_e, DD.exprM_e, DD.retM_e, DD.raiseM_e, DD.passM_e, DD.brkM_e, DD.ifSM_e, DD.ifM_e, DD.andM_e, DD.orM_e, DD.notM_e, DD.nilM_e, DD.consM_e, DD.callM_e, DD.tupM_e, DD.lstM_e, DD.bmM_e, DD.smM_e, DD.asgM_e, DD.subG_e, DD.nameG_e, DD.slM_e, DD.om_none, DD.om_some, DD.fldSetM_e, DD.toldM_e, DD.add_ii, DD.add_tt, DD.sub_ii, DD.mul_ii, DD.lt_ii, DD.le_ii, DD.gt_ii, DD.ge_ii, DD.fdiv_ii, DD.mod_ii, DD.eq_ii, DD.ne_ii, DD.eq_ss, DD.ne_ss, DD.fld_e, DD.len_t, DD.len_s, DD.append_e, DD.extend_t, DD.extend_r, DD.tup_r, DD.it_t, DD.sl_t, DD.callF, List.length_append, List.length_cons, List.length_nil, List.append_nil, Nat.reduceAdd, List.set_cons_zero, List.set_cons_succ, ↓reduceIte, Bool.not_true, Bool.not_false, Nat.zero_le]
  rw [seqM_e, asgM_e, e1, toS_ok, tup12, sbind_nx]
  simp only [List.set_cons_zero, List.set_cons_succ]
  have e2 : tupM (consM (binM (varM 1) (cM (.int 1)) addM) (consM (unM (varM 0) (fldM "time" cs_time)) nilM)) [some (.ref (a (.view x))), some (.int (c : Int)), some (.int (t0 : Int))] h1 = .ok (pr (c + 1, S.time x + 1)) h1 := by
    simp only [g1, iv1, iv2, iv3, iv4, lv1, lv2, lv3, lv4, sz2, up_eq, DD.bind_ok, DD.bind_exc, DD.toS_ok, DD.toS_exc, DD.bindL_ok, DD.bindL_exc, DD.lbind_ok, DD.lbind_exc, DD.bindE_ok, DD.bindE_exc, DD.sbind_nx, DD.sbind_rt, DD.sbind_exc, DD.sbind_bk, DD.sbind_ct, DD.ret_nx, DD.ret_rt, DD.ret_exc, DD.varM_0, DD.varM_1, DD.varM_2, DD.varM_3, DD.varM_4, DD.varM_5, DD.cM_e, DD.binM_e, DD.unM_e, DD.seqM_e, DD.setM_e, DD.exprM_e, DD.retM_e, DD.raiseM_e, DD.passM_e, DD.brkM_e, DD.ifSM_e, DD.ifM_e, DD.andM_e, DD.orM_e, DD.notM_e, DD.nilM_e, DD.consM_e, DD.callM_e, DD.tupM_e, DD.lstM_e, DD.bmM_e, DD.smM_e, DD.asgM_e, DD.subG_e, DD.nameG_e, DD.slM_e, DD.om_none, DD.om_some, DD.fldSetM_e, DD.toldM_e, DD.add_ii, DD.add_tt, DD.sub_ii, DD.mul_ii, DD.lt_ii, DD.le_ii, DD.gt_ii, DD.ge_ii, DD.fdiv_ii, DD.mod_ii, DD.eq_ii, DD.ne_ii, DD.eq_ss, DD.ne_ss, DD.fld_e, DD.len_t, DD.len_s, DD.append_e, DD.extend_t, DD.extend_r, DD.tup_r, DD.it_t, DD.sl_t, DD.callF, List.length_append, List.length_cons, List.length_nil, List.append_nil, Nat.reduceAdd, List.set_cons_zero, List.set_cons_succ, ↓reduceIte, Bool.not_true, Bool.not_false, Nat.zero_le]
    rfl
  rw [asgM_e, e2, toS_ok]
  have i3 := i2.put (x := x) (d := pr (c + 1, S.time x + 1)) hx
  rw [← map_up (b := (c + 1, S.time x + 1)) (g := pr)] at i3
  refine ⟨_, ?_, C1.setRows hx i3, F1.trans (Ft.set (t := Tg.rows x) hx)⟩
  simp only [g1, iv1, iv2, iv3, iv4, lv1, lv2, lv3, lv4, dset_run g2 i2 A.few, DD.bind_ok, DD.bind_exc, DD.toS_ok, DD.toS_exc, DD.bindL_ok, DD.bindL_exc, DD.lbind_ok, DD.lbind_exc, DD.bindE_ok, DD.bindE_exc, DD.sbind_nx, DD.sbind_rt, DD.sbind_exc, DD.sbind_bk, DD.sbind_ct, DD.ret_nx, DD.ret_rt, DD.ret_exc, DD.varM_0, DD.varM_1, DD.varM_2, DD.varM_3, DD.varM_4, DD.varM_5, DD.cM_e, DD.binM_e, DD.unM_e, DD.seqM_e, DD.setM_e, DD.exprM_e, DD.retM_e, DD.raiseM_e, DD.passM_e, DD.brkM_e, DD.ifSM_e, DD.ifM_e, DD.andM_e, DD.orM_e, DD.notM_e, DD.nilM_e, DD.consM_e, DD.callM_e, DD.tupM_e, DD.lstM_e, DD.bmM_e, DD.smM_e, DD.asgM_e, DD.subG_e, DD.nameG_e, DD.slM_e, DD.om_none, DD.om_some, DD.fldSetM_e, DD.toldM_e, DD.add_ii, DD.add_tt, DD.sub_ii, DD.mul_ii, DD.lt_ii, DD.le_ii, DD.gt_ii, DD.ge_ii, DD.fdiv_ii, DD.mod_ii, DD.eq_ii, DD.ne_ii, DD.eq_ss, DD.ne_ss, DD.fld_e, DD.len_t, DD.len_s, DD.append_e, DD.extend_t, DD.extend_r, DD.tup_r, DD.it_t, DD.sl_t, DD.callF, List.length_append, List.length_cons, List.length_nil, List.append_nil, Nat.reduceAdd, List.set_cons_zero, List.set_cons_succ, ↓reduceIte, Bool.not_true, Bool.not_false, Nat.zero_le]
end
end K08
end

section
set_option Elab.async false
set_option linter.all false
set_option maxRecDepth 100000
set_option maxHeartbeats 2000000
namespace K08
open PySem L2 DD
section
variable {ns : List Str} {lw : Bool} {a : Tg → Nat} {S S' : St} {h h' h'' : AH} {x y z : Str} {o : O} {t s : Tg} {i : Nat}
theorem Cr.frame (C : Cr ns lw a S h) (f : Fr none h h') : Cr ns lw a S h' := HeapOf.frame C f
/-! ### news -/
def cnt (o : Option (Nat × Nat)) : Nat := (o.map (·.1)).getD 0
def newsL (ns : List Str) (row : Str → Option (Nat × Nat)) : List (Str × Nat) := (ns.filter fun y => (row y).isSome).map fun y => (y, cnt (row y))
def en (p : Str × Nat) : D := .tup [.str p.1, .int p.2]
theorem some_pr {f : Str → Option (Nat × Nat)} : (fun y => ((f y).map pr).isSome) = fun y => (f y).isSome := by
  funext y; exact Option.isSome_map
theorem sorted_rows {τ : SL} {e : EM} {l : Nat} {kvs : List (Key × D)} {f : Str → Option (Nat × Nat)} (A : Asc ns) (he : e τ h = .ok (.ref l) h) (g : h[l]? = some (.dct kvs)) (i : DctIs ns kvs fun y => (f y).map pr) :
    callM (consM e nilM) sortedF τ h = .ok (.ref h.length) (h ++ [.lst ((ns.filter fun y => (f y).isSome).map D.str)]) := by
  rw [callM_e, consM_e, he, bindL_ok, nilM_e, lbind_ok, bindE_ok, sorted_run A g i, some_pr]
theorem few_of (A : Asc ns) (p : Str → Bool) : (ns.filter p).length ≤ 100000 := by
  have h1 := List.length_filter_le p ns
  have h2 := A.few
  omega
theorem news_run (C : Cr ns lw a S h) (A : Asc ns) (hx : x ∈ ns) : ∃ h', F_View_news [.ref (a (.view x))] h = .ok (.tup ((newsL ns (S.row x)).map en)) h' ∧ Fr none h h' := by
  unfold F_View_news m_View_news
  have e0 : startD N_View_news.length [D.ref (a (.view x))] = [some (.ref (a (.view x))), none] := rfl
  rw [e0]
  have g := C.view hx
  obtain ⟨kvs, g2, i2⟩ := C.rows hx
  have es := sorted_rows (τ := [some (.ref (a (.view x))), none]) (e := unM (varM 0) (fldM "rows" cs_rows)) A (by simp only [g, iv1, iv2, iv3, iv4, lv1, lv2, lv3, lv4, DD.bind_ok, DD.bind_exc, DD.toS_ok, DD.toS_exc, DD.bindL_ok, DD.bindL_exc, DD.lbind_ok, DD.lbind_exc, DD.bindE_ok, DD.bindE_exc, DD.sbind_nx, DD.sbind_rt, DD.sbind_exc, DD.sbind_bk, DD.sbind_ct, DD.ret_nx, DD.ret_rt, DD.ret_exc, DD.varM_0, DD.varM_1, DD.varM_2, DD.varM_3, DD.varM_4, DD.varM_5, DD.cM_e, DD.binM_e, DD.unM_e, DD.seqM_e, DD.setM_e, DD.exprM_e, DD.retM_e, DD.raiseM_e, DD.passM_e, DD.brkM_e, DD.ifSM_e, DD.ifM_e, DD.andM_e, DD.orM_e, DD.notM_e, DD.nilM_e, DD.consM_e, DD.callM_e, DD.tupM_e, DD.lstM_e, DD.bmM_e, DD.smM_e, DD.asgM_e, DD.subG_e, DD.nameG_e, DD.slM_e, DD.om_none, DD.om_some, DD.fldSetM_e, DD.toldM_e, DD.add_ii, DD.add_tt, DD.sub_ii, DD.mul_ii, DD.lt_ii, DD.le_ii, DD.gt_ii, DD.ge_ii, DD.fdiv_ii, DD.mod_ii, DD.eq_ii, DD.ne_ii, DD.eq_ss, DD.ne_ss, DD.fld_e, DD.len_t, DD.len_s, DD.append_e, DD.extend_t, DD.extend_r, DD.tup_r, DD.it_t, DD.sl_t, DD.callF, List.length_append, List.length_cons, List.length_nil, List.append_nil, Nat.reduceAdd, List.set_cons_zero, List.set_cons_succ, ↓reduceIte, Bool.not_true, Bool.not_false, Nat.zero_le]) g2 i2
  obtain ⟨h', b1, b2, b3⟩ := lc_all (me := tupM (consM (varM 1) (consM (binM (binM (unM (varM 0) (fldM "rows" cs_rows)) (varM 1) dgetM) (cM (.int 0)) itM) nilM))) (own := [1]) (j := 1) (g := fun y => en (y, cnt (S.row x y))) es get_new (few_of A _) fun y hy h2 f => by
    have C2 := C.frame (Fr.app.trans f)
    have g' := C2.view hx
    obtain ⟨kv2, g3, i3⟩ := C2.rows hx
    have hs := (List.mem_filter.mp hy).2
    obtain ⟨⟨c, t⟩, ec⟩ := Option.isSome_iff_exists.mp hs
    have er : (S.row x y).map pr = some (.tup [.int (c : Int), .int (t : Int)]) := by rw [ec]; rfl
    have ew : (wipeD [some (D.ref (a (.view x))), none] [1]).set 1 (some (D.str y)) = [some (.ref (a (.view x))), some (.str y)] := rfl
    refine ⟨h2, ?_, .refl⟩
    rw [ew]
    simp only [g', iv1, iv2, iv3, iv4, lv1, lv2, lv3, lv4, dget_run g3 i3 er, sz2, show atI [D.int (c : Int), .int (t : Int)] 0 = some (.int (c : Int)) from rfl, DD.bind_ok, DD.bind_exc, DD.toS_ok, DD.toS_exc, DD.bindL_ok, DD.bindL_exc, DD.lbind_ok, DD.lbind_exc, DD.bindE_ok, DD.bindE_exc, DD.sbind_nx, DD.sbind_rt, DD.sbind_exc, DD.sbind_bk, DD.sbind_ct, DD.ret_nx, DD.ret_rt, DD.ret_exc, DD.varM_0, DD.varM_1, DD.varM_2, DD.varM_3, DD.varM_4, DD.varM_5, DD.cM_e, DD.binM_e, DD.unM_e, DD.seqM_e, DD.setM_e, DD.exprM_e, DD.retM_e, DD.raiseM_e, DD.passM_e, DD.brkM_e, DD.ifSM_e, DD.ifM_e, DD.andM_e, DD.orM_e, DD.notM_e, DD.nilM_e, DD.consM_e, DD.callM_e, DD.tupM_e, DD.lstM_e, DD.bmM_e, DD.smM_e, DD.asgM_e, DD.subG_e, DD.nameG_e, DD.slM_e, DD.om_none, DD.om_some, DD.fldSetM_e, DD.toldM_e, DD.add_ii, DD.add_tt, DD.sub_ii, DD.mul_ii, DD.lt_ii, DD.le_ii, DD.gt_ii, DD.ge_ii, DD.fdiv_ii, DD.mod_ii, DD.eq_ii, DD.ne_ii, DD.eq_ss, DD.ne_ss, DD.fld_e, DD.len_t, DD.len_s, DD.append_e, DD.extend_t, DD.extend_r, DD.tup_r, DD.it_t, DD.sl_t, DD.callF, List.length_append, List.length_cons, List.length_nil, List.append_nil, Nat.reduceAdd, List.set_cons_zero, List.set_cons_succ, ↓reduceIte, Bool.not_true, Bool.not_false, Nat.zero_le]
    rw [ec]
    rfl
  refine ⟨h', ?_, Fr.app.trans b3⟩
  rw [retM_e, unM_e, b1, bind_ok, tup_r, b2]
  simp only [toS_ok, ret_rt]
  unfold newsL
  rw [List.map_map]
  rfl
/-! ### what is known -/
def kn (row : Str → Option (Nat × Nat)) (fg : Str → Option Nat) (y : Str) : Int := match row y with
  | some p => (p.1 : Int)
  | none => match fg y with
    | some n => (n : Int)
    | none => -1
theorem known_run (C : Cr ns lw a S h) (hx : x ∈ ns) : F_View_known_count [.ref (a (.view x)), .str y] h = .ok (.int (kn (S.row x) (S.fg x) y)) h := by
  unfold F_View_known_count m_View_known_count
  have e0 : startD N_View_known_count.length [D.ref (a (.view x)), .str y] = [some (.ref (a (.view x))), some (.str y)] := rfl
  rw [e0]
  have g := C.view hx
  obtain ⟨kvs, g2, i2⟩ := C.rows hx
  obtain ⟨kv3, g3, i3⟩ := C.forg hx
  cases er : S.row x y with
  | some p =>
    have er' : (S.row x y).map pr = some (.tup [.int (p.1 : Int), .int (p.2 : Int)]) := by rw [er]; rfl
    have en' : kn (S.row x) (S.fg x) y = p.1 := by unfold kn; rw [er]
    have ei : ((S.row x y).map pr).isSome = true := by rw [er']; rfl
    simp only [g, iv1, iv2, iv3, iv4, lv1, lv2, lv3, lv4, din_run (x := y) g2 i2, ei, dget_run g2 i2 er', show atI [D.int (p.1 : Int), .int (p.2 : Int)] 0 = some (.int (p.1 : Int)) from rfl, DD.bind_ok, DD.bind_exc, DD.toS_ok, DD.toS_exc, DD.bindL_ok, DD.bindL_exc, DD.lbind_ok, DD.lbind_exc, DD.bindE_ok, DD.bindE_exc, DD.sbind_nx, DD.sbind_rt, DD.sbind_exc, DD.sbind_bk, DD.sbind_ct, DD.ret_nx, DD.ret_rt, DD.ret_exc, DD.varM_0, DD.varM_1, DD.varM_2, DD.varM_3, DD.varM_4, DD.varM_5, DD.cM_e, DD.binM_e, DD.unM_e, DD.seqM_e, DD.setM_e, DD.exprM_e, DD.retM_e, DD.raiseM_e, DD.passM_e, DD.brkM_e, DD.ifSM_e, DD.ifM_e, DD.andM_e, DD.orM_e, DD.notM_e, DD.nilM_e, DD.consM_e, DD.callM_e, DD.tupM_e, DD.lstM_e, DD.bmM_e, DD.smM_e, DD.asgM_e, DD.subG_e, DD.nameG_e, DD.slM_e, DD.om_none, DD.om_some, DD.fldSetM_e, DD.toldM_e, DD.add_ii, DD.add_tt, DD.sub_ii, DD.mul_ii, DD.lt_ii, DD.le_ii, DD.gt_ii, DD.ge_ii, DD.fdiv_ii, DD.mod_ii, DD.eq_ii, DD.ne_ii, DD.eq_ss, DD.ne_ss, DD.fld_e, DD.len_t, DD.len_s, DD.append_e, DD.extend_t, DD.extend_r, DD.tup_r, DD.it_t, DD.sl_t, DD.callF, List.length_append, List.length_cons, List.length_nil, List.append_nil, Nat.reduceAdd, List.set_cons_zero, List.set_cons_succ, ↓reduceIte, Bool.not_true, Bool.not_false, Nat.zero_le]
    rw [en']
  | none =>
    have ei : ((S.row x y).map pr).isSome = false := by rw [er]; rfl
    have e2 : dg2M (unM (varM 0) (fldM "forgotten" cs_forgotten)) (varM 1) (unM (cM (.int 1)) negF) [some (.ref (a (.view x))), some (.str y)] h = .ok (((S.fg x y).map ni).getD (.int (-1))) h :=
      dg2_run g3 i3 (by simp only [g, iv1, iv2, iv3, iv4, lv1, lv2, lv3, lv4, DD.bind_ok, DD.bind_exc, DD.toS_ok, DD.toS_exc, DD.bindL_ok, DD.bindL_exc, DD.lbind_ok, DD.lbind_exc, DD.bindE_ok, DD.bindE_exc, DD.sbind_nx, DD.sbind_rt, DD.sbind_exc, DD.sbind_bk, DD.sbind_ct, DD.ret_nx, DD.ret_rt, DD.ret_exc, DD.varM_0, DD.varM_1, DD.varM_2, DD.varM_3, DD.varM_4, DD.varM_5, DD.cM_e, DD.binM_e, DD.unM_e, DD.seqM_e, DD.setM_e, DD.exprM_e, DD.retM_e, DD.raiseM_e, DD.passM_e, DD.brkM_e, DD.ifSM_e, DD.ifM_e, DD.andM_e, DD.orM_e, DD.notM_e, DD.nilM_e, DD.consM_e, DD.callM_e, DD.tupM_e, DD.lstM_e, DD.bmM_e, DD.smM_e, DD.asgM_e, DD.subG_e, DD.nameG_e, DD.slM_e, DD.om_none, DD.om_some, DD.fldSetM_e, DD.toldM_e, DD.add_ii, DD.add_tt, DD.sub_ii, DD.mul_ii, DD.lt_ii, DD.le_ii, DD.gt_ii, DD.ge_ii, DD.fdiv_ii, DD.mod_ii, DD.eq_ii, DD.ne_ii, DD.eq_ss, DD.ne_ss, DD.fld_e, DD.len_t, DD.len_s, DD.append_e, DD.extend_t, DD.extend_r, DD.tup_r, DD.it_t, DD.sl_t, DD.callF, List.length_append, List.length_cons, List.length_nil, List.append_nil, Nat.reduceAdd, List.set_cons_zero, List.set_cons_succ, ↓reduceIte, Bool.not_true, Bool.not_false, Nat.zero_le]) varM_1 rfl
    simp only [g, iv1, iv2, iv3, iv4, lv1, lv2, lv3, lv4, din_run (x := y) g2 i2, ei, e2, DD.bind_ok, DD.bind_exc, DD.toS_ok, DD.toS_exc, DD.bindL_ok, DD.bindL_exc, DD.lbind_ok, DD.lbind_exc, DD.bindE_ok, DD.bindE_exc, DD.sbind_nx, DD.sbind_rt, DD.sbind_exc, DD.sbind_bk, DD.sbind_ct, DD.ret_nx, DD.ret_rt, DD.ret_exc, DD.varM_0, DD.varM_1, DD.varM_2, DD.varM_3, DD.varM_4, DD.varM_5, DD.cM_e, DD.binM_e, DD.unM_e, DD.seqM_e, DD.setM_e, DD.exprM_e, DD.retM_e, DD.raiseM_e, DD.passM_e, DD.brkM_e, DD.ifSM_e, DD.ifM_e, DD.andM_e, DD.orM_e, DD.notM_e, DD.nilM_e, DD.consM_e, DD.callM_e, DD.tupM_e, DD.lstM_e, DD.bmM_e, DD.smM_e, DD.asgM_e, DD.subG_e, DD.nameG_e, DD.slM_e, DD.om_none, DD.om_some, DD.fldSetM_e, DD.toldM_e, DD.add_ii, DD.add_tt, DD.sub_ii, DD.mul_ii, DD.lt_ii, DD.le_ii, DD.gt_ii, DD.ge_ii, DD.fdiv_ii, DD.mod_ii, DD.eq_ii, DD.ne_ii, DD.eq_ss, DD.ne_ss, DD.fld_e, DD.len_t, DD.len_s, DD.append_e, DD.extend_t, DD.extend_r, DD.tup_r, DD.it_t, DD.sl_t, DD.callF, List.length_append, List.length_cons, List.length_nil, List.append_nil, Nat.reduceAdd, List.set_cons_zero, List.set_cons_succ, ↓reduceIte, Bool.not_true, Bool.not_false, Nat.zero_le]
    unfold kn
    rw [er]
    cases S.fg x y <;> rfl
/-! ### news heard -/
def hear1 (S : St) (x : Str) (p : Str × Nat) : St := if kn (S.row x) (S.fg x) p.1 < p.2 then { S with row := up S.row x (up (S.row x) p.1 (some (p.2, S.time x))), fg := up S.fg x (up (S.fg x) p.1 none) } else S
def hearS (S : St) (x : Str) (l : List (Str × Nat)) : St := l.foldl (fun S p => hear1 S x p) S
theorem hear_run (C : Cr ns lw a S h) (A : Asc ns) (hx : x ∈ ns) {l : List (Str × Nat)} (hl : ∀ p ∈ l, p.1 ∈ ns) :
    ∃ h', F_View_hear [.ref (a (.view x)), .tup (l.map en)] h = .ok .non h' ∧ Cr ns lw a (hearS S x l) h' ∧ Ft ns lw a h h' := by
  unfold F_View_hear m_View_hear
  have e0 : startD N_View_hear.length [D.ref (a (.view x)), .tup (l.map en)] = [some (.ref (a (.view x))), some (.tup (l.map en)), none, none] := rfl
  rw [e0, forM_e, varM_1, toS_ok, tupIt_e]
  simp only []
  obtain ⟨τ', h', b1, b2⟩ := for_list (φ := en) (f := tupG ([2, 3].map nameG)) (b := View_hear_f0b) (live := fun _ => true)
    (P := fun r τ hh => (∃ o2 o3, τ = [some (.ref (a (.view x))), some (.tup (l.map en)), o2, o3]) ∧ (∀ p ∈ r, p.1 ∈ ns) ∧ ∃ S1, Cr ns lw a S1 hh ∧ Ft ns lw a h hh ∧ hearS S1 x r = hearS S x l) (fun _ _ _ _ => rfl)
    (fun p r τ hh q => by
      obtain ⟨⟨o2, o3, rfl⟩, hr, S1, C1, F1, e1⟩ := q
      have g := C1.view hx
      have hp := hr p (by simp)
      have ek : methF "known_count" 1 2 [] F_View_known_count (varM 0) (consM (varM 2) nilM) [some (.ref (a (.view x))), some (.tup (l.map en)), some (.str p.1), some (.int (p.2 : Int))] hh = .ok (.int (kn (S1.row x) (S1.fg x) p.1)) hh := by
        rw [meth_v g rfl varM_0, consM_e, varM_2, bindL_ok, nilM_e, lbind_ok, bindE_ok]
        exact known_run C1 hx
      have eu : tupG ([2, 3].map nameG) (en p) [some (.ref (a (.view x))), some (.tup (l.map en)), o2, o3] hh = .nx [some (.ref (a (.view x))), some (.tup (l.map en)), some (.str p.1), some (.int (p.2 : Int))] hh := tup12
      rw [eu, sbind_nx]
      unfold View_hear_f0b
      have e1' : hearS (hear1 S1 x p) x r = hearS S x l := e1
      by_cases hk : kn (S1.row x) (S1.fg x) p.1 < p.2
      · have hd : decide (kn (S1.row x) (S1.fg x) p.1 < (p.2 : Int)) = true := decide_eq_true hk
        have eh : hear1 S1 x p = { S1 with row := up S1.row x (up (S1.row x) p.1 (some (p.2, S1.time x))), fg := up S1.fg x (up (S1.fg x) p.1 none) } := if_pos hk
        obtain ⟨kvs, g2, i2⟩ := C1.rows hx
        have i3 := i2.put (x := p.1) (d := pr (p.2, S1.time x)) hp
        rw [← map_up (b := (p.2, S1.time x)) (g := pr)] at i3
        have C2 := C1.setRows hx i3
        have F2 : Ft ns lw a hh _ := Ft.set (t := Tg.rows x) (o := .dct (putKD kvs (.inr p.1) (pr (p.2, S1.time x)))) hx
        have es : asgM (tupM (consM (varM 3) (consM (unM (varM 0) (fldM "time" cs_time)) nilM))) (subG (unM (varM 0) (fldM "rows" cs_rows)) (varM 2) setDF) [some (.ref (a (.view x))), some (.tup (l.map en)), some (.str p.1), some (.int (p.2 : Int))] hh = .nx [some (.ref (a (.view x))), some (.tup (l.map en)), some (.str p.1), some (.int (p.2 : Int))] (hh.set (a (.rows x)) (.dct (putKD kvs (.inr p.1) (pr (p.2, S1.time x))))) := by
          simp only [g, iv1, iv2, iv3, iv4, lv1, lv2, lv3, lv4, sz2, show D.tup [.int (p.2 : Int), .int (S1.time x : Int)] = pr (p.2, S1.time x) from rfl, dset_run g2 i2 A.few, DD.bind_ok, DD.bind_exc, DD.toS_ok, DD.toS_exc, DD.bindL_ok, DD.bindL_exc, DD.lbind_ok, DD.lbind_exc, DD.bindE_ok, DD.bindE_exc, DD.sbind_nx, DD.sbind_rt, DD.sbind_exc, DD.sbind_bk, DD.sbind_ct, DD.ret_nx, DD.ret_rt, DD.ret_exc, DD.varM_0, DD.varM_1, DD.varM_2, DD.varM_3, DD.varM_4, DD.varM_5, DD.cM_e, DD.binM_e, DD.unM_e, DD.seqM_e, DD.setM_e, DD.exprM_e, DD.retM_e, DD.raiseM_e, DD.passM_e, DD.brkM_e, DD.ifSM_e, DD.ifM_e, DD.andM_e, DD.orM_e, DD.notM_e, DD.nilM_e, DD.consM_e, DD.callM_e, DD.tupM_e, DD.lstM_e, DD.bmM_e, DD.smM_e, DD.asgM_e, DD.subG_e, DD.nameG_e, DD.slM_e, DD.om_none, DD.om_some, DD.fldSetM_e, DD.toldM_e, DD.add_ii, DD.add_tt, DD.sub_ii, DD.mul_ii, DD.lt_ii, DD.le_ii, DD.gt_ii, DD.ge_ii, DD.fdiv_ii, DD.mod_ii, DD.eq_ii, DD.ne_ii, DD.eq_ss, DD.ne_ss, DD.fld_e, DD.len_t, DD.len_s, DD.append_e, DD.extend_t, DD.extend_r, DD.tup_r, DD.it_t, DD.sl_t, DD.callF, List.length_append, List.length_cons, List.length_nil, List.append_nil, Nat.reduceAdd, List.set_cons_zero, List.set_cons_succ, ↓reduceIte, Bool.not_true, Bool.not_false, Nat.zero_le]
        generalize hh.set (a (.rows x)) (.dct (putKD kvs (.inr p.1) (pr (p.2, S1.time x)))) = h2 at *
        have g' := C2.view hx
        obtain ⟨kv4, g4, i4⟩ := C2.forg hx
        obtain ⟨d5, kv5, e5, i5⟩ := dp2_run (τ := [some (.ref (a (.view x))), some (.tup (l.map en)), some (.str p.1), some (.int (p.2 : Int))]) (mo := unM (varM 0) (fldM "forgotten" cs_forgotten)) (mk := varM 2) (mx := cM .non) g4 i4 (by simp only [g', iv1, iv2, iv3, iv4, lv1, lv2, lv3, lv4, DD.bind_ok, DD.bind_exc, DD.toS_ok, DD.toS_exc, DD.bindL_ok, DD.bindL_exc, DD.lbind_ok, DD.lbind_exc, DD.bindE_ok, DD.bindE_exc, DD.sbind_nx, DD.sbind_rt, DD.sbind_exc, DD.sbind_bk, DD.sbind_ct, DD.ret_nx, DD.ret_rt, DD.ret_exc, DD.varM_0, DD.varM_1, DD.varM_2, DD.varM_3, DD.varM_4, DD.varM_5, DD.cM_e, DD.binM_e, DD.unM_e, DD.seqM_e, DD.setM_e, DD.exprM_e, DD.retM_e, DD.raiseM_e, DD.passM_e, DD.brkM_e, DD.ifSM_e, DD.ifM_e, DD.andM_e, DD.orM_e, DD.notM_e, DD.nilM_e, DD.consM_e, DD.callM_e, DD.tupM_e, DD.lstM_e, DD.bmM_e, DD.smM_e, DD.asgM_e, DD.subG_e, DD.nameG_e, DD.slM_e, DD.om_none, DD.om_some, DD.fldSetM_e, DD.toldM_e, DD.add_ii, DD.add_tt, DD.sub_ii, DD.mul_ii, DD.lt_ii, DD.le_ii, DD.gt_ii, DD.ge_ii, DD.fdiv_ii, DD.mod_ii, DD.eq_ii, DD.ne_ii, DD.eq_ss, DD.ne_ss, DD.fld_e, DD.len_t, DD.len_s, DD.append_e, DD.extend_t, DD.extend_r, DD.tup_r, DD.it_t, DD.sl_t, DD.callF, List.length_append, List.length_cons, List.length_nil, List.append_nil, Nat.reduceAdd, List.set_cons_zero, List.set_cons_succ, ↓reduceIte, Bool.not_true, Bool.not_false, Nat.zero_le]) varM_2 cM_e
        rw [← map_upN (g := ni)] at i5
        refine ⟨[some (.ref (a (.view x))), some (.tup (l.map en)), some (.str p.1), some (.int (p.2 : Int))], _, ?_, ⟨_, _, rfl⟩, fun q hq => hr q (by simp [hq]), _, C2.setForg hx i5, (F1.trans F2).trans (Ft.set (t := Tg.forg x) hx), ?_⟩
        · rw [ifSM_e, binM_e, varM_3, bind_ok, ek, bind_ok, gt_ii, hd, toS_ok]
          simp only []
          rw [seqM_e, es, sbind_nx, exprM_e, e5, toS_ok]
        · rw [← e1', eh]
      · have hd : decide (kn (S1.row x) (S1.fg x) p.1 < (p.2 : Int)) = false := decide_eq_false hk
        have eh : hear1 S1 x p = S1 := if_neg hk
        refine ⟨[some (.ref (a (.view x))), some (.tup (l.map en)), some (.str p.1), some (.int (p.2 : Int))], hh, ?_, ⟨_, _, rfl⟩, fun q hq => hr q (by simp [hq]), S1, C1, F1, by rw [← e1', eh]⟩
        rw [ifSM_e, binM_e, varM_3, bind_ok, ek, bind_ok, gt_ii, hd, toS_ok]
        rfl) l _ h ⟨⟨_, _, rfl⟩, hl, S, C, Ft.refl, rfl⟩
  obtain ⟨_, _, S1, C1, F1, e1⟩ := b2
  refine ⟨h', by rw [b1, ret_nx], ?_, F1⟩
  rw [← e1]
  exact C1
end
end K08
end

section
set_option Elab.async false
set_option linter.all false
set_option maxRecDepth 100000
set_option maxHeartbeats 2000000
namespace K08
open PySem L2 DD
section
variable {ns : List Str} {lw : Bool} {a : Tg → Nat} {S S' : St} {h h' h'' : AH} {x y z : Str} {o : O} {t s : Tg} {i : Nat}
/-! ### a machine's state, as another one sees it -/
def stK (k : Int) : Str := if 15 ≤ k then "dead" else if 6 ≤ k then "suspect" else "alive"
def stOf (tm : Nat) (o : Option (Nat × Nat)) : Str := stK ((tm : Int) - (((o.map (·.2)).getD 0 : Nat) : Int))
theorem state_run (C : Cr ns lw a S h) (hx : x ∈ ns) (hs : (S.row x y).isSome = true) : F_View_state_of [.ref (a (.view x)), .str y] h = .ok (.str (stOf (S.time x) (S.row x y))) h := by
  obtain ⟨⟨c, t⟩, er⟩ := Option.isSome_iff_exists.mp hs
  unfold F_View_state_of m_View_state_of
  have e0 : startD N_View_state_of.length [D.ref (a (.view x)), .str y] = [some (.ref (a (.view x))), some (.str y), none] := rfl
  rw [e0]
  have g := C.view hx
  obtain ⟨kvs, g2, i2⟩ := C.rows hx
  have er' : (S.row x y).map pr = some (.tup [.int (c : Int), .int (t : Int)]) := by rw [er]; rfl
  have ei : (!((S.row x y).map pr).isSome) = false := by rw [er']; rfl
  have es : stOf (S.time x) (S.row x y) = stK ((S.time x : Int) - (t : Int)) := by unfold stOf; rw [er]; rfl
  rw [es]
  unfold stK
  by_cases h15 : (15 : Int) ≤ (S.time x : Int) - (t : Int)
  · simp only [g, iv1, iv2, iv3, iv4, lv1, lv2, lv3, lv4, dnin_run (x := y) g2 i2, ei, dget_run g2 i2 er', show atI [D.int (c : Int), .int (t : Int)] 1 = some (.int (t : Int)) from rfl, decide_eq_true h15, DD.bind_ok, DD.bind_exc, DD.toS_ok, DD.toS_exc, DD.bindL_ok, DD.bindL_exc, DD.lbind_ok, DD.lbind_exc, DD.bindE_ok, DD.bindE_exc, DD.sbind_nx, DD.sbind_rt, DD.sbind_exc, DD.sbind_bk, DD.sbind_ct, DD.ret_nx, DD.ret_rt, DD.ret_exc, DD.varM_0, DD.varM_1, DD.varM_2, DD.varM_3, DD.varM_4, DD.varM_5, DD.cM_e, DD.binM_e, DD.unM_e, DD.seqM_e, DD.setM_e, DD.exprM_e, DD.retM_e, DD.raiseM_e, DD.passM_e, DD.brkM_e, DD.ifSM_e, DD.ifM_e, DD.andM_e, DD.orM_e, DD.notM_e, DD.nilM_e, DD.consM_e, DD.callM_e, DD.tupM_e, DD.lstM_e, DD.bmM_e, DD.smM_e, DD.asgM_e, DD.subG_e, DD.nameG_e, DD.slM_e, DD.om_none, DD.om_some, DD.fldSetM_e, DD.toldM_e, DD.add_ii, DD.add_tt, DD.sub_ii, DD.mul_ii, DD.lt_ii, DD.le_ii, DD.gt_ii, DD.ge_ii, DD.fdiv_ii, DD.mod_ii, DD.eq_ii, DD.ne_ii, DD.eq_ss, DD.ne_ss, DD.fld_e, DD.len_t, DD.len_s, DD.append_e, DD.extend_t, DD.extend_r, DD.tup_r, DD.it_t, DD.sl_t, DD.callF, List.length_append, List.length_cons, List.length_nil, List.append_nil, Nat.reduceAdd, List.set_cons_zero, List.set_cons_succ, ↓reduceIte, Bool.not_true, Bool.not_false, Nat.zero_le]
    rw [if_pos h15]
  · rw [if_neg h15]
    by_cases h6 : (6 : Int) ≤ (S.time x : Int) - (t : Int)
    · simp only [g, iv1, iv2, iv3, iv4, lv1, lv2, lv3, lv4, dnin_run (x := y) g2 i2, ei, dget_run g2 i2 er', show atI [D.int (c : Int), .int (t : Int)] 1 = some (.int (t : Int)) from rfl, decide_eq_false h15, decide_eq_true h6, DD.bind_ok, DD.bind_exc, DD.toS_ok, DD.toS_exc, DD.bindL_ok, DD.bindL_exc, DD.lbind_ok, DD.lbind_exc, DD.bindE_ok, DD.bindE_exc, DD.sbind_nx, DD.sbind_rt, DD.sbind_exc, DD.sbind_bk, DD.sbind_ct, DD.ret_nx, DD.ret_rt, DD.ret_exc, DD.varM_0, DD.varM_1, DD.varM_2, DD.varM_3, DD.varM_4, DD.varM_5, DD.cM_e, DD.binM_e, DD.unM_e, DD.seqM_e, DD.setM_e, DD.exprM_e, DD.retM_e, DD.raiseM_e, DD.passM_e, DD.brkM_e, DD.ifSM_e, DD.ifM_e, DD.andM_e, DD.orM_e, DD.notM_e, DD.nilM_e, DD.consM_e, DD.callM_e, DD.tupM_e, DD.lstM_e, DD.bmM_e, DD.smM_e, DD.asgM_e, DD.subG_e, DD.nameG_e, DD.slM_e, DD.om_none, DD.om_some, DD.fldSetM_e, DD.toldM_e, DD.add_ii, DD.add_tt, DD.sub_ii, DD.mul_ii, DD.lt_ii, DD.le_ii, DD.gt_ii, DD.ge_ii, DD.fdiv_ii, DD.mod_ii, DD.eq_ii, DD.ne_ii, DD.eq_ss, DD.ne_ss, DD.fld_e, DD.len_t, DD.len_s, DD.append_e, DD.extend_t, DD.extend_r, DD.tup_r, DD.it_t, DD.sl_t, DD.callF, List.length_append, List.length_cons, List.length_nil, List.append_nil, Nat.reduceAdd, List.set_cons_zero, List.set_cons_succ, ↓reduceIte, Bool.not_true, Bool.not_false, Nat.zero_le]
      rw [if_pos h6]
    · simp only [g, iv1, iv2, iv3, iv4, lv1, lv2, lv3, lv4, dnin_run (x := y) g2 i2, ei, dget_run g2 i2 er', show atI [D.int (c : Int), .int (t : Int)] 1 = some (.int (t : Int)) from rfl, decide_eq_false h15, decide_eq_false h6, DD.bind_ok, DD.bind_exc, DD.toS_ok, DD.toS_exc, DD.bindL_ok, DD.bindL_exc, DD.lbind_ok, DD.lbind_exc, DD.bindE_ok, DD.bindE_exc, DD.sbind_nx, DD.sbind_rt, DD.sbind_exc, DD.sbind_bk, DD.sbind_ct, DD.ret_nx, DD.ret_rt, DD.ret_exc, DD.varM_0, DD.varM_1, DD.varM_2, DD.varM_3, DD.varM_4, DD.varM_5, DD.cM_e, DD.binM_e, DD.unM_e, DD.seqM_e, DD.setM_e, DD.exprM_e, DD.retM_e, DD.raiseM_e, DD.passM_e, DD.brkM_e, DD.ifSM_e, DD.ifM_e, DD.andM_e, DD.orM_e, DD.notM_e, DD.nilM_e, DD.consM_e, DD.callM_e, DD.tupM_e, DD.lstM_e, DD.bmM_e, DD.smM_e, DD.asgM_e, DD.subG_e, DD.nameG_e, DD.slM_e, DD.om_none, DD.om_some, DD.fldSetM_e, DD.toldM_e, DD.add_ii, DD.add_tt, DD.sub_ii, DD.mul_ii, DD.lt_ii, DD.le_ii, DD.gt_ii, DD.ge_ii, DD.fdiv_ii, DD.mod_ii, DD.eq_ii, DD.ne_ii, DD.eq_ss, DD.ne_ss, DD.fld_e, DD.len_t, DD.len_s, DD.append_e, DD.extend_t, DD.extend_r, DD.tup_r, DD.it_t, DD.sl_t, DD.callF, List.length_append, List.length_cons, List.length_nil, List.append_nil, Nat.reduceAdd, List.set_cons_zero, List.set_cons_succ, ↓reduceIte, Bool.not_true, Bool.not_false, Nat.zero_le]
      rw [if_neg h6]
theorem state_exc (C : Cr ns lw a S h) (hx : x ∈ ns) (hs : S.row x y = none) : F_View_state_of [.ref (a (.view x)), .str y] h = .exc 0 h := by
  unfold F_View_state_of m_View_state_of
  have e0 : startD N_View_state_of.length [D.ref (a (.view x)), .str y] = [some (.ref (a (.view x))), some (.str y), none] := rfl
  rw [e0]
  have g := C.view hx
  obtain ⟨kvs, g2, i2⟩ := C.rows hx
  have ei : (!((S.row x y).map pr).isSome) = true := by rw [hs]; rfl
  simp only [g, iv1, iv2, iv3, iv4, lv1, lv2, lv3, lv4, dnin_run (x := y) g2 i2, ei, DD.bind_ok, DD.bind_exc, DD.toS_ok, DD.toS_exc, DD.bindL_ok, DD.bindL_exc, DD.lbind_ok, DD.lbind_exc, DD.bindE_ok, DD.bindE_exc, DD.sbind_nx, DD.sbind_rt, DD.sbind_exc, DD.sbind_bk, DD.sbind_ct, DD.ret_nx, DD.ret_rt, DD.ret_exc, DD.varM_0, DD.varM_1, DD.varM_2, DD.varM_3, DD.varM_4, DD.varM_5, DD.cM_e, DD.binM_e, DD.unM_e, DD.seqM_e, DD.setM_e, DD.exprM_e, DD.retM_e, DD.raiseM_e, DD.passM_e, DD.brkM_e, DD.ifSM_e, DD.ifM_e, DD.andM_e, DD.orM_e, DD.notM_e, DD.nilM_e, DD.consM_e, DD.callM_e, DD.tupM_e, DD.lstM_e, DD.bmM_e, DD.smM_e, DD.asgM_e, DD.subG_e, DD.nameG_e, DD.slM_e, DD.om_none, DD.om_some, DD.fldSetM_e, DD.toldM_e, DD.add_ii, DD.add_tt, DD.sub_ii, DD.mul_ii, DD.lt_ii, DD.le_ii, DD.gt_ii, DD.ge_ii, DD.fdiv_ii, DD.mod_ii, DD.eq_ii, DD.ne_ii, DD.eq_ss, DD.ne_ss, DD.fld_e, DD.len_t, DD.len_s, DD.append_e, DD.extend_t, DD.extend_r, DD.tup_r, DD.it_t, DD.sl_t, DD.callF, List.length_append, List.length_cons, List.length_nil, List.append_nil, Nat.reduceAdd, List.set_cons_zero, List.set_cons_succ, ↓reduceIte, Bool.not_true, Bool.not_false, Nat.zero_le]
def namesL (ns : List Str) (tm : Nat) (row : Str → Option (Nat × Nat)) (st : Str) : List Str := (ns.filter fun y => (row y).isSome).filter fun y => stOf tm (row y) == st
theorem names_run (C : Cr ns lw a S h) (A : Asc ns) (hx : x ∈ ns) (st : Str) : ∃ r h', F_View_names_in [.ref (a (.view x)), .str st] h = .ok (.ref r) h' ∧ h'[r]? = some (.lst ((namesL ns (S.time x) (S.row x) st).map D.str)) ∧ h.length ≤ r ∧ Fr none h h' := by
  unfold F_View_names_in m_View_names_in
  have e0 : startD N_View_names_in.length [D.ref (a (.view x)), .str st] = [some (.ref (a (.view x))), some (.str st), none] := rfl
  rw [e0]
  have g := C.view hx
  obtain ⟨kvs, g2, i2⟩ := C.rows hx
  have es := sorted_rows (τ := [some (.ref (a (.view x))), some (.str st), none]) (e := unM (varM 0) (fldM "rows" cs_rows)) A (by simp only [g, iv1, iv2, iv3, iv4, lv1, lv2, lv3, lv4, DD.bind_ok, DD.bind_exc, DD.toS_ok, DD.toS_exc, DD.bindL_ok, DD.bindL_exc, DD.lbind_ok, DD.lbind_exc, DD.bindE_ok, DD.bindE_exc, DD.sbind_nx, DD.sbind_rt, DD.sbind_exc, DD.sbind_bk, DD.sbind_ct, DD.ret_nx, DD.ret_rt, DD.ret_exc, DD.varM_0, DD.varM_1, DD.varM_2, DD.varM_3, DD.varM_4, DD.varM_5, DD.cM_e, DD.binM_e, DD.unM_e, DD.seqM_e, DD.setM_e, DD.exprM_e, DD.retM_e, DD.raiseM_e, DD.passM_e, DD.brkM_e, DD.ifSM_e, DD.ifM_e, DD.andM_e, DD.orM_e, DD.notM_e, DD.nilM_e, DD.consM_e, DD.callM_e, DD.tupM_e, DD.lstM_e, DD.bmM_e, DD.smM_e, DD.asgM_e, DD.subG_e, DD.nameG_e, DD.slM_e, DD.om_none, DD.om_some, DD.fldSetM_e, DD.toldM_e, DD.add_ii, DD.add_tt, DD.sub_ii, DD.mul_ii, DD.lt_ii, DD.le_ii, DD.gt_ii, DD.ge_ii, DD.fdiv_ii, DD.mod_ii, DD.eq_ii, DD.ne_ii, DD.eq_ss, DD.ne_ss, DD.fld_e, DD.len_t, DD.len_s, DD.append_e, DD.extend_t, DD.extend_r, DD.tup_r, DD.it_t, DD.sl_t, DD.callF, List.length_append, List.length_cons, List.length_nil, List.append_nil, Nat.reduceAdd, List.set_cons_zero, List.set_cons_succ, ↓reduceIte, Bool.not_true, Bool.not_false, Nat.zero_le]) g2 i2
  obtain ⟨h', b1, b2, b3⟩ := lc_list (mc := some (binM (methF "state_of" 1 2 [] F_View_state_of (varM 0) (consM (varM 2) nilM)) (varM 1) eqM)) (me := varM 2) (own := [2]) (j := 2) (p := fun y => stOf (S.time x) (S.row x y) == st) (g := D.str) es get_new (few_of A _) fun y hy h2 f => by
    have C2 := C.frame (Fr.app.trans f)
    have g' := C2.view hx
    have hs := (List.mem_filter.mp hy).2
    have ew : (wipeD [some (D.ref (a (.view x))), some (.str st), none] [2]).set 2 (some (D.str y)) = [some (.ref (a (.view x))), some (.str st), some (.str y)] := rfl
    refine ⟨h2, ?_, .refl, fun _ => ⟨h2, ?_, .refl⟩⟩
    · rw [ew]
      show binM _ _ _ _ _ = _
      rw [binM_e, meth_v g' rfl varM_0, consM_e, varM_2, bindL_ok, nilM_e, lbind_ok, bindE_ok]
      have := state_run (y := y) C2 hx hs
      simp only [callF, List.append_nil, List.length_cons, List.length_nil, Nat.zero_add, Nat.reduceAdd, ↓reduceIte]
      rw [this, bind_ok, varM_1, bind_ok, eq_ss]
    · rw [ew, varM_2]
  refine ⟨_, h', ?_, b2, ?_, Fr.app.trans b3⟩
  · rw [retM_e, b1, toS_ok, ret_rt]
  · simp
/-! ### the dead are forgotten -/
def forget1 (S : St) (x y : Str) : St := { S with row := up S.row x (up (S.row x) y none), fg := up S.fg x (up (S.fg x) y (some (cnt (S.row x y)))) }
def forgetS (S : St) (x : Str) (l : List Str) : St := l.foldl (fun S y => forget1 S x y) S
theorem forget_run (C : Cr ns lw a S h) (A : Asc ns) (hx : x ∈ ns) : ∃ r h', F_View_forget_dead [.ref (a (.view x))] h = .ok (.ref r) h' ∧ h'[r]? = some (.lst ((namesL ns (S.time x) (S.row x) "dead").map D.str)) ∧ h.length ≤ r ∧
    Cr ns lw a (forgetS S x (namesL ns (S.time x) (S.row x) "dead")) h' ∧ Ft ns lw a h h' := by
  obtain ⟨r, h1, a1, a2, a3, a4⟩ := names_run C A hx "dead"
  unfold F_View_forget_dead m_View_forget_dead
  have e0 : startD N_View_forget_dead.length [D.ref (a (.view x))] = [some (.ref (a (.view x))), none, none, none, none] := rfl
  rw [e0]
  have g := C.view hx
  have en : methF "names_in" 1 2 [] F_View_names_in (varM 0) (consM (cM (.str g_DEAD)) nilM) [some (.ref (a (.view x))), none, none, none, none] h = .ok (.ref r) h1 := by
    rw [meth_v g rfl varM_0, consM_e, cM_e, bindL_ok, nilM_e, lbind_ok, bindE_ok]
    exact a1
  have C1 := C.frame a4
  rw [seqM_e, setM_e, en, toS_ok, sbind_nx]
  simp only [List.set_cons_zero, List.set_cons_succ]
  generalize hL : namesL ns (S.time x) (S.row x) "dead" = L at *
  have fr := C.fresh a3
  have Lnd : L.Nodup := by rw [← hL]; exact (A.nd.sublist List.filter_sublist).sublist List.filter_sublist
  have Lin : ∀ y ∈ L, y ∈ ns ∧ (S.row x y).isSome = true := fun y hy => by
    rw [← hL] at hy
    exact List.mem_filter.mp (List.mem_filter.mp hy).1
  obtain ⟨τ', h', b1, b2⟩ := for_list (φ := D.str) (f := nameG 2) (b := View_forget_dead_f0b) (live := isLst r (L.map D.str))
    (P := fun q τ hh => (∃ o2 o3 o4, τ = [some (.ref (a (.view x))), some (.ref r), o2, o3, o4]) ∧ hh[r]? = some (.lst (L.map D.str)) ∧ q.Nodup ∧ ∃ S1, Cr ns lw a S1 hh ∧ Ft ns lw a h hh ∧ (∀ y ∈ q, y ∈ ns ∧ (S1.row x y).isSome = true) ∧ forgetS S1 x q = forgetS S x L) (fun q τ hh p => isLst_mk p.2.1)
    (fun y q τ hh p => by
      obtain ⟨⟨o2, o3, o4, rfl⟩, hr, nd, S1, C2, F2, hq, e2⟩ := p
      obtain ⟨hy, hs⟩ := hq y (by simp)
      obtain ⟨⟨c, t⟩, er⟩ := Option.isSome_iff_exists.mp hs
      have g' := C2.view hx
      obtain ⟨kvs, g2, i2⟩ := C2.rows hx
      have er' : (S1.row x y).map pr = some (.tup [.int (c : Int), .int (t : Int)]) := by rw [er]; rfl
      rw [nameG_e, sbind_nx]
      simp only [List.set_cons_zero, List.set_cons_succ]
      unfold View_forget_dead_f0b
      have e5 := dp1_run (τ := [some (.ref (a (.view x))), some (.ref r), some (.str y), o3, o4]) (mo := unM (varM 0) (fldM "rows" cs_rows)) (mk := varM 2) g2 i2 (by simp only [g', iv1, iv2, iv3, iv4, lv1, lv2, lv3, lv4, DD.bind_ok, DD.bind_exc, DD.toS_ok, DD.toS_exc, DD.bindL_ok, DD.bindL_exc, DD.lbind_ok, DD.lbind_exc, DD.bindE_ok, DD.bindE_exc, DD.sbind_nx, DD.sbind_rt, DD.sbind_exc, DD.sbind_bk, DD.sbind_ct, DD.ret_nx, DD.ret_rt, DD.ret_exc, DD.varM_0, DD.varM_1, DD.varM_2, DD.varM_3, DD.varM_4, DD.varM_5, DD.cM_e, DD.binM_e, DD.unM_e, DD.seqM_e, DD.setM_e, DD.exprM_e, DD.retM_e, DD.raiseM_e, DD.passM_e, DD.brkM_e, DD.ifSM_e, DD.ifM_e, DD.andM_e, DD.orM_e, DD.notM_e, DD.nilM_e, DD.consM_e, DD.callM_e, DD.tupM_e, DD.lstM_e, DD.bmM_e, DD.smM_e, DD.asgM_e, DD.subG_e, DD.nameG_e, DD.slM_e, DD.om_none, DD.om_some, DD.fldSetM_e, DD.toldM_e, DD.add_ii, DD.add_tt, DD.sub_ii, DD.mul_ii, DD.lt_ii, DD.le_ii, DD.gt_ii, DD.ge_ii, DD.fdiv_ii, DD.mod_ii, DD.eq_ii, DD.ne_ii, DD.eq_ss, DD.ne_ss, DD.fld_e, DD.len_t, DD.len_s, DD.append_e, DD.extend_t, DD.extend_r, DD.tup_r, DD.it_t, DD.sl_t, DD.callF, List.length_append, List.length_cons, List.length_nil, List.append_nil, Nat.reduceAdd, List.set_cons_zero, List.set_cons_succ, ↓reduceIte, Bool.not_true, Bool.not_false, Nat.zero_le]) varM_2 er'
      have i3 := i2.drop (x := y)
      rw [← map_upN (g := pr)] at i3
      have C3 := C2.setRows hx i3
      have F3 : Ft ns lw a hh _ := Ft.set (t := Tg.rows x) (o := .dct (dropKD kvs (.inr y))) hx
      have hr3 : (hh.set (a (.rows x)) (.dct (dropKD kvs (.inr y))))[r]? = some (.lst (L.map D.str)) := by rw [get_set_ne (fr (.rows x) hx)]; exact hr
      generalize hh.set (a (.rows x)) (.dct (dropKD kvs (.inr y))) = h3 at *
      have g3 := C3.view hx
      obtain ⟨kv4, g4, i4⟩ := C3.forg hx
      have i5 := i4.put (x := y) (d := ni c) hy
      rw [← map_up (b := c) (g := ni)] at i5
      have hr4 : (h3.set (a (.forg x)) (.dct (putKD kv4 (.inr y) (ni c))))[r]? = some (.lst (L.map D.str)) := by rw [get_set_ne (fr (.forg x) hx)]; exact hr3
      have ef : forget1 S1 x y = { S1 with row := up S1.row x (up (S1.row x) y none), fg := up S1.fg x (up (S1.fg x) y (some c)) } := by unfold forget1; rw [er]; rfl
      obtain ⟨n1, n2⟩ := List.nodup_cons.mp nd
      refine ⟨[some (.ref (a (.view x))), some (.ref r), some (.str y), some (.int (c : Int)), some (.int (t : Int))], _, ?_, ⟨_, _, _, rfl⟩, hr4, n2, _, C3.setForg hx i5, (F2.trans F3).trans (Ft.set (t := Tg.forg x) hx), fun w hw => ?_, ?_⟩
      · rw [seqM_e, asgM_e, e5, toS_ok, tup12, sbind_nx]
        simp only [List.set_cons_zero, List.set_cons_succ]
        simp only [g3, iv1, iv2, iv3, iv4, lv1, lv2, lv3, lv4, show D.int (c : Int) = ni c from rfl, dset_run g4 i4 A.few, DD.bind_ok, DD.bind_exc, DD.toS_ok, DD.toS_exc, DD.bindL_ok, DD.bindL_exc, DD.lbind_ok, DD.lbind_exc, DD.bindE_ok, DD.bindE_exc, DD.sbind_nx, DD.sbind_rt, DD.sbind_exc, DD.sbind_bk, DD.sbind_ct, DD.ret_nx, DD.ret_rt, DD.ret_exc, DD.varM_0, DD.varM_1, DD.varM_2, DD.varM_3, DD.varM_4, DD.varM_5, DD.cM_e, DD.binM_e, DD.unM_e, DD.seqM_e, DD.setM_e, DD.exprM_e, DD.retM_e, DD.raiseM_e, DD.passM_e, DD.brkM_e, DD.ifSM_e, DD.ifM_e, DD.andM_e, DD.orM_e, DD.notM_e, DD.nilM_e, DD.consM_e, DD.callM_e, DD.tupM_e, DD.lstM_e, DD.bmM_e, DD.smM_e, DD.asgM_e, DD.subG_e, DD.nameG_e, DD.slM_e, DD.om_none, DD.om_some, DD.fldSetM_e, DD.toldM_e, DD.add_ii, DD.add_tt, DD.sub_ii, DD.mul_ii, DD.lt_ii, DD.le_ii, DD.gt_ii, DD.ge_ii, DD.fdiv_ii, DD.mod_ii, DD.eq_ii, DD.ne_ii, DD.eq_ss, DD.ne_ss, DD.fld_e, DD.len_t, DD.len_s, DD.append_e, DD.extend_t, DD.extend_r, DD.tup_r, DD.it_t, DD.sl_t, DD.callF, List.length_append, List.length_cons, List.length_nil, List.append_nil, Nat.reduceAdd, List.set_cons_zero, List.set_cons_succ, ↓reduceIte, Bool.not_true, Bool.not_false, Nat.zero_le]
      · obtain ⟨q1, q2⟩ := hq w (by simp [hw])
        refine ⟨q1, ?_⟩
        have : w ≠ y := fun e => n1 (e ▸ hw)
        simp only [up_eq, up_ne this]
        exact q2
      · rw [← e2]
        show forgetS _ x q = forgetS (forget1 S1 x y) x q
        rw [ef]) L [some (.ref (a (.view x))), some (.ref r), none, none, none] h1 ⟨⟨_, _, _, rfl⟩, a2, Lnd, S, C1, Ft.of a4, Lin, rfl⟩
  obtain ⟨⟨o2, o3, o4, et⟩, hr, _, S1, C2, F2, _, e2⟩ := b2
  refine ⟨r, h', ?_, hr, a3, ?_, F2⟩
  · rw [seqM_e, forM_e, varM_1, toS_ok, lstIt_e a2]
    simp only []
    rw [b1, sbind_nx, et, retM_e, varM_1, toS_ok, ret_rt]
  · rw [← e2]; exact C2
end
end K08
end

section
set_option Elab.async false
set_option linter.all false
set_option maxRecDepth 100000
set_option maxHeartbeats 2000000
namespace K08
open PySem L2 DD
section
variable {ns : List Str} {a : Tg → Nat} {S S' : St} {h h' h'' : AH} {x y z : Str} {o : O} {t s : Tg} {i : Nat}
/-! ### the law's own views -/
theorem lw1 {k : Nat} {t g r : D} (e : h[k]? = some (.dct (LW t g r))) : dgetM (.ref k) (.str "time") h = .ok t h := by
  simp only [dgetM, e, keyD]
  rw [show valK (LW t g r) (.inr "time") = some t from rfl]
theorem lw2 {k : Nat} {t g r : D} (e : h[k]? = some (.dct (LW t g r))) : dgetM (.ref k) (.str "gone") h = .ok g h := by
  simp only [dgetM, e, keyD]
  rw [show valK (LW t g r) (.inr "gone") = some g from rfl]
theorem lw3 {k : Nat} {t g r : D} (e : h[k]? = some (.dct (LW t g r))) : dgetM (.ref k) (.str "rows") h = .ok r h := by
  simp only [dgetM, e, keyD]
  rw [show valK (LW t g r) (.inr "rows") = some r from rfl]
theorem lnews_run (C : Cr ns true a S h) (A : Asc ns) (hx : x ∈ ns) : ∃ r h', F__law_news [.ref (a (.lview x))] h = .ok (.ref r) h' ∧ h'[r]? = some (.lst ((newsL ns (S.lrow x)).map en)) ∧ h.length ≤ r ∧ Fr none h h' := by
  unfold F__law_news m__law_news
  have e0 : startD N__law_news.length [D.ref (a (.lview x))] = [some (.ref (a (.lview x))), none] := rfl
  rw [e0]
  have g := C.lview hx
  obtain ⟨kvs, g2, i2⟩ := C.lrows hx
  have es := sorted_rows (τ := [some (.ref (a (.lview x))), none]) (e := binM (varM 0) (cM (.str "rows")) dgetM) A (by simp only [lw3 g, DD.bind_ok, DD.bind_exc, DD.toS_ok, DD.toS_exc, DD.bindL_ok, DD.bindL_exc, DD.lbind_ok, DD.lbind_exc, DD.bindE_ok, DD.bindE_exc, DD.sbind_nx, DD.sbind_rt, DD.sbind_exc, DD.sbind_bk, DD.sbind_ct, DD.ret_nx, DD.ret_rt, DD.ret_exc, DD.varM_0, DD.varM_1, DD.varM_2, DD.varM_3, DD.varM_4, DD.varM_5, DD.cM_e, DD.binM_e, DD.unM_e, DD.seqM_e, DD.setM_e, DD.exprM_e, DD.retM_e, DD.raiseM_e, DD.passM_e, DD.brkM_e, DD.ifSM_e, DD.ifM_e, DD.andM_e, DD.orM_e, DD.notM_e, DD.nilM_e, DD.consM_e, DD.callM_e, DD.tupM_e, DD.lstM_e, DD.bmM_e, DD.smM_e, DD.asgM_e, DD.subG_e, DD.nameG_e, DD.slM_e, DD.om_none, DD.om_some, DD.fldSetM_e, DD.toldM_e, DD.add_ii, DD.add_tt, DD.sub_ii, DD.mul_ii, DD.lt_ii, DD.le_ii, DD.gt_ii, DD.ge_ii, DD.fdiv_ii, DD.mod_ii, DD.eq_ii, DD.ne_ii, DD.eq_ss, DD.ne_ss, DD.fld_e, DD.len_t, DD.len_s, DD.append_e, DD.extend_t, DD.extend_r, DD.tup_r, DD.it_t, DD.sl_t, DD.callF, List.length_append, List.length_cons, List.length_nil, List.append_nil, Nat.reduceAdd, List.set_cons_zero, List.set_cons_succ, ↓reduceIte, Bool.not_true, Bool.not_false, Nat.zero_le]) g2 i2
  obtain ⟨h', b1, b2, b3⟩ := lc_all (me := tupM (consM (varM 1) (consM (binM (binM (binM (varM 0) (cM (.str "rows")) dgetM) (varM 1) dgetM) (cM (.int 0)) itM) nilM))) (own := [1]) (j := 1) (g := fun y => en (y, cnt (S.lrow x y))) es get_new (few_of A _) fun y hy h2 f => by
    have C2 := C.frame (Fr.app.trans f)
    have g' := C2.lview hx
    obtain ⟨kv2, g3, i3⟩ := C2.lrows hx
    have hs := (List.mem_filter.mp hy).2
    obtain ⟨⟨c, t⟩, ec⟩ := Option.isSome_iff_exists.mp hs
    have er : (S.lrow x y).map pr = some (.tup [.int (c : Int), .int (t : Int)]) := by rw [ec]; rfl
    have ew : (wipeD [some (D.ref (a (.lview x))), none] [1]).set 1 (some (D.str y)) = [some (.ref (a (.lview x))), some (.str y)] := rfl
    refine ⟨h2, ?_, .refl⟩
    rw [ew]
    simp only [lw3 g', dget_run g3 i3 er, sz2, show atI [D.int (c : Int), .int (t : Int)] 0 = some (.int (c : Int)) from rfl, DD.bind_ok, DD.bind_exc, DD.toS_ok, DD.toS_exc, DD.bindL_ok, DD.bindL_exc, DD.lbind_ok, DD.lbind_exc, DD.bindE_ok, DD.bindE_exc, DD.sbind_nx, DD.sbind_rt, DD.sbind_exc, DD.sbind_bk, DD.sbind_ct, DD.ret_nx, DD.ret_rt, DD.ret_exc, DD.varM_0, DD.varM_1, DD.varM_2, DD.varM_3, DD.varM_4, DD.varM_5, DD.cM_e, DD.binM_e, DD.unM_e, DD.seqM_e, DD.setM_e, DD.exprM_e, DD.retM_e, DD.raiseM_e, DD.passM_e, DD.brkM_e, DD.ifSM_e, DD.ifM_e, DD.andM_e, DD.orM_e, DD.notM_e, DD.nilM_e, DD.consM_e, DD.callM_e, DD.tupM_e, DD.lstM_e, DD.bmM_e, DD.smM_e, DD.asgM_e, DD.subG_e, DD.nameG_e, DD.slM_e, DD.om_none, DD.om_some, DD.fldSetM_e, DD.toldM_e, DD.add_ii, DD.add_tt, DD.sub_ii, DD.mul_ii, DD.lt_ii, DD.le_ii, DD.gt_ii, DD.ge_ii, DD.fdiv_ii, DD.mod_ii, DD.eq_ii, DD.ne_ii, DD.eq_ss, DD.ne_ss, DD.fld_e, DD.len_t, DD.len_s, DD.append_e, DD.extend_t, DD.extend_r, DD.tup_r, DD.it_t, DD.sl_t, DD.callF, List.length_append, List.length_cons, List.length_nil, List.append_nil, Nat.reduceAdd, List.set_cons_zero, List.set_cons_succ, ↓reduceIte, Bool.not_true, Bool.not_false, Nat.zero_le]
    rw [ec]
    rfl
  refine ⟨(h ++ [O.lst ((ns.filter fun y => (S.lrow x y).isSome).map D.str)]).length, h', ?_, ?_, ?_, Fr.app.trans b3⟩
  · rw [retM_e, b1, toS_ok, ret_rt]
  · rw [b2]
    unfold newsL
    rw [List.map_map]
    rfl
  · simp
theorem stK_law (k : Int) : (if k < 6 then ("alive" : Str) else if k < 15 then "suspect" else "dead") = stK k := by
  unfold stK
  by_cases h1 : k < 6
  · rw [if_pos h1, if_neg (by omega), if_neg (by omega)]
  · rw [if_neg h1]
    by_cases h2 : k < 15
    · rw [if_pos h2, if_neg (by omega), if_pos (by omega)]
    · rw [if_neg h2, if_pos (by omega)]
/-- as the law has it: its own machine is alive -/
def lstOf (tm : Nat) (o : Option (Nat × Nat)) (y m : Str) : Str := if (y == m) = true then "alive" else stOf tm o
theorem lstate_run (C : Cr ns true a S h) (hx : x ∈ ns) (m : Str) (hs : (S.lrow x y).isSome = true) : F__law_state [.ref (a (.lview x)), .str y, .str m] h = .ok (.str (lstOf (S.ltime x) (S.lrow x y) y m)) h := by
  obtain ⟨⟨c, t⟩, er⟩ := Option.isSome_iff_exists.mp hs
  unfold F__law_state m__law_state
  have e0 : startD N__law_state.length [D.ref (a (.lview x)), .str y, .str m] = [some (.ref (a (.lview x))), some (.str y), some (.str m), none] := rfl
  rw [e0]
  have g := C.lview hx
  obtain ⟨kvs, g2, i2⟩ := C.lrows hx
  have er' : (S.lrow x y).map pr = some (.tup [.int (c : Int), .int (t : Int)]) := by rw [er]; rfl
  unfold lstOf
  cases hym : (y == m) with
  | true =>
    simp only [hym, DD.bind_ok, DD.bind_exc, DD.toS_ok, DD.toS_exc, DD.bindL_ok, DD.bindL_exc, DD.lbind_ok, DD.lbind_exc, DD.bindE_ok, DD.bindE_exc, DD.sbind_nx, DD.sbind_rt, DD.sbind_exc, DD.sbind_bk, DD.sbind_ct, DD.ret_nx, DD.ret_rt, DD.ret_exc, DD.varM_0, DD.varM_1, DD.varM_2, DD.varM_3, DD.varM_4, DD.varM_5, DD.cM_e, DD.binM_e, DD.unM_e, DD.seqM_e, DD.setM_e, DD.exprM_e, DD.retM_e, DD.raiseM_e, DD.passM_e, DD.brkM_e, DD.ifSM_e, DD.ifM_e, DD.andM_e, DD.orM_e, DD.notM_e, DD.nilM_e, DD.consM_e, DD.callM_e, DD.tupM_e, DD.lstM_e, DD.bmM_e, DD.smM_e, DD.asgM_e, DD.subG_e, DD.nameG_e, DD.slM_e, DD.om_none, DD.om_some, DD.fldSetM_e, DD.toldM_e, DD.add_ii, DD.add_tt, DD.sub_ii, DD.mul_ii, DD.lt_ii, DD.le_ii, DD.gt_ii, DD.ge_ii, DD.fdiv_ii, DD.mod_ii, DD.eq_ii, DD.ne_ii, DD.eq_ss, DD.ne_ss, DD.fld_e, DD.len_t, DD.len_s, DD.append_e, DD.extend_t, DD.extend_r, DD.tup_r, DD.it_t, DD.sl_t, DD.callF, List.length_append, List.length_cons, List.length_nil, List.append_nil, Nat.reduceAdd, List.set_cons_zero, List.set_cons_succ, ↓reduceIte, Bool.not_true, Bool.not_false, Nat.zero_le]
  | false =>
    have es : stOf (S.ltime x) (S.lrow x y) = stK ((S.ltime x : Int) - (t : Int)) := by unfold stOf; rw [er]; rfl
    simp only [Bool.false_eq_true, if_false]
    rw [es, ← stK_law]
    by_cases h6 : (S.ltime x : Int) - (t : Int) < 6
    · rw [if_pos h6]
      simp only [hym, lw1 g, lw3 g, dget_run g2 i2 er', show atI [D.int (c : Int), .int (t : Int)] 1 = some (.int (t : Int)) from rfl, decide_eq_true h6, DD.bind_ok, DD.bind_exc, DD.toS_ok, DD.toS_exc, DD.bindL_ok, DD.bindL_exc, DD.lbind_ok, DD.lbind_exc, DD.bindE_ok, DD.bindE_exc, DD.sbind_nx, DD.sbind_rt, DD.sbind_exc, DD.sbind_bk, DD.sbind_ct, DD.ret_nx, DD.ret_rt, DD.ret_exc, DD.varM_0, DD.varM_1, DD.varM_2, DD.varM_3, DD.varM_4, DD.varM_5, DD.cM_e, DD.binM_e, DD.unM_e, DD.seqM_e, DD.setM_e, DD.exprM_e, DD.retM_e, DD.raiseM_e, DD.passM_e, DD.brkM_e, DD.ifSM_e, DD.ifM_e, DD.andM_e, DD.orM_e, DD.notM_e, DD.nilM_e, DD.consM_e, DD.callM_e, DD.tupM_e, DD.lstM_e, DD.bmM_e, DD.smM_e, DD.asgM_e, DD.subG_e, DD.nameG_e, DD.slM_e, DD.om_none, DD.om_some, DD.fldSetM_e, DD.toldM_e, DD.add_ii, DD.add_tt, DD.sub_ii, DD.mul_ii, DD.lt_ii, DD.le_ii, DD.gt_ii, DD.ge_ii, DD.fdiv_ii, DD.mod_ii, DD.eq_ii, DD.ne_ii, DD.eq_ss, DD.ne_ss, DD.fld_e, DD.len_t, DD.len_s, DD.append_e, DD.extend_t, DD.extend_r, DD.tup_r, DD.it_t, DD.sl_t, DD.callF, List.length_append, List.length_cons, List.length_nil, List.append_nil, Nat.reduceAdd, List.set_cons_zero, List.set_cons_succ, ↓reduceIte, Bool.not_true, Bool.not_false, Nat.zero_le]
    · rw [if_neg h6]
      by_cases h15 : (S.ltime x : Int) - (t : Int) < 15
      · rw [if_pos h15]
        simp only [hym, lw1 g, lw3 g, dget_run g2 i2 er', show atI [D.int (c : Int), .int (t : Int)] 1 = some (.int (t : Int)) from rfl, decide_eq_false h6, decide_eq_true h15, DD.bind_ok, DD.bind_exc, DD.toS_ok, DD.toS_exc, DD.bindL_ok, DD.bindL_exc, DD.lbind_ok, DD.lbind_exc, DD.bindE_ok, DD.bindE_exc, DD.sbind_nx, DD.sbind_rt, DD.sbind_exc, DD.sbind_bk, DD.sbind_ct, DD.ret_nx, DD.ret_rt, DD.ret_exc, DD.varM_0, DD.varM_1, DD.varM_2, DD.varM_3, DD.varM_4, DD.varM_5, DD.cM_e, DD.binM_e, DD.unM_e, DD.seqM_e, DD.setM_e, DD.exprM_e, DD.retM_e, DD.raiseM_e, DD.passM_e, DD.brkM_e, DD.ifSM_e, DD.ifM_e, DD.andM_e, DD.orM_e, DD.notM_e, DD.nilM_e, DD.consM_e, DD.callM_e, DD.tupM_e, DD.lstM_e, DD.bmM_e, DD.smM_e, DD.asgM_e, DD.subG_e, DD.nameG_e, DD.slM_e, DD.om_none, DD.om_some, DD.fldSetM_e, DD.toldM_e, DD.add_ii, DD.add_tt, DD.sub_ii, DD.mul_ii, DD.lt_ii, DD.le_ii, DD.gt_ii, DD.ge_ii, DD.fdiv_ii, DD.mod_ii, DD.eq_ii, DD.ne_ii, DD.eq_ss, DD.ne_ss, DD.fld_e, DD.len_t, DD.len_s, DD.append_e, DD.extend_t, DD.extend_r, DD.tup_r, DD.it_t, DD.sl_t, DD.callF, List.length_append, List.length_cons, List.length_nil, List.append_nil, Nat.reduceAdd, List.set_cons_zero, List.set_cons_succ, ↓reduceIte, Bool.not_true, Bool.not_false, Nat.zero_le]
      · rw [if_neg h15]
        simp only [hym, lw1 g, lw3 g, dget_run g2 i2 er', show atI [D.int (c : Int), .int (t : Int)] 1 = some (.int (t : Int)) from rfl, decide_eq_false h6, decide_eq_false h15, DD.bind_ok, DD.bind_exc, DD.toS_ok, DD.toS_exc, DD.bindL_ok, DD.bindL_exc, DD.lbind_ok, DD.lbind_exc, DD.bindE_ok, DD.bindE_exc, DD.sbind_nx, DD.sbind_rt, DD.sbind_exc, DD.sbind_bk, DD.sbind_ct, DD.ret_nx, DD.ret_rt, DD.ret_exc, DD.varM_0, DD.varM_1, DD.varM_2, DD.varM_3, DD.varM_4, DD.varM_5, DD.cM_e, DD.binM_e, DD.unM_e, DD.seqM_e, DD.setM_e, DD.exprM_e, DD.retM_e, DD.raiseM_e, DD.passM_e, DD.brkM_e, DD.ifSM_e, DD.ifM_e, DD.andM_e, DD.orM_e, DD.notM_e, DD.nilM_e, DD.consM_e, DD.callM_e, DD.tupM_e, DD.lstM_e, DD.bmM_e, DD.smM_e, DD.asgM_e, DD.subG_e, DD.nameG_e, DD.slM_e, DD.om_none, DD.om_some, DD.fldSetM_e, DD.toldM_e, DD.add_ii, DD.add_tt, DD.sub_ii, DD.mul_ii, DD.lt_ii, DD.le_ii, DD.gt_ii, DD.ge_ii, DD.fdiv_ii, DD.mod_ii, DD.eq_ii, DD.ne_ii, DD.eq_ss, DD.ne_ss, DD.fld_e, DD.len_t, DD.len_s, DD.append_e, DD.extend_t, DD.extend_r, DD.tup_r, DD.it_t, DD.sl_t, DD.callF, List.length_append, List.length_cons, List.length_nil, List.append_nil, Nat.reduceAdd, List.set_cons_zero, List.set_cons_succ, ↓reduceIte, Bool.not_true, Bool.not_false, Nat.zero_le]
/-! ### the law hears -/
def lhear1 (S : St) (x : Str) (p : Str × Nat) : St := if kn (S.lrow x) (S.gn x) p.1 < p.2 then { S with lrow := up S.lrow x (up (S.lrow x) p.1 (some (p.2, S.ltime x))) } else S
def lhearS (S : St) (x : Str) (l : List (Str × Nat)) : St := l.foldl (fun S p => lhear1 S x p) S
theorem lhear_run (C : Cr ns true a S h) (A : Asc ns) (hx : x ∈ ns) {l : List (Str × Nat)} {q : Nat} (hl : ∀ p ∈ l, p.1 ∈ ns) (hq : h[q]? = some (.lst (l.map en))) (fr : ∀ t, Vd ns true t → a t ≠ q) :
    ∃ h', F__law_hear [.ref (a (.lview x)), .ref q] h = .ok .non h' ∧ Cr ns true a (lhearS S x l) h' ∧ Ft ns true a h h' := by
  unfold F__law_hear m__law_hear
  have e0 : startD N__law_hear.length [D.ref (a (.lview x)), .ref q] = [some (.ref (a (.lview x))), some (.ref q), none, none, none] := rfl
  rw [e0]
  have g := C.lview hx
  have er0 : binM (varM 0) (cM (.str "rows")) dgetM [some (.ref (a (.lview x))), some (.ref q), none, none, none] h = .ok (.ref (a (.lrows x))) h := by simp only [lw3 g, DD.bind_ok, DD.bind_exc, DD.toS_ok, DD.toS_exc, DD.bindL_ok, DD.bindL_exc, DD.lbind_ok, DD.lbind_exc, DD.bindE_ok, DD.bindE_exc, DD.sbind_nx, DD.sbind_rt, DD.sbind_exc, DD.sbind_bk, DD.sbind_ct, DD.ret_nx, DD.ret_rt, DD.ret_exc, DD.varM_0, DD.varM_1, DD.varM_2, DD.varM_3, DD.varM_4, DD.varM_5, DD.cM_e, DD.binM_e, DD.unM_e, DD.seqM_e, DD.setM_e, DD.exprM_e, DD.retM_e, DD.raiseM_e, DD.passM_e, DD.brkM_e, DD.ifSM_e, DD.ifM_e, DD.andM_e, DD.orM_e, DD.notM_e, DD.nilM_e, DD.consM_e, DD.callM_e, DD.tupM_e, DD.lstM_e, DD.bmM_e, DD.smM_e, DD.asgM_e, DD.subG_e, DD.nameG_e, DD.slM_e, DD.om_none, DD.om_some, DD.fldSetM_e, DD.toldM_e, DD.add_ii, DD.add_tt, DD.sub_ii, DD.mul_ii, DD.lt_ii, DD.le_ii, DD.gt_ii, DD.ge_ii, DD.fdiv_ii, DD.mod_ii, DD.eq_ii, DD.ne_ii, DD.eq_ss, DD.ne_ss, DD.fld_e, DD.len_t, DD.len_s, DD.append_e, DD.extend_t, DD.extend_r, DD.tup_r, DD.it_t, DD.sl_t, DD.callF, List.length_append, List.length_cons, List.length_nil, List.append_nil, Nat.reduceAdd, List.set_cons_zero, List.set_cons_succ, ↓reduceIte, Bool.not_true, Bool.not_false, Nat.zero_le]
  rw [seqM_e, setM_e, er0, toS_ok, sbind_nx]
  simp only [List.set_cons_zero, List.set_cons_succ]
  rw [forM_e, varM_1, toS_ok, lstIt_e hq]
  simp only []
  obtain ⟨τ', h', b1, b2⟩ := for_list (φ := en) (f := tupG ([3, 4].map nameG)) (b := _law_hear_f0b) (live := isLst q (l.map en))
    (P := fun r τ hh => (∃ o3 o4, τ = [some (.ref (a (.lview x))), some (.ref q), some (.ref (a (.lrows x))), o3, o4]) ∧ hh[q]? = some (.lst (l.map en)) ∧ (∀ p ∈ r, p.1 ∈ ns) ∧ ∃ S1, Cr ns true a S1 hh ∧ Ft ns true a h hh ∧ lhearS S1 x r = lhearS S x l) (fun _ _ _ p => isLst_mk p.2.1)
    (fun p r τ hh w => by
      obtain ⟨⟨o3, o4, rfl⟩, hq1, hr, S1, C1, F1, e1⟩ := w
      have g := C1.lview hx
      have hp := hr p (by simp)
      have eu : tupG ([3, 4].map nameG) (en p) [some (.ref (a (.lview x))), some (.ref q), some (.ref (a (.lrows x))), o3, o4] hh = .nx [some (.ref (a (.lview x))), some (.ref q), some (.ref (a (.lrows x))), some (.str p.1), some (.int (p.2 : Int))] hh := tup12
      rw [eu, sbind_nx]
      unfold _law_hear_f0b
      have e1' : lhearS (lhear1 S1 x p) x r = lhearS S x l := e1
      obtain ⟨kvs, g2, i2⟩ := C1.lrows hx
      obtain ⟨kv3, g3, i3⟩ := C1.lgone hx
      generalize hτ : [some (D.ref (a (.lview x))), some (.ref q), some (.ref (a (.lrows x))), some (.str p.1), some (.int (p.2 : Int))] = τ
      have s0 : Sl τ 0 (.ref (a (.lview x))) := by rw [← hτ]; rfl
      have s2 : Sl τ 2 (.ref (a (.lrows x))) := by rw [← hτ]; rfl
      have s3 : Sl τ 3 (.str p.1) := by rw [← hτ]; rfl
      have s4 : Sl τ 4 (.int (p.2 : Int)) := by rw [← hτ]; rfl
      have ec : orM (andM (binM (varM 3) (varM 2) dinM) (binM (varM 4) (binM (binM (varM 2) (varM 3) dgetM) (cM (.int 0)) itM) gtM)) (andM (binM (varM 3) (varM 2) dninM) (binM (varM 4) (dg2M (binM (varM 0) (cM (.str "gone")) dgetM) (varM 3) (binM (cM (.int 0)) (cM (.int 1)) subM)) gtM)) τ hh = .ok (.bl (decide (kn (S1.lrow x) (S1.gn x) p.1 < (p.2 : Int)))) hh := by
        cases er : S1.lrow x p.1 with
        | some z =>
          have er' : (S1.lrow x p.1).map pr = some (.tup [.int (z.1 : Int), .int (z.2 : Int)]) := by rw [er]; rfl
          have ei : ((S1.lrow x p.1).map pr).isSome = true := by rw [er']; rfl
          have ek : kn (S1.lrow x) (S1.gn x) p.1 = z.1 := by unfold kn; rw [er]
          rw [ek]
          have m3 : varM 3 τ hh = .ok (.str p.1) hh := varM_at s3
          have m2 : varM 2 τ hh = .ok (.ref (a (.lrows x))) hh := varM_at s2
          have m4 : varM 4 τ hh = .ok (.int (p.2 : Int)) hh := varM_at s4
          rw [orM_e, andM_e, binM_e, m3, bind_ok, m2, bind_ok, din_run (x := p.1) g2 i2, ei, bind_ok]
          simp only []
          rw [binM_e, m4, bind_ok, binM_e, binM_e, m2, bind_ok, m3, bind_ok, dget_run g2 i2 er', bind_ok, cM_e, bind_ok, it_t, show atI [D.int (z.1 : Int), .int (z.2 : Int)] 0 = some (.int (z.1 : Int)) from rfl]
          simp only []
          rw [bind_ok, gt_ii, bind_ok]
          cases hd : decide ((z.1 : Int) < (p.2 : Int)) with
          | true => rfl
          | false =>
            simp only []
            rw [andM_e, binM_e, m3, bind_ok, m2, bind_ok, dnin_run (x := p.1) g2 i2, ei, bind_ok]
            rfl
        | none =>
          have ei : ((S1.lrow x p.1).map pr).isSome = false := by rw [er]; rfl
          have m3 : varM 3 τ hh = .ok (.str p.1) hh := varM_at s3
          have m2 : varM 2 τ hh = .ok (.ref (a (.lrows x))) hh := varM_at s2
          have m4 : varM 4 τ hh = .ok (.int (p.2 : Int)) hh := varM_at s4
          have m0 : varM 0 τ hh = .ok (.ref (a (.lview x))) hh := varM_at s0
          have e2 : dg2M (binM (varM 0) (cM (.str "gone")) dgetM) (varM 3) (binM (cM (.int 0)) (cM (.int 1)) subM) τ hh = .ok (((S1.gn x p.1).map ni).getD (.int (-1))) hh :=
            dg2_run g3 i3 (by rw [binM_e, m0, bind_ok, cM_e, bind_ok, lw2 g]) m3 rfl
          have ek : ((S1.gn x p.1).map ni).getD (.int (-1)) = .int (kn (S1.lrow x) (S1.gn x) p.1) := by
            unfold kn
            rw [er]
            cases S1.gn x p.1 <;> rfl
          rw [orM_e, andM_e, binM_e, m3, bind_ok, m2, bind_ok, din_run (x := p.1) g2 i2, ei, bind_ok]
          simp only []
          rw [bind_ok]
          simp only []
          rw [andM_e, binM_e, m3, bind_ok, m2, bind_ok, dnin_run (x := p.1) g2 i2, ei, bind_ok]
          simp only [Bool.not_false]
          rw [binM_e, m4, bind_ok, e2, bind_ok, ek, gt_ii]
      by_cases hk : kn (S1.lrow x) (S1.gn x) p.1 < p.2
      · have hd : decide (kn (S1.lrow x) (S1.gn x) p.1 < (p.2 : Int)) = true := decide_eq_true hk
        have eh : lhear1 S1 x p = { S1 with lrow := up S1.lrow x (up (S1.lrow x) p.1 (some (p.2, S1.ltime x))) } := if_pos hk
        have i4 := i2.put (x := p.1) (d := pr (p.2, S1.ltime x)) hp
        rw [← map_up (b := (p.2, S1.ltime x)) (g := pr)] at i4
        have C2 := C1.setLr hx i4
        have hq2 : (hh.set (a (.lrows x)) (.dct (putKD kvs (.inr p.1) (pr (p.2, S1.ltime x)))))[q]? = some (.lst (l.map en)) := by rw [get_set_ne (fr (.lrows x) ⟨rfl, hx⟩)]; exact hq1
        refine ⟨τ, _, ?_, ⟨_, _, hτ.symm⟩, hq2, fun q hq => hr q (by simp [hq]), _, C2, F1.trans (Ft.set (t := Tg.lrows x) ⟨rfl, hx⟩), by rw [← e1', eh]⟩
        rw [ifSM_e, ec, hd, toS_ok]
        simp only []
        simp only [varM_at s0, varM_at s2, varM_at s3, varM_at s4, lw1 g, sz2, show D.tup [.int (p.2 : Int), .int (S1.ltime x : Int)] = pr (p.2, S1.ltime x) from rfl, dset_run g2 i2 A.few, DD.bind_ok, DD.bind_exc, DD.toS_ok, DD.toS_exc, DD.bindL_ok, DD.bindL_exc, DD.lbind_ok, DD.lbind_exc, DD.bindE_ok, DD.bindE_exc, DD.sbind_nx, DD.sbind_rt, DD.sbind_exc, DD.sbind_bk, DD.sbind_ct, DD.ret_nx, DD.ret_rt, DD.ret_exc, DD.varM_0, DD.varM_1, DD.varM_2, DD.varM_3, DD.varM_4, DD.varM_5, DD.cM_e, DD.binM_e, DD.unM_e, DD.seqM_e, DD.setM_e, DD.exprM_e, DD.retM_e, DD.raiseM_e, DD.passM_e, DD.brkM_e, DD.ifSM_e, DD.ifM_e, DD.andM_e, DD.orM_e, DD.notM_e, DD.nilM_e, DD.consM_e, DD.callM_e, DD.tupM_e, DD.lstM_e, DD.bmM_e, DD.smM_e, DD.asgM_e, DD.subG_e, DD.nameG_e, DD.slM_e, DD.om_none, DD.om_some, DD.fldSetM_e, DD.toldM_e, DD.add_ii, DD.add_tt, DD.sub_ii, DD.mul_ii, DD.lt_ii, DD.le_ii, DD.gt_ii, DD.ge_ii, DD.fdiv_ii, DD.mod_ii, DD.eq_ii, DD.ne_ii, DD.eq_ss, DD.ne_ss, DD.fld_e, DD.len_t, DD.len_s, DD.append_e, DD.extend_t, DD.extend_r, DD.tup_r, DD.it_t, DD.sl_t, DD.callF, List.length_append, List.length_cons, List.length_nil, List.append_nil, Nat.reduceAdd, List.set_cons_zero, List.set_cons_succ, ↓reduceIte, Bool.not_true, Bool.not_false, Nat.zero_le]
      · have hd : decide (kn (S1.lrow x) (S1.gn x) p.1 < (p.2 : Int)) = false := decide_eq_false hk
        have eh : lhear1 S1 x p = S1 := if_neg hk
        refine ⟨τ, hh, ?_, ⟨_, _, hτ.symm⟩, hq1, fun q hq => hr q (by simp [hq]), S1, C1, F1, by rw [← e1', eh]⟩
        rw [ifSM_e, ec, hd, toS_ok]
        rfl) l _ h ⟨⟨_, _, rfl⟩, hq, hl, S, C, Ft.refl, rfl⟩
  obtain ⟨_, _, _, S1, C1, F1, e1⟩ := b2
  refine ⟨h', by rw [b1, ret_nx], ?_, F1⟩
  rw [← e1]
  exact C1
end
end K08
end

section
set_option Elab.async false
set_option linter.all false
set_option maxRecDepth 100000
set_option maxHeartbeats 2000000
namespace K08
open PySem L2 DD
noncomputable def p1 : SM := (exprM (methF "tick" 1 1 [] F_View_tick (binM (unM (varM 3) (fldM "views" cs_views)) (varM 12) dgetM) nilM))
noncomputable def p2 : SM := (setM 14 (binM (varM 4) (varM 12) dgetM))
noncomputable def p3 : SM := (asgM (tupM (consM (binM (binM (varM 14) (cM (.str "time")) dgetM) (cM (.int 1)) addM) (consM (binM (varM 14) (cM (.str "rows")) dgetM) nilM))) (tupX [(subG (varM 14) (cM (.str "time")) setDF), (nameG 16)]))
noncomputable def p4 : SM := (asgM (tupM (consM (binM (binM (binM (varM 16) (varM 12) dgetM) (cM (.int 0)) itM) (cM (.int 1)) addM) (consM (binM (varM 14) (cM (.str "time")) dgetM) nilM))) (subG (varM 16) (varM 12) setDF))
theorem f0_eq : law_f0b = seqM p1 (seqM p2 (seqM p3 (p4))) := rfl
noncomputable def u1 : SM := (setM 18 (binM (binM (varM 4) (varM 12) dgetM) (cM (.str "gone")) dgetM))
noncomputable def u2 : SM := (asgM (binM (dp1M (varM 16) (varM 6)) (cM (.int 0)) itM) (subG (varM 18) (varM 6) setDF))
theorem f1_eq : law_f1b = seqM u1 (u2) := rfl
noncomputable def c1 : SM := (setM 14 (binM (unM (varM 3) (fldM "views" cs_views)) (varM 6) dgetM))
noncomputable def c2 : SM := (ifSM (orM (binM (callM (consM (methF "news" 1 1 [] F_View_news (varM 14) nilM) nilM) listF) (callM (consM (binM (varM 4) (varM 6) dgetM) nilM) (callF 1 [] F__law_news)) neM) (binM (lcQ (callM (consM (unM (varM 14) (fldM "rows" cs_rows)) nilM) sortedF) lstIt (nameG 19) none (methF "state_of" 1 2 [] F_View_state_of (varM 14) (consM (varM 19) nilM)) [19]) (lcQ (callM (consM (binM (binM (varM 4) (varM 6) dgetM) (cM (.str "rows")) dgetM) nilM) sortedF) lstIt (nameG 19) none (callM (consM (binM (varM 4) (varM 6) dgetM) (consM (varM 19) (consM (varM 6) nilM))) (callF 3 [] F__law_state)) [19]) neM)) (retM (cM (.bl false))) passM)
noncomputable def c3 : SM := (ifSM (binM (methF "names_in" 1 2 [] F_View_names_in (varM 14) (consM (cM (.str "alive")) nilM)) (lcQ (callM (consM (binM (binM (varM 4) (varM 6) dgetM) (cM (.str "rows")) dgetM) nilM) sortedF) lstIt (nameG 19) (some (binM (callM (consM (binM (varM 4) (varM 6) dgetM) (consM (varM 19) (consM (varM 6) nilM))) (callF 3 [] F__law_state)) (cM (.str "alive")) eqM)) (varM 19) [19]) neM) (retM (cM (.bl false))) passM)
theorem f2_eq : law_f2b = seqM c1 (seqM c2 (c3)) := rfl
noncomputable def s1 : SM := (asgM (tupM (consM (callM (consM (varM 1) (consM (cM (.int 6)) nilM)) (callF 2 [] (R__law_roll 5))) (consM (binM (varM 2) (callM (consM (varM 1) (consM (callM (consM (varM 2) nilM) lenF) nilM)) (callF 2 [] (R__law_roll 5))) itM) (consM (binM (varM 2) (callM (consM (varM 1) (consM (callM (consM (varM 2) nilM) lenF) nilM)) (callF 2 [] (R__law_roll 5))) itM) nilM)))) (tupG ([11, 12, 13].map nameG)))
noncomputable def s2 : SM := (ifSM (binM (varM 11) (cM (.int 3)) ltM) (DD.forM (binM (cM (.int 1)) (binM (cM (.int 4)) (callM (consM (binM (varM 11) (cM (.int 2)) eqM) nilM) intF) mulM) addM) rngIt1 (nameG 7) (law_f0b)) (ifSM (binM (varM 11) (cM (.int 5)) ltM) (seqM (exprM (methF "hear" 1 2 [] F_View_hear (binM (unM (varM 3) (fldM "views" cs_views)) (varM 12) dgetM) (consM (methF "news" 1 1 [] F_View_news (binM (unM (varM 3) (fldM "views" cs_views)) (varM 13) dgetM) nilM) nilM))) (exprM (callM (consM (binM (varM 4) (varM 12) dgetM) (consM (callM (consM (binM (varM 4) (varM 13) dgetM) nilM) (callF 1 [] F__law_news)) nilM)) (callF 2 [] F__law_hear)))) (seqM (setM 15 (methF "forget_dead" 1 1 [] F_View_forget_dead (binM (unM (varM 3) (fldM "views" cs_views)) (varM 12) dgetM) nilM)) (seqM (setM 16 (binM (binM (varM 4) (varM 12) dgetM) (cM (.str "rows")) dgetM)) (seqM (setM 17 (lcQ (callM (consM (varM 16) nilM) sortedF) lstIt (nameG 6) (some (binM (callM (consM (binM (varM 4) (varM 12) dgetM) (consM (varM 6) (consM (varM 12) nilM))) (callF 3 [] F__law_state)) (cM (.str "dead")) eqM)) (varM 6) [6])) (seqM (ifSM (binM (varM 15) (varM 17) neM) (retM (cM (.bl false))) passM) (DD.forM (varM 17) lstIt (nameG 6) (law_f1b))))))))
noncomputable def s3 : SM := (DD.forM (varM 2) lstIt (nameG 6) (law_f2b))
theorem f3_eq : law_f3b = seqM s1 (seqM s2 (s3)) := rfl
noncomputable def sA : SM := (DD.forM (binM (cM (.int 1)) (binM (cM (.int 4)) (callM (consM (binM (varM 11) (cM (.int 2)) eqM) nilM) intF) mulM) addM) rngIt1 (nameG 7) (law_f0b))
noncomputable def b1 : SM := (exprM (methF "hear" 1 2 [] F_View_hear (binM (unM (varM 3) (fldM "views" cs_views)) (varM 12) dgetM) (consM (methF "news" 1 1 [] F_View_news (binM (unM (varM 3) (fldM "views" cs_views)) (varM 13) dgetM) nilM) nilM)))
noncomputable def b2 : SM := (exprM (callM (consM (binM (varM 4) (varM 12) dgetM) (consM (callM (consM (binM (varM 4) (varM 13) dgetM) nilM) (callF 1 [] F__law_news)) nilM)) (callF 2 [] F__law_hear)))
theorem sB_eq : (seqM (exprM (methF "hear" 1 2 [] F_View_hear (binM (unM (varM 3) (fldM "views" cs_views)) (varM 12) dgetM) (consM (methF "news" 1 1 [] F_View_news (binM (unM (varM 3) (fldM "views" cs_views)) (varM 13) dgetM) nilM) nilM))) (exprM (callM (consM (binM (varM 4) (varM 12) dgetM) (consM (callM (consM (binM (varM 4) (varM 13) dgetM) nilM) (callF 1 [] F__law_news)) nilM)) (callF 2 [] F__law_hear)))) = seqM b1 (b2) := rfl
noncomputable def k1 : SM := (setM 15 (methF "forget_dead" 1 1 [] F_View_forget_dead (binM (unM (varM 3) (fldM "views" cs_views)) (varM 12) dgetM) nilM))
noncomputable def k2 : SM := (setM 16 (binM (binM (varM 4) (varM 12) dgetM) (cM (.str "rows")) dgetM))
noncomputable def k3 : SM := (setM 17 (lcQ (callM (consM (varM 16) nilM) sortedF) lstIt (nameG 6) (some (binM (callM (consM (binM (varM 4) (varM 12) dgetM) (consM (varM 6) (consM (varM 12) nilM))) (callF 3 [] F__law_state)) (cM (.str "dead")) eqM)) (varM 6) [6]))
noncomputable def k4 : SM := (ifSM (binM (varM 15) (varM 17) neM) (retM (cM (.bl false))) passM)
noncomputable def k5 : SM := (DD.forM (varM 17) lstIt (nameG 6) (law_f1b))
theorem sC_eq : (seqM (setM 15 (methF "forget_dead" 1 1 [] F_View_forget_dead (binM (unM (varM 3) (fldM "views" cs_views)) (varM 12) dgetM) nilM)) (seqM (setM 16 (binM (binM (varM 4) (varM 12) dgetM) (cM (.str "rows")) dgetM)) (seqM (setM 17 (lcQ (callM (consM (varM 16) nilM) sortedF) lstIt (nameG 6) (some (binM (callM (consM (binM (varM 4) (varM 12) dgetM) (consM (varM 6) (consM (varM 12) nilM))) (callF 3 [] F__law_state)) (cM (.str "dead")) eqM)) (varM 6) [6])) (seqM (ifSM (binM (varM 15) (varM 17) neM) (retM (cM (.bl false))) passM) (DD.forM (varM 17) lstIt (nameG 6) (law_f1b)))))) = seqM k1 (seqM k2 (seqM k3 (seqM k4 (k5)))) := rfl
theorem s2_eq : s2 = ifSM (binM (varM 11) (cM (.int 3)) ltM) sA (ifSM (binM (varM 11) (cM (.int 5)) ltM) (seqM b1 b2) (seqM k1 (seqM k2 (seqM k3 (seqM k4 k5))))) := rfl
noncomputable def g1 : SM := (setM 10 (methF "agree_on" 2 2 [] F_Crowd_agree_on (varM 3) (consM (varM 6) nilM)))
noncomputable def g2 : SM := (ifSM (orM (andM (binM (varM 6) (varM 9) inM) (andM (binM (varM 8) (lstM nilM) neM) (binM (varM 10) (lstM (consM (cM (.str "dead")) nilM)) neM))) (andM (binM (varM 8) (lstM nilM) eqM) (binM (varM 10) (lstM nilM) neM))) (retM (cM (.bl false))) passM)
noncomputable def g3 : SM := (ifSM (orM (andM (binM (varM 6) (varM 8) inM) (binM (lcQ (varM 10) lstIt (nameG 12) (some (binM (varM 12) (cM (.str "dead")) eqM)) (varM 12) [12]) (lstM nilM) neM)) (andM (binM (varM 6) (varM 8) inM) (andM (binM (callM (consM (varM 8) nilM) lenF) (cM (.int 1)) eqM) (binM (varM 10) (lstM (consM (cM (.str "alive")) nilM)) neM)))) (retM (cM (.bl false))) passM)
noncomputable def g4 : SM := (ifSM (andM (binM (callM (consM (varM 2) nilM) lenF) (cM (.int 1)) gtM) (binM (methF "partner" 2 2 [] F_Crowd_partner (varM 3) (consM (varM 6) nilM)) (lcQ (varM 2) lstIt (nameG 12) (some (binM (varM 12) (varM 6) neM)) (varM 12) [12]) ninM)) (retM (cM (.bl false))) passM)
theorem f6_eq : law_f6b = seqM g1 (seqM g2 (seqM g3 (g4))) := rfl
noncomputable def e1 : SM := (setM 2 (slM (lstM (consM (cM (.str "p")) (consM (cM (.str "q")) (consM (cM (.str "r")) (consM (cM (.str "s")) (consM (cM (.str "t")) (consM (cM (.str "u")) nilM))))))) .none (.some (binM (cM (.int 2)) (callM (consM (varM 1) (consM (cM (.int 5)) nilM)) (callF 2 [] (R__law_roll 5))) addM))))
noncomputable def e2 : SM := (setM 3 (callM (consM (varM 2) (consM (callM (consM (varM 1) (consM (cM (.int 1000)) nilM)) (callF 2 [] (R__law_roll 5))) nilM)) (makeF 2 3 [] F_Crowd_init)))
noncomputable def e3 : SM := (setM 4 (callM (consM (lcQ (varM 2) lstIt (nameG 6) none (tupM (consM (varM 6) (consM (dispM [((cM (.str "time")), (cM (.int 0))), ((cM (.str "gone")), dnewM), ((cM (.str "rows")), (callM (consM (lcQ (varM 2) lstIt (nameG 12) none (tupM (consM (varM 12) (consM (tupM (consM (cM (.int 0)) (consM (cM (.int 0)) nilM))) nilM))) [12]) nilM) dictF))]) nilM))) [6]) nilM) dictF))
noncomputable def e4 : SM := (DD.forM (callM (consM (varM 1) (consM (cM (.int 61)) nilM)) (callF 2 [] (R__law_roll 5))) rngIt1 (nameG 5) (law_f3b))
noncomputable def e5 : SM := (asgM (tupM (consM (callM (consM (varM 2) (consM (callM (consM (varM 1) (consM (cM (.int 1000)) nilM)) (callF 2 [] (R__law_roll 5))) nilM)) (makeF 2 3 [] F_Crowd_init)) (consM (lcQ (varM 2) lstIt (nameG 6) (some (binM (callM (consM (varM 1) (consM (cM (.int 3)) nilM)) (callF 2 [] (R__law_roll 5))) (cM (.int 0)) eqM)) (varM 6) [6]) nilM))) (tupG ([3, 9].map nameG)))
noncomputable def e6 : SM := (DD.forM (varM 9) lstIt (nameG 6) (law_f4b))
noncomputable def e7 : SM := (DD.forM (cM (.int 120)) rngIt1 (nameG 7) (law_f5b))
noncomputable def e8 : SM := (setM 8 (lcQ (varM 2) lstIt (nameG 6) (some (binM (varM 6) (varM 9) ninM)) (varM 6) [6]))
noncomputable def e9 : SM := (DD.forM (varM 2) lstIt (nameG 6) (law_f6b))
noncomputable def e10 : SM := (ifSM (binM (varM 9) (lstM nilM) neM) (seqM (exprM (methF "set_down" 2 3 [] F_Crowd_set_down (varM 3) (consM (binM (varM 9) (cM (.int 0)) itM) (consM (cM (.bl false)) nilM)))) (seqM (exprM (methF "tell_round" 2 1 [] F_Crowd_tell_round (varM 3) nilM)) (ifSM (binM (unM (binM (unM (varM 3) (fldM "views" cs_views)) (binM (varM 9) (cM (.int 0)) itM) dgetM) (fldM "time" cs_time)) (cM (.int 1)) neM) (retM (cM (.bl false))) passM))) passM)
theorem f7_eq : law_f7b = seqM e1 (seqM e2 (seqM e3 (seqM e4 (seqM e5 (seqM e6 (seqM e7 (seqM e8 (seqM e9 (e10))))))))) := rfl
noncomputable def w1 : SM := (DD.forM (callM (consM (varM 0) (consM (cM (.int 1)) nilM)) (callF 2 [] F__law_rounds)) lstIt (nameG 1) (law_f7b))
noncomputable def w2 : SM := (ifSM (orM (binM (toldM ci_MachineError "MachineError" (callM (consM (cM (.str "x")) (consM (lstM (consM (cM (.str "y")) nilM)) nilM)) (makeF 1 3 [] F_View_init))) (cM (.str "MachineError")) neM) (binM (toldM ci_MachineError "MachineError" (methF "set_down" 2 3 [] F_Crowd_set_down (callM (consM (lstM (consM (cM (.str "a")) (consM (cM (.str "b")) nilM))) nilM) (makeF 2 3 [(.int 1)] F_Crowd_init)) (consM (cM (.str "c")) (consM (cM (.bl true)) nilM)))) (cM (.str "MachineError")) neM)) (retM (cM (.bl false))) passM)
noncomputable def w3 : SM := (retM (binM (toldM ci_MachineError "MachineError" (methF "state_of" 1 2 [] F_View_state_of (callM (consM (cM (.str "a")) (consM (lstM (consM (cM (.str "a")) nilM)) nilM)) (makeF 1 3 [] F_View_init)) (consM (cM (.str "b")) nilM))) (cM (.str "MachineError")) eqM))
theorem ml_eq : m_law = seqM w1 (seqM w2 (w3)) := rfl
end K08
end

section
set_option Elab.async false
set_option linter.all false
set_option maxRecDepth 100000
set_option maxHeartbeats 2000000
namespace K08
open PySem L2 DD
/-- the law's slots -/
structure Sv (a : Tg → Nat) (τ : SL) : Prop where
  len : τ.length = 20
  s1 : Sl τ 1 (.ref (a .dice))
  s2 : Sl τ 2 (.ref (a .names))
  s3 : Sl τ 3 (.ref (a .crowd))
  s4 : Sl τ 4 (.ref (a .lviews))
theorem Sv.set {a : Tg → Nat} {τ : SL} {i : Nat} {o : Option D} (v : Sv a τ) (hi : i ∉ [1, 2, 3, 4]) : Sv a (τ.set i o) := by
  simp only [List.mem_cons, List.not_mem_nil, or_false, not_or] at hi
  exact ⟨len_set v.len, v.s1.set hi.1, v.s2.set hi.2.1, v.s3.set hi.2.2.1, v.s4.set hi.2.2.2⟩
/-- the law's views are the crowd's -/
structure Eqv (ns : List Str) (S : St) : Prop where
  time : ∀ x ∈ ns, S.ltime x = S.time x
  row : ∀ x ∈ ns, S.lrow x = S.row x
  fg : ∀ x ∈ ns, ∀ y, S.row x y = none → S.fg x y = S.gn x y
  own : ∀ x ∈ ns, ∃ c, S.row x x = some (c, S.time x)
section
variable {ns : List Str} {lw : Bool} {a : Tg → Nat} {S S' : St} {h h' h'' : AH} {x y z : Str} {o : O} {t s : Tg} {i : Nat} {τ : SL}
theorem ev_view (C : Cr ns lw a S h) (s3 : Sl τ 3 (.ref (a .crowd))) (si : Sl τ i (.str x)) (hx : x ∈ ns) : binM (unM (varM 3) (fldM "views" cs_views)) (varM i) dgetM τ h = .ok (.ref (a (.view x))) h := by
  obtain ⟨kvs, g, i2⟩ := C.views
  rw [binM_e, unM_e, varM_at s3, bind_ok, rc1 C.crowd, bind_ok, varM_at si, bind_ok, dget_run g i2 (refs_some hx)]
theorem ev_lview (C : Cr ns true a S h) (s4 : Sl τ 4 (.ref (a .lviews))) (si : Sl τ i (.str x)) (hx : x ∈ ns) : binM (varM 4) (varM i) dgetM τ h = .ok (.ref (a (.lview x))) h := by
  obtain ⟨kvs, g, i2⟩ := C.lviews
  rw [binM_e, varM_at s4, bind_ok, varM_at si, bind_ok, dget_run g i2 (refs_some hx)]
/-! ### ticks -/
def ltickS (S : St) (x : Str) (c : Nat) : St := { S with ltime := up S.ltime x (S.ltime x + 1), lrow := up S.lrow x (up (S.lrow x) x (some (c + 1, S.ltime x + 1))) }
theorem Eqv.tick (E : Eqv ns S) (hx : x ∈ ns) {c : Nat} (er : S.row x x = some (c, S.time x)) : Eqv ns (ltickS (tickS S x c) x c) := by
  have h1 := E.time x hx
  have h2 := E.row x hx
  refine ⟨fun z hz => ?_, fun z hz => ?_, fun z hz y hy => ?_, fun z hz => ?_⟩
  · simp only [ltickS, tickS]
    by_cases e : z = x
    · subst e; simp only [up_eq, h1]
    · simp only [up_ne e]; exact E.time z hz
  · simp only [ltickS, tickS]
    by_cases e : z = x
    · subst e; simp only [up_eq, h1, h2]
    · simp only [up_ne e]; exact E.row z hz
  · simp only [ltickS, tickS] at hy ⊢
    by_cases e : z = x
    · subst e
      rw [up_eq] at hy
      by_cases q : y = z
      · subst q; rw [up_eq] at hy; cases hy
      · rw [up_ne q] at hy; exact E.fg z hz y hy
    · rw [up_ne e] at hy; exact E.fg z hz y hy
  · simp only [ltickS, tickS]
    by_cases e : z = x
    · subst e; exact ⟨c + 1, by simp only [up_eq]⟩
    · simp only [up_ne e]; exact E.own z hz
theorem unpX {p q : D} {f g : TM} {τ : SL} {h : AH} : tupX [f, g] (.tup [p, q]) τ h = (f p τ h).bind fun τ1 h1 => (g q τ1 h1).bind fun τ2 h2 => .nx τ2 h2 := by
  rfl
theorem ticks1 (C : Cr ns true a S h) (A : Asc ns) (E : Eqv ns S) (v : Sv a τ) (s12 : Sl τ 12 (.str x)) (hx : x ∈ ns) :
    ∃ τ' h' S', law_f0b τ h = .nx τ' h' ∧ Sv a τ' ∧ Sl τ' 12 (.str x) ∧ Cr ns true a S' h' ∧ Eqv ns S' := by
  obtain ⟨c, er⟩ := E.own x hx
  obtain ⟨h1, a1, C1, F1⟩ := tick_run C A hx er
  have et : methF "tick" 1 1 [] F_View_tick (binM (unM (varM 3) (fldM "views" cs_views)) (varM 12) dgetM) nilM τ h = .ok .non h1 := by
    rw [meth_v (C.view hx) rfl (ev_view C v.s3 s12 hx), nilM_e, bindE_ok]
    exact a1
  rw [f0_eq, seqM_e]
  unfold p1
  rw [exprM_e, et, toS_ok, sbind_nx, seqM_e]
  unfold p2
  rw [setM_e, ev_lview C1 v.s4 s12 hx, toS_ok, sbind_nx]
  have l14 : Sl (τ.set 14 (some (.ref (a (.lview x))))) 14 (.ref (a (.lview x))) := Sl.new (by rw [v.len]; decide)
  have v1 := v.set (i := 14) (o := some (.ref (a (.lview x)))) (by decide)
  have t12 := s12.set (j := 14) (o := some (.ref (a (.lview x)))) (by decide)
  generalize τ.set 14 (some (.ref (a (.lview x)))) = τ1 at *
  have g := C1.lview hx
  have em : tupM (consM (binM (binM (varM 14) (cM (.str "time")) dgetM) (cM (.int 1)) addM) (consM (binM (varM 14) (cM (.str "rows")) dgetM) nilM)) τ1 h1 = .ok (.tup [.int ((S.ltime x + 1 : Nat) : Int), .ref (a (.lrows x))]) h1 := by
    simp only [varM_at l14, lw1 g, lw3 g, sz2, DD.bind_ok, DD.bind_exc, DD.toS_ok, DD.toS_exc, DD.bindL_ok, DD.bindL_exc, DD.lbind_ok, DD.lbind_exc, DD.bindE_ok, DD.bindE_exc, DD.sbind_nx, DD.sbind_rt, DD.sbind_exc, DD.sbind_bk, DD.sbind_ct, DD.ret_nx, DD.ret_rt, DD.ret_exc, DD.varM_0, DD.varM_1, DD.varM_2, DD.varM_3, DD.varM_4, DD.varM_5, DD.cM_e, DD.binM_e, DD.unM_e, DD.seqM_e, DD.setM_e, DD.exprM_e, DD.retM_e, DD.raiseM_e, DD.passM_e, DD.brkM_e, DD.ifSM_e, DD.ifM_e, DD.andM_e, DD.orM_e, DD.notM_e, DD.nilM_e, DD.consM_e, DD.callM_e, DD.tupM_e, DD.lstM_e, DD.bmM_e, DD.smM_e, DD.asgM_e, DD.subG_e, DD.nameG_e, DD.slM_e, DD.om_none, DD.om_some, DD.fldSetM_e, DD.toldM_e, DD.add_ii, DD.add_tt, DD.sub_ii, DD.mul_ii, DD.lt_ii, DD.le_ii, DD.gt_ii, DD.ge_ii, DD.fdiv_ii, DD.mod_ii, DD.eq_ii, DD.ne_ii, DD.eq_ss, DD.ne_ss, DD.fld_e, DD.len_t, DD.len_s, DD.append_e, DD.extend_t, DD.extend_r, DD.tup_r, DD.it_t, DD.sl_t, DD.callF, List.length_append, List.length_cons, List.length_nil, List.append_nil, Nat.reduceAdd, List.set_cons_zero, List.set_cons_succ, ↓reduceIte, Bool.not_true, Bool.not_false, Nat.zero_le]
    rfl
  have C2 := C1.setLt hx (S.ltime x + 1)
  have ew : subG (varM 14) (cM (.str "time")) setDF (.int ((S.ltime x + 1 : Nat) : Int)) τ1 h1 = .nx τ1 (h1.set (a (.lview x)) (.dct (LW (.int ((S.ltime x + 1 : Nat) : Int)) (.ref (a (.lgone x))) (.ref (a (.lrows x)))))) := by
    rw [subG_e, varM_at l14, toS_ok, cM_e, toS_ok]
    simp only [setDF, g, keyD]
    rw [if_pos (by rw [sizeLine_eq]; simp only [List.length_cons, List.length_nil]; decide)]
    rfl
  rw [seqM_e]
  unfold p3
  rw [asgM_e, em, toS_ok, unpX, ew, sbind_nx, nameG_e, sbind_nx, sbind_nx]
  generalize h1.set (a (.lview x)) (.dct (LW (.int ((S.ltime x + 1 : Nat) : Int)) (.ref (a (.lgone x))) (.ref (a (.lrows x))))) = h2 at *
  have l16 : Sl (τ1.set 16 (some (.ref (a (.lrows x))))) 16 (.ref (a (.lrows x))) := Sl.new (by rw [v1.len]; decide)
  have m14 := l14.set (j := 16) (o := some (.ref (a (.lrows x)))) (by decide)
  have v2 := v1.set (i := 16) (o := some (.ref (a (.lrows x)))) (by decide)
  have u12 := t12.set (j := 16) (o := some (.ref (a (.lrows x)))) (by decide)
  generalize τ1.set 16 (some (.ref (a (.lrows x)))) = τ2 at *
  obtain ⟨kvs, g3, i3⟩ := C2.lrows hx
  have g4 := C2.lview hx
  have erl : S.lrow x x = some (c, S.time x) := by rw [E.row x hx]; exact er
  have er' : (S.lrow x x).map pr = some (.tup [.int (c : Int), .int (S.time x : Int)]) := by rw [erl]; rfl
  have i4 := i3.put (x := x) (d := pr (c + 1, S.ltime x + 1)) hx
  rw [← map_up (b := (c + 1, S.ltime x + 1)) (g := pr)] at i4
  refine ⟨τ2, _, _, ?_, v2, u12, C2.setLr hx i4, E.tick hx er⟩
  unfold p4
  have e2 : tupM (consM (binM (binM (binM (varM 16) (varM 12) dgetM) (cM (.int 0)) itM) (cM (.int 1)) addM) (consM (binM (varM 14) (cM (.str "time")) dgetM) nilM)) τ2 h2 = .ok (pr (c + 1, S.ltime x + 1)) h2 := by
    simp only [varM_at l16, varM_at u12, varM_at m14, dget_run g3 i3 er', lw1 g4, sz2, up_eq, show atI [D.int (c : Int), .int (S.time x : Int)] 0 = some (.int (c : Int)) from rfl, DD.bind_ok, DD.bind_exc, DD.toS_ok, DD.toS_exc, DD.bindL_ok, DD.bindL_exc, DD.lbind_ok, DD.lbind_exc, DD.bindE_ok, DD.bindE_exc, DD.sbind_nx, DD.sbind_rt, DD.sbind_exc, DD.sbind_bk, DD.sbind_ct, DD.ret_nx, DD.ret_rt, DD.ret_exc, DD.varM_0, DD.varM_1, DD.varM_2, DD.varM_3, DD.varM_4, DD.varM_5, DD.cM_e, DD.binM_e, DD.unM_e, DD.seqM_e, DD.setM_e, DD.exprM_e, DD.retM_e, DD.raiseM_e, DD.passM_e, DD.brkM_e, DD.ifSM_e, DD.ifM_e, DD.andM_e, DD.orM_e, DD.notM_e, DD.nilM_e, DD.consM_e, DD.callM_e, DD.tupM_e, DD.lstM_e, DD.bmM_e, DD.smM_e, DD.asgM_e, DD.subG_e, DD.nameG_e, DD.slM_e, DD.om_none, DD.om_some, DD.fldSetM_e, DD.toldM_e, DD.add_ii, DD.add_tt, DD.sub_ii, DD.mul_ii, DD.lt_ii, DD.le_ii, DD.gt_ii, DD.ge_ii, DD.fdiv_ii, DD.mod_ii, DD.eq_ii, DD.ne_ii, DD.eq_ss, DD.ne_ss, DD.fld_e, DD.len_t, DD.len_s, DD.append_e, DD.extend_t, DD.extend_r, DD.tup_r, DD.it_t, DD.sl_t, DD.callF, List.length_append, List.length_cons, List.length_nil, List.append_nil, Nat.reduceAdd, List.set_cons_zero, List.set_cons_succ, ↓reduceIte, Bool.not_true, Bool.not_false, Nat.zero_le]
    rfl
  rw [asgM_e, e2, toS_ok, subG_e, varM_at l16, toS_ok, varM_at u12, toS_ok, dset_run g3 i3 A.few]
end
end K08
end

section
set_option Elab.async false
set_option linter.all false
set_option maxRecDepth 100000
set_option maxHeartbeats 2000000
namespace K08
open PySem L2 DD
/-- a view of P and the law's of L -/
structure Rl (P L : St) (x : Str) : Prop where
  time : L.ltime x = P.time x
  row : L.lrow x = P.row x
  fg : ∀ y, P.row x y = none → P.fg x y = L.gn x y
  own : ∃ c, P.row x x = some (c, P.time x)
section
variable {ns : List Str} {lw : Bool} {a : Tg → Nat} {S S' P L : St} {h h' h'' : AH} {x y z : Str} {o : O} {t s : Tg} {i : Nat} {τ : SL}
theorem kn_eq {row : Str → Option (Nat × Nat)} {f g : Str → Option Nat} (e : row y = none → f y = g y) : kn row f y = kn row g y := by
  unfold kn
  cases er : row y with
  | some p => rfl
  | none => rw [e er]
theorem Rl.hear (R : Rl P L x) (p : Str × Nat) : Rl (hear1 P x p) (lhear1 L x p) x := by
  have ek : kn (L.lrow x) (L.gn x) p.1 = kn (P.row x) (P.fg x) p.1 := by
    rw [R.row]
    exact kn_eq fun e => (R.fg _ e).symm
  unfold hear1 lhear1
  rw [ek]
  by_cases hk : kn (P.row x) (P.fg x) p.1 < p.2
  · rw [if_pos hk, if_pos hk]
    refine ⟨R.time, ?_, fun y hy => ?_, ?_⟩
    · simp only [up_eq, R.row, R.time]
    · simp only [up_eq] at hy ⊢
      by_cases q : y = p.1
      · rw [q, up_eq] at hy; cases hy
      · rw [up_ne q] at hy ⊢; exact R.fg y hy
    · simp only [up_eq]
      by_cases q : x = p.1
      · exact ⟨p.2, by rw [← q, up_eq]⟩
      · rw [up_ne q]; exact R.own
  · rw [if_neg hk, if_neg hk]; exact R
theorem Rl.hears : ∀ (l : List (Str × Nat)) {P L : St}, Rl P L x → Rl (hearS P x l) (lhearS L x l) x
  | [], _, _, R => R
  | p :: l, _, _, R => Rl.hears l (R.hear p)
/-- what hearing leaves alone -/
theorem hear_keep : ∀ (l : List (Str × Nat)) (S : St), (hearS S x l).time = S.time ∧ (hearS S x l).ltime = S.ltime ∧ (hearS S x l).lrow = S.lrow ∧ (hearS S x l).gn = S.gn ∧ (hearS S x l).turn = S.turn ∧ (hearS S x l).dn = S.dn ∧ ∀ z, z ≠ x → (hearS S x l).row z = S.row z ∧ (hearS S x l).fg z = S.fg z
  | [], S => ⟨rfl, rfl, rfl, rfl, rfl, rfl, fun _ _ => ⟨rfl, rfl⟩⟩
  | p :: l, S => by
    obtain ⟨k1, k2, k3, k4, k5, k6, k7⟩ := hear_keep l (hear1 S x p)
    have e : hearS S x (p :: l) = hearS (hear1 S x p) x l := rfl
    rw [e, k1, k2, k3, k4, k5, k6]
    unfold hear1 at k7 ⊢
    split
    · rename_i hk
      rw [if_pos hk] at k7
      refine ⟨rfl, rfl, rfl, rfl, rfl, rfl, fun z hz => ?_⟩
      obtain ⟨q1, q2⟩ := k7 z hz
      exact ⟨q1.trans (up_ne hz), q2.trans (up_ne hz)⟩
    · rename_i hk
      rw [if_neg hk] at k7
      exact ⟨rfl, rfl, rfl, rfl, rfl, rfl, k7⟩
theorem lhear_keep : ∀ (l : List (Str × Nat)) (S : St), (lhearS S x l).time = S.time ∧ (lhearS S x l).row = S.row ∧ (lhearS S x l).fg = S.fg ∧ (lhearS S x l).ltime = S.ltime ∧ (lhearS S x l).gn = S.gn ∧ ∀ z, z ≠ x → (lhearS S x l).lrow z = S.lrow z
  | [], S => ⟨rfl, rfl, rfl, rfl, rfl, fun _ _ => rfl⟩
  | p :: l, S => by
    obtain ⟨k1, k2, k3, k4, k5, k7⟩ := lhear_keep l (lhear1 S x p)
    have e : lhearS S x (p :: l) = lhearS (lhear1 S x p) x l := rfl
    rw [e, k1, k2, k3, k4, k5]
    unfold lhear1 at k7 ⊢
    split
    · rename_i hk
      rw [if_pos hk] at k7
      exact ⟨rfl, rfl, rfl, rfl, rfl, fun z hz => (k7 z hz).trans (up_ne hz)⟩
    · rename_i hk
      rw [if_neg hk] at k7
      exact ⟨rfl, rfl, rfl, rfl, rfl, k7⟩
theorem Eqv.rl (E : Eqv ns S) (hx : x ∈ ns) : Rl S S x := ⟨E.time x hx, E.row x hx, E.fg x hx, E.own x hx⟩
theorem Eqv.of (hr : ∀ x ∈ ns, Rl S S x) : Eqv ns S := ⟨fun x hx => (hr x hx).time, fun x hx => (hr x hx).row, fun x hx => (hr x hx).fg, fun x hx => (hr x hx).own⟩
theorem Eqv.hear (E : Eqv ns S) (hx : x ∈ ns) (l : List (Str × Nat)) : Eqv ns (lhearS (hearS S x l) x l) := by
  obtain ⟨k1, k2, k3, k4, k5, k6, k7⟩ := hear_keep (x := x) l S
  obtain ⟨m1, m2, m3, m4, m5, m7⟩ := lhear_keep (x := x) l (hearS S x l)
  refine .of fun z hz => ?_
  have E0 := E.rl hz
  by_cases q : z = x
  · subst q
    have R0 : Rl S (hearS S z l) z := ⟨by rw [k2]; exact E0.time, by rw [k3]; exact E0.row, by rw [k4]; exact E0.fg, E0.own⟩
    have R1 := R0.hears l
    refine ⟨by rw [m1]; exact R1.time, by rw [m2]; exact R1.row, by rw [m2, m3]; exact R1.fg, by rw [m1, m2]; exact R1.own⟩
  · obtain ⟨q1, q2⟩ := k7 z q
    refine ⟨by rw [m1, m4, k1, k2]; exact E0.time, by rw [m2, m7 z q, k3, q1]; exact E0.row, fun y hy => ?_, by rw [m1, m2, k1, q1]; exact E0.own⟩
    rw [m2, q1] at hy
    rw [m3, m5, q2, k4]
    exact E0.fg y hy
theorem newsL_in {row : Str → Option (Nat × Nat)} : ∀ p ∈ newsL ns row, p.1 ∈ ns := fun p hp => by
  obtain ⟨y, hy, rfl⟩ := List.mem_map.mp hp
  exact (List.mem_filter.mp hy).1
theorem hears1 (C : Cr ns true a S h) (A : Asc ns) (E : Eqv ns S) (v : Sv a τ) (s12 : Sl τ 12 (.str x)) (s13 : Sl τ 13 (.str y)) (hx : x ∈ ns) (hy : y ∈ ns) :
    ∃ h' S', seqM b1 b2 τ h = .nx τ h' ∧ Cr ns true a S' h' ∧ Eqv ns S' := by
  obtain ⟨h1, a1, f1⟩ := news_run C A hy
  have C1 := C.frame f1
  have e1 : methF "news" 1 1 [] F_View_news (binM (unM (varM 3) (fldM "views" cs_views)) (varM 13) dgetM) nilM τ h = .ok (.tup ((newsL ns (S.row y)).map en)) h1 := by
    rw [meth_v (C.view hy) rfl (ev_view C v.s3 s13 hy), nilM_e, bindE_ok]
    exact a1
  obtain ⟨h2, a2, C2, F2⟩ := hear_run C1 A hx (l := newsL ns (S.row y)) newsL_in
  have e2 : methF "hear" 1 2 [] F_View_hear (binM (unM (varM 3) (fldM "views" cs_views)) (varM 12) dgetM) (consM (methF "news" 1 1 [] F_View_news (binM (unM (varM 3) (fldM "views" cs_views)) (varM 13) dgetM) nilM) nilM) τ h = .ok .non h2 := by
    rw [meth_v (C.view hx) rfl (ev_view C v.s3 s12 hx), consM_e, e1, bindL_ok, nilM_e, lbind_ok, bindE_ok]
    exact a2
  rw [seqM_e]
  unfold b1
  rw [exprM_e, e2, toS_ok, sbind_nx]
  obtain ⟨k1, k2, k3, k4, k5, k6, k7⟩ := hear_keep (x := x) (newsL ns (S.row y)) S
  obtain ⟨r, h3, a3, g3, l3, f3⟩ := lnews_run C2 A hy
  have el : newsL ns ((hearS S x (newsL ns (S.row y))).lrow y) = newsL ns (S.row y) := by rw [k3, E.row y hy]
  rw [el] at g3
  have C3 := C2.frame f3
  obtain ⟨h4, a4, C4, F4⟩ := lhear_run C3 A hx newsL_in g3 (C2.fresh l3)
  have e3 : callM (consM (binM (varM 4) (varM 13) dgetM) nilM) (callF 1 [] F__law_news) τ h2 = .ok (.ref r) h3 := by
    rw [callM_e, consM_e, ev_lview C2 v.s4 s13 hy, bindL_ok, nilM_e, lbind_ok, bindE_ok]
    exact a3
  refine ⟨h4, _, ?_, C4, E.hear hx _⟩
  unfold b2
  rw [exprM_e, callM_e, consM_e, ev_lview C2 v.s4 s12 hx, bindL_ok, consM_e, e3, bindL_ok, nilM_e, lbind_ok, lbind_ok, bindE_ok]
  have a4' : callF 2 [] F__law_hear [.ref (a (.lview x)), .ref r] h3 = .ok .non h4 := a4
  rw [a4', toS_ok]
/-! ### the dead are forgotten, by both -/
def lforget1 (S : St) (x y : Str) : St := { S with lrow := up S.lrow x (up (S.lrow x) y none), gn := up S.gn x (up (S.gn x) y (some (cnt (S.lrow x y)))) }
def lforgetS (S : St) (x : Str) (l : List Str) : St := l.foldl (fun S y => lforget1 S x y) S
theorem Rl.forget (R : Rl P L x) (hy : y ≠ x) : Rl (forget1 P x y) (lforget1 L x y) x := by
  refine ⟨R.time, ?_, fun z hz => ?_, ?_⟩
  · simp only [forget1, lforget1, up_eq, R.row]
  · simp only [forget1, lforget1, up_eq] at hz ⊢
    by_cases q : z = y
    · rw [q, up_eq, up_eq, R.row]
    · rw [up_ne q] at hz; rw [up_ne q, up_ne q]; exact R.fg z hz
  · simp only [forget1, up_eq]
    rw [up_ne (Ne.symm hy)]; exact R.own
theorem Rl.forgets : ∀ (l : List Str) {P L : St}, (∀ y ∈ l, y ≠ x) → Rl P L x → Rl (forgetS P x l) (lforgetS L x l) x
  | [], _, _, _, R => R
  | p :: l, _, _, hl, R => Rl.forgets l (fun y hy => hl y (by simp [hy])) (R.forget (hl p (by simp)))
theorem forget_keep : ∀ (l : List Str) (S : St), (forgetS S x l).time = S.time ∧ (forgetS S x l).ltime = S.ltime ∧ (forgetS S x l).lrow = S.lrow ∧ (forgetS S x l).gn = S.gn ∧ ∀ z, z ≠ x → (forgetS S x l).row z = S.row z ∧ (forgetS S x l).fg z = S.fg z
  | [], S => ⟨rfl, rfl, rfl, rfl, fun _ _ => ⟨rfl, rfl⟩⟩
  | p :: l, S => by
    obtain ⟨k1, k2, k3, k4, k7⟩ := forget_keep l (forget1 S x p)
    have e : forgetS S x (p :: l) = forgetS (forget1 S x p) x l := rfl
    rw [e, k1, k2, k3, k4]
    refine ⟨rfl, rfl, rfl, rfl, fun z hz => ?_⟩
    obtain ⟨q1, q2⟩ := k7 z hz
    exact ⟨q1.trans (up_ne hz), q2.trans (up_ne hz)⟩
theorem lforget_keep : ∀ (l : List Str) (S : St), (lforgetS S x l).time = S.time ∧ (lforgetS S x l).row = S.row ∧ (lforgetS S x l).fg = S.fg ∧ (lforgetS S x l).ltime = S.ltime ∧ ∀ z, z ≠ x → (lforgetS S x l).lrow z = S.lrow z ∧ (lforgetS S x l).gn z = S.gn z
  | [], S => ⟨rfl, rfl, rfl, rfl, fun _ _ => ⟨rfl, rfl⟩⟩
  | p :: l, S => by
    obtain ⟨k1, k2, k3, k4, k7⟩ := lforget_keep l (lforget1 S x p)
    have e : lforgetS S x (p :: l) = lforgetS (lforget1 S x p) x l := rfl
    rw [e, k1, k2, k3, k4]
    refine ⟨rfl, rfl, rfl, rfl, fun z hz => ?_⟩
    obtain ⟨q1, q2⟩ := k7 z hz
    exact ⟨q1.trans (up_ne hz), q2.trans (up_ne hz)⟩
theorem Eqv.forget (E : Eqv ns S) (hx : x ∈ ns) (l : List Str) (hl : ∀ y ∈ l, y ≠ x) : Eqv ns (lforgetS (forgetS S x l) x l) := by
  obtain ⟨k1, k2, k3, k4, k7⟩ := forget_keep (x := x) l S
  obtain ⟨m1, m2, m3, m4, m7⟩ := lforget_keep (x := x) l (forgetS S x l)
  refine .of fun z hz => ?_
  have E0 := E.rl hz
  by_cases q : z = x
  · subst q
    have R0 : Rl S (forgetS S z l) z := ⟨by rw [k2]; exact E0.time, by rw [k3]; exact E0.row, by rw [k4]; exact E0.fg, E0.own⟩
    have R1 := R0.forgets l hl
    refine ⟨by rw [m1]; exact R1.time, by rw [m2]; exact R1.row, by rw [m2, m3]; exact R1.fg, by rw [m1, m2]; exact R1.own⟩
  · obtain ⟨q1, q2⟩ := k7 z q
    obtain ⟨q3, q4⟩ := m7 z q
    refine ⟨by rw [m1, m4, k1, k2]; exact E0.time, by rw [m2, q3, k3, q1]; exact E0.row, fun y hy => ?_, by rw [m1, m2, k1, q1]; exact E0.own⟩
    rw [m2, q1] at hy
    rw [m3, q4, q2, k4]
    exact E0.fg y hy
theorem stK0 (k : Int) (h : k < 6) : stK k = "alive" := by unfold stK; rw [if_neg (by omega), if_neg (by omega)]
theorem own_alive (E : Eqv ns S) (hx : x ∈ ns) : stOf (S.time x) (S.row x x) = "alive" := by
  obtain ⟨c, e⟩ := E.own x hx
  unfold stOf
  rw [e]
  exact stK0 _ (by simp)
theorem lstOf_eq (E : Eqv ns S) (hx : x ∈ ns) : lstOf (S.ltime x) (S.lrow x y) y x = stOf (S.time x) (S.row x y) := by
  unfold lstOf
  rw [E.time x hx, E.row x hx]
  by_cases q : y = x
  · subst q; rw [if_pos (by simp), own_alive E hx]
  · rw [if_neg (by simpa using q)]
theorem dead_ne (E : Eqv ns S) (hx : x ∈ ns) : ∀ y ∈ namesL ns (S.time x) (S.row x) "dead", y ≠ x := fun y hy e => by
  have h1 := (List.mem_filter.mp hy).2
  rw [e, own_alive E hx] at h1
  revert h1
  decide
/-- the law's list of those in a state: in another def's slots -/
theorem llist_run {j k : Nat} {st : Str} {e : EM} (C : Cr ns true a S h) (A : Asc ns) (hx : x ∈ ns) (s4 : Sl τ 4 (.ref (a .lviews))) (sj : Sl τ j (.str x)) (hjk : k ≠ j) (hk4 : k ≠ 4) (hkl : k < τ.length) (he : e τ h = .ok (.ref (a (.lrows x))) h) :
    ∃ r h', lcQ (callM (consM e nilM) sortedF) lstIt (nameG k) (some (binM (callM (consM (binM (varM 4) (varM j) dgetM) (consM (varM k) (consM (varM j) nilM))) (callF 3 [] F__law_state)) (cM (.str st)) eqM)) (varM k) [k] τ h = .ok (.ref r) h' ∧
      h'[r]? = some (.lst (((ns.filter fun y => (S.lrow x y).isSome).filter fun y => lstOf (S.ltime x) (S.lrow x y) y x == st).map D.str)) ∧ h.length ≤ r ∧ Fr none h h' := by
  obtain ⟨kvs, g2, i2⟩ := C.lrows hx
  have es := sorted_rows (τ := τ) (e := e) A he g2 i2
  obtain ⟨h', b1, b2, b3⟩ := lc_list (mc := some (binM (callM (consM (binM (varM 4) (varM j) dgetM) (consM (varM k) (consM (varM j) nilM))) (callF 3 [] F__law_state)) (cM (.str st)) eqM)) (me := varM k) (own := [k]) (j := k) (p := fun y => lstOf (S.ltime x) (S.lrow x y) y x == st) (g := D.str) es get_new (few_of A _) fun y hy h2 f => by
    have C2 := C.frame (Fr.app.trans f)
    have hs := (List.mem_filter.mp hy).2
    have ew : (wipeD τ [k]).set k (some (D.str y)) = τ.set k (some (.str y)) := by
      show (τ.set k none).set k (some (D.str y)) = _
      rw [List.set_set]
    have t4 := s4.set (j := k) (o := some (.str y)) hk4
    have tj := sj.set (j := k) (o := some (.str y)) hjk
    have tk : Sl (τ.set k (some (.str y))) k (.str y) := Sl.new hkl
    refine ⟨h2, ?_, .refl, fun _ => ⟨h2, ?_, .refl⟩⟩
    · rw [ew]
      show binM _ _ _ _ _ = _
      have := lstate_run (y := y) C2 hx x hs
      rw [binM_e, callM_e, consM_e, ev_lview C2 t4 tj hx, bindL_ok, consM_e, varM_at tk, bindL_ok, consM_e, varM_at tj, bindL_ok, nilM_e, lbind_ok, lbind_ok, lbind_ok, bindE_ok]
      have this' : callF 3 [] F__law_state [.ref (a (.lview x)), .str y, .str x] h2 = .ok (.str (lstOf (S.ltime x) (S.lrow x y) y x)) h2 := this
      rw [this', bind_ok, cM_e, bind_ok, eq_ss]
    · rw [ew, varM_at tk]
  exact ⟨_, h', b1, b2, by simp, Fr.app.trans b3⟩
theorem llist_eq (E : Eqv ns S) (hx : x ∈ ns) (st : Str) : ((ns.filter fun y => (S.lrow x y).isSome).filter fun y => lstOf (S.ltime x) (S.lrow x y) y x == st) = namesL ns (S.time x) (S.row x) st := by
  unfold namesL
  rw [E.row x hx]
  refine List.filter_congr fun y hy => ?_
  have := lstOf_eq (y := y) E hx
  rw [E.row x hx] at this
  rw [this]
mutual
theorem plDs_str : ∀ l : List Str, plDs (l.map D.str) = true
  | [] => rfl
  | x :: l => by simp [plDs, plD, plDs_str l]
end
theorem depDs_str : ∀ l : List Str, depDs (l.map D.str) < 64
  | [] => by simp [depDs]
  | x :: l => by have := depDs_str l; simp [depDs, depD] at this ⊢; omega
theorem plDs_en : ∀ l : List (Str × Nat), plDs (l.map en) = true
  | [] => rfl
  | x :: l => by simp [plDs, plD, en, plDs_en l]
theorem depDs_en : ∀ l : List (Str × Nat), depDs (l.map en) < 64
  | [] => by simp [depDs]
  | x :: l => by have := depDs_en l; simp [depDs, depD, en] at this ⊢; omega
end
end K08
end

section
set_option Elab.async false
set_option linter.all false
set_option maxRecDepth 100000
set_option maxHeartbeats 2000000
namespace K08
open PySem L2 DD
section
variable {ns : List Str} {lw : Bool} {a : Tg → Nat} {S S' P L : St} {h h' h'' : AH} {x y z : Str} {o : O} {t s : Tg} {i : Nat} {τ : SL}
theorem lw2e (C : Cr ns true a S h) (s4 : Sl τ 4 (.ref (a .lviews))) (si : Sl τ i (.str x)) (hx : x ∈ ns) : binM (binM (varM 4) (varM i) dgetM) (cM (.str "gone")) dgetM τ h = .ok (.ref (a (.lgone x))) h := by
  rw [binM_e, ev_lview C s4 si hx, bind_ok, cM_e, bind_ok, lw2 (C.lview hx)]
theorem lw3e (C : Cr ns true a S h) (s4 : Sl τ 4 (.ref (a .lviews))) (si : Sl τ i (.str x)) (hx : x ∈ ns) : binM (binM (varM 4) (varM i) dgetM) (cM (.str "rows")) dgetM τ h = .ok (.ref (a (.lrows x))) h := by
  rw [binM_e, ev_lview C s4 si hx, bind_ok, cM_e, bind_ok, lw3 (C.lview hx)]
theorem forgets1 (C : Cr ns true a S h) (A : Asc ns) (E : Eqv ns S) (v : Sv a τ) (s12 : Sl τ 12 (.str x)) (hx : x ∈ ns) :
    ∃ τ' h' S', seqM k1 (seqM k2 (seqM k3 (seqM k4 k5))) τ h = .nx τ' h' ∧ Sv a τ' ∧ Cr ns true a S' h' ∧ Eqv ns S' := by
  obtain ⟨r1, h1, a1, g1, l1, C1, F1⟩ := forget_run C A hx
  have e1 : methF "forget_dead" 1 1 [] F_View_forget_dead (binM (unM (varM 3) (fldM "views" cs_views)) (varM 12) dgetM) nilM τ h = .ok (.ref r1) h1 := by
    rw [meth_v (C.view hx) rfl (ev_view C v.s3 s12 hx), nilM_e, bindE_ok]
    exact a1
  have dn := dead_ne E hx
  have fin := E.forget hx _ dn
  have le := llist_eq E hx "dead"
  have Lnd : (namesL ns (S.time x) (S.row x) "dead").Nodup := (A.nd.sublist List.filter_sublist).sublist List.filter_sublist
  have Lin : ∀ y ∈ namesL ns (S.time x) (S.row x) "dead", y ∈ ns ∧ (S.row x y).isSome = true := fun y hy => List.mem_filter.mp (List.mem_filter.mp hy).1
  generalize hL : namesL ns (S.time x) (S.row x) "dead" = L at *
  obtain ⟨q1, q2, q3, q4, q7⟩ := forget_keep (x := x) L S
  rw [seqM_e]
  unfold k1
  rw [setM_e, e1, toS_ok, sbind_nx]
  have n15 : Sl (τ.set 15 (some (.ref r1))) 15 (.ref r1) := Sl.new (by rw [v.len]; decide)
  have v1 := v.set (i := 15) (o := some (.ref r1)) (by decide)
  have t12 := s12.set (j := 15) (o := some (.ref r1)) (by decide)
  generalize τ.set 15 (some (.ref r1)) = τ1 at *
  rw [seqM_e]
  unfold k2
  rw [setM_e, lw3e C1 v1.s4 t12 hx, toS_ok, sbind_nx]
  have n16 : Sl (τ1.set 16 (some (.ref (a (.lrows x))))) 16 (.ref (a (.lrows x))) := Sl.new (by rw [v1.len]; decide)
  have m15 := n15.set (j := 16) (o := some (.ref (a (.lrows x)))) (by decide)
  have v2 := v1.set (i := 16) (o := some (.ref (a (.lrows x)))) (by decide)
  have u12 := t12.set (j := 16) (o := some (.ref (a (.lrows x)))) (by decide)
  generalize τ1.set 16 (some (.ref (a (.lrows x)))) = τ2 at *
  obtain ⟨r2, h2, a2, g2, l2, f2⟩ := llist_run (st := "dead") C1 A hx v2.s4 u12 (k := 6) (by decide) (by decide) (by rw [v2.len]; decide) (varM_at n16)
  rw [q2, q3, le] at g2
  rw [seqM_e]
  unfold k3
  rw [setM_e, a2, toS_ok, sbind_nx]
  have n17 : Sl (τ2.set 17 (some (.ref r2))) 17 (.ref r2) := Sl.new (by rw [v2.len]; decide)
  have o16 := n16.set (j := 17) (o := some (.ref r2)) (by decide)
  have o15 := m15.set (j := 17) (o := some (.ref r2)) (by decide)
  have v3 := v2.set (i := 17) (o := some (.ref r2)) (by decide)
  have w12 := u12.set (j := 17) (o := some (.ref r2)) (by decide)
  generalize τ2.set 17 (some (.ref r2)) = τ3 at *
  have C2 := C1.frame f2
  rw [seqM_e]
  unfold k4
  rw [ifSM_e, binM_e, varM_at o15, bind_ok, varM_at n17, bind_ok, ne_lists (f2.getN g1) g2 (plDs_str L) (depDs_str L), toS_ok]
  simp only []
  rw [passM_e, sbind_nx]
  unfold k5
  rw [forM_e, varM_at n17, toS_ok, lstIt_e g2]
  simp only []
  have fr := C1.fresh l2
  obtain ⟨τ', h', b1, b2⟩ := for_list (φ := D.str) (f := nameG 6) (b := law_f1b) (live := isLst r2 (L.map D.str))
    (P := fun q τ hh => Sv a τ ∧ Sl τ 12 (.str x) ∧ Sl τ 16 (.ref (a (.lrows x))) ∧ hh[r2]? = some (.lst (L.map D.str)) ∧ q.Nodup ∧ ∃ S1, Cr ns true a S1 hh ∧ (∀ y ∈ q, y ∈ ns ∧ (S1.lrow x y).isSome = true) ∧ lforgetS S1 x q = lforgetS (forgetS S x L) x L) (fun _ _ _ p => isLst_mk p.2.2.2.1)
    (fun y q τ hh p => by
      obtain ⟨v, s12, s16, hr, nd, S1, C2, hq, e2⟩ := p
      obtain ⟨hy, hs⟩ := hq y (by simp)
      obtain ⟨⟨c, t⟩, er⟩ := Option.isSome_iff_exists.mp hs
      rw [nameG_e, sbind_nx, f1_eq, seqM_e]
      unfold u1
      have n6 : Sl (τ.set 6 (some (.str y))) 6 (.str y) := Sl.new (by rw [v.len]; decide)
      have v1 := v.set (i := 6) (o := some (.str y)) (by decide)
      have t12 := s12.set (j := 6) (o := some (.str y)) (by decide)
      have t16 := s16.set (j := 6) (o := some (.str y)) (by decide)
      generalize τ.set 6 (some (.str y)) = τ1 at *
      rw [setM_e, lw2e C2 v1.s4 t12 hx, toS_ok, sbind_nx]
      have n18 : Sl (τ1.set 18 (some (.ref (a (.lgone x))))) 18 (.ref (a (.lgone x))) := Sl.new (by rw [v1.len]; decide)
      have m6 := n6.set (j := 18) (o := some (.ref (a (.lgone x)))) (by decide)
      have v2 := v1.set (i := 18) (o := some (.ref (a (.lgone x)))) (by decide)
      have u12 := t12.set (j := 18) (o := some (.ref (a (.lgone x)))) (by decide)
      have u16 := t16.set (j := 18) (o := some (.ref (a (.lgone x)))) (by decide)
      generalize τ1.set 18 (some (.ref (a (.lgone x)))) = τ2 at *
      obtain ⟨kvs, g3, i3⟩ := C2.lrows hx
      have er' : (S1.lrow x y).map pr = some (.tup [.int (c : Int), .int (t : Int)]) := by rw [er]; rfl
      have e5 := dp1_run (τ := τ2) (mo := varM 16) (mk := varM 6) g3 i3 (varM_at u16) (varM_at m6) er'
      have i4 := i3.drop (x := y)
      rw [← map_upN (g := pr)] at i4
      have C3 := C2.setLr hx i4
      have hr3 : (hh.set (a (.lrows x)) (.dct (dropKD kvs (.inr y))))[r2]? = some (.lst (L.map D.str)) := by rw [get_set_ne (fr (.lrows x) ⟨rfl, hx⟩)]; exact hr
      generalize hh.set (a (.lrows x)) (.dct (dropKD kvs (.inr y))) = h3 at *
      obtain ⟨kv4, g4, i5⟩ := C3.lgone hx
      have i6 := i5.put (x := y) (d := ni c) hy
      rw [← map_up (b := c) (g := ni)] at i6
      have hr4 : (h3.set (a (.lgone x)) (.dct (putKD kv4 (.inr y) (ni c))))[r2]? = some (.lst (L.map D.str)) := by rw [get_set_ne (fr (.lgone x) ⟨rfl, hx⟩)]; exact hr3
      have ef : lforget1 S1 x y = { S1 with lrow := up S1.lrow x (up (S1.lrow x) y none), gn := up S1.gn x (up (S1.gn x) y (some c)) } := by unfold lforget1; rw [er]; rfl
      obtain ⟨n1, n2⟩ := List.nodup_cons.mp nd
      refine ⟨τ2, _, ?_, v2, u12, u16, hr4, n2, _, C3.setGn hx i6, fun w hw => ?_, ?_⟩
      · unfold u2
        rw [asgM_e, binM_e, e5, bind_ok, cM_e, bind_ok, it_t, show atI [D.int (c : Int), .int (t : Int)] 0 = some (.int (c : Int)) from rfl]
        simp only []
        rw [toS_ok, subG_e, varM_at n18, toS_ok, varM_at m6, toS_ok, show D.int (c : Int) = ni c from rfl, dset_run g4 i5 A.few]
      · obtain ⟨q1, q2⟩ := hq w (by simp [hw])
        refine ⟨q1, ?_⟩
        have : w ≠ y := fun e => n1 (e ▸ hw)
        simp only [up_eq, up_ne this]
        exact q2
      · rw [← e2]
        show lforgetS _ x q = lforgetS (lforget1 S1 x y) x q
        rw [ef]) L τ3 h2 ⟨v3, w12, o16, g2, Lnd, _, C2, fun y hy => by rw [q3, E.row x hx]; exact Lin y hy, rfl⟩
  obtain ⟨v', _, _, _, _, S1, C3, _, e2⟩ := b2
  refine ⟨τ', h', _, b1, v', C3, ?_⟩
  have e3 : S1 = lforgetS (forgetS S x L) x L := e2
  rw [e3]; exact fin
/-! ### the views are compared -/
theorem check1 (C : Cr ns true a S h) (A : Asc ns) (E : Eqv ns S) (v : Sv a τ) (s6 : Sl τ 6 (.str x)) (hx : x ∈ ns) :
    ∃ τ' h', law_f2b τ h = .nx τ' h' ∧ Sv a τ' ∧ Cr ns true a S h' ∧ Fr none h h' := by
  rw [f2_eq, seqM_e]
  unfold c1
  rw [setM_e, ev_view C v.s3 s6 hx, toS_ok, sbind_nx]
  have n14 : Sl (τ.set 14 (some (.ref (a (.view x))))) 14 (.ref (a (.view x))) := Sl.new (by rw [v.len]; decide)
  have v1 := v.set (i := 14) (o := some (.ref (a (.view x)))) (by decide)
  have t6 := s6.set (j := 14) (o := some (.ref (a (.view x)))) (by decide)
  generalize τ.set 14 (some (.ref (a (.view x)))) = τ1 at *
  -- news
  obtain ⟨h1, a1, f1⟩ := news_run C A hx
  have C1 := C.frame f1
  have e1 : methF "news" 1 1 [] F_View_news (varM 14) nilM τ1 h = .ok (.tup ((newsL ns (S.row x)).map en)) h1 := by
    rw [meth_v (C.view hx) rfl (varM_at n14), nilM_e, bindE_ok]
    exact a1
  have e2 : callM (consM (methF "news" 1 1 [] F_View_news (varM 14) nilM) nilM) listF τ1 h = .ok (.ref h1.length) (h1 ++ [.lst ((newsL ns (S.row x)).map en)]) := by
    rw [callM_e, consM_e, e1, bindL_ok, nilM_e, lbind_ok, bindE_ok]
    rfl
  have f2 : Fr none h1 (h1 ++ [.lst ((newsL ns (S.row x)).map en)]) := Fr.app
  have g2 : (h1 ++ [O.lst ((newsL ns (S.row x)).map en)])[h1.length]? = some (.lst ((newsL ns (S.row x)).map en)) := get_new
  generalize h1 ++ [O.lst ((newsL ns (S.row x)).map en)] = h2 at *
  have C2 := C1.frame f2
  obtain ⟨r3, h3, a3, g3, l3, f3⟩ := lnews_run C2 A hx
  rw [E.row x hx] at g3
  have e3 : callM (consM (binM (varM 4) (varM 6) dgetM) nilM) (callF 1 [] F__law_news) τ1 h2 = .ok (.ref r3) h3 := by
    rw [callM_e, consM_e, ev_lview C2 v1.s4 t6 hx, bindL_ok, nilM_e, lbind_ok, bindE_ok]
    exact a3
  have C3 := C2.frame f3
  -- states
  obtain ⟨kvs, g4, i4⟩ := C3.rows hx
  have es := sorted_rows (τ := τ1) (e := unM (varM 14) (fldM "rows" cs_rows)) A (by rw [unM_e, varM_at n14, bind_ok, rv3 (C3.view hx)]) g4 i4
  have ew : ∀ y, (wipeD τ1 [19]).set 19 (some (D.str y)) = τ1.set 19 (some (.str y)) := fun y => by
    show (τ1.set 19 none).set 19 (some (D.str y)) = _
    rw [List.set_set]
  obtain ⟨h5, b5, g5, f5⟩ := lc_all (me := methF "state_of" 1 2 [] F_View_state_of (varM 14) (consM (varM 19) nilM)) (own := [19]) (j := 19) (g := fun y => D.str (stOf (S.time x) (S.row x y))) es get_new (few_of A _) fun y hy hh f => by
    have Ch := C3.frame (Fr.app.trans f)
    have n := n14.set (j := 19) (o := some (.str y)) (by decide)
    have m : Sl (τ1.set 19 (some (.str y))) 19 (.str y) := Sl.new (by rw [v1.len]; decide)
    refine ⟨hh, ?_, .refl⟩
    rw [ew, meth_v (Ch.view hx) rfl (varM_at n), consM_e, varM_at m, bindL_ok, nilM_e, lbind_ok, bindE_ok]
    exact state_run Ch hx (List.mem_filter.mp hy).2
  have F5 : Fr none h3 h5 := Fr.app.trans f5
  have C5 := C3.frame F5
  obtain ⟨kv6, g6, i6⟩ := C5.lrows hx
  have es6 := sorted_rows (τ := τ1) (e := binM (binM (varM 4) (varM 6) dgetM) (cM (.str "rows")) dgetM) A (lw3e C5 v1.s4 t6 hx) g6 i6
  obtain ⟨h7, b7, g7, f7⟩ := lc_all (me := callM (consM (binM (varM 4) (varM 6) dgetM) (consM (varM 19) (consM (varM 6) nilM))) (callF 3 [] F__law_state)) (own := [19]) (j := 19) (g := fun y => D.str (lstOf (S.ltime x) (S.lrow x y) y x)) es6 get_new (few_of A _) fun y hy hh f => by
    have Ch := C5.frame (Fr.app.trans f)
    have n4 := v1.s4.set (j := 19) (o := some (.str y)) (by decide)
    have n6 := t6.set (j := 19) (o := some (.str y)) (by decide)
    have m : Sl (τ1.set 19 (some (.str y))) 19 (.str y) := Sl.new (by rw [v1.len]; decide)
    refine ⟨hh, ?_, .refl⟩
    rw [ew, callM_e, consM_e, ev_lview Ch n4 n6 hx, bindL_ok, consM_e, varM_at m, bindL_ok, consM_e, varM_at n6, bindL_ok, nilM_e, lbind_ok, lbind_ok, lbind_ok, bindE_ok]
    exact lstate_run (y := y) Ch hx x (List.mem_filter.mp hy).2
  have F7 : Fr none h5 h7 := Fr.app.trans f7
  have C7 := C5.frame F7
  have eq7 : ((ns.filter fun y => (S.lrow x y).isSome).map fun y => D.str (lstOf (S.ltime x) (S.lrow x y) y x)) = ((ns.filter fun y => (S.row x y).isSome).map fun y => D.str (stOf (S.time x) (S.row x y))) := by
    rw [← E.row x hx]
    refine List.map_congr_left fun y hy => ?_
    rw [lstOf_eq E hx, E.row x hx]
  rw [eq7] at g7
  have st : ∀ l : List Str, ((l.map fun y => D.str (stOf (S.time x) (S.row x y)))) = (l.map fun y => stOf (S.time x) (S.row x y)).map D.str := fun l => by rw [List.map_map]; rfl
  rw [st] at g5 g7
  have ex2 : c2 τ1 h = .nx τ1 h7 := by
    unfold c2
    rw [ifSM_e, orM_e, binM_e, e2, bind_ok, e3, bind_ok, ne_lists (f3.getN g2) g3 (plDs_en _) (depDs_en _), bind_ok]
    simp only []
    rw [binM_e, b5, bind_ok, b7, bind_ok, ne_lists (F7.getN g5) g7 (plDs_str _) (depDs_str _), toS_ok]
    rfl
  rw [seqM_e, ex2, sbind_nx]
  -- names
  obtain ⟨r8, h8, a8, g8, l8, f8⟩ := names_run C7 A hx "alive"
  have C8 := C7.frame f8
  have e8 : methF "names_in" 1 2 [] F_View_names_in (varM 14) (consM (cM (.str "alive")) nilM) τ1 h7 = .ok (.ref r8) h8 := by
    rw [meth_v (C7.view hx) rfl (varM_at n14), consM_e, cM_e, bindL_ok, nilM_e, lbind_ok, bindE_ok]
    exact a8
  obtain ⟨r9, h9, a9, g9, l9, f9⟩ := llist_run (st := "alive") C8 A hx v1.s4 t6 (k := 19) (by decide) (by decide) (by rw [v1.len]; decide) (lw3e C8 v1.s4 t6 hx)
  rw [llist_eq E hx] at g9
  refine ⟨τ1, h9, ?_, v1, C8.frame f9, ((((((f1.trans f2).trans f3).trans F5).trans F7).trans f8).trans f9)⟩
  unfold c3
  rw [ifSM_e, binM_e, e8, bind_ok, a9, bind_ok, ne_lists (f9.getN g8) g9 (plDs_str _) (depDs_str _), toS_ok]
  rfl
end
end K08
end

section
set_option Elab.async false
set_option linter.all false
set_option maxRecDepth 100000
set_option maxHeartbeats 2000000
namespace DD
open PySem L2
theorem unp3 {i j k : Nat} {a b c : D} {τ : SL} {h : AH} : tupG ([i, j, k].map nameG) (.tup [a, b, c]) τ h = .nx (((τ.set i (some a)).set j (some b)).set k (some c)) h := Eq.trans rfl rfl
end DD
namespace K08
open PySem L2 DD
section
variable {ns : List Str} {lw : Bool} {a : Tg → Nat} {S S' P L : St} {h h' h'' : AH} {x y z : Str} {o : O} {t s : Tg} {i : Nat} {τ : SL}
theorem rollC (C : Cr ns lw a S h) (s1 : Sl τ 1 (.ref (a .dice))) {e : EM} {many : Nat} (he : e τ h = .ok (.int (many : Int)) h) (hm : 0 < many) (hb : many ≤ 100000000) : ∃ (r : Nat) (h' : AH), callM (consM (varM 1) (consM e nilM)) (callF 2 [] (R__law_roll 5)) τ h = .ok (.int (r : Int)) h' ∧ r < many ∧ Cr ns lw a S h' ∧ Dd (a .dice) h h' := by
  obtain ⟨r, h', b1, b2, b3⟩ := roll5 many h (a .dice) C.dice hm (.inl hb) (by omega)
  refine ⟨r, h', ?_, b2, C.rolled b3, b3⟩
  rw [callM_e, consM_e, varM_at s1, bindL_ok, consM_e, he, bindL_ok, nilM_e, lbind_ok, lbind_ok, bindE_ok]
  exact b1
/-- names[roll(len(names))] -/
theorem pick_run (C : Cr ns lw a S h) (A : Asc ns) (ne : ns ≠ []) (s1 : Sl τ 1 (.ref (a .dice))) (s2 : Sl τ 2 (.ref (a .names))) :
    ∃ (x : Str) (h' : AH), binM (varM 2) (callM (consM (varM 1) (consM (callM (consM (varM 2) nilM) lenF) nilM)) (callF 2 [] (R__law_roll 5))) itM τ h = .ok (.str x) h' ∧ x ∈ ns ∧ Cr ns lw a S h' := by
  have el : callM (consM (varM 2) nilM) lenF τ h = .ok (.int (ns.length : Int)) h := by
    rw [callM_e, consM_e, varM_at s2, bindL_ok, nilM_e, lbind_ok, bindE_ok, len_r C.nms, List.length_map]
  obtain ⟨r, h1, b1, b2, C1, _⟩ := rollC C s1 el (List.length_pos_iff.mpr ne) (by have := A.few; omega)
  have hr : (ns.map D.str)[r]? = some (.str ns[r]) := by rw [List.getElem?_map, List.getElem?_eq_getElem b2]; rfl
  refine ⟨ns[r], h1, ?_, List.getElem_mem b2, C1⟩
  rw [binM_e, varM_at s2, bind_ok, b1, bind_ok, it_r, C1.nms]
  simp only []
  rw [atI_k (by rw [List.length_map]; exact b2), hr]
theorem s1_run (C : Cr ns true a S h) (A : Asc ns) (ne : ns ≠ []) (v : Sv a τ) : ∃ (c : Nat) (x y : Str) (τ' : SL) (h' : AH), s1 τ h = .nx τ' h' ∧ x ∈ ns ∧ y ∈ ns ∧ Sv a τ' ∧ Sl τ' 11 (.int (c : Int)) ∧ Sl τ' 12 (.str x) ∧ Sl τ' 13 (.str y) ∧ Cr ns true a S h' := by
  obtain ⟨c, h1, b1, b2, C1, _⟩ := rollC (e := cM (.int 6)) (many := 6) C v.s1 cM_e (by decide) (by decide)
  obtain ⟨x, h2, d1, d2, C2⟩ := pick_run C1 A ne v.s1 v.s2
  obtain ⟨y, h3, f1, f2, C3⟩ := pick_run C2 A ne v.s1 v.s2
  refine ⟨c, x, y, ((τ.set 11 (some (.int (c : Int)))).set 12 (some (.str x))).set 13 (some (.str y)), h3, ?_, d2, f2, ((v.set (by decide)).set (by decide)).set (by decide), ((Sl.new (by rw [v.len]; decide)).set (by decide)).set (by decide), (Sl.new (by rw [len_set v.len]; decide)).set (by decide), Sl.new (by rw [len_set (len_set v.len)]; decide), C3⟩
  unfold s1
  rw [asgM_e, tupM_e, consM_e, b1, bindL_ok, consM_e, d1, bindL_ok, consM_e, f1, bindL_ok, nilM_e, lbind_ok, lbind_ok, lbind_ok, bindE_ok, if_pos (by rw [sizeLine_eq]; simp only [List.length_cons, List.length_nil]; decide), toS_ok, unp3]
theorem rng_map (m : Nat) : rngL 0 m = (List.range m).map fun (k : Nat) => D.int (k : Int) := rngL_nat m
theorem sA_run {c : Nat} (C : Cr ns true a S h) (A : Asc ns) (E : Eqv ns S) (v : Sv a τ) (s11 : Sl τ 11 (.int (c : Int))) (s12 : Sl τ 12 (.str x)) (hx : x ∈ ns) : ∃ τ' h' S', sA τ h = .nx τ' h' ∧ Sv a τ' ∧ Cr ns true a S' h' ∧ Eqv ns S' := by
  obtain ⟨m, hm, em⟩ : ∃ m : Nat, m < 16777216 ∧ binM (cM (.int 1)) (binM (cM (.int 4)) (callM (consM (binM (varM 11) (cM (.int 2)) eqM) nilM) intF) mulM) addM τ h = .ok (.int (m : Int)) h := by
    have e0 : callM (consM (binM (varM 11) (cM (.int 2)) eqM) nilM) intF τ h = .ok (.int (if ((c : Int) == 2) = true then 1 else 0)) h := by
      rw [callM_e, consM_e, binM_e, varM_at s11, bind_ok, cM_e, bind_ok, eq_ii, bindL_ok, nilM_e, lbind_ok, bindE_ok, int_b]
    cases hc : ((c : Int) == 2) with
    | true =>
      rw [hc] at e0
      refine ⟨5, by decide, ?_⟩
      rw [binM_e, cM_e, bind_ok, binM_e, cM_e, bind_ok, e0, bind_ok, mul_ii, if_pos (cmb_l (by decide)), bind_ok, add_ii]
      rfl
    | false =>
      rw [hc] at e0
      refine ⟨1, by decide, ?_⟩
      rw [binM_e, cM_e, bind_ok, binM_e, cM_e, bind_ok, e0, bind_ok, mul_ii, if_pos (cmb_l (by decide)), bind_ok, add_ii]
      rfl
  unfold sA
  rw [forM_e, em, toS_ok, rng1_e hm]
  simp only []
  rw [rng_map]
  obtain ⟨τ', h', b1, v', _, S', C', E'⟩ := for_list (φ := fun (k : Nat) => D.int (k : Int)) (f := nameG 7) (b := law_f0b) (live := fun _ => true) (P := fun _ τ hh => Sv a τ ∧ Sl τ 12 (.str x) ∧ ∃ S1, Cr ns true a S1 hh ∧ Eqv ns S1) (fun _ _ _ _ => rfl)
    (fun k r τ hh p => by
      obtain ⟨v, s12, S1, C1, E1⟩ := p
      rw [nameG_e, sbind_nx]
      obtain ⟨τ', h', S', q1, q2, q3, q4, q5⟩ := ticks1 C1 A E1 (v.set (i := 7) (o := some (.int (k : Int))) (by decide)) (s12.set (by decide)) hx
      exact ⟨τ', h', q1, q2, q3, S', q4, q5⟩) (List.range m) τ h ⟨v, s12, S, C, E⟩
  exact ⟨τ', h', S', b1, v', C', E'⟩
theorem s2_run {c : Nat} (C : Cr ns true a S h) (A : Asc ns) (E : Eqv ns S) (v : Sv a τ) (s11 : Sl τ 11 (.int (c : Int))) (s12 : Sl τ 12 (.str x)) (s13 : Sl τ 13 (.str y)) (hx : x ∈ ns) (hy : y ∈ ns) :
    ∃ τ' h' S', s2 τ h = .nx τ' h' ∧ Sv a τ' ∧ Cr ns true a S' h' ∧ Eqv ns S' := by
  rw [s2_eq, ifSM_e, binM_e, varM_at s11, bind_ok, cM_e, bind_ok, lt_ii, toS_ok]
  by_cases h3 : (c : Int) < 3
  · rw [decide_eq_true h3]
    exact sA_run C A E v s11 s12 hx
  · rw [decide_eq_false h3]
    simp only []
    rw [ifSM_e, binM_e, varM_at s11, bind_ok, cM_e, bind_ok, lt_ii, toS_ok]
    by_cases h5 : (c : Int) < 5
    · rw [decide_eq_true h5]
      obtain ⟨h', S', q1, q2, q3⟩ := hears1 C A E v s12 s13 hx hy
      exact ⟨τ, h', S', q1, v, q2, q3⟩
    · rw [decide_eq_false h5]
      obtain ⟨τ', h', S', q1, q2, q3, q4⟩ := forgets1 C A E v s12 hx
      exact ⟨τ', h', S', q1, q2, q3, q4⟩
theorem s3_run (C : Cr ns true a S h) (A : Asc ns) (E : Eqv ns S) (v : Sv a τ) : ∃ τ' h', s3 τ h = .nx τ' h' ∧ Sv a τ' ∧ Cr ns true a S h' := by
  unfold s3
  rw [forM_e, varM_at v.s2, toS_ok, lstIt_e C.nms]
  simp only []
  obtain ⟨τ', h', b1, v', _, C'⟩ := for_list (φ := D.str) (f := nameG 6) (b := law_f2b) (live := isLst (a .names) (ns.map D.str)) (P := fun r τ hh => Sv a τ ∧ (∀ x ∈ r, x ∈ ns) ∧ Cr ns true a S hh) (fun _ _ _ p => isLst_mk (Cr.nms p.2.2))
    (fun x r τ hh p => by
      obtain ⟨v, hr, C1⟩ := p
      rw [nameG_e, sbind_nx]
      obtain ⟨τ', h', q1, q2, q3, _⟩ := check1 C1 A E (v.set (i := 6) (o := some (.str x)) (by decide)) (Sl.new (by rw [v.len]; decide)) (hr x (by simp))
      exact ⟨τ', h', q1, q2, fun y hy => hr y (by simp [hy]), q3⟩) ns τ h ⟨v, fun _ q => q, C⟩
  exact ⟨τ', h', b1, v', C'⟩
theorem step_run (C : Cr ns true a S h) (A : Asc ns) (ne : ns ≠ []) (E : Eqv ns S) (v : Sv a τ) : ∃ τ' h' S', law_f3b τ h = .nx τ' h' ∧ Sv a τ' ∧ Cr ns true a S' h' ∧ Eqv ns S' := by
  obtain ⟨c, x, y, τ1, h1, a1, hx, hy, v1, s11, s12, s13, C1⟩ := s1_run C A ne v
  obtain ⟨τ2, h2, S2, a2, v2, C2, E2⟩ := s2_run C1 A E v1 s11 s12 s13 hx hy
  obtain ⟨τ3, h3, a3, v3, C3⟩ := s3_run C2 A E2 v2
  refine ⟨τ3, h3, S2, ?_, v3, C3, E2⟩
  rw [f3_eq, seqM_e, a1, sbind_nx, seqM_e, a2, sbind_nx, a3]
theorem e4_run (C : Cr ns true a S h) (A : Asc ns) (ne : ns ≠ []) (E : Eqv ns S) (v : Sv a τ) : ∃ τ' h' S', e4 τ h = .nx τ' h' ∧ Sv a τ' ∧ Cr ns true a S' h' := by
  obtain ⟨m, h1, b1, b2, C1, _⟩ := rollC (e := cM (.int 61)) (many := 61) C v.s1 cM_e (by decide) (by decide)
  unfold e4
  rw [forM_e, b1, toS_ok, rng1_e (by omega)]
  simp only []
  rw [rng_map]
  obtain ⟨τ', h', d1, v', S', C', E'⟩ := for_list (φ := fun (k : Nat) => D.int (k : Int)) (f := nameG 5) (b := law_f3b) (live := fun _ => true) (P := fun _ τ hh => Sv a τ ∧ ∃ S1, Cr ns true a S1 hh ∧ Eqv ns S1) (fun _ _ _ _ => rfl)
    (fun k r τ hh p => by
      obtain ⟨v, S1, C1, E1⟩ := p
      rw [nameG_e, sbind_nx]
      obtain ⟨τ', h', S', q1, q2, q4, q5⟩ := step_run C1 A ne E1 (v.set (i := 5) (o := some (.int (k : Int))) (by decide))
      exact ⟨τ', h', q1, q2, S', q4, q5⟩) (List.range m) τ h1 ⟨v, S, C1, E⟩
  exact ⟨τ', h', S', d1, v', C'⟩
end
end K08
end

section
set_option Elab.async false
set_option linter.all false
set_option maxRecDepth 100000
set_option maxHeartbeats 2000000
namespace K08
open PySem L2 DD
section
variable {ns : List Str} {lw : Bool} {a : Tg → Nat} {S S' P L : St} {h h' h'' : AH} {x y z : Str} {o : O} {t s : Tg} {i : Nat} {τ : SL}
/-! ### the crowd's methods -/
theorem sorted_views {e : EM} (C : Cr ns lw a S h) (A : Asc ns) (he : e τ h = .ok (.ref (a .views)) h) : callM (consM e nilM) sortedF τ h = .ok (.ref h.length) (h ++ [.lst (ns.map D.str)]) := by
  obtain ⟨kvs, g, i⟩ := C.views
  rw [callM_e, consM_e, he, bindL_ok, nilM_e, lbind_ok, bindE_ok, sorted_run A g i, List.filter_eq_self.mpr fun x hx => by rw [refs_some hx]; rfl]
theorem few_ns (A : Asc ns) : ns.length ≤ 100000 := by have := A.few; omega
def upL (ns : List Str) (S : St) : List Str := ns.filter fun x => !S.dn x
theorem up_run (C : Cr ns lw a S h) (A : Asc ns) : ∃ r h', F_Crowd_names_up [.ref (a .crowd)] h = .ok (.ref r) h' ∧ h'[r]? = some (.lst ((upL ns S).map D.str)) ∧ h.length ≤ r ∧ Fr none h h' := by
  unfold F_Crowd_names_up m_Crowd_names_up
  have e0 : startD N_Crowd_names_up.length [D.ref (a .crowd)] = [some (.ref (a .crowd)), none] := rfl
  rw [e0]
  have es := sorted_views (τ := [some (.ref (a .crowd)), none]) (e := unM (varM 0) (fldM "views" cs_views)) C A (by rw [unM_e, varM_0, bind_ok, rc1 C.crowd])
  obtain ⟨h', b1, b2, b3⟩ := lc_list (mc := some (binM (varM 1) (unM (varM 0) (fldM "down" cs_down)) dninM)) (me := varM 1) (own := [1]) (j := 1) (p := fun y => !S.dn y) (g := D.str) es get_new (few_ns A) fun y hy h2 f => by
    have C2 := C.frame (Fr.app.trans f)
    obtain ⟨kvs, g, i⟩ := C2.down
    have ew : (wipeD [some (D.ref (a .crowd)), none] [1]).set 1 (some (D.str y)) = [some (.ref (a .crowd)), some (.str y)] := rfl
    refine ⟨h2, ?_, .refl, fun _ => ⟨h2, ?_, .refl⟩⟩
    · rw [ew]
      show binM _ _ _ _ _ = _
      rw [binM_e, varM_1, bind_ok, unM_e, varM_0, bind_ok, rc2 C2.crowd, bind_ok, dnin_run (x := y) g i]
      cases S.dn y <;> rfl
    · rw [ew, varM_1]
  exact ⟨_, h', by rw [retM_e, b1, toS_ok, ret_rt], b2, by simp, Fr.app.trans b3⟩
def othersL (ns : List Str) (x : Str) : List Str := ns.filter fun y => !(y == x)
/-- who is told, by the turn -/
def ptn (ns : List Str) (turn : Nat) (x : Str) : Option Str := (othersL ns x)[turn % (othersL ns x).length]?
def oD : Option Str → D
  | none => .non
  | some x => .str x
theorem eq_nil_str {l : List Str} {i j : Nat} (e1 : h[i]? = some (.lst (l.map D.str))) (e2 : h[j]? = some (.lst [])) : eqM (.ref i) (.ref j) h = .ok (.bl (decide (l = []))) h := by
  cases l with
  | nil => rw [eq_nilnil e1 e2]; rfl
  | cons x l =>
    have hp := plDs_str (x :: l)
    have hm : decide (min (depDs ((x :: l).map D.str)) (depDs []) < 64) = true := decide_eq_true (Nat.lt_of_le_of_lt (Nat.min_le_right _ _) (by simp [depDs]))
    have hd : decide (x :: l = []) = false := decide_eq_false (by simp)
    rw [hd]
    simp only [eqM, eqB, e1, e2, hp, hm, show plDs [] = true from rfl, Bool.and_self, ↓reduceIte]
    rfl
theorem ne_nil_str {l : List Str} {i j : Nat} (e1 : h[i]? = some (.lst (l.map D.str))) (e2 : h[j]? = some (.lst [])) : neM (.ref i) (.ref j) h = .ok (.bl (!decide (l = []))) h := by
  cases l with
  | nil => rw [ne_nilnil e1 e2]; rfl
  | cons x l =>
    have hp := plDs_str (x :: l)
    have hm : decide (min (depDs ((x :: l).map D.str)) (depDs []) < 64) = true := decide_eq_true (Nat.lt_of_le_of_lt (Nat.min_le_right _ _) (by simp [depDs]))
    have hd : decide (x :: l = []) = false := decide_eq_false (by simp)
    rw [hd]
    simp only [neM, eqB, e1, e2, hp, hm, show plDs [] = true from rfl, Bool.and_self, ↓reduceIte]
    rfl
theorem partner_run (C : Cr ns lw a S h) (A : Asc ns) (x : Str) : ∃ h', F_Crowd_partner [.ref (a .crowd), .str x] h = .ok (oD (ptn ns S.turn x)) h' ∧ Fr none h h' := by
  unfold F_Crowd_partner m_Crowd_partner
  have e0 : startD N_Crowd_partner.length [D.ref (a .crowd), .str x] = [some (.ref (a .crowd)), some (.str x), none, none] := rfl
  rw [e0]
  have es := sorted_views (τ := [some (.ref (a .crowd)), some (.str x), none, none]) (e := unM (varM 0) (fldM "views" cs_views)) C A (by rw [unM_e, varM_0, bind_ok, rc1 C.crowd])
  obtain ⟨h1, b1, b2, b3⟩ := lc_list (mc := some (binM (varM 3) (varM 1) neM)) (me := varM 3) (own := [3]) (j := 3) (p := fun y => !(y == x)) (g := D.str) es get_new (few_ns A) fun y hy h2 f => by
    have ew : (wipeD [some (D.ref (a .crowd)), some (.str x), none, none] [3]).set 3 (some (D.str y)) = [some (.ref (a .crowd)), some (.str x), none, some (.str y)] := rfl
    refine ⟨h2, ?_, .refl, fun _ => ⟨h2, ?_, .refl⟩⟩
    · rw [ew]
      show binM _ _ _ _ _ = _
      rw [binM_e, varM_3, bind_ok, varM_1, bind_ok, ne_ss]
    · rw [ew, varM_3]
  have F1 : Fr none h h1 := Fr.app.trans b3
  generalize (h ++ [O.lst (ns.map D.str)]).length = r at *
  have C1 := C.frame F1
  rw [seqM_e, setM_e, b1, toS_ok, sbind_nx]
  simp only [List.set_cons_zero, List.set_cons_succ]
  have l0 : lstM nilM [some (.ref (a .crowd)), some (.str x), some (.ref r), none] h1 = .ok (.ref h1.length) (h1 ++ [.lst []]) := by rw [lstM_e, nilM_e, bindE_ok, if_pos (by simp)]
  have f2 : Fr none h1 (h1 ++ [O.lst []]) := Fr.app
  have g2 : (h1 ++ [O.lst []])[h1.length]? = some (.lst []) := get_new
  have eq2 := eq_nil_str (f2.getN b2) g2
  have C2 := C1.frame f2
  generalize h1 ++ [O.lst []] = h2 at *
  refine ⟨h2, ?_, F1.trans f2⟩
  have hr := f2.getN b2
  rw [seqM_e, ifSM_e, binM_e, varM_2, bind_ok, l0, bind_ok, eq2, toS_ok]
  show _ = EO.ok (oD (ptn ns S.turn x)) h2
  unfold ptn
  show _ = EO.ok (oD (othersL ns x)[S.turn % (othersL ns x).length]?) h2
  have hr' : h2[r]? = some (.lst ((othersL ns x).map D.str)) := hr
  change ((match D.bl (decide (othersL ns x = [])) with
    | D.bl true => _
    | D.bl false => _
    | _ => _ : SO).bind _ |> retOf) = _
  generalize othersL ns x = l at *
  by_cases hl : l = []
  · subst hl
    simp only [decide_true]
    rw [retM_e, cM_e, toS_ok, sbind_rt, ret_rt]
    rfl
  · rw [decide_eq_false hl]
    simp only []
    have hp : 0 < l.length := List.length_pos_iff.mpr hl
    have hm : S.turn % l.length < l.length := Nat.mod_lt _ hp
    have eg : (l.map D.str)[S.turn % l.length]? = some (.str l[S.turn % l.length]) := by rw [List.getElem?_map, List.getElem?_eq_getElem hm]; rfl
    have el : callM (consM (varM 2) nilM) lenF [some (.ref (a .crowd)), some (.str x), some (.ref r), none] h2 = .ok (.int (l.length : Int)) h2 := by
      rw [callM_e, consM_e, varM_2, bindL_ok, nilM_e, lbind_ok, bindE_ok, len_r hr', List.length_map]
    rw [passM_e, sbind_nx, retM_e, binM_e, varM_2, bind_ok, binM_e, unM_e, varM_0, bind_ok, rc3 C2.crowd, bind_ok, el, bind_ok, mod_ii, if_pos (decide_eq_true (by omega)), bind_ok, it_r, hr']
    simp only []
    rw [show ((S.turn : Int) % (l.length : Int)) = ((S.turn % l.length : Nat) : Int) from by omega, atI_k (by rw [List.length_map]; exact hm), eg]
    simp only []
    rw [toS_ok, ret_rt, List.getElem?_eq_getElem hm]
    rfl
/-! ### up and down -/
theorem down_run (C : Cr ns lw a S h) (A : Asc ns) (hx : x ∈ ns) : ∃ h', F_Crowd_set_down [.ref (a .crowd), .str x, .bl true] h = .ok .non h' ∧ Cr ns lw a { S with dn := up S.dn x true } h' ∧ Ft ns lw a h h' := by
  unfold F_Crowd_set_down m_Crowd_set_down
  have e0 : startD N_Crowd_set_down.length [D.ref (a .crowd), .str x, .bl true] = [some (.ref (a .crowd)), some (.str x), some (.bl true)] := rfl
  rw [e0]
  obtain ⟨kvs, g, i⟩ := C.views
  obtain ⟨kv2, g2, i2⟩ := C.down
  have i3 := i2.put (x := x) (d := .bl true) hx
  have i4 := i3.congr (f' := fun y => if up S.dn x true y = true then some (.bl true) else none) fun y => by
    unfold up
    by_cases e : y = x
    · simp [e]
    · simp [e]
  refine ⟨_, ?_, C.setDn i4, Ft.set (t := Tg.down) True.intro⟩
  have ei : (!(refs ns (fun x => a (.view x)) x).isSome) = false := by rw [refs_some hx]; rfl
  simp only [C.crowd, ic1, ic2, ic3, lc1, lc2, lc3, dnin_run (x := x) g i, ei, dset_run g2 i2 A.few, DD.bind_ok, DD.bind_exc, DD.toS_ok, DD.toS_exc, DD.bindL_ok, DD.bindL_exc, DD.lbind_ok, DD.lbind_exc, DD.bindE_ok, DD.bindE_exc, DD.sbind_nx, DD.sbind_rt, DD.sbind_exc, DD.sbind_bk, DD.sbind_ct, DD.ret_nx, DD.ret_rt, DD.ret_exc, DD.varM_0, DD.varM_1, DD.varM_2, DD.varM_3, DD.varM_4, DD.varM_5, DD.cM_e, DD.binM_e, DD.unM_e, DD.seqM_e, DD.setM_e, DD.exprM_e, DD.retM_e, DD.raiseM_e, DD.passM_e, DD.brkM_e, DD.ifSM_e, DD.ifM_e, DD.andM_e, DD.orM_e, DD.notM_e, DD.nilM_e, DD.consM_e, DD.callM_e, DD.tupM_e, DD.lstM_e, DD.bmM_e, DD.smM_e, DD.asgM_e, DD.subG_e, DD.nameG_e, DD.slM_e, DD.om_none, DD.om_some, DD.fldSetM_e, DD.toldM_e, DD.add_ii, DD.add_tt, DD.sub_ii, DD.mul_ii, DD.lt_ii, DD.le_ii, DD.gt_ii, DD.ge_ii, DD.fdiv_ii, DD.mod_ii, DD.eq_ii, DD.ne_ii, DD.eq_ss, DD.ne_ss, DD.fld_e, DD.len_t, DD.len_s, DD.append_e, DD.extend_t, DD.extend_r, DD.tup_r, DD.it_t, DD.sl_t, DD.callF, List.length_append, List.length_cons, List.length_nil, List.append_nil, Nat.reduceAdd, List.set_cons_zero, List.set_cons_succ, ↓reduceIte, Bool.not_true, Bool.not_false, Nat.zero_le]
theorem updn_run (C : Cr ns lw a S h) (A : Asc ns) (hx : x ∈ ns) : ∃ h', F_Crowd_set_down [.ref (a .crowd), .str x, .bl false] h = .ok .non h' ∧ Cr ns lw a { S with dn := up S.dn x false } h' ∧ Ft ns lw a h h' := by
  unfold F_Crowd_set_down m_Crowd_set_down
  have e0 : startD N_Crowd_set_down.length [D.ref (a .crowd), .str x, .bl false] = [some (.ref (a .crowd)), some (.str x), some (.bl false)] := rfl
  rw [e0]
  obtain ⟨kvs, g, i⟩ := C.views
  obtain ⟨kv2, g2, i2⟩ := C.down
  obtain ⟨d5, kv5, e5, i5⟩ := dp2_run (τ := [some (.ref (a .crowd)), some (.str x), some (.bl false)]) (mo := unM (varM 0) (fldM "down" cs_down)) (mk := varM 1) (mx := cM .non) g2 i2 (by rw [unM_e, varM_0, bind_ok, rc2 C.crowd]) varM_1 cM_e
  have i4 := i5.congr (f' := fun y => if up S.dn x false y = true then some (.bl true) else none) fun y => by
    unfold up
    by_cases e : y = x
    · simp [e]
    · simp [e]
  refine ⟨_, ?_, C.setDn i4, Ft.set (t := Tg.down) True.intro⟩
  have ei : (!(refs ns (fun x => a (.view x)) x).isSome) = false := by rw [refs_some hx]; rfl
  simp only [C.crowd, ic1, ic2, ic3, lc1, lc2, lc3, dnin_run (x := x) g i, ei, e5, DD.bind_ok, DD.bind_exc, DD.toS_ok, DD.toS_exc, DD.bindL_ok, DD.bindL_exc, DD.lbind_ok, DD.lbind_exc, DD.bindE_ok, DD.bindE_exc, DD.sbind_nx, DD.sbind_rt, DD.sbind_exc, DD.sbind_bk, DD.sbind_ct, DD.ret_nx, DD.ret_rt, DD.ret_exc, DD.varM_0, DD.varM_1, DD.varM_2, DD.varM_3, DD.varM_4, DD.varM_5, DD.cM_e, DD.binM_e, DD.unM_e, DD.seqM_e, DD.setM_e, DD.exprM_e, DD.retM_e, DD.raiseM_e, DD.passM_e, DD.brkM_e, DD.ifSM_e, DD.ifM_e, DD.andM_e, DD.orM_e, DD.notM_e, DD.nilM_e, DD.consM_e, DD.callM_e, DD.tupM_e, DD.lstM_e, DD.bmM_e, DD.smM_e, DD.asgM_e, DD.subG_e, DD.nameG_e, DD.slM_e, DD.om_none, DD.om_some, DD.fldSetM_e, DD.toldM_e, DD.add_ii, DD.add_tt, DD.sub_ii, DD.mul_ii, DD.lt_ii, DD.le_ii, DD.gt_ii, DD.ge_ii, DD.fdiv_ii, DD.mod_ii, DD.eq_ii, DD.ne_ii, DD.eq_ss, DD.ne_ss, DD.fld_e, DD.len_t, DD.len_s, DD.append_e, DD.extend_t, DD.extend_r, DD.tup_r, DD.it_t, DD.sl_t, DD.callF, List.length_append, List.length_cons, List.length_nil, List.append_nil, Nat.reduceAdd, List.set_cons_zero, List.set_cons_succ, ↓reduceIte, Bool.not_true, Bool.not_false, Nat.zero_le]
end
end K08
end

section
set_option Elab.async false
set_option linter.all false
set_option maxRecDepth 100000
set_option maxHeartbeats 2000000
namespace DD
open PySem L2
section
variable {β : Type} {e me : EM} {mc : Option EM} {own : List Nat} {τ : SL} {j q : Nat} {h h1 : AH} {φ : β → D} {xs : List β} {p : β → Bool} {g : β → Str} {live : AH → Bool}
theorem scL_go {f : TM} {d : D} {ds : List D} {acc : List Str} (e : live h = true) : scLoop live (nameG j) mc me own τ (d :: ds) acc h = (mcM mc ((wipeD τ own).set j (some d)) h).bind fun k h2 => match k with
    | .bl true => (me ((wipeD τ own).set j (some d)) h2).bind fun y h3 => match y with
      | .str x => if acc.length < 64 then scLoop live (nameG j) mc me own τ ds (addT acc x) h3 else .bad
      | _ => .bad
    | .bl false => scLoop live (nameG j) mc me own τ ds acc h2
    | _ => .bad := by
  show (if live h = true then _ else _) = _
  rw [if_pos e]
  cases mc <;> rfl
theorem addT_le (acc : List Str) (x : Str) : (addT acc x).length ≤ acc.length + 1 := by
  rw [addT_len]; split <;> omega
theorem sc_loop (hq : ∀ h2, Fr none h1 h2 → live h2 = true) (step : ∀ x ∈ xs, ∀ h2, Fr none h1 h2 → ∃ h3, mcM mc ((wipeD τ own).set j (some (φ x))) h2 = .ok (.bl (p x)) h3 ∧ Fr none h2 h3 ∧ (p x = true → ∃ h4, me ((wipeD τ own).set j (some (φ x))) h3 = .ok (.str (g x)) h4 ∧ Fr none h3 h4)) :
    ∀ (rest : List β) (acc : List Str) (h2 : AH), (∀ x ∈ rest, x ∈ xs) → Fr none h1 h2 → acc.length + rest.length < 64 → ∃ h', scLoop live (nameG j) mc me own τ (rest.map φ) acc h2 = .ok (.ref h'.length) (h' ++ [.lst ((sortT (((rest.filter p).map g).foldl addT acc)).map D.str)]) ∧ Fr none h1 h' := by
  intro rest
  induction rest with
  | nil =>
    intro acc h2 _ f hl
    refine ⟨h2, ?_, f⟩
    show (if live h2 = true ∧ acc.length < 64 then _ else _) = _
    rw [if_pos ⟨hq h2 f, by simpa using hl⟩]
    rfl
  | cons x rest ih =>
    intro acc h2 hx f hl
    simp only [List.length_cons] at hl
    obtain ⟨h3, a1, a2, a3⟩ := step x (hx x (by simp)) h2 f
    rw [List.map_cons, scL_go (f := nameG j) (hq h2 f), a1, bind_ok]
    cases hp : p x with
    | false =>
      simp only []
      obtain ⟨h', b1, b2⟩ := ih acc h3 (fun y hy => hx y (by simp [hy])) (f.trans a2) (by omega)
      exact ⟨h', by rw [b1, List.filter_cons_of_neg (by simp [hp])], b2⟩
    | true =>
      obtain ⟨h4, b1, b2⟩ := a3 hp
      simp only []
      rw [b1, bind_ok]
      simp only []
      rw [if_pos (by omega)]
      obtain ⟨h', d1, d2⟩ := ih (addT acc (g x)) h4 (fun y hy => hx y (by simp [hy])) ((f.trans a2).trans b2) (by have := addT_le acc (g x); omega)
      exact ⟨h', by rw [d1, List.filter_cons_of_pos (by simp [hp])]; rfl, d2⟩
/-- sorted({g(x) for x in xs if p(x)}) -/
theorem sc_list (he : e τ h = .ok (.ref q) h1) (hq : h1[q]? = some (.lst (xs.map φ))) (few : xs.length < 64)
    (step : ∀ x ∈ xs, ∀ h2, Fr none h1 h2 → ∃ h3, mcM mc ((wipeD τ own).set j (some (φ x))) h2 = .ok (.bl (p x)) h3 ∧ Fr none h2 h3 ∧ (p x = true → ∃ h4, me ((wipeD τ own).set j (some (φ x))) h3 = .ok (.str (g x)) h4 ∧ Fr none h3 h4)) :
    ∃ h', scQ e lstIt (nameG j) mc me own τ h = .ok (.ref h'.length) (h' ++ [.lst ((sortT (((xs.filter p).map g).foldl addT [])).map D.str)]) ∧ Fr none h1 h' := by
  obtain ⟨h', a1, a2⟩ := sc_loop (live := isLst q (xs.map φ)) (τ := τ) (own := own) (me := me) (mc := mc) (j := j) (fun h2 f => isLst_mk (f.getN hq)) step xs [] h1 (fun _ z => z) .refl (by simpa using few)
  refine ⟨h', ?_, a2⟩
  show noexc ((e τ h).bind _) = _
  rw [he, bind_ok, lstIt_e hq]
  simp only []
  rw [a1, noexc_ok]
theorem fold_const {c : Str} : ∀ (l : List Str), (∀ x ∈ l, x = c) → l ≠ [] → l.foldl addT [] = [c] := by
  have h1 : ∀ (l : List Str), (∀ x ∈ l, x = c) → l.foldl addT [c] = [c] := by
    intro l
    induction l with
    | nil => intro _; rfl
    | cons x l ih =>
      intro h
      rw [List.foldl_cons, h x (by simp), show addT [c] c = [c] from by unfold addT; simp, ih fun y hy => h y (by simp [hy])]
  intro l h hn
  cases l with
  | nil => exact absurd rfl hn
  | cons x l =>
    rw [List.foldl_cons, h x (by simp), show addT [] c = [c] from by unfold addT; simp, h1 l fun y hy => h y (by simp [hy])]
theorem all_str (l : List Str) : (l.map D.str).all flD = true := by rw [List.all_eq_true]; intro d hd; obtain ⟨x, _, rfl⟩ := List.mem_map.mp hd; rfl
theorem any_str (l : List Str) (p : Str) : ((l.map D.str).any fun z => eqD z (.str p)) = decide (p ∈ l) := by
  rw [Bool.eq_iff_iff, List.any_eq_true, decide_eq_true_eq]
  constructor
  · rintro ⟨d, hd, e⟩
    obtain ⟨x, hx, rfl⟩ := List.mem_map.mp hd
    simp only [eqD] at e
    have : x = p := by simpa using e
    rw [← this]; exact hx
  · intro hp
    exact ⟨.str p, List.mem_map.mpr ⟨p, hp, rfl⟩, by simp [eqD]⟩
theorem in_str {l : List Str} {x : Str} (e : h[q]? = some (.lst (l.map D.str))) : inM (.str x) (.ref q) h = .ok (.bl (decide (x ∈ l))) h := by
  simp only [inM, itemsD, e]
  rw [if_pos ⟨rfl, all_str l⟩, any_str]
theorem nin_str {l : List Str} {x : Str} (e : h[q]? = some (.lst (l.map D.str))) : ninM (.str x) (.ref q) h = .ok (.bl (!decide (x ∈ l))) h := by
  simp only [ninM, itemsD, e]
  rw [if_pos ⟨rfl, all_str l⟩, any_str]
theorem in_non {l : List Str} (e : h[q]? = some (.lst (l.map D.str))) : inM .non (.ref q) h = .ok (.bl false) h := by
  simp only [inM, itemsD, e]
  rw [if_pos ⟨rfl, all_str l⟩]
  congr 2
  rw [Bool.eq_false_iff]
  intro z
  obtain ⟨d, hd, e⟩ := List.any_eq_true.mp z
  obtain ⟨x, hx, rfl⟩ := List.mem_map.mp hd
  simp [eqD] at e
end
end DD
namespace K08
open PySem L2 DD
section
variable {ns : List Str} {lw : Bool} {a : Tg → Nat} {S S' P L : St} {h h' h'' : AH} {x y z : Str} {o : O} {t s : Tg} {i : Nat} {τ : SL}
theorem ev_view0 (C : Cr ns lw a S h) (s0 : Sl τ 0 (.ref (a .crowd))) (si : Sl τ i (.str x)) (hx : x ∈ ns) : binM (unM (varM 0) (fldM "views" cs_views)) (varM i) dgetM τ h = .ok (.ref (a (.view x))) h := by
  obtain ⟨kvs, g, i2⟩ := C.views
  rw [binM_e, unM_e, varM_at s0, bind_ok, rc1 C.crowd, bind_ok, varM_at si, bind_ok, dget_run g i2 (refs_some hx)]
/-! ### a round -/
def tickA (S : St) (x : Str) : St := tickS S x (cnt (S.row x x))
def tickL (S : St) (l : List Str) : St := l.foldl tickA S
def gos1 (ns : List Str) (U : List Str) (S : St) (x : Str) : St := match ptn ns S.turn x with
  | some p => if p ∈ U then hearS (hearS S p (newsL ns (S.row x))) x (newsL ns ((hearS S p (newsL ns (S.row x))).row p)) else S
  | none => S
def gosL (ns U : List Str) (S : St) (l : List Str) : St := l.foldl (gos1 ns U) S
def roundS (ns : List Str) (S : St) : St := gosL ns (upL ns S) (tickL { S with turn := S.turn + 1 } (upL ns S)) (upL ns S)
theorem ptn_in {k : Nat} {p : Str} (e : ptn ns k x = some p) : p ∈ ns ∧ p ≠ x := by
  have := List.mem_of_getElem? e
  obtain ⟨h1, h2⟩ := List.mem_filter.mp this
  exact ⟨h1, by simpa using h2⟩
theorem round_run (C : Cr ns lw a S h) (A : Asc ns) (hr : ∀ x ∈ ns, (S.row x x).isSome = true) : ∃ h', F_Crowd_tell_round [.ref (a .crowd)] h = .ok .non h' ∧ Cr ns lw a (roundS ns S) h' ∧ Ft ns lw a h h' := by
  unfold F_Crowd_tell_round m_Crowd_tell_round
  have e0 : startD N_Crowd_tell_round.length [D.ref (a .crowd)] = [some (.ref (a .crowd)), none, none, none] := rfl
  rw [e0]
  have ev : binM (unM (varM 0) (fldM "turn" cs_turn)) (cM (.int 1)) addM [some (.ref (a .crowd)), none, none, none] h = .ok (.int ((S.turn + 1 : Nat) : Int)) h := by
    rw [binM_e, unM_e, varM_0, bind_ok, rc3 C.crowd, bind_ok, cM_e, bind_ok, add_ii]
    rfl
  rw [seqM_e, wc3 C.crowd ev varM_0, sbind_nx]
  have C1 := C.setTurn (S.turn + 1)
  have F1 : Ft ns lw a h _ := Ft.set (t := Tg.crowd) (o := .ins 2 (FC (.ref (a .views)) (.ref (a .down)) (.int ((S.turn + 1 : Nat) : Int)))) True.intro
  generalize h.set (a .crowd) (.ins 2 (FC (.ref (a .views)) (.ref (a .down)) (.int ((S.turn + 1 : Nat) : Int)))) = h1 at *
  obtain ⟨r, h2, a2, g2, l2, f2⟩ := up_run C1 A
  have eu : methF "names_up" 2 1 [] F_Crowd_names_up (varM 0) nilM [some (.ref (a .crowd)), none, none, none] h1 = .ok (.ref r) h2 := by
    rw [meth_c C1.crowd rfl varM_0, nilM_e, bindE_ok]
    exact a2
  rw [seqM_e, setM_e, eu, toS_ok, sbind_nx]
  simp only [List.set_cons_zero, List.set_cons_succ]
  have C2 := C1.frame f2
  have fr := C1.fresh l2
  have eU : upL ns { S with turn := S.turn + 1 } = upL ns S := rfl
  rw [eU] at g2
  have Uin : ∀ x ∈ upL ns S, x ∈ ns := fun x hx => (List.mem_filter.mp hx).1
  have eR : roundS ns S = gosL ns (upL ns S) (tickL { S with turn := S.turn + 1 } (upL ns S)) (upL ns S) := rfl
  rw [eR]
  generalize upL ns S = U at *
  -- ticks
  obtain ⟨τ3, h3, b3, ⟨o2, o3, et⟩, g3, F3, S3, C3, _, e3⟩ := for_list (φ := D.str) (f := nameG 2) (b := Crowd_tell_round_f0b) (live := isLst r (U.map D.str))
    (P := fun q τ hh => (∃ o2 o3, τ = [some (.ref (a .crowd)), some (.ref r), o2, o3]) ∧ hh[r]? = some (.lst (U.map D.str)) ∧ Ft ns lw a h2 hh ∧ ∃ S1, Cr ns lw a S1 hh ∧ ((∀ x ∈ q, x ∈ ns) ∧ ∀ x ∈ ns, (S1.row x x).isSome = true) ∧ tickL S1 q = tickL { S with turn := S.turn + 1 } U) (fun _ _ _ p => isLst_mk p.2.1)
    (fun x q τ hh p => by
      obtain ⟨⟨o2, o3, rfl⟩, hr', FF, S1, Cq, ⟨hq, ho⟩, e2⟩ := p
      have hx := hq x (by simp)
      obtain ⟨⟨c, t⟩, er⟩ := Option.isSome_iff_exists.mp (ho x hx)
      obtain ⟨h', b1, C', F'⟩ := tick_run Cq A hx er
      rw [nameG_e, sbind_nx]
      simp only [List.set_cons_zero, List.set_cons_succ]
      have ea : tickA S1 x = tickS S1 x c := by unfold tickA; rw [er]; rfl
      refine ⟨[some (.ref (a .crowd)), some (.ref r), some (.str x), o3], h', ?_, ⟨_, _, rfl⟩, F'.get hr' fr, FF.trans F', _, C', ⟨fun y hy => hq y (by simp [hy]), fun y hy => ?_⟩, ?_⟩
      · unfold Crowd_tell_round_f0b
        rw [exprM_e, meth_v (Cq.view hx) rfl (ev_view0 (τ := [some (.ref (a .crowd)), some (.ref r), some (.str x), o3]) Cq rfl (i := 2) rfl hx), nilM_e, bindE_ok]
        have b1' : callF 1 [] F_View_tick [.ref (a (.view x))] hh = .ok .non h' := b1
        rw [b1', toS_ok]
      · simp only [tickS]
        by_cases e : y = x
        · subst e; simp only [up_eq]; rfl
        · rw [up_ne e]; exact ho y hy
      · rw [← e2]
        show tickL (tickS S1 x c) q = tickL (tickA S1 x) q
        rw [ea]) U [some (.ref (a .crowd)), some (.ref r), none, none] h2 ⟨⟨_, _, rfl⟩, g2, Ft.refl, _, C2, ⟨Uin, hr⟩, rfl⟩
  rw [seqM_e, forM_e, varM_1, toS_ok, lstIt_e g2]
  simp only []
  rw [b3, sbind_nx, et]
  have e3' : S3 = tickL { S with turn := S.turn + 1 } U := e3
  rw [← e3']
  -- news
  obtain ⟨τ4, h4, b4, _, _, F4, S4, C4, _, e4'⟩ := for_list (φ := D.str) (f := nameG 2) (b := Crowd_tell_round_f1b) (live := isLst r (U.map D.str))
    (P := fun q τ hh => (∃ o2 o3, τ = [some (.ref (a .crowd)), some (.ref r), o2, o3]) ∧ hh[r]? = some (.lst (U.map D.str)) ∧ Ft ns lw a h3 hh ∧ ∃ S1, Cr ns lw a S1 hh ∧ (∀ x ∈ q, x ∈ ns) ∧ gosL ns U S1 q = gosL ns U S3 U) (fun _ _ _ p => isLst_mk p.2.1)
    (fun x q τ hh p => by
      obtain ⟨⟨o2, o3, rfl⟩, hr', FF, S1, Cq, hq, e2⟩ := p
      have hx := hq x (by simp)
      obtain ⟨h5, b5, f5⟩ := partner_run Cq A x
      have C5 := Cq.frame f5
      rw [nameG_e, sbind_nx]
      simp only [List.set_cons_zero, List.set_cons_succ]
      unfold Crowd_tell_round_f1b
      have ep : methF "partner" 2 2 [] F_Crowd_partner (varM 0) (consM (varM 2) nilM) [some (.ref (a .crowd)), some (.ref r), some (.str x), o3] hh = .ok (oD (ptn ns S1.turn x)) h5 := by
        rw [meth_c Cq.crowd rfl varM_0, consM_e, varM_2, bindL_ok, nilM_e, lbind_ok, bindE_ok]
        exact b5
      rw [seqM_e, setM_e, ep, toS_ok, sbind_nx]
      simp only [List.set_cons_zero, List.set_cons_succ]
      have hr5 := f5.getN hr'
      have e2' : gosL ns U (gos1 ns U S1 x) q = gosL ns U S3 U := e2
      cases hp : ptn ns S1.turn x with
      | none =>
        have eg : gos1 ns U S1 x = S1 := by unfold gos1; rw [hp]
        rw [eg] at e2'
        refine ⟨[some (.ref (a .crowd)), some (.ref r), some (.str x), some .non], h5, ?_, ⟨_, _, rfl⟩, hr5, FF.trans (Ft.of f5), S1, C5, fun y hy => hq y (by simp [hy]), e2'⟩
        rw [ifSM_e, binM_e, varM_3, bind_ok, varM_1, bind_ok]
        show (EO.toS (inM .non (.ref r) h5) _ _) = _
        rw [in_non hr5, toS_ok]
        rfl
      | some w =>
        have hw := (ptn_in hp).1
        have ein : inM (oD (some w)) (.ref r) h5 = .ok (.bl (decide (w ∈ U))) h5 := in_str hr5
        by_cases hU : w ∈ U
        · have eg : gos1 ns U S1 x = hearS (hearS S1 w (newsL ns (S1.row x))) x (newsL ns ((hearS S1 w (newsL ns (S1.row x))).row w)) := by unfold gos1; rw [hp]; exact if_pos hU
          rw [eg] at e2'
          obtain ⟨h6, a6, f6⟩ := news_run C5 A hx
          have C6 := C5.frame f6
          obtain ⟨h7, a7, C7, F7⟩ := hear_run C6 A hw (l := newsL ns (S1.row x)) newsL_in
          obtain ⟨h8, a8, f8⟩ := news_run C7 A hw
          have C8 := C7.frame f8
          obtain ⟨h9, a9, C9, F9⟩ := hear_run C8 A hx (l := newsL ns ((hearS S1 w (newsL ns (S1.row x))).row w)) newsL_in
          have s0 : Sl [some (D.ref (a .crowd)), some (.ref r), some (.str x), some (.str w)] 0 (.ref (a .crowd)) := rfl
          have s2 : Sl [some (D.ref (a .crowd)), some (.ref r), some (.str x), some (.str w)] 2 (.str x) := rfl
          have s3 : Sl [some (D.ref (a .crowd)), some (.ref r), some (.str x), some (.str w)] 3 (.str w) := rfl
          have q1 : methF "news" 1 1 [] F_View_news (binM (unM (varM 0) (fldM "views" cs_views)) (varM 2) dgetM) nilM [some (.ref (a .crowd)), some (.ref r), some (.str x), some (.str w)] h5 = .ok (.tup ((newsL ns (S1.row x)).map en)) h6 := by
            rw [meth_v (C5.view hx) rfl (ev_view0 C5 s0 s2 hx), nilM_e, bindE_ok]
            exact a6
          have q2 : methF "hear" 1 2 [] F_View_hear (binM (unM (varM 0) (fldM "views" cs_views)) (varM 3) dgetM) (consM (methF "news" 1 1 [] F_View_news (binM (unM (varM 0) (fldM "views" cs_views)) (varM 2) dgetM) nilM) nilM) [some (.ref (a .crowd)), some (.ref r), some (.str x), some (.str w)] h5 = .ok .non h7 := by
            rw [meth_v (C5.view hw) rfl (ev_view0 C5 s0 s3 hw), consM_e, q1, bindL_ok, nilM_e, lbind_ok, bindE_ok]
            exact a7
          have q3 : methF "news" 1 1 [] F_View_news (binM (unM (varM 0) (fldM "views" cs_views)) (varM 3) dgetM) nilM [some (.ref (a .crowd)), some (.ref r), some (.str x), some (.str w)] h7 = .ok (.tup ((newsL ns ((hearS S1 w (newsL ns (S1.row x))).row w)).map en)) h8 := by
            rw [meth_v (C7.view hw) rfl (ev_view0 C7 s0 s3 hw), nilM_e, bindE_ok]
            exact a8
          have q4 : methF "hear" 1 2 [] F_View_hear (binM (unM (varM 0) (fldM "views" cs_views)) (varM 2) dgetM) (consM (methF "news" 1 1 [] F_View_news (binM (unM (varM 0) (fldM "views" cs_views)) (varM 3) dgetM) nilM) nilM) [some (.ref (a .crowd)), some (.ref r), some (.str x), some (.str w)] h7 = .ok .non h9 := by
            rw [meth_v (C7.view hx) rfl (ev_view0 C7 s0 s2 hx), consM_e, q3, bindL_ok, nilM_e, lbind_ok, bindE_ok]
            exact a9
          have FT : Ft ns lw a hh h9 := ((((Ft.of f5).trans (Ft.of f6)).trans F7).trans (Ft.of f8)).trans F9
          refine ⟨[some (.ref (a .crowd)), some (.ref r), some (.str x), some (.str w)], h9, ?_, ⟨_, _, rfl⟩, FT.get hr' fr, FF.trans FT, _, C9, fun y hy => hq y (by simp [hy]), e2'⟩
          rw [ifSM_e, binM_e, varM_3, bind_ok, varM_1, bind_ok, ein, decide_eq_true hU, toS_ok]
          simp only []
          show seqM (exprM _) (exprM _) [some (.ref (a .crowd)), some (.ref r), some (.str x), some (.str w)] h5 = _
          rw [seqM_e, exprM_e, q2, toS_ok, sbind_nx, exprM_e, q4, toS_ok]
        · have eg : gos1 ns U S1 x = S1 := by unfold gos1; rw [hp]; exact if_neg hU
          rw [eg] at e2'
          refine ⟨[some (.ref (a .crowd)), some (.ref r), some (.str x), some (.str w)], h5, ?_, ⟨_, _, rfl⟩, hr5, FF.trans (Ft.of f5), S1, C5, fun y hy => hq y (by simp [hy]), e2'⟩
          rw [ifSM_e, binM_e, varM_3, bind_ok, varM_1, bind_ok, ein, decide_eq_false hU, toS_ok]
          rfl) U [some (.ref (a .crowd)), some (.ref r), o2, o3] h3 ⟨⟨_, _, rfl⟩, g3, Ft.refl, S3, C3, Uin, rfl⟩
  refine ⟨h4, ?_, ?_, ((F1.trans (Ft.of f2)).trans F3).trans F4⟩
  · rw [forM_e, varM_1, toS_ok, lstIt_e g3]
    simp only []
    rw [b4, ret_nx]
  · rw [← e4']; exact C4
/-! ### what all say of one -/
theorem agree_run (C : Cr ns lw a S h) (A : Asc ns) (hx : ∀ y ∈ upL ns S, (S.row y x).isSome = true) (c : Str) (hc : ∀ y ∈ upL ns S, stOf (S.time y) (S.row y x) = c) :
    ∃ r h', F_Crowd_agree_on [.ref (a .crowd), .str x] h = .ok (.ref r) h' ∧ h'[r]? = some (.lst ((if upL ns S = [] then [] else [c]).map D.str)) ∧ h.length ≤ r ∧ Fr none h h' := by
  unfold F_Crowd_agree_on m_Crowd_agree_on
  have e0 : startD N_Crowd_agree_on.length [D.ref (a .crowd), .str x] = [some (.ref (a .crowd)), some (.str x), none, none, none] := rfl
  rw [e0]
  obtain ⟨r, h1, a1, g1, l1, f1⟩ := up_run C A
  have C1 := C.frame f1
  have eu : methF "names_up" 2 1 [] F_Crowd_names_up (varM 0) nilM [some (.ref (a .crowd)), some (.str x), none, none, none] h = .ok (.ref r) h1 := by
    rw [meth_c C.crowd rfl varM_0, nilM_e, bindE_ok]
    exact a1
  have Uin : ∀ y ∈ upL ns S, y ∈ ns := fun y hy => (List.mem_filter.mp hy).1
  have Ulen : (upL ns S).length < 64 := Nat.lt_of_le_of_lt (List.length_filter_le _ _) A.few
  generalize upL ns S = U at *
  obtain ⟨h2, b2, g2, f2⟩ := lc_all (me := binM (unM (varM 0) (fldM "views" cs_views)) (varM 3) dgetM) (own := [3]) (j := 3) (g := fun y => D.ref (a (.view y))) eu g1 (by omega) fun y hy hh f => by
    have Ch := C1.frame f
    have ew : (wipeD [some (D.ref (a .crowd)), some (.str x), none, none, none] [3]).set 3 (some (D.str y)) = [some (.ref (a .crowd)), some (.str x), none, some (.str y), none] := rfl
    refine ⟨hh, ?_, .refl⟩
    rw [ew, ev_view0 (τ := [some (.ref (a .crowd)), some (.str x), none, some (.str y), none]) Ch rfl (i := 3) rfl (Uin y hy)]
  have C2 := C1.frame f2
  rw [seqM_e, setM_e, b2, toS_ok, sbind_nx]
  simp only [List.set_cons_zero, List.set_cons_succ]
  obtain ⟨h3, b3, f3⟩ := sc_list (xs := U) (φ := fun y => D.ref (a (.view y))) (p := fun _ => true) (g := fun y => stOf (S.time y) (S.row y x)) (τ := [some (.ref (a .crowd)), some (.str x), some (.ref h1.length), none, none]) (e := varM 2) (own := [4]) (j := 4)
    (mc := some (binM (varM 1) (unM (varM 4) (fldM "rows" cs_rows)) dinM)) (me := methF "state_of" 1 2 [] F_View_state_of (varM 4) (consM (varM 1) nilM)) varM_2 g2 Ulen fun y hy hh f => by
    have Ch := C2.frame f
    have hy' := Uin y hy
    have ew : (wipeD [some (D.ref (a .crowd)), some (.str x), some (.ref h1.length), none, none] [4]).set 4 (some (D.ref (a (.view y)))) = [some (.ref (a .crowd)), some (.str x), some (.ref h1.length), none, some (.ref (a (.view y)))] := rfl
    obtain ⟨kvs, g, i⟩ := Ch.rows hy'
    have ei : ((S.row y x).map pr).isSome = true := by rw [Option.isSome_map]; exact hx y hy
    refine ⟨hh, ?_, .refl, fun _ => ⟨hh, ?_, .refl⟩⟩
    · rw [ew]
      show binM _ _ _ _ _ = _
      rw [binM_e, varM_1, bind_ok, unM_e, varM_4, bind_ok, rv3 (Ch.view hy'), bind_ok, din_run (x := x) g i, ei]
    · rw [ew, meth_v (Ch.view hy') rfl varM_4, consM_e, varM_1, bindL_ok, nilM_e, lbind_ok, bindE_ok]
      exact state_run Ch hy' (hx y hy)
  refine ⟨h3.length, h3 ++ [.lst ((sortT (((U.filter fun _ => true).map fun y => stOf (S.time y) (S.row y x)).foldl addT [])).map D.str)], ?_, ?_, Nat.le_trans f1.1 (Nat.le_trans f2.1 f3.1), ((f1.trans f2).trans f3).trans Fr.app⟩
  · rw [retM_e, b3, toS_ok, ret_rt]
  · rw [get_new, List.filter_eq_self.mpr fun _ _ => rfl]
    by_cases hU : U = []
    · subst hU; rfl
    · rw [if_neg hU, fold_const (c := c) _ (fun z hz => by obtain ⟨y, hy, rfl⟩ := List.mem_map.mp hz; exact hc y hy) (by simpa using hU)]
      rfl
end
end K08
end

section
set_option Elab.async false
set_option linter.all false
set_option maxRecDepth 100000
set_option maxHeartbeats 2000000
namespace K08
open PySem L2 DD
/-! ### what rounds do, as plain mathematics -/
structure Gi (ns : List Str) (D : Str → Bool) (K tn : Nat) (S : St) : Prop where
  dn : S.dn = D
  turn : S.turn = tn
  time : ∀ x ∈ ns, S.time x = if D x = true then 0 else K
  row : ∀ x ∈ ns, ∀ y ∈ ns, ∃ c t, S.row x y = some (c, t) ∧ c ≤ t ∧ t ≤ K
  own : ∀ x ∈ ns, D x = false → S.row x x = some (K, K)
  dead : ∀ x ∈ ns, ∀ y ∈ ns, D x = true ∨ D y = true → S.row x y = some (0, 0)
def Le (ns : List Str) (S S' : St) : Prop := ∀ x ∈ ns, ∀ y ∈ ns, ∀ c t, S.row x y = some (c, t) → ∃ c2 t2, S'.row x y = some (c2, t2) ∧ c ≤ c2 ∧ t ≤ t2
section
variable {ns : List Str} {D : Str → Bool} {K k tn seed : Nat} {S S' S'' : St} {x y z w : Str}
theorem Le.refl : Le ns S S := fun _ _ _ _ c t e => ⟨c, t, e, Nat.le_refl _, Nat.le_refl _⟩
theorem Le.trans (a : Le ns S S') (b : Le ns S' S'') : Le ns S S'' := fun x hx y hy c t e => by
  obtain ⟨c2, t2, e2, a1, a2⟩ := a x hx y hy c t e
  obtain ⟨c3, t3, e3, b1, b2⟩ := b x hx y hy c2 t2 e2
  exact ⟨c3, t3, e3, Nat.le_trans a1 b1, Nat.le_trans a2 b2⟩
def NewsOk (ns : List Str) (D : Str → Bool) (K : Nat) (l : List (Str × Nat)) : Prop := ∀ p ∈ l, p.1 ∈ ns ∧ p.2 ≤ K ∧ (D p.1 = true → p.2 = 0)
theorem Gi.hear1 (G : Gi ns D K tn S) (hx : x ∈ ns) (dx : D x = false) {p : Str × Nat} (hp : p.1 ∈ ns ∧ p.2 ≤ K ∧ (D p.1 = true → p.2 = 0)) :
    Gi ns D K tn (hear1 S x p) ∧ Le ns S (hear1 S x p) ∧ ∃ c t, (K08.hear1 S x p).row x p.1 = some (c, t) ∧ p.2 ≤ c := by
  obtain ⟨h1, h2, h3⟩ := hp
  obtain ⟨c, t, er, ct, tk⟩ := G.row x hx p.1 h1
  have ek : kn (S.row x) (S.fg x) p.1 = (c : Int) := by unfold kn; rw [er]
  unfold K08.hear1
  rw [ek]
  by_cases hc : (c : Int) < (p.2 : Int)
  · rw [if_pos hc]
    have hc' : c < p.2 := by omega
    have tx : S.time x = K := by rw [G.time x hx, dx]; rfl
    have nx : p.1 ≠ x := fun e => by
      have := G.own x hx dx
      rw [e, this] at er
      simp only [Option.some.injEq, Prod.mk.injEq] at er
      omega
    have nd : D p.1 = false := by
      cases q : D p.1 with
      | false => rfl
      | true => have := h3 q; omega
    refine ⟨⟨G.dn, G.turn, G.time, fun a ha b hb => ?_, fun a ha da => ?_, fun a ha b hb hd => ?_⟩, fun a ha b hb c2 t2 e => ?_, p.2, K, ?_, Nat.le_refl _⟩
    · by_cases e : a = x
      · subst e
        simp only [up_eq]
        by_cases q : b = p.1
        · subst q; exact ⟨p.2, S.time a, by rw [up_eq], by rw [tx]; exact h2, by rw [tx]; exact Nat.le_refl _⟩
        · rw [up_ne q]; exact G.row a ha b hb
      · simp only [up_ne e]; exact G.row a ha b hb
    · by_cases e : a = x
      · subst e
        simp only [up_eq, up_ne (Ne.symm nx)]
        exact G.own a ha da
      · simp only [up_ne e]; exact G.own a ha da
    · by_cases e : a = x
      · subst e
        have db : D b = true := hd.resolve_left (by rw [dx]; exact Bool.false_ne_true)
        have q : b ≠ p.1 := fun z => by rw [z, nd] at db; cases db
        simp only [up_eq, up_ne q]
        exact G.dead a ha b hb hd
      · simp only [up_ne e]; exact G.dead a ha b hb hd
    · by_cases e1 : a = x
      · subst e1
        simp only [up_eq]
        by_cases q : b = p.1
        · subst q
          rw [er] at e
          simp only [Option.some.injEq, Prod.mk.injEq] at e
          exact ⟨p.2, S.time a, by rw [up_eq], by omega, by rw [tx]; omega⟩
        · rw [up_ne q]; exact ⟨c2, t2, e, Nat.le_refl _, Nat.le_refl _⟩
      · simp only [up_ne e1]; exact ⟨c2, t2, e, Nat.le_refl _, Nat.le_refl _⟩
    · simp only [up_eq, tx]
  · rw [if_neg hc]
    exact ⟨G, .refl, c, t, er, by omega⟩
theorem Gi.hears (hx : x ∈ ns) (dx : D x = false) : ∀ (l : List (Str × Nat)) {S : St}, Gi ns D K tn S → NewsOk ns D K l → Gi ns D K tn (hearS S x l) ∧ Le ns S (hearS S x l) ∧ ∀ p ∈ l, ∃ c t, (hearS S x l).row x p.1 = some (c, t) ∧ p.2 ≤ c
  | [], S, G, _ => ⟨G, .refl, by simp⟩
  | p :: l, S, G, hl => by
    have hp := hl p (by simp)
    obtain ⟨G1, L1, c, t, e1, c1⟩ := G.hear1 hx dx hp
    obtain ⟨G2, L2, k2⟩ := Gi.hears hx dx l G1 fun q hq => hl q (by simp [hq])
    refine ⟨G2, L1.trans L2, fun q hq => ?_⟩
    rcases List.mem_cons.mp hq with rfl | hq
    · obtain ⟨c2, t2, e2, q1, q2⟩ := L2 x hx q.1 hp.1 c t e1
      exact ⟨c2, t2, e2, Nat.le_trans c1 q1⟩
    · exact k2 q hq
theorem Gi.news (G : Gi ns D K tn S) (hz : z ∈ ns) : NewsOk ns D K (newsL ns (S.row z)) := fun p hp => by
  obtain ⟨y, hy, rfl⟩ := List.mem_map.mp hp
  have hy' := (List.mem_filter.mp hy).1
  obtain ⟨c, t, er, ct, tk⟩ := G.row z hz y hy'
  have ec : cnt (S.row z y) = c := by unfold cnt; rw [er]; rfl
  refine ⟨hy', by rw [ec]; omega, fun hd => ?_⟩
  have := G.dead z hz y hy' (.inr hd)
  show cnt (S.row z y) = 0
  unfold cnt
  rw [this]
  rfl
theorem Gi.newsOwn (G : Gi ns D K tn S) (hz : z ∈ ns) (dz : D z = false) : (z, K) ∈ newsL ns (S.row z) := by
  have := G.own z hz dz
  refine List.mem_map.mpr ⟨z, List.mem_filter.mpr ⟨hz, by rw [this]; rfl⟩, ?_⟩
  show (z, cnt (S.row z z)) = (z, K)
  unfold cnt
  rw [this]
  rfl
theorem up_mem (hS : S.dn = D) : x ∈ upL ns S ↔ x ∈ ns ∧ D x = false := by
  unfold upL
  rw [List.mem_filter, hS]
  simp
theorem Gi.gos1 {U : List Str} (hU : ∀ x, x ∈ U ↔ x ∈ ns ∧ D x = false) (G : Gi ns D K tn S) (hx : x ∈ U) : Gi ns D K tn (gos1 ns U S x) ∧ Le ns S (gos1 ns U S x) ∧ ∀ p, ptn ns tn x = some p → p ∈ U → ∃ c t, (K08.gos1 ns U S x).row p x = some (c, t) ∧ K ≤ t := by
  obtain ⟨hx1, dx⟩ := (hU x).mp hx
  unfold K08.gos1
  rw [G.turn]
  cases e : ptn ns tn x with
  | none => exact ⟨G, .refl, fun p q => by cases q⟩
  | some p =>
    simp only []
    by_cases hp : p ∈ U
    · rw [if_pos hp]
      obtain ⟨hp1, dp⟩ := (hU p).mp hp
      obtain ⟨G1, L1, k1⟩ := Gi.hears hp1 dp _ G (G.news hx1)
      obtain ⟨c, t, e1, c1⟩ := k1 _ (G.newsOwn hx1 dx)
      obtain ⟨G2, L2, k2⟩ := Gi.hears hx1 dx _ G1 (G1.news hp1)
      refine ⟨G2, L1.trans L2, fun q eq _ => ?_⟩
      cases eq
      obtain ⟨c', t', e', ct, tk⟩ := G1.row p hp1 x hx1
      rw [e1] at e'
      simp only [Option.some.injEq, Prod.mk.injEq] at e'
      obtain ⟨c2, t2, e2, q1, q2⟩ := L2 p hp1 x hx1 c t e1
      refine ⟨c2, t2, e2, ?_⟩
      simp only at c1
      omega
    · rw [if_neg hp]
      exact ⟨G, .refl, fun q eq hq => by cases eq; exact absurd hq hp⟩
theorem Gi.gosL {U : List Str} (hU : ∀ x, x ∈ U ↔ x ∈ ns ∧ D x = false) : ∀ (l : List Str) {S : St}, (∀ x ∈ l, x ∈ U) → Gi ns D K tn S → Gi ns D K tn (gosL ns U S l) ∧ Le ns S (gosL ns U S l) ∧ ∀ x ∈ l, ∀ p, ptn ns tn x = some p → p ∈ U → ∃ c t, (gosL ns U S l).row p x = some (c, t) ∧ K ≤ t
  | [], S, _, G => ⟨G, .refl, by simp⟩
  | x :: l, S, hl, G => by
    have hx := hl x (by simp)
    obtain ⟨G1, L1, k1⟩ := Gi.gos1 hU G hx
    obtain ⟨G2, L2, k2⟩ := Gi.gosL hU l (fun y hy => hl y (by simp [hy])) G1
    refine ⟨G2, L1.trans L2, fun y hy p e hp => ?_⟩
    rcases List.mem_cons.mp hy with rfl | hy
    · obtain ⟨c, t, e1, t1⟩ := k1 p e hp
      obtain ⟨c2, t2, e2, q1, q2⟩ := L2 p ((hU p).mp hp).1 y ((hU y).mp hx).1 c t e1
      exact ⟨c2, t2, e2, Nat.le_trans t1 q2⟩
    · exact k2 y hy p e hp
/-- ticks of several machines -/
theorem ticks_are : ∀ (l : List Str) (S : St), l.Nodup → (tickL S l).dn = S.dn ∧ (tickL S l).turn = S.turn ∧ (∀ y, (tickL S l).time y = if y ∈ l then S.time y + 1 else S.time y) ∧ ∀ y, (tickL S l).row y = if y ∈ l then up (S.row y) y (some (cnt (S.row y y) + 1, S.time y + 1)) else S.row y
  | [], S, _ => ⟨rfl, rfl, fun y => by simp; rfl, fun y => by simp; rfl⟩
  | x :: l, S, nd => by
    obtain ⟨n1, n2⟩ := List.nodup_cons.mp nd
    obtain ⟨a1, a2, a3, a4⟩ := ticks_are l (tickA S x) n2
    have e : tickL S (x :: l) = tickL (tickA S x) l := rfl
    rw [e]
    refine ⟨a1, a2, fun y => ?_, fun y => ?_⟩
    · rw [a3]
      by_cases q : y = x
      · subst q
        rw [if_neg n1, if_pos (by simp)]
        simp only [tickA, tickS, up_eq]
      · simp only [tickA, tickS, up_ne q, List.mem_cons, q, false_or]
    · rw [a4]
      by_cases q : y = x
      · subst q
        rw [if_neg n1, if_pos (by simp)]
        simp only [tickA, tickS, up_eq]
      · simp only [tickA, tickS, up_ne q, List.mem_cons, q, false_or]
/-- after k rounds -/
structure Ri (ns : List Str) (D : Str → Bool) (seed k : Nat) (S : St) : Prop where
  g : Gi ns D k (seed + k) S
  last : ∀ j, 1 ≤ j → j ≤ k → ∀ y ∈ ns, D y = false → ∀ x ∈ ns, D x = false → ptn ns (seed + j) y = some x → ∃ c t, S.row x y = some (c, t) ∧ j ≤ t
theorem Ri.round (A : Asc ns) (R : Ri ns D seed k S) : Ri ns D seed (k + 1) (roundS ns S) := by
  have G := R.g
  have hU : ∀ x, x ∈ upL ns S ↔ x ∈ ns ∧ D x = false := fun x => up_mem G.dn
  have nd : (upL ns S).Nodup := A.nd.sublist List.filter_sublist
  obtain ⟨a1, a2, a3, a4⟩ := ticks_are (upL ns S) { S with turn := S.turn + 1 } nd
  have e0 : roundS ns S = gosL ns (upL ns S) (tickL { S with turn := S.turn + 1 } (upL ns S)) (upL ns S) := rfl
  rw [e0]
  generalize tickL { S with turn := S.turn + 1 } (upL ns S) = S2 at *
  simp only at a1 a2 a3 a4
  have own2 : ∀ x ∈ ns, D x = false → S2.row x x = some (k + 1, k + 1) := fun x hx dx => by
    rw [a4, if_pos ((hU x).mpr ⟨hx, dx⟩), up_eq, G.own x hx dx, G.time x hx, dx]
    rfl
  have G2 : Gi ns D (k + 1) (seed + (k + 1)) S2 := by
    refine ⟨a1.trans G.dn, by rw [a2, G.turn]; omega, fun x hx => ?_, fun x hx y hy => ?_, own2, fun x hx y hy hd => ?_⟩
    · rw [a3, G.time x hx]
      cases dx : D x with
      | false => rw [if_pos ((hU x).mpr ⟨hx, dx⟩)]; rfl
      | true => rw [if_neg (fun z => by rw [((hU x).mp z).2] at dx; cases dx)]; rfl
    · by_cases hu : x ∈ upL ns S ∧ y = x
      · obtain ⟨hu, rfl⟩ := hu
        exact ⟨k + 1, k + 1, own2 y hy ((hU y).mp hu).2, Nat.le_refl _, Nat.le_refl _⟩
      · have : S2.row x y = S.row x y := by
          rw [a4]
          by_cases h1 : x ∈ upL ns S
          · rw [if_pos h1, up_ne fun e => hu ⟨h1, e⟩]
          · rw [if_neg h1]
        obtain ⟨c, t, e, q1, q2⟩ := G.row x hx y hy
        exact ⟨c, t, by rw [this, e], q1, by omega⟩
    · have h0 := G.dead x hx y hy hd
      rw [a4]
      by_cases h1 : x ∈ upL ns S
      · have dx := ((hU x).mp h1).2
        have dy : D y = true := hd.resolve_left (by rw [dx]; exact Bool.false_ne_true)
        rw [if_pos h1, up_ne fun e => by rw [e, dx] at dy; cases dy]
        exact h0
      · rw [if_neg h1]; exact h0
  have L0 : Le ns S S2 := fun x hx y hy c t e => by
    by_cases hu : x ∈ upL ns S ∧ y = x
    · obtain ⟨hu, rfl⟩ := hu
      have dy := ((hU y).mp hu).2
      rw [G.own y hy dy] at e
      simp only [Option.some.injEq, Prod.mk.injEq] at e
      exact ⟨k + 1, k + 1, own2 y hy dy, by omega, by omega⟩
    · have : S2.row x y = S.row x y := by
        rw [a4]
        by_cases h1 : x ∈ upL ns S
        · rw [if_pos h1, up_ne fun e => hu ⟨h1, e⟩]
        · rw [if_neg h1]
      exact ⟨c, t, by rw [this, e], Nat.le_refl _, Nat.le_refl _⟩
  obtain ⟨G3, L3, k3⟩ := Gi.gosL hU (upL ns S) (fun _ z => z) G2
  refine ⟨G3, fun j h1 hj y hy dy x hx dx e => ?_⟩
  by_cases hk : j = k + 1
  · subst hk
    exact k3 y ((hU y).mpr ⟨hy, dy⟩) x e ((hU x).mpr ⟨hx, dx⟩)
  · obtain ⟨c, t, e1, t1⟩ := R.last j h1 (by omega) y hy dy x hx dx e
    obtain ⟨c2, t2, e2, q1, q2⟩ := (L0.trans L3) x hx y hy c t e1
    exact ⟨c2, t2, e2, Nat.le_trans t1 q2⟩
/-! ### after 120 rounds -/
theorem ptn_some (hx : x ∈ ns) (hne : x ≠ y) (hm : (othersL ns y).length ≤ 5) (N : Nat) (hN : 120 ≤ N) : ∃ d, d < 5 ∧ ptn ns (N - d) y = some x := by
  have hmem : x ∈ othersL ns y := List.mem_filter.mpr ⟨hx, by simpa using hne⟩
  obtain ⟨i, hi, e⟩ := List.getElem_of_mem hmem
  obtain ⟨m, hl⟩ : ∃ m, (othersL ns y).length = m := ⟨_, rfl⟩
  have hi' : i < m := hl ▸ hi
  rw [hl] at hm
  have hm0 : 0 < m := by omega
  refine ⟨(N - i) % m, by have := Nat.mod_lt (N - i) hm0; omega, ?_⟩
  unfold ptn
  rw [hl]
  have h1 : (N - (N - i) % m) % m = i := by
    have h2 := Nat.div_add_mod (N - i) m
    have h3 : N - (N - i) % m = i + m * ((N - i) / m) := by omega
    rw [h3, Nat.add_mul_mod_self_left, Nat.mod_eq_of_lt hi']
  rw [h1, List.getElem?_eq_getElem hi, e]
theorem others_len (A : Asc ns) (hy : y ∈ ns) (h6 : ns.length ≤ 6) : (othersL ns y).length ≤ 5 := by
  have h1 : (ns.filter fun z => !(z == y)).length < ns.length := List.length_filter_lt_length_iff_exists.mpr ⟨y, hy, by simp⟩
  unfold othersL
  omega
theorem Ri.alive (A : Asc ns) (h6 : ns.length ≤ 6) (R : Ri ns D seed 120 S) (hx : x ∈ ns) (hy : y ∈ ns) (dx : D x = false) (dy : D y = false) : stOf (S.time x) (S.row x y) = "alive" := by
  have ht : S.time x = 120 := by rw [R.g.time x hx, dx]; rfl
  by_cases e : x = y
  · subst e
    rw [R.g.own x hx dx, ht]
    exact stK0 _ (by simp)
  · obtain ⟨d, hd, ep⟩ := ptn_some hx e (others_len A hy h6) (seed + 120) (by omega)
    obtain ⟨c, t, er, t1⟩ := R.last (120 - d) (by omega) (by omega) y hy dy x hx dx (by rw [show seed + (120 - d) = seed + 120 - d from by omega]; exact ep)
    rw [er, ht]
    unfold stOf
    exact stK0 _ (by simp only [Option.map_some, Option.getD_some]; omega)
theorem Ri.deadS (R : Ri ns D seed 120 S) (hx : x ∈ ns) (hy : y ∈ ns) (dx : D x = false) (dy : D y = true) : stOf (S.time x) (S.row x y) = "dead" := by
  rw [R.g.dead x hx y hy (.inr dy), R.g.time x hx, dx]
  rfl
theorem Ri.rounds (A : Asc ns) (R : Ri ns D seed 0 S) : ∀ k, Ri ns D seed k (Nat.rec S (fun _ s => roundS ns s) k)
  | 0 => R
  | k + 1 => (Ri.rounds A R k).round A
end
end K08
end

section
set_option Elab.async false
set_option linter.all false
set_option maxRecDepth 100000
set_option maxHeartbeats 2000000
/-! dict comprehensions, dict(pairs), places in a list -/
namespace DD
open PySem L2
section
variable {β : Type} {e mk mv : EM} {own : List Nat} {τ : SL} {j l : Nat} {h h1 : AH} {φ : β → D} {live : AH → Bool} {ns : List Str} {kvs : List (Key × D)} {f : Str → Option D}
theorem dcL_nil {f : TM} (e : live h = true) : dcLoop live f none mk mv own τ l [] h = .ok (.ref l) h := by
  show (if live h = true then _ else _) = _
  rw [if_pos e]
theorem dcL_cons {d : D} {ds : List D} (e : live h = true) : dcLoop live (nameG j) none mk mv own τ l (d :: ds) h = (mk ((wipeD τ own).set j (some d)) h).bind fun y h3 => (mv ((wipeD τ own).set j (some d)) h3).bind fun z h4 => match h4[l]?, keyD y with
    | some (.dct kvs), some k => if kvs.length < sizeLine then dcLoop live (nameG j) none mk mv own τ l ds (h4.set l (.dct (putKD kvs k z))) else .bad
    | _, _ => .bad := by
  show (if live h = true then _ else _) = _
  rw [if_pos e]
  rfl
theorem dc_loop (P : List β → AH → Prop) (hl : ∀ r h, P r h → live h = true)
    (step : ∀ x r h, P (x :: r) h → ∃ y z h4 kvs, mk ((wipeD τ own).set j (some (φ x))) h = .ok (.str y) h ∧ mv ((wipeD τ own).set j (some (φ x))) h = .ok z h4 ∧ h4[l]? = some (.dct kvs) ∧ kvs.length < 1000 ∧ P r (h4.set l (.dct (putKD kvs (.inr y) z)))) :
    ∀ (xs : List β) (h : AH), P xs h → ∃ h', dcLoop live (nameG j) none mk mv own τ l (xs.map φ) h = .ok (.ref l) h' ∧ P [] h' := by
  intro xs
  induction xs with
  | nil => exact fun h p => ⟨h, dcL_nil (hl _ _ p), p⟩
  | cons x r ih =>
    intro h p
    obtain ⟨y, z, h4, kvs, e1, e2, e3, e4, e5⟩ := step x r h p
    obtain ⟨h', a1, a2⟩ := ih _ e5
    refine ⟨h', ?_, a2⟩
    rw [List.map_cons, dcL_cons (hl _ _ p), e1, bind_ok, e2, bind_ok, e3]
    simp only [keyD]
    rw [if_pos (by rw [sizeLine_eq]; omega), a1]
theorem dcQ_of {items : D → AH → Option (List D × (AH → Bool))} {f : TM} {mc : Option EM} {d : D} {ds : List D} {d' : D} {h' : AH} (e1 : e τ h = .ok d h1) (e2 : items d h1 = some (ds, live)) (e3 : dcLoop live f mc mk mv own τ h1.length ds (h1 ++ [.dct []]) = .ok d' h') : dcQ e items f mc mk mv own τ h = .ok d' h' := by
  show noexc ((e τ h).bind _) = _
  rw [e1, bind_ok, e2]
  simp only []
  rw [e3, noexc_ok]
/-- pairs, laid into a dict -/
theorem merge_is {g : Str → D} : ∀ (l : List Str) {kvs : List (Key × D)} {f : Str → Option D}, (∀ x ∈ l, x ∈ ns) → DctIs ns kvs f → DctIs ns (mergeKD kvs (l.map fun x => (.inr x, g x))) (fun y => if y ∈ l then some (g y) else f y)
  | [], _, _, _, i => i.congr fun y => by simp
  | x :: l, kvs, f, hl, i => by
    have i1 := i.put (x := x) (d := g x) (hl x (by simp))
    have i2 := merge_is (g := g) l (fun y hy => hl y (by simp [hy])) i1
    refine DctIs.congr (kvs := mergeKD (putKD kvs (.inr x) (g x)) (l.map fun x => (.inr x, g x))) i2 fun y => ?_
    by_cases q : y ∈ l
    · rw [if_pos q, if_pos (by simp [q])]
    · rw [if_neg q]
      by_cases e : y = x
      · subst e; rw [if_pos (by simp), up_eq]
      · rw [if_neg (by simp [e, q]), up_ne e]
theorem pairsOf_map {g : Str → D} : ∀ l : List Str, pairsOf (l.map fun x => D.tup [.str x, g x]) = some (l.map fun x => (.inr x, g x))
  | [] => rfl
  | x :: l => by simp [pairsOf, keyD, pairsOf_map l]
/-- dict([(x, g(x)) ..]) -/
theorem dict_pairs {g : Str → D} {q : Nat} {xs : List Str} (hq : h[q]? = some (.lst (xs.map fun x => D.tup [.str x, g x]))) : dictF [.ref q] h = .ok (.ref h.length) (h ++ [.dct (mergeKD [] (xs.map fun x => (.inr x, g x)))]) := by
  simp only [dictF, hq, pairsOf_map]
  rfl
end
/-! places -/
def pos : List Str → Str → Nat
  | [], _ => 0
  | y :: r, x => if x = y then 0 else pos r x + 1
theorem pos_lt : ∀ {ns : List Str} {x : Str}, x ∈ ns → pos ns x < ns.length
  | y :: r, x, h => by
    unfold pos
    split
    · simp
    · rename_i e
      have := pos_lt (List.mem_of_ne_of_mem e h)
      simp only [List.length_cons]; omega
theorem pos_inj : ∀ {ns : List Str} {x y : Str}, x ∈ ns → y ∈ ns → pos ns x = pos ns y → x = y
  | z :: r, x, y, hx, hy, e => by
    unfold pos at e
    by_cases e1 : x = z
    · by_cases e2 : y = z
      · rw [e1, e2]
      · rw [if_pos e1, if_neg e2] at e; omega
    · by_cases e2 : y = z
      · rw [if_neg e1, if_pos e2] at e; omega
      · rw [if_neg e1, if_neg e2] at e
        exact pos_inj (List.mem_of_ne_of_mem e1 hx) (List.mem_of_ne_of_mem e2 hy) (by omega)
theorem pos_app : ∀ {done r : List Str} {x : Str}, x ∉ done → pos (done ++ x :: r) x = done.length
  | [], r, x, _ => by simp [pos]
  | y :: d, r, x, h => by
    simp only [List.mem_cons, not_or] at h
    simp only [List.cons_append, pos, if_neg h.1, pos_app h.2, List.length_cons]
end DD
end

section
set_option Elab.async false
set_option linter.all false
set_option maxRecDepth 100000
set_option maxHeartbeats 2000000
namespace K08
open PySem L2 DD
section
variable {ns : List Str} {lw : Bool} {a : Tg → Nat} {S S' : St} {h h' h'' : AH} {x y z : Str} {o : O} {t s : Tg} {i : Nat} {τ : SL}
/-! ### a new view -/
def z0 (ns : List Str) : Str → Option D := fun y => if y ∈ ns then some (pr (0, 0)) else none
theorem set_at {h0 r : AH} {o o' : O} : (h0 ++ o :: r).set h0.length o' = h0 ++ o' :: r := set_new
theorem view_new {L : Nat} (A : Asc ns) (hx : x ∈ ns) (hL : h[L]? = some (.lst (ns.map D.str))) :
    ∃ kvs, makeF 1 3 [] F_View_init [.str x, .ref L] h = .ok (.ref h.length) (h ++ [.ins 1 (FV (.str x) (.int 0) (.ref (h.length + 1)) (.ref (h.length + 2))), .dct kvs, .dct []]) ∧ DctIs ns kvs (z0 ns) := by
  have g0 : ∀ fs : List (Str × D), (h ++ [O.ins 1 fs])[h.length]? = some (.ins 1 fs) := fun fs => get_new
  have L0 : ∀ fs : List (Str × D), (h ++ [O.ins 1 fs])[L]? = some (.lst (ns.map D.str)) := fun fs => get_app hL
  -- rows
  have dl := dc_loop (mk := varM 3) (mv := tupM (consM (cM (.int 0)) (consM (cM (.int 0)) nilM))) (own := [3]) (τ := [some (.ref h.length), some (.str x), some (.ref L), none]) (j := 3) (l := h.length + 1) (φ := D.str) (live := isLst L (ns.map D.str))
    (fun r hh => ∃ done kvs, ns = done ++ r ∧ hh = h ++ [.ins 1 [("name", .str x), ("time", .int 0)], .dct kvs] ∧ DctIs ns kvs fun y => if y ∈ done then some (pr (0, 0)) else none)
    (fun r hh p => by
      obtain ⟨done, kvs, _, rfl, _⟩ := p
      exact isLst_mk (get_app hL))
    (fun y r hh p => by
      obtain ⟨done, kvs, e, rfl, i⟩ := p
      have hy : y ∈ ns := by rw [e]; simp
      refine ⟨y, pr (0, 0), h ++ [.ins 1 [("name", .str x), ("time", .int 0)], .dct kvs], kvs, rfl, ?_, ?_, by have := i.len; have := A.few; omega, done ++ [y], putKD kvs (.inr y) (pr (0, 0)), by rw [e]; simp, ?_, (i.put hy).congr fun w => ?_⟩
      · rw [tupM_e, consM_e, cM_e, bindL_ok, consM_e, cM_e, bindL_ok, nilM_e, lbind_ok, lbind_ok, bindE_ok, if_pos (by rw [sizeLine_eq]; simp only [List.length_cons, List.length_nil]; decide)]
        rfl
      · simp
      · have := set_at (h0 := h ++ [O.ins 1 [("name", .str x), ("time", .int 0)]]) (r := []) (o := .dct kvs) (o' := .dct (putKD kvs (.inr y) (pr (0, 0))))
        simpa using this
      · unfold up
        by_cases e1 : w = y
        · simp [e1]
        · simp [e1])
    ns (h ++ [.ins 1 [("name", .str x), ("time", .int 0)], .dct []]) ⟨[], [], rfl, rfl, DctIs.nil.congr fun y => by simp⟩
  obtain ⟨h2, d1, done, kvs, e, rfl, i⟩ := dl
  rw [List.append_nil] at e
  subst e
  refine ⟨kvs, ?_, i⟩
  unfold makeF
  simp only [callF, List.append_nil, List.length_cons, List.length_nil, Nat.zero_add, Nat.reduceAdd, ↓reduceIte]
  unfold F_View_init m_View_init
  have e0 : startD N_View_init.length [D.ref h.length, .str x, .ref L] = [some (.ref h.length), some (.str x), some (.ref L), none] := rfl
  rw [e0]
  have en : binM (varM 1) (varM 2) ninM [some (.ref h.length), some (.str x), some (.ref L), none] (h ++ [O.ins 1 []]) = .ok (.bl false) (h ++ [O.ins 1 []]) := by
    rw [binM_e, varM_1, bind_ok, varM_2, bind_ok, nin_str (L0 []), decide_eq_true hx]
    rfl
  have w1 := fwA (fl := "name") (cs := cs_name) (τ := [some (.ref h.length), some (.str x), some (.ref L), none]) (o := varM 0) (v := varM 1) (g0 []) (by rw [iv1]; trivial) (by simp) varM_1 varM_0
  rw [show putD ("name" : Str) (D.str x) ([] : List (Str × D)) = ([("name", .str x)] : List (Str × D)) from rfl, set_at] at w1
  have w2 := fwA (fl := "time") (cs := cs_time) (τ := [some (.ref h.length), some (.str x), some (.ref L), none]) (o := varM 0) (v := cM (.int 0)) (g0 [("name", .str x)]) (by rw [iv2]; trivial) (by simp) cM_e varM_0
  rw [show putD ("time" : Str) (D.int 0) ([("name", .str x)] : List (Str × D)) = ([("name", .str x), ("time", .int 0)] : List (Str × D)) from rfl, set_at] at w2
  have ed : dcQ (varM 2) lstIt (nameG 3) none (varM 3) (tupM (consM (cM (.int 0)) (consM (cM (.int 0)) nilM))) [3] [some (.ref h.length), some (.str x), some (.ref L), none] (h ++ [O.ins 1 [("name", .str x), ("time", .int 0)]]) = .ok (.ref (h.length + 1)) (h ++ [.ins 1 [("name", .str x), ("time", .int 0)], .dct kvs]) := by
    refine dcQ_of varM_2 (lstIt_e (L0 _)) ?_
    rw [show (h ++ [O.ins 1 [("name", .str x), ("time", .int 0)]]).length = h.length + 1 from by simp, List.append_assoc]
    exact d1
  have g3 : (h ++ [O.ins 1 [("name", .str x), ("time", .int 0)], .dct kvs])[h.length]? = some (.ins 1 [("name", .str x), ("time", .int 0)]) := get_new
  have w3 := fwA (fl := "rows") (cs := cs_rows) (τ := [some (.ref h.length), some (.str x), some (.ref L), none]) (o := varM 0) g3 (by rw [iv3]; trivial) (by simp) ed varM_0
  rw [show putD ("rows" : Str) (D.ref (h.length + 1)) ([("name", .str x), ("time", .int 0)] : List (Str × D)) = ([("name", .str x), ("time", .int 0), ("rows", .ref (h.length + 1))] : List (Str × D)) from rfl, set_at] at w3
  have e4 : dnewM [some (.ref h.length), some (.str x), some (.ref L), none] (h ++ [O.ins 1 [("name", .str x), ("time", .int 0), ("rows", .ref (h.length + 1))], .dct kvs]) = .ok (.ref (h.length + 2)) (h ++ [O.ins 1 [("name", .str x), ("time", .int 0), ("rows", .ref (h.length + 1))], .dct kvs, .dct []]) := by
    show EO.ok (.ref (h ++ [O.ins 1 [("name", .str x), ("time", .int 0), ("rows", .ref (h.length + 1))], .dct kvs]).length) ((h ++ [O.ins 1 [("name", .str x), ("time", .int 0), ("rows", .ref (h.length + 1))], .dct kvs]) ++ [.dct []]) = _
    rw [List.append_assoc]
    simp
  have g4 : (h ++ [O.ins 1 [("name", .str x), ("time", .int 0), ("rows", .ref (h.length + 1))], .dct kvs, .dct []])[h.length]? = some (.ins 1 [("name", .str x), ("time", .int 0), ("rows", .ref (h.length + 1))]) := get_new
  have w4 := fwA (fl := "forgotten") (cs := cs_forgotten) (τ := [some (.ref h.length), some (.str x), some (.ref L), none]) (o := varM 0) g4 (by rw [iv4]; trivial) (by simp) e4 varM_0
  rw [show putD ("forgotten" : Str) (D.ref (h.length + 2)) ([("name", .str x), ("time", .int 0), ("rows", .ref (h.length + 1))] : List (Str × D)) = FV (.str x) (.int 0) (.ref (h.length + 1)) (.ref (h.length + 2)) from rfl, set_at] at w4
  rw [seqM_e, ifSM_e, en, toS_ok]
  simp only []
  rw [passM_e, sbind_nx, seqM_e, w1, sbind_nx, seqM_e, w2, sbind_nx, seqM_e, w3, sbind_nx, w4, ret_nx, bind_ok]
/-! ### a new crowd -/
def ca (ns : List Str) (b : Nat) (a : Tg → Nat) : Tg → Nat
  | .crowd => b
  | .views => b + 1
  | .view x => b + 2 + 3 * pos ns x
  | .rows x => b + 2 + 3 * pos ns x + 1
  | .forg x => b + 2 + 3 * pos ns x + 2
  | .down => b + 2 + 3 * ns.length
  | t => a t
def S0 (ns : List Str) (seed : Nat) : St := ⟨fun _ => 0, fun _ y => if y ∈ ns then some (0, 0) else none, fun _ _ => none, fun _ => 0, fun _ y => if y ∈ ns then some (0, 0) else none, fun _ _ => none, seed, fun _ => false⟩
theorem z0_eq : (fun y => ((if y ∈ ns then some (0, 0) else none : Option (Nat × Nat))).map pr) = z0 ns := by
  funext y
  unfold z0
  split <;> rfl
/-- the dice and the names -/
structure Bs (ns : List Str) (a : Tg → Nat) (h : AH) : Prop where
  di : Di h (a .dice)
  nm : h[a .names]? = some (.lst (ns.map D.str))
  ex : h[a .extra]? = some (.lst [.ref (a .dice)])
theorem Bs.ne2 {ns : List Str} {a : Tg → Nat} {h : AH} (B : Bs ns a h) : a .dice ≠ a .extra := fun e => by
  obtain ⟨x, y, z, g⟩ := B.di
  rw [e, B.ex] at g
  unfold Dc at g; simp at g
theorem Bs.ne3 {ns : List Str} {a : Tg → Nat} {h : AH} (B : Bs ns a h) (hn : ns ≠ []) : a .names ≠ a .extra := fun e => by
  have g := B.nm
  rw [e, B.ex] at g
  cases ns with
  | nil => exact hn rfl
  | cons w r => simp at g
theorem Bs.ne {ns : List Str} {a : Tg → Nat} {h : AH} (B : Bs ns a h) (hn : ns ≠ []) : a .dice ≠ a .names := fun e => by
  obtain ⟨x, y, z, g⟩ := B.di
  rw [e, B.nm] at g
  cases ns with
  | nil => exact hn rfl
  | cons w r => unfold Dc at g; simp at g
theorem crowd_new (A : Asc ns) (hn : ns ≠ []) (B : Bs ns a h) (seed : Nat) :
    ∃ h', makeF 2 3 [] F_Crowd_init [.ref (a .names), .int (seed : Int)] h = .ok (.ref h.length) h' ∧ Fr none h h' ∧ Cr ns false (ca ns h.length a) (S0 ns seed) h' := by
  have g0 : ∀ fs : List (Str × D), (h ++ [O.ins 2 fs])[h.length]? = some (.ins 2 fs) := fun fs => get_new
  have hL := B.nm
  have dl := dc_loop (mk := varM 3) (mv := callM (consM (varM 3) (consM (varM 1) nilM)) (makeF 1 3 [] F_View_init)) (own := [3]) (τ := [some (.ref h.length), some (.ref (a .names)), some (.int (seed : Int)), none]) (j := 3) (l := h.length + 1) (φ := D.str) (live := isLst (a .names) (ns.map D.str))
    (fun r hh => Fr none (h ++ [O.ins 2 []]) hh ∧ ∃ done kvs, ns = done ++ r ∧ hh.length = h.length + 2 + 3 * done.length ∧ hh[h.length + 1]? = some (.dct kvs) ∧ (DctIs ns kvs fun y => if y ∈ done then some (.ref (h.length + 2 + 3 * pos ns y)) else none) ∧
      ∀ y ∈ done, ∃ kv, hh[h.length + 2 + 3 * pos ns y]? = some (.ins 1 (FV (.str y) (.int 0) (.ref (h.length + 2 + 3 * pos ns y + 1)) (.ref (h.length + 2 + 3 * pos ns y + 2)))) ∧ hh[h.length + 2 + 3 * pos ns y + 1]? = some (.dct kv) ∧ DctIs ns kv (z0 ns) ∧ hh[h.length + 2 + 3 * pos ns y + 2]? = some (.dct []))
    (fun r hh p => isLst_mk (p.1.getN (get_app hL)))
    (fun y r hh p => by
      obtain ⟨F, done, kvs, e, hl, g1, i, hd⟩ := p
      have hy : y ∈ ns := by rw [e]; simp
      have nd := A.nd
      have hyd : y ∉ done := fun z => by
        rw [e] at nd
        exact (List.nodup_append.mp nd).2.2 y z y (by simp) rfl
      have ep : pos ns y = done.length := by rw [e]; exact pos_app hyd
      obtain ⟨kv, v1, v2⟩ := view_new A hy (F.getN (get_app hL))
      rw [hl] at v1
      have l1 : h.length + 1 < hh.length := by omega
      have hv : h.length + 2 + 3 * pos ns y = hh.length := by rw [ep, hl]
      have len4 : (hh ++ [O.ins 1 (FV (.str y) (.int 0) (.ref (hh.length + 1)) (.ref (hh.length + 2))), .dct kv, .dct []]).length = hh.length + 3 := by simp
      refine ⟨y, .ref hh.length, hh ++ [.ins 1 (FV (.str y) (.int 0) (.ref (hh.length + 1)) (.ref (hh.length + 2))), .dct kv, .dct []], kvs, rfl, ?_, get_app g1, by have := i.len; have := A.few; omega, (F.trans Fr.app).setN (by simp), done ++ [y], putKD kvs (.inr y) (.ref hh.length), by rw [e]; simp, ?_, get_set (by rw [len4]; omega), (i.put hy).congr fun w => ?_, fun w hw => ?_⟩
      · have : makeF 1 3 [] F_View_init [.str y, .ref (a .names)] hh = .ok (.ref hh.length) (hh ++ [.ins 1 (FV (.str y) (.int 0) (.ref (hh.length + 1)) (.ref (hh.length + 2))), .dct kv, .dct []]) := by rw [hl]; exact v1
        rw [callM_e, consM_e]
        show ((varM 3 [some (.ref h.length), some (.ref (a .names)), some (.int (seed : Int)), some (.str y)] hh).bindL _).bindE _ = _
        rw [varM_3, bindL_ok]
        show ((consM (varM 1) nilM [some (.ref h.length), some (.ref (a .names)), some (.int (seed : Int)), some (.str y)] hh).bind _).bindE _ = _
        rw [consM_e, varM_1, bindL_ok, nilM_e, lbind_ok, lbind_ok, bindE_ok, this]
      · rw [List.length_set, len4, hl, List.length_append, List.length_singleton]; omega
      · unfold up
        by_cases e1 : w = y
        · rw [if_pos (by simp [e1]), if_pos e1, e1, hv]
        · rw [if_neg e1]
          by_cases e2 : w ∈ done
          · rw [if_pos (by simp [e2])]
            show _ = if w ∈ done then some (D.ref (h.length + 2 + 3 * pos ns w)) else none
            rw [if_pos e2]
          · rw [if_neg (by simp [e1, e2])]
            show _ = if w ∈ done then some (D.ref (h.length + 2 + 3 * pos ns w)) else none
            rw [if_neg e2]
      · by_cases e1 : w = y
        · subst e1
          rw [hv]
          refine ⟨kv, ?_, ?_, v2, ?_⟩
          · rw [get_set_ne (by omega)]; exact get_new
          · rw [get_set_ne (by omega), List.getElem?_append_right (by omega)]; simp
          · rw [get_set_ne (by omega), List.getElem?_append_right (by omega)]; simp
        · have hw' : w ∈ done := by
            rcases List.mem_append.mp hw with q | q
            · exact q
            · exact absurd (List.mem_singleton.mp q) e1
          obtain ⟨k2, q1, q2, q3, q4⟩ := hd w hw'
          refine ⟨k2, ?_, ?_, q3, ?_⟩
          · rw [get_set_ne (by omega)]; exact get_app q1
          · rw [get_set_ne (by omega)]; exact get_app q2
          · rw [get_set_ne (by omega)]; exact get_app q4)
    ns ((h ++ [O.ins 2 []]) ++ [.dct []]) ⟨Fr.app, [], [], rfl, by simp, by rw [show h.length + 1 = (h ++ [O.ins 2 []]).length from by simp]; exact get_new, DctIs.nil.congr fun y => by simp, fun y hy => by simp at hy⟩
  obtain ⟨h2, d1, F2, done, kvs, e, hl, g1, i, hd⟩ := dl
  rw [List.append_nil] at e
  rw [← e] at i hd hl
  have gc : h2[h.length]? = some (.ins 2 []) := F2.getN (g0 [])
  -- the fields
  have ed : dcQ (varM 1) lstIt (nameG 3) none (varM 3) (callM (consM (varM 3) (consM (varM 1) nilM)) (makeF 1 3 [] F_View_init)) [3] [some (.ref h.length), some (.ref (a .names)), some (.int (seed : Int)), none] (h ++ [O.ins 2 []]) = .ok (.ref (h.length + 1)) h2 := by
    refine dcQ_of varM_1 (lstIt_e (get_app hL)) ?_
    rw [show (h ++ [O.ins 2 []]).length = h.length + 1 from by simp]
    exact d1
  have w1 := fwA (fl := "views") (cs := cs_views) (τ := [some (.ref h.length), some (.ref (a .names)), some (.int (seed : Int)), none]) (o := varM 0) gc (by rw [ic1]; trivial) (by simp) ed varM_0
  rw [show putD ("views" : Str) (D.ref (h.length + 1)) ([] : List (Str × D)) = ([("views", .ref (h.length + 1))] : List (Str × D)) from rfl] at w1
  have lb : h.length < h2.length := by omega
  have k3 : (h2.set h.length (.ins 2 [("views", .ref (h.length + 1))]))[h.length]? = some (.ins 2 [("views", .ref (h.length + 1))]) := get_set lb
  have f3 : ∀ i, i ≠ h.length → (h2.set h.length (O.ins 2 [("views", .ref (h.length + 1))]))[i]? = h2[i]? := fun i hi => get_set_ne (Ne.symm hi)
  have n3 : (h2.set h.length (O.ins 2 [("views", .ref (h.length + 1))])).length = h2.length := by simp
  generalize h2.set h.length (.ins 2 [("views", .ref (h.length + 1))]) = h3 at *
  have w2 := fwA (fl := "down") (cs := cs_down) (τ := [some (.ref h.length), some (.ref (a .names)), some (.int (seed : Int)), none]) (o := varM 0) (v := dnewM) (h := h3) (x := .ref h3.length) (h1 := h3 ++ [.dct []]) (get_app k3) (by rw [ic2]; trivial) (by simp) rfl varM_0
  rw [show putD ("down" : Str) (D.ref h3.length) ([("views", .ref (h.length + 1))] : List (Str × D)) = ([("views", .ref (h.length + 1)), ("down", .ref h3.length)] : List (Str × D)) from rfl] at w2
  have k4 : ((h3 ++ [O.dct []]).set h.length (.ins 2 [("views", .ref (h.length + 1)), ("down", .ref h3.length)]))[h.length]? = some (.ins 2 [("views", .ref (h.length + 1)), ("down", .ref h3.length)]) := get_set (by simp; omega)
  have f4 : ∀ i, i ≠ h.length → ((h3 ++ [O.dct []]).set h.length (O.ins 2 [("views", .ref (h.length + 1)), ("down", .ref h3.length)]))[i]? = (h3 ++ [O.dct []])[i]? := fun i hi => get_set_ne (Ne.symm hi)
  have n4 : ((h3 ++ [O.dct []]).set h.length (O.ins 2 [("views", .ref (h.length + 1)), ("down", .ref h3.length)])).length = h3.length + 1 := by simp
  generalize (h3 ++ [O.dct []]).set h.length (.ins 2 [("views", .ref (h.length + 1)), ("down", .ref h3.length)]) = h4 at *
  have w3 := fwA (fl := "turn") (cs := cs_turn) (τ := [some (.ref h.length), some (.ref (a .names)), some (.int (seed : Int)), none]) (o := varM 0) (v := varM 2) (h := h4) k4 (by rw [ic3]; trivial) (by simp) varM_2 varM_0
  rw [show putD ("turn" : Str) (D.int (seed : Int)) ([("views", .ref (h.length + 1)), ("down", .ref h3.length)] : List (Str × D)) = FC (.ref (h.length + 1)) (.ref h3.length) (.int (seed : Int)) from rfl] at w3
  have k5 : (h4.set h.length (.ins 2 (FC (.ref (h.length + 1)) (.ref h3.length) (.int (seed : Int)))))[h.length]? = some (.ins 2 (FC (.ref (h.length + 1)) (.ref h3.length) (.int (seed : Int)))) := get_set (by omega)
  have f5 : ∀ i, i ≠ h.length → (h4.set h.length (O.ins 2 (FC (.ref (h.length + 1)) (.ref h3.length) (.int (seed : Int)))))[i]? = h4[i]? := fun i hi => get_set_ne (Ne.symm hi)
  have n5 : (h4.set h.length (O.ins 2 (FC (.ref (h.length + 1)) (.ref h3.length) (.int (seed : Int))))).length = h4.length := by simp
  generalize h4.set h.length (.ins 2 (FC (.ref (h.length + 1)) (.ref h3.length) (.int (seed : Int)))) = h5 at *
  have keep : ∀ i (o : O), h2[i]? = some o → i ≠ h.length → h5[i]? = some o := fun i o q hi => by
    have l2 := lt_of_get q
    rw [f5 i hi, f4 i hi, List.getElem?_append_left (by omega), f3 i hi, q]
  have gdn : h5[h3.length]? = some (.dct []) := by
    rw [f5 _ (by omega), f4 _ (by omega)]; exact get_new
  have F5 : Fr none h h5 := by
    refine ⟨by omega, fun i hi _ => ?_⟩
    have q1 : h2[i]? = h[i]? := by
      rw [F2.2 i (by simp; omega) (by simp), List.getElem?_append_left hi]
    rw [List.getElem?_eq_getElem hi] at q1 ⊢
    exact keep i _ q1 (by omega)
  refine ⟨h5, ?_, F5, ?_⟩
  · unfold makeF
    simp only [callF, List.append_nil, List.length_cons, List.length_nil, Nat.zero_add, Nat.reduceAdd, ↓reduceIte]
    unfold F_Crowd_init m_Crowd_init
    have e0 : startD N_Crowd_init.length [D.ref h.length, .ref (a .names), .int (seed : Int)] = [some (.ref h.length), some (.ref (a .names)), some (.int (seed : Int)), none] := rfl
    rw [e0, seqM_e, w1, sbind_nx, seqM_e, w2, sbind_nx, w3, ret_nx, bind_ok]
  · have ld : a .dice < h.length := by obtain ⟨_, _, _, q⟩ := B.di; exact lt_of_get q
    have lm : a .names < h.length := lt_of_get B.nm
    have lx : a .extra < h.length := lt_of_get B.ex
    have ne := B.ne hn
    have ne2 := B.ne2
    have ne3 := B.ne3 hn
    have h3l : h3.length = h.length + 2 + 3 * ns.length := by omega
    refine ⟨fun s t vs vt q => ?_, fun t v => ?_⟩
    · cases s <;> simp only [Vd, Bool.false_eq_true, false_and] at vs <;> cases t <;> simp only [Vd, Bool.false_eq_true, false_and] at vt <;> simp only [ca] at q <;>
        first
          | rfl
          | (exfalso; omega)
          | (exfalso; have := pos_lt vs; have := pos_lt vt; omega)
          | (exfalso; have := pos_lt vs; omega)
          | (exfalso; have := pos_lt vt; omega)
          | (have := pos_inj vs vt (by omega); rw [this])
    · cases t <;> simp only [Vd, Bool.false_eq_true, false_and] at v
      · obtain ⟨x, y, z, q⟩ := B.di
        exact ⟨_, F5.getN q, x, y, z, rfl⟩
      · exact ⟨_, F5.getN B.nm, rfl⟩
      · exact ⟨_, F5.getN B.ex, rfl⟩
      · refine ⟨_, k5, ?_⟩
        simp only [Is, ca, S0, h3l]
      · refine ⟨_, keep _ _ g1 (by simp only [ca]; omega), kvs, rfl, i.congr fun y => ?_⟩
        simp only [refs, ca]
      · refine ⟨_, (by rw [show ca ns h.length a .down = h3.length from by rw [h3l]; rfl]; exact gdn), [], rfl, DctIs.nil.congr fun y => ?_⟩
        simp [S0]
      · rename_i y
        obtain ⟨k2, q1, q2, q3, q4⟩ := hd y v
        refine ⟨_, keep _ _ q1 (by simp only [ca]; omega), ?_⟩
        simp only [Is, ca, S0]
        rfl
      · rename_i y
        obtain ⟨k2, q1, q2, q3, q4⟩ := hd y v
        refine ⟨_, keep _ _ q2 (by simp only [ca]; omega), k2, rfl, ?_⟩
        simp only [S0]
        rw [z0_eq]
        exact q3
      · rename_i y
        obtain ⟨k2, q1, q2, q3, q4⟩ := hd y v
        exact ⟨_, keep _ _ q4 (by simp only [ca]; omega), [], rfl, DctIs.nil.congr fun y => rfl⟩
end
end K08
end

section
set_option Elab.async false
set_option linter.all false
set_option maxRecDepth 100000
set_option maxHeartbeats 2000000
/-! more of list comprehensions -/
namespace DD
open PySem L2
section
variable {β : Type} {e me : EM} {mc : Option EM} {own : List Nat} {τ : SL} {j l q : Nat} {h h1 : AH} {φ : β → D} {live : AH → Bool} {xs : List β} {g : β → D}
/-- what is left and what is gathered tell where the loop stands -/
theorem lc_inv (P : List β → List D → AH → Prop) (hl : ∀ r acc h, P r acc h → live h = true)
    (step : ∀ x r acc h, P (x :: r) acc h → ∃ b h2, mcM mc ((wipeD τ own).set j (some (φ x))) h = .ok (.bl b) h2 ∧ (b = false → P r acc h2) ∧
      (b = true → ∃ y h3, me ((wipeD τ own).set j (some (φ x))) h2 = .ok y h3 ∧ h3[l]? = some (.lst acc) ∧ acc.length < 1000 ∧ P r (acc ++ [y]) (h3.set l (.lst (acc ++ [y]))))) :
    ∀ (xs : List β) (acc : List D) (h : AH), P xs acc h → ∃ acc' h', lcLoop live (nameG j) mc me own τ l (xs.map φ) h = .ok (.ref l) h' ∧ P [] acc' h' := by
  intro xs
  induction xs with
  | nil => exact fun acc h p => ⟨acc, h, lcL_nil (hl _ _ _ p), p⟩
  | cons x r ih =>
    intro acc h p
    obtain ⟨b, h2, e1, e2, e3⟩ := step x r acc h p
    rw [List.map_cons, lcL_go (hl _ _ _ p), e1, bind_ok]
    cases b with
    | false => exact ih acc h2 (e2 rfl)
    | true =>
      obtain ⟨y, h3, f1, f2, f3, f4⟩ := e3 rfl
      obtain ⟨acc', h', a1, a2⟩ := ih _ _ f4
      refine ⟨acc', h', ?_, a2⟩
      simp only []
      rw [f1, bind_ok, f2]
      simp only []
      rw [if_pos (by rw [sizeLine_eq]; omega), a1]
theorem lcQ_of {items : D → AH → Option (List D × (AH → Bool))} {f : TM} {d d' : D} {ds : List D} {h' : AH} (e1 : e τ h = .ok d h1) (e2 : items d h1 = some (ds, live)) (e3 : lcLoop live f mc me own τ h1.length ds (h1 ++ [.lst []]) = .ok d' h') : lcQ e items f mc me own τ h = .ok d' h' := by
  rw [lcQ_e, lcM_of e1 e2, e3, noexc_ok]
/-- nothing is laid meanwhile -/
theorem lc_pure (he : e τ h = .ok (.ref q) h1) (hq : h1[q]? = some (.lst (xs.map φ))) (few : xs.length < 1000) (step : ∀ x ∈ xs, ∀ h2, me ((wipeD τ own).set j (some (φ x))) h2 = .ok (g x) h2) :
    lcQ e lstIt (nameG j) none me own τ h = .ok (.ref h1.length) (h1 ++ [.lst (xs.map g)]) := by
  refine lcQ_of he (lstIt_e hq) ?_
  obtain ⟨acc', h', a1, done, a2, rfl, rfl⟩ := lc_inv (mc := none) (me := me) (own := own) (τ := τ) (j := j) (l := h1.length) (live := isLst q (xs.map φ)) (φ := φ) (fun r acc hh => ∃ done, xs = done ++ r ∧ acc = done.map g ∧ hh = h1 ++ [.lst acc]) (fun r acc hh p => by
      obtain ⟨done, _, _, rfl⟩ := p
      exact isLst_mk (get_app hq)) (fun x r acc hh p => by
      obtain ⟨done, ex, rfl, rfl⟩ := p
      refine ⟨true, _, rfl, fun z => (by cases z), fun _ => ⟨g x, _, step x (by rw [ex]; simp) _, get_new, ?_, done ++ [x], by rw [ex]; simp, by simp, set_new⟩⟩
      have : done.length ≤ xs.length := by rw [ex]; simp
      rw [List.length_map]; omega) xs [] (h1 ++ [.lst []]) ⟨[], rfl, rfl, rfl⟩
  rw [List.append_nil] at a2
  subst a2
  exact a1
end
end DD
end

section
set_option Elab.async false
set_option linter.all false
set_option maxRecDepth 100000
set_option maxHeartbeats 2000000
namespace K08
open PySem L2 DD
section
variable {ns : List Str} {lw : Bool} {a : Tg → Nat} {S S' : St} {h h' h'' : AH} {x y z : Str} {o : O} {t s : Tg} {i : Nat} {τ : SL}
/-! ### the law's views are laid -/
theorem prs_nil {k : List (D × D) → AH → EO} : prsM [] k τ h = k [] h := by simp only [prsM]
theorem prs_cons {mk mv : EM} {r : List (EM × EM)} {k : List (D × D) → AH → EO} : prsM ((mk, mv) :: r) k τ h = (mk τ h).bind fun y h1 => (mv τ h1).bind fun z h2 => prsM r (fun ps h3 => k ((y, z) :: ps) h3) τ h2 := by simp only [prsM]
theorem keys3 {g r : D} : keysOf [(D.str "time", D.int 0), (.str "gone", g), (.str "rows", r)] = some [(.inr "time", .int 0), (.inr "gone", g), (.inr "rows", r)] := rfl
theorem merge3 {g r : D} : mergeKD [] [((.inr "time" : Key), D.int 0), (.inr "gone", g), (.inr "rows", r)] = LW (.int 0) g r := rfl
theorem disp_run (A : Asc ns) (s2 : Sl τ 2 (.ref (a .names))) (hl : 12 < τ.length) (hL : h[a .names]? = some (.lst (ns.map D.str))) :
    ∃ (gb : O) (kv : List (Key × D)), dispM [((cM (.str "time")), (cM (.int 0))), ((cM (.str "gone")), dnewM), ((cM (.str "rows")), (callM (consM (lcQ (varM 2) lstIt (nameG 12) none (tupM (consM (varM 12) (consM (tupM (consM (cM (.int 0)) (consM (cM (.int 0)) nilM))) nilM))) [12]) nilM) dictF))] τ h =
      .ok (.ref h.length) (h ++ [.dct (LW (.int 0) (.ref (h.length + 1)) (.ref (h.length + 3))), .dct [], gb, .dct kv]) ∧ DctIs ns kv (z0 ns) := by
  have e1 := lc_pure (e := varM 2) (τ := τ) (h := h ++ [O.dct [], .dct []]) (own := [12]) (j := 12) (me := tupM (consM (varM 12) (consM (tupM (consM (cM (.int 0)) (consM (cM (.int 0)) nilM))) nilM))) (g := fun y => D.tup [.str y, pr (0, 0)]) (varM_at s2) (get_app hL) (by have := A.few; omega) fun y hy h2 => by
    have ew : (wipeD τ [12]).set 12 (some (D.str y)) = τ.set 12 (some (.str y)) := by
      show (τ.set 12 none).set 12 (some (D.str y)) = _
      rw [List.set_set]
    have m : Sl (τ.set 12 (some (.str y))) 12 (.str y) := Sl.new hl
    have two : tupM (consM (cM (.int 0)) (consM (cM (.int 0)) nilM)) (τ.set 12 (some (.str y))) h2 = .ok (pr (0, 0)) h2 := by
      rw [tupM_e, consM_e, cM_e, bindL_ok, consM_e, cM_e, bindL_ok, nilM_e, lbind_ok, lbind_ok, bindE_ok, if_pos (by rw [sizeLine_eq]; simp only [List.length_cons, List.length_nil]; decide)]
      rfl
    rw [ew, tupM_e, consM_e, varM_at m, bindL_ok, consM_e, two, bindL_ok, nilM_e, lbind_ok, lbind_ok, bindE_ok, if_pos (by rw [sizeLine_eq]; simp only [List.length_cons, List.length_nil]; decide)]
  have e2 := dict_pairs (h := (h ++ [O.dct [], .dct []]) ++ [.lst (ns.map fun y => D.tup [.str y, pr (0, 0)])]) (g := fun _ => pr (0, 0)) (xs := ns) (q := (h ++ [O.dct [], O.dct []]).length) get_new
  have i := merge_is (ns := ns) (g := fun _ => pr (0, 0)) ns (fun _ z => z) DctIs.nil
  refine ⟨.lst (ns.map fun y => D.tup [.str y, pr (0, 0)]), _, ?_, i⟩
  generalize mergeKD [] (ns.map fun x => ((.inr x : Key), pr (0, 0))) = kv at *
  have en : callM (consM (lcQ (varM 2) lstIt (nameG 12) none (tupM (consM (varM 12) (consM (tupM (consM (cM (.int 0)) (consM (cM (.int 0)) nilM))) nilM))) [12]) nilM) dictF τ (h ++ [O.dct [], .dct []]) = .ok (.ref (h.length + 3)) (h ++ [O.dct [], .dct [], .lst (ns.map fun y => D.tup [.str y, pr (0, 0)]), .dct kv]) := by
    rw [callM_e, consM_e, e1, bindL_ok, nilM_e, lbind_ok, bindE_ok, e2]
    simp
  have en1 : dnewM τ (h ++ [O.dct []]) = .ok (.ref (h.length + 1)) (h ++ [O.dct [], .dct []]) := by
    show EO.ok (.ref (h ++ [O.dct []]).length) ((h ++ [O.dct []]) ++ [.dct []]) = _
    simp
  unfold dispM
  rw [prs_cons, cM_e, bind_ok, cM_e, bind_ok, prs_cons, cM_e, bind_ok, en1, bind_ok, prs_cons, cM_e, bind_ok, en, bind_ok, prs_nil]
  rw [get_new, keys3]
  simp only [List.length_cons, List.length_nil]
  rw [if_pos (by decide), merge3, set_at]
/-- the addresses with the law's -/
def la (ns : List Str) (L v : Nat) (a : Tg → Nat) : Tg → Nat
  | .lviews => v
  | .lview x => L + 1 + 4 * pos ns x
  | .lgone x => L + 1 + 4 * pos ns x + 1
  | .lrows x => L + 1 + 4 * pos ns x + 3
  | t => a t
theorem is_la {L v : Nat} (hs : Vd ns false s) (q : Is ns a S s o) : Is ns (la ns L v a) S s o := by
  cases s <;> first | exact q | (simp only [Vd, Bool.false_eq_true, false_and] at hs)
theorem e3_run {seed : Nat} (A : Asc ns) (C : Cr ns false a (S0 ns seed) h) (hl : τ.length = 20) (s2 : Sl τ 2 (.ref (a .names))) :
    ∃ (h' : AH) (a' : Tg → Nat), e3 τ h = .nx (τ.set 4 (some (.ref (a' .lviews)))) h' ∧ Cr ns true a' (S0 ns seed) h' ∧ Fr none h h' ∧ (∀ t, Vd ns false t → a' t = a t) := by
  have hL := C.nms
  obtain ⟨acc, h2, d1, F2, done, e, hlen, gL, eacc, hd⟩ := lc_inv (mc := none) (me := tupM (consM (varM 6) (consM (dispM [((cM (.str "time")), (cM (.int 0))), ((cM (.str "gone")), dnewM), ((cM (.str "rows")), (callM (consM (lcQ (varM 2) lstIt (nameG 12) none (tupM (consM (varM 12) (consM (tupM (consM (cM (.int 0)) (consM (cM (.int 0)) nilM))) nilM))) [12]) nilM) dictF))]) nilM))) (own := [6]) (τ := τ) (j := 6) (l := h.length) (φ := D.str) (live := isLst (a .names) (ns.map D.str))
    (fun r acc hh => Fr none h hh ∧ ∃ done, ns = done ++ r ∧ hh.length = h.length + 1 + 4 * done.length ∧ hh[h.length]? = some (.lst acc) ∧ acc = (done.map fun y => D.tup [.str y, .ref (h.length + 1 + 4 * pos ns y)]) ∧
      ∀ y ∈ done, ∃ kv, hh[h.length + 1 + 4 * pos ns y]? = some (.dct (LW (.int 0) (.ref (h.length + 1 + 4 * pos ns y + 1)) (.ref (h.length + 1 + 4 * pos ns y + 3)))) ∧ hh[h.length + 1 + 4 * pos ns y + 1]? = some (.dct []) ∧ hh[h.length + 1 + 4 * pos ns y + 3]? = some (.dct kv) ∧ DctIs ns kv (z0 ns))
    (fun r acc hh p => isLst_mk (p.1.getN hL))
    (fun y r acc hh p => by
      obtain ⟨F, done, e, hlen, gL, rfl, hd⟩ := p
      have hy : y ∈ ns := by rw [e]; simp
      have nd := A.nd
      have hyd : y ∉ done := fun z => by
        rw [e] at nd
        exact (List.nodup_append.mp nd).2.2 y z y (by simp) rfl
      have ep : pos ns y = done.length := by rw [e]; exact pos_app hyd
      have hv : h.length + 1 + 4 * pos ns y = hh.length := by rw [ep, hlen]
      have ew : (wipeD τ [6]).set 6 (some (D.str y)) = τ.set 6 (some (.str y)) := by
        show (τ.set 6 none).set 6 (some (D.str y)) = _
        rw [List.set_set]
      have m : Sl (τ.set 6 (some (.str y))) 6 (.str y) := Sl.new (by omega)
      obtain ⟨gb, kv, v1, v2⟩ := disp_run (τ := τ.set 6 (some (.str y))) A (s2.set (by decide)) (by rw [List.length_set]; omega) (F.getN hL)
      have g1 : (hh ++ [O.dct (LW (.int 0) (.ref (hh.length + 1)) (.ref (hh.length + 3))), .dct [], gb, .dct kv])[h.length]? = some (.lst (done.map fun y => D.tup [.str y, .ref (h.length + 1 + 4 * pos ns y)])) := get_app gL
      refine ⟨true, hh, rfl, fun z => (by cases z), fun _ => ⟨.tup [.str y, .ref hh.length], _, ?_, g1, ?_, (F.trans Fr.app).setN (Nat.le_refl _), done ++ [y], by rw [e]; simp, ?_, get_set (lt_of_get g1), ?_, fun w hw => ?_⟩⟩
      · rw [ew, tupM_e, consM_e, varM_at m, bindL_ok, consM_e, v1, bindL_ok, nilM_e, lbind_ok, lbind_ok, bindE_ok, if_pos (by rw [sizeLine_eq]; simp only [List.length_cons, List.length_nil]; decide)]
      · have h1 : done.length ≤ ns.length := by rw [e]; simp
        have h2 := A.few
        rw [List.length_map]; omega
      · rw [List.length_set, List.length_append, hlen, List.length_append, List.length_singleton]
        simp only [List.length_cons, List.length_nil]
        omega
      · rw [List.map_append, List.map_cons, List.map_nil, hv]
      · by_cases e1 : w = y
        · subst e1
          rw [hv]
          refine ⟨kv, ?_, ?_, ?_, v2⟩
          · rw [get_set_ne (by omega)]; exact get_new
          · rw [get_set_ne (by omega), List.getElem?_append_right (by omega)]; simp
          · rw [get_set_ne (by omega), List.getElem?_append_right (by omega)]; simp
        · have hw' : w ∈ done := by
            rcases List.mem_append.mp hw with q | q
            · exact q
            · exact absurd (List.mem_singleton.mp q) e1
          obtain ⟨k2, q1, q2, q3, q4⟩ := hd w hw'
          refine ⟨k2, ?_, ?_, ?_, q4⟩
          · rw [get_set_ne (by omega)]; exact get_app q1
          · rw [get_set_ne (by omega)]; exact get_app q2
          · rw [get_set_ne (by omega)]; exact get_app q3)
    ns [] (h ++ [.lst []]) ⟨Fr.app, [], rfl, by simp, get_new, rfl, fun y hy => by simp at hy⟩
  rw [List.append_nil] at e
  rw [← e] at hd hlen eacc
  subst eacc
  have e2 := dict_pairs (g := fun y => D.ref (h.length + 1 + 4 * pos ns y)) gL
  have i := merge_is (ns := ns) (g := fun y => D.ref (h.length + 1 + 4 * pos ns y)) ns (fun _ z => z) DctIs.nil
  generalize mergeKD [] (ns.map fun x => ((.inr x : Key), D.ref (h.length + 1 + 4 * pos ns x))) = kvs at *
  refine ⟨h2 ++ [.dct kvs], la ns h.length h2.length a, ?_, ?_, F2.trans Fr.app, fun t v => ?_⟩
  · unfold e3
    rw [setM_e, callM_e, consM_e, lcQ_of (varM_at s2) (lstIt_e hL) d1, bindL_ok, nilM_e, lbind_ok, bindE_ok, e2, toS_ok]
    rfl
  · have old : ∀ t, Vd ns false t → a t < h.length := fun t v => by
      obtain ⟨o, q, _⟩ := C.at_ t v
      exact lt_of_get q
    have lv : ∀ t, Vd ns true t → (Vd ns false t ∧ la ns h.length h2.length a t = a t) ∨ ∃ x, x ∈ ns ∧ (t = .lview x ∨ t = .lgone x ∨ t = .lrows x) ∨ t = .lviews := fun t v => by
      cases t <;> first | exact .inl ⟨v, rfl⟩ | exact .inr ⟨_, .inl ⟨v.2, by simp⟩⟩ | exact .inr ⟨"", .inr rfl⟩
    refine ⟨fun s t vs vt q => ?_, fun t v => ?_⟩
    · rcases lv s vs with ⟨ws, es⟩ | ⟨x, ⟨hx, rfl | rfl | rfl⟩ | rfl⟩ <;> rcases lv t vt with ⟨wt, et⟩ | ⟨y, ⟨hy, rfl | rfl | rfl⟩ | rfl⟩ <;>
        first
          | (rw [es, et] at q; exact C.inj _ _ ws wt q)
          | (exfalso; rw [es] at q; have := old _ ws; simp only [la] at q; omega)
          | (exfalso; rw [et] at q; have := old _ wt; simp only [la] at q; omega)
          | rfl
          | (exfalso; simp only [la] at q; have := pos_lt hx; have := pos_lt hy; omega)
          | (exfalso; simp only [la] at q; have := pos_lt hx; omega)
          | (exfalso; simp only [la] at q; have := pos_lt hy; omega)
          | (simp only [la] at q; have := pos_inj hx hy (by omega); rw [this])
    · rcases lv t v with ⟨w, et⟩ | ⟨x, ⟨hx, rfl | rfl | rfl⟩ | rfl⟩
      · obtain ⟨o, g, i⟩ := C.at_ t w
        exact ⟨o, by rw [et]; exact get_app (F2.getN g), is_la w i⟩
      · obtain ⟨kv, q1, q2, q3, q4⟩ := hd x hx
        exact ⟨_, get_app q1, rfl⟩
      · obtain ⟨kv, q1, q2, q3, q4⟩ := hd x hx
        exact ⟨_, get_app q2, [], rfl, DctIs.nil.congr fun y => rfl⟩
      · obtain ⟨kv, q1, q2, q3, q4⟩ := hd x hx
        refine ⟨_, get_app q3, kv, rfl, ?_⟩
        simp only [S0]
        rw [z0_eq]
        exact q4
      · exact ⟨_, get_new, kvs, rfl, i.congr fun y => rfl⟩
  · cases t <;> first | rfl | (simp only [Vd, Bool.false_eq_true, false_and] at v)
theorem Eqv.start {seed : Nat} : Eqv ns (S0 ns seed) := ⟨fun _ _ => rfl, fun _ _ => rfl, fun _ _ _ _ => rfl, fun x hx => ⟨0, by simp only [S0, if_pos hx]⟩⟩
end
end K08
end

section
set_option Elab.async false
set_option linter.all false
set_option maxRecDepth 100000
set_option maxHeartbeats 2000000
namespace K08
open PySem L2 DD
/-- the law's slots behind the steps: q the list of those that are down -/
structure Sw (a : Tg → Nat) (q : Nat) (τ : SL) : Prop where
  len : τ.length = 20
  s1 : Sl τ 1 (.ref (a .dice))
  s2 : Sl τ 2 (.ref (a .names))
  s3 : Sl τ 3 (.ref (a .crowd))
  s9 : Sl τ 9 (.ref q)
theorem Sw.set {a : Tg → Nat} {q : Nat} {τ : SL} {i : Nat} {o : Option D} (v : Sw a q τ) (hi : i ∉ [1, 2, 3, 9]) : Sw a q (τ.set i o) := by
  simp only [List.mem_cons, List.not_mem_nil, or_false, not_or] at hi
  exact ⟨len_set v.len, v.s1.set hi.1, v.s2.set hi.2.1, v.s3.set hi.2.2.1, v.s9.set hi.2.2.2⟩
section
variable {ns dl : List Str} {lw : Bool} {a : Tg → Nat} {S S' : St} {h h' h'' : AH} {x y z : Str} {o : O} {t s : Tg} {i q : Nat} {τ : SL}
def inL (dl : List Str) : Str → Bool := fun x => decide (x ∈ dl)
theorem e5_run (C : Cr ns true a S h) (A : Asc ns) (hn : ns ≠ []) (v : Sv a τ) :
    ∃ (τ' : SL) (h' : AH) (a' : Tg → Nat) (dl : List Str) (seed q : Nat), e5 τ h = .nx τ' h' ∧ Sw a' q τ' ∧ Cr ns false a' (S0 ns seed) h' ∧ h'[q]? = some (.lst (dl.map D.str)) ∧ (∀ t, Vd ns false t → a' t ≠ q) ∧ (∀ x ∈ dl, x ∈ ns) ∧ a' .dice = a .dice ∧ a' .extra = a .extra := by
  obtain ⟨seed, h1, b1, b2, C1, _⟩ := rollC (e := cM (.int 1000)) (many := 1000) C v.s1 cM_e (by decide) (by decide)
  obtain ⟨h2, c1, F2, C2⟩ := crowd_new A hn ⟨C1.dice, C1.nms, C1.ext⟩ seed
  have ec : callM (consM (varM 2) (consM (callM (consM (varM 1) (consM (cM (.int 1000)) nilM)) (callF 2 [] (R__law_roll 5))) nilM)) (makeF 2 3 [] F_Crowd_init) τ h = .ok (.ref h1.length) h2 := by
    rw [callM_e, consM_e, varM_at v.s2, bindL_ok, consM_e, b1, bindL_ok, nilM_e, lbind_ok, lbind_ok, bindE_ok, c1]
  generalize ha : ca ns h1.length a = a' at *
  have t1 : a' .dice = a .dice := by rw [← ha]; rfl
  have t2 : a' .names = a .names := by rw [← ha]; rfl
  have t3 : a' .crowd = h1.length := by rw [← ha]; rfl
  have t4 : a' .extra = a .extra := by rw [← ha]; rfl
  have s1 : Sl τ 1 (.ref (a' .dice)) := by rw [t1]; exact v.s1
  have s2 : Sl τ 2 (.ref (a' .names)) := by rw [t2]; exact v.s2
  have fr := C2.fresh (Nat.le_refl _)
  obtain ⟨acc, h3, d1, C3, g3, dl, hdl, rfl, _, _⟩ := lc_inv (mc := some (binM (callM (consM (varM 1) (consM (cM (.int 3)) nilM)) (callF 2 [] (R__law_roll 5))) (cM (.int 0)) eqM)) (me := varM 6) (own := [6]) (τ := τ) (j := 6) (l := h2.length) (φ := D.str) (live := isLst (a' .names) (ns.map D.str))
    (fun r acc hh => Cr ns false a' (S0 ns seed) hh ∧ hh[h2.length]? = some (.lst acc) ∧ ∃ dl : List Str, (∀ x ∈ dl, x ∈ ns) ∧ acc = dl.map D.str ∧ dl.length + r.length ≤ ns.length ∧ ∀ x ∈ r, x ∈ ns) (fun r acc hh p => isLst_mk p.1.nms)
    (fun x r acc hh p => by
      obtain ⟨Ch, gh, dl, hdl, rfl, hc, hr⟩ := p
      have ew : (wipeD τ [6]).set 6 (some (D.str x)) = τ.set 6 (some (.str x)) := by
        show (τ.set 6 none).set 6 (some (D.str x)) = _
        rw [List.set_set]
      have m : Sl (τ.set 6 (some (.str x))) 6 (.str x) := Sl.new (by rw [v.len]; decide)
      obtain ⟨k, h4, f1, f2, C4, dd⟩ := rollC (τ := τ.set 6 (some (.str x))) (e := cM (.int 3)) (many := 3) Ch (s1.set (by decide)) cM_e (by decide) (by decide)
      have g4 : h4[h2.length]? = some (.lst (dl.map D.str)) := dd.1.get gh (by intro z; injection z with z; exact fr .dice True.intro z.symm)
      refine ⟨((k : Int) == 0), h4, ?_, fun _ => ⟨C4, g4, dl, hdl, rfl, by simp only [List.length_cons] at hc; omega, fun y hy => hr y (by simp [hy])⟩, fun _ => ⟨.str x, h4, ?_, g4, ?_, ?_, get_set (lt_of_get g4), dl ++ [x], ?_, by simp, by simp only [List.length_append, List.length_cons, List.length_nil] at hc ⊢; omega, fun y hy => hr y (by simp [hy])⟩⟩
      · rw [ew]
        show binM _ _ _ _ _ = _
        rw [binM_e, f1, bind_ok, cM_e, bind_ok, eq_ii]
      · rw [ew, varM_at m]
      · have := A.few
        rw [List.length_map]; omega
      · have f : Fr (some h2.length) h4 (h4.set h2.length (.lst (dl.map D.str ++ [.str x]))) := Fr.set
        refine ⟨C4.inj, fun t vt => ?_⟩
        obtain ⟨o, e, io⟩ := C4.at_ t vt
        exact ⟨o, by rw [get_set_ne (fun z => fr t vt z.symm)]; exact e, io⟩
      · intro y hy
        rcases List.mem_append.mp hy with hy | hy
        · exact hdl y hy
        · rw [List.mem_singleton.mp hy]; exact hr x (by simp))
    ns [] (h2 ++ [.lst []]) ⟨C2.frame Fr.app, get_new, [], by simp, rfl, by simp, fun _ z => z⟩
  have hrest := C3
  refine ⟨(τ.set 3 (some (.ref h1.length))).set 9 (some (.ref h2.length)), h3, a', dl, seed, h2.length, ?_, ⟨len_set (len_set v.len), (s1.set (by decide)).set (by decide), (s2.set (by decide)).set (by decide), ?_, Sl.new (by rw [len_set v.len]; decide)⟩, C3, g3, fr, hdl, t1, t4⟩
  · unfold e5
    rw [asgM_e, tupM_e, consM_e, ec, bindL_ok, consM_e, lcQ_of (varM_at s2) (lstIt_e C2.nms) d1, bindL_ok, nilM_e, lbind_ok, lbind_ok, bindE_ok, if_pos (by rw [sizeLine_eq]; simp only [List.length_cons, List.length_nil]; decide), toS_ok, tup12]
  · rw [t3]
    exact (Sl.new (by rw [v.len]; decide)).set (by decide)
theorem e6_run {seed : Nat} (C : Cr ns false a (S0 ns seed) h) (A : Asc ns) (v : Sw a q τ) (g : h[q]? = some (.lst (dl.map D.str))) (fr : ∀ t, Vd ns false t → a t ≠ q) (hd : ∀ x ∈ dl, x ∈ ns) :
    ∃ τ' h', e6 τ h = .nx τ' h' ∧ Sw a q τ' ∧ Cr ns false a { S0 ns seed with dn := inL dl } h' ∧ h'[q]? = some (.lst (dl.map D.str)) := by
  unfold e6
  rw [forM_e, varM_at v.s9, toS_ok, lstIt_e g]
  simp only []
  obtain ⟨τ', h', b1, v', g', done, e, C'⟩ := for_list (φ := D.str) (f := nameG 6) (b := law_f4b) (live := isLst q (dl.map D.str))
    (P := fun r τ hh => Sw a q τ ∧ hh[q]? = some (.lst (dl.map D.str)) ∧ ∃ done, dl = done ++ r ∧ Cr ns false a { S0 ns seed with dn := inL done } hh) (fun _ _ _ p => isLst_mk p.2.1)
    (fun x r τ hh p => by
      obtain ⟨v, g, done, e, C1⟩ := p
      have hx := hd x (by rw [e]; simp)
      obtain ⟨h1, a1, C2, F2⟩ := down_run C1 A hx
      have v1 := v.set (i := 6) (o := some (.str x)) (by decide)
      have m : Sl (τ.set 6 (some (.str x))) 6 (.str x) := Sl.new (by rw [v.len]; decide)
      rw [nameG_e, sbind_nx]
      refine ⟨τ.set 6 (some (.str x)), h1, ?_, v1, F2.get g fr, done ++ [x], by rw [e]; simp, ?_⟩
      · unfold law_f4b
        rw [exprM_e, meth_c C1.crowd rfl (varM_at v1.s3), consM_e, varM_at m, bindL_ok, consM_e, cM_e, bindL_ok, nilM_e, lbind_ok, lbind_ok, bindE_ok]
        have a1' : callF 3 [] F_Crowd_set_down [.ref (a .crowd), .str x, .bl true] hh = .ok .non h1 := a1
        rw [a1', toS_ok]
      · have ef : inL (done ++ [x]) = up (inL done) x true := by
          funext y
          unfold inL up
          by_cases e1 : y = x
          · simp [e1]
          · simp [e1]
        rw [ef]
        exact C2) dl τ h ⟨v, g, [], rfl, by
          have : inL [] = fun _ => false := by funext y; simp [inL]
          rw [this]; exact C⟩
  rw [List.append_nil] at e
  subst e
  exact ⟨τ', h', b1, v', C', g'⟩
theorem start_ri {seed : Nat} : Ri ns (inL dl) seed 0 { S0 ns seed with dn := inL dl } := by
  have h0 : ∀ x y, y ∈ ns → ({ S0 ns seed with dn := inL dl } : St).row x y = some (0, 0) := fun x y hy => if_pos hy
  refine ⟨⟨rfl, rfl, fun x _ => ?_, fun x _ y hy => ⟨0, 0, h0 x y hy, Nat.le_refl _, Nat.le_refl _⟩, fun x hx _ => h0 x x hx, fun x _ y hy _ => h0 x y hy⟩, fun j h1 h2 => by omega⟩
  show 0 = _
  split <;> rfl
theorem e7_run {seed : Nat} (C : Cr ns false a { S0 ns seed with dn := inL dl } h) (A : Asc ns) (v : Sw a q τ) (g : h[q]? = some (.lst (dl.map D.str))) (fr : ∀ t, Vd ns false t → a t ≠ q) :
    ∃ τ' h' S', e7 τ h = .nx τ' h' ∧ Sw a q τ' ∧ Cr ns false a S' h' ∧ Ri ns (inL dl) seed 120 S' ∧ h'[q]? = some (.lst (dl.map D.str)) := by
  unfold e7
  rw [forM_e, cM_e, toS_ok, show ((120 : Int)) = ((120 : Nat) : Int) from rfl, rng1_e (j := 120) (by decide)]
  simp only []
  rw [rng_map]
  obtain ⟨τ', h', b1, v', g', S', k, e, C', R'⟩ := for_list (φ := fun (k : Nat) => D.int (k : Int)) (f := nameG 7) (b := law_f5b) (live := fun _ => true)
    (P := fun r τ hh => Sw a q τ ∧ hh[q]? = some (.lst (dl.map D.str)) ∧ ∃ S k, k + r.length = 120 ∧ Cr ns false a S hh ∧ Ri ns (inL dl) seed k S) (fun _ _ _ _ => rfl)
    (fun x r τ hh p => by
      obtain ⟨v, g, S, k, e, C1, R1⟩ := p
      obtain ⟨h1, a1, C2, F2⟩ := round_run C1 A fun x hx => by
        obtain ⟨c, t, er, _⟩ := R1.g.row x hx x hx
        rw [er]; rfl
      have v1 := v.set (i := 7) (o := some (.int (x : Int))) (by decide)
      rw [nameG_e, sbind_nx]
      refine ⟨τ.set 7 (some (.int (x : Int))), h1, ?_, v1, F2.get g fr, _, k + 1, by simp only [List.length_cons] at e; omega, C2, R1.round A⟩
      unfold law_f5b
      rw [exprM_e, meth_c C1.crowd rfl (varM_at v1.s3), nilM_e, bindE_ok]
      have a1' : callF 1 [] F_Crowd_tell_round [.ref (a .crowd)] hh = .ok .non h1 := a1
      rw [a1', toS_ok]) (List.range 120) τ h ⟨v, g, _, 0, by simp, C, start_ri⟩
  have ek : k = 120 := by simpa using e
  subst ek
  exact ⟨τ', h', S', b1, v', C', R', g'⟩
theorem e8_run (C : Cr ns false a S h) (A : Asc ns) (v : Sw a q τ) (g : h[q]? = some (.lst (dl.map D.str))) (hS : S.dn = inL dl) :
    ∃ r h', e8 τ h = .nx (τ.set 8 (some (.ref r))) h' ∧ Fr none h h' ∧ h'[r]? = some (.lst ((upL ns S).map D.str)) ∧ h.length ≤ r := by
  obtain ⟨h', b1, b2, b3⟩ := lc_list (mc := some (binM (varM 6) (varM 9) ninM)) (me := varM 6) (own := [6]) (τ := τ) (j := 6) (p := fun y => !inL dl y) (g := D.str) (varM_at v.s2) C.nms (few_ns A) fun y hy h2 f => by
    have ew : (wipeD τ [6]).set 6 (some (D.str y)) = τ.set 6 (some (.str y)) := by
      show (τ.set 6 none).set 6 (some (D.str y)) = _
      rw [List.set_set]
    have m : Sl (τ.set 6 (some (.str y))) 6 (.str y) := Sl.new (by rw [v.len]; decide)
    have m9 := v.s9.set (j := 6) (o := some (.str y)) (by decide)
    refine ⟨h2, ?_, .refl, fun _ => ⟨h2, ?_, .refl⟩⟩
    · rw [ew]
      show binM _ _ _ _ _ = _
      rw [binM_e, varM_at m, bind_ok, varM_at m9, bind_ok, nin_str (f.getN g)]
      rfl
    · rw [ew, varM_at m]
  refine ⟨h.length, h', ?_, b3, ?_, Nat.le_refl _⟩
  · unfold e8
    rw [setM_e, b1, toS_ok]
  · rw [b2]
    unfold upL
    rw [hS]
end
end K08
end

section
set_option Elab.async false
set_option linter.all false
set_option maxRecDepth 100000
set_option maxHeartbeats 2000000
namespace K08
open PySem L2 DD
section
variable {ns dl U : List Str} {lw : Bool} {a : Tg → Nat} {S S' : St} {h h' h'' : AH} {x y z : Str} {o : O} {t s : Tg} {i q r : Nat} {τ : SL}
theorem lst0 (τ : SL) (h : AH) : lstM nilM τ h = .ok (.ref h.length) (h ++ [.lst []]) := by rw [lstM_e, nilM_e, bindE_ok, if_pos (by simp)]
theorem lst1 (τ : SL) (h : AH) (c : Str) : lstM (consM (cM (.str c)) nilM) τ h = .ok (.ref h.length) (h ++ [.lst [.str c]]) := by
  rw [lstM_e, consM_e, cM_e, bindL_ok, nilM_e, lbind_ok, bindE_ok, if_pos (by rw [sizeLine_eq]; simp only [List.length_cons, List.length_nil]; decide)]
/-- not the empty list -/
theorem ne_empty {e : EM} {j : Nat} {l : List Str} (he : e τ h = .ok (.ref j) h) (g : h[j]? = some (.lst (l.map D.str))) : ∃ h', binM e (lstM nilM) neM τ h = .ok (.bl (!decide (l = []))) h' ∧ Fr none h h' := by
  refine ⟨h ++ [.lst []], ?_, Fr.app⟩
  rw [binM_e, he, bind_ok, lst0, bind_ok, ne_nil_str (get_app g) get_new]
theorem eq_empty {e : EM} {j : Nat} {l : List Str} (he : e τ h = .ok (.ref j) h) (g : h[j]? = some (.lst (l.map D.str))) : ∃ h', binM e (lstM nilM) eqM τ h = .ok (.bl (decide (l = []))) h' ∧ Fr none h h' := by
  refine ⟨h ++ [.lst []], ?_, Fr.app⟩
  rw [binM_e, he, bind_ok, lst0, bind_ok, eq_nil_str (get_app g) get_new]
theorem ne_one {e : EM} {j : Nat} {c : Str} (he : e τ h = .ok (.ref j) h) (g : h[j]? = some (.lst [.str c])) : ∃ h', binM e (lstM (consM (cM (.str c)) nilM)) neM τ h = .ok (.bl false) h' ∧ Fr none h h' := by
  refine ⟨h ++ [.lst [.str c]], ?_, Fr.app⟩
  rw [binM_e, he, bind_ok, lst1, bind_ok, ne_lists (xs := [D.str c]) (get_app g) get_new (plDs_str [c]) (depDs_str [c])]
/-- x in the list of j -/
theorem in_run {ex ej : EM} {j : Nat} {l : List Str} (hx : ex τ h = .ok (.str x) h) (hj : ej τ h = .ok (.ref j) h) (g : h[j]? = some (.lst (l.map D.str))) : binM ex ej inM τ h = .ok (.bl (decide (x ∈ l))) h := by
  rw [binM_e, hx, bind_ok, hj, bind_ok, in_str g]
structure Sx (a : Tg → Nat) (q r : Nat) (τ : SL) : Prop where
  w : Sw a q τ
  s8 : Sl τ 8 (.ref r)
theorem Sx.set {i : Nat} {o : Option D} (v : Sx a q r τ) (hi : i ∉ [1, 2, 3, 8, 9]) : Sx a q r (τ.set i o) := by
  simp only [List.mem_cons, List.not_mem_nil, or_false, not_or] at hi
  exact ⟨v.w.set (by simp; exact ⟨hi.1, hi.2.1, hi.2.2.1, hi.2.2.2.2⟩), v.s8.set hi.2.2.2.1⟩
def seenL (U dl : List Str) (x : Str) : List Str := if U = [] then [] else [if x ∈ dl then "dead" else "alive"]
theorem g2_run {j : Nat} (v : Sx a q r τ) (s6 : Sl τ 6 (.str x)) (s10 : Sl τ 10 (.ref j)) (gq : h[q]? = some (.lst (dl.map D.str))) (gr : h[r]? = some (.lst (U.map D.str))) (gj : h[j]? = some (.lst ((seenL U dl x).map D.str))) :
    ∃ h', g2 τ h = .nx τ h' ∧ Fr none h h' := by
  suffices hs : ∃ h', orM (andM (binM (varM 6) (varM 9) inM) (andM (binM (varM 8) (lstM nilM) neM) (binM (varM 10) (lstM (consM (cM (.str "dead")) nilM)) neM))) (andM (binM (varM 8) (lstM nilM) eqM) (binM (varM 10) (lstM nilM) neM)) τ h = .ok (.bl false) h' ∧ Fr none h h' by
    obtain ⟨h', e, f⟩ := hs
    refine ⟨h', ?_, f⟩
    unfold g2
    rw [ifSM_e, e, toS_ok]
    rfl
  have second : ∀ hh, Fr none h hh → ∃ h', andM (binM (varM 8) (lstM nilM) eqM) (binM (varM 10) (lstM nilM) neM) τ hh = .ok (.bl false) h' ∧ Fr none hh h' := fun hh f => by
    obtain ⟨h1, a1, f1⟩ := eq_empty (h := hh) (varM_at v.s8) (f.getN gr)
    rw [andM_e, a1, bind_ok]
    by_cases hU : U = []
    · rw [decide_eq_true hU]
      simp only []
      obtain ⟨h2, a2, f2⟩ := ne_empty (h := h1) (varM_at s10) ((f.trans f1).getN gj)
      refine ⟨h2, ?_, f1.trans f2⟩
      rw [a2]
      unfold seenL
      rw [if_pos hU]
      rfl
    · rw [decide_eq_false hU]
      exact ⟨h1, rfl, f1⟩
  have ein := in_run (h := h) (varM_at s6) (varM_at v.w.s9) gq
  rw [orM_e, andM_e, ein, bind_ok]
  by_cases hx : x ∈ dl
  · rw [decide_eq_true hx]
    simp only []
    obtain ⟨h1, a1, f1⟩ := ne_empty (h := h) (varM_at v.s8) gr
    rw [andM_e, a1, bind_ok]
    by_cases hU : U = []
    · rw [decide_eq_true hU]
      simp only [Bool.not_true, bind_ok]
      obtain ⟨h', b1, b2⟩ := second h1 f1
      exact ⟨h', b1, f1.trans b2⟩
    · rw [decide_eq_false hU]
      simp only [Bool.not_false]
      obtain ⟨h2, a2, f2⟩ := ne_one (c := "dead") (h := h1) (varM_at s10) (by rw [f1.getN gj]; unfold seenL; rw [if_neg hU, if_pos hx]; rfl)
      rw [a2, bind_ok]
      simp only []
      obtain ⟨h', b1, b2⟩ := second h2 (f1.trans f2)
      exact ⟨h', b1, (f1.trans f2).trans b2⟩
  · rw [decide_eq_false hx]
    simp only [bind_ok]
    exact second h .refl
theorem g3_run {j : Nat} (v : Sx a q r τ) (s6 : Sl τ 6 (.str x)) (s10 : Sl τ 10 (.ref j)) (gr : h[r]? = some (.lst (U.map D.str))) (gj : h[j]? = some (.lst ((seenL U dl x).map D.str))) (hU : x ∈ U → x ∉ dl) :
    ∃ h', g3 τ h = .nx τ h' ∧ Fr none h h' := by
  suffices hs : ∃ h', orM (andM (binM (varM 6) (varM 8) inM) (binM (lcQ (varM 10) lstIt (nameG 12) (some (binM (varM 12) (cM (.str "dead")) eqM)) (varM 12) [12]) (lstM nilM) neM)) (andM (binM (varM 6) (varM 8) inM) (andM (binM (callM (consM (varM 8) nilM) lenF) (cM (.int 1)) eqM) (binM (varM 10) (lstM (consM (cM (.str "alive")) nilM)) neM))) τ h = .ok (.bl false) h' ∧ Fr none h h' by
    obtain ⟨h', e, f⟩ := hs
    refine ⟨h', ?_, f⟩
    unfold g3
    rw [ifSM_e, e, toS_ok]
    rfl
  have ein := fun hh (f : Fr none h hh) => in_run (h := hh) (varM_at s6) (varM_at v.s8) (f.getN gr)
  rw [orM_e, andM_e, ein h .refl, bind_ok]
  by_cases hx : x ∈ U
  · have nU : U ≠ [] := fun e => by rw [e] at hx; cases hx
    have es : seenL U dl x = (["alive"] : List Str) := by unfold seenL; rw [if_neg nU, if_neg (hU hx)]
    rw [es] at gj
    rw [decide_eq_true hx]
    simp only []
    obtain ⟨h1, a1, a2, f1⟩ := lc_list (mc := some (binM (varM 12) (cM (.str "dead")) eqM)) (me := varM 12) (own := [12]) (τ := τ) (j := 12) (p := fun y => y == ("dead" : Str)) (g := D.str) (varM_at s10) gj (by decide) fun y hy h2 f => by
      have ew : (wipeD τ [12]).set 12 (some (D.str y)) = τ.set 12 (some (.str y)) := by
        show (τ.set 12 none).set 12 (some (D.str y)) = _
        rw [List.set_set]
      have m : Sl (τ.set 12 (some (.str y))) 12 (.str y) := Sl.new (by rw [v.w.len]; decide)
      refine ⟨h2, ?_, .refl, fun _ => ⟨h2, ?_, .refl⟩⟩
      · rw [ew]
        show binM _ _ _ _ _ = _
        rw [binM_e, varM_at m, bind_ok, cM_e, bind_ok, eq_ss]
      · rw [ew, varM_at m]
    have a2' : h1[h.length]? = some (.lst (([] : List Str).map D.str)) := by rw [a2]; rfl
    have e2 : binM (lcQ (varM 10) lstIt (nameG 12) (some (binM (varM 12) (cM (.str "dead")) eqM)) (varM 12) [12]) (lstM nilM) neM τ h = .ok (.bl false) (h1 ++ [.lst []]) := by
      rw [binM_e, a1, bind_ok, lst0, bind_ok, ne_nil_str (get_app a2') get_new]
      rfl
    rw [e2, bind_ok]
    simp only []
    have F2 : Fr none h (h1 ++ [O.lst []]) := f1.trans Fr.app
    generalize h1 ++ [O.lst []] = h2 at *
    rw [andM_e, ein h2 F2, bind_ok, decide_eq_true hx]
    simp only []
    have el : callM (consM (varM 8) nilM) lenF τ h2 = .ok (.int (U.length : Int)) h2 := by
      rw [callM_e, consM_e, varM_at v.s8, bindL_ok, nilM_e, lbind_ok, bindE_ok, len_r (F2.getN gr), List.length_map]
    rw [andM_e, binM_e, el, bind_ok, cM_e, bind_ok, eq_ii, bind_ok]
    cases hq : ((U.length : Int) == 1) with
    | false => exact ⟨h2, rfl, F2⟩
    | true =>
      simp only []
      obtain ⟨h3, a3, f3⟩ := ne_one (c := "alive") (h := h2) (varM_at s10) (F2.getN gj)
      exact ⟨h3, a3, F2.trans f3⟩
  · rw [decide_eq_false hx]
    simp only [bind_ok]
    rw [andM_e, ein h .refl, bind_ok, decide_eq_false hx]
    exact ⟨h, rfl, .refl⟩
theorem g4_run (C : Cr ns false a S h) (A : Asc ns) (v : Sx a q r τ) (s6 : Sl τ 6 (.str x)) (h2 : 2 ≤ ns.length) : ∃ h', g4 τ h = .nx τ h' ∧ Fr none h h' := by
  have el : callM (consM (varM 2) nilM) lenF τ h = .ok (.int (ns.length : Int)) h := by
    rw [callM_e, consM_e, varM_at v.w.s2, bindL_ok, nilM_e, lbind_ok, bindE_ok, len_r C.nms, List.length_map]
  obtain ⟨h1, a1, f1⟩ := partner_run C A x
  have ep : methF "partner" 2 2 [] F_Crowd_partner (varM 3) (consM (varM 6) nilM) τ h = .ok (oD (ptn ns S.turn x)) h1 := by
    rw [meth_c C.crowd rfl (varM_at v.w.s3), consM_e, varM_at s6, bindL_ok, nilM_e, lbind_ok, bindE_ok]
    exact a1
  have C1 := C.frame f1
  obtain ⟨h3, b1, b2, f3⟩ := lc_list (mc := some (binM (varM 12) (varM 6) neM)) (me := varM 12) (own := [12]) (τ := τ) (j := 12) (p := fun y => !(y == x)) (g := D.str) (varM_at v.w.s2) C1.nms (few_ns A) fun y hy h2 f => by
    have ew : (wipeD τ [12]).set 12 (some (D.str y)) = τ.set 12 (some (.str y)) := by
      show (τ.set 12 none).set 12 (some (D.str y)) = _
      rw [List.set_set]
    have m : Sl (τ.set 12 (some (.str y))) 12 (.str y) := Sl.new (by rw [v.w.len]; decide)
    have m6 := s6.set (j := 12) (o := some (.str y)) (by decide)
    refine ⟨h2, ?_, .refl, fun _ => ⟨h2, ?_, .refl⟩⟩
    · rw [ew]
      show binM _ _ _ _ _ = _
      rw [binM_e, varM_at m, bind_ok, varM_at m6, bind_ok, ne_ss]
    · rw [ew, varM_at m]
  refine ⟨h3, ?_, f1.trans f3⟩
  have ho : othersL ns x ≠ [] := fun e => by
    have : ∀ y ∈ ns, y = x := fun y hy => by
      apply Classical.byContradiction
      intro ne
      have : y ∈ othersL ns x := List.mem_filter.mpr ⟨hy, by simpa using ne⟩
      rw [e] at this
      cases this
    match ns, h2, A.nd with
    | p :: q :: l, _, nd =>
      have h1 := this p (by simp)
      have h2 := this q (by simp)
      rw [List.nodup_cons] at nd
      exact nd.1 (by rw [h1, h2]; simp)
  have hm : S.turn % (othersL ns x).length < (othersL ns x).length := Nat.mod_lt _ (List.length_pos_iff.mpr ho)
  have e3 : ptn ns S.turn x = some (othersL ns x)[S.turn % (othersL ns x).length] := List.getElem?_eq_getElem hm
  have hin : (othersL ns x)[S.turn % (othersL ns x).length] ∈ othersL ns x := List.getElem_mem hm
  rw [e3] at ep
  generalize (othersL ns x)[S.turn % (othersL ns x).length] = w at *
  have b2' : h3[h1.length]? = some (.lst ((othersL ns x).map D.str)) := b2
  unfold g4
  rw [ifSM_e, andM_e, binM_e, el, bind_ok, cM_e, bind_ok, gt_ii, decide_eq_true (by omega), bind_ok]
  simp only []
  rw [binM_e, ep, bind_ok, b1, bind_ok]
  show (EO.toS (ninM (.str w) (.ref h1.length) h3) _ _) = _
  rw [nin_str b2', decide_eq_true hin, toS_ok]
  rfl
theorem e9_run {seed : Nat} (C : Cr ns false a S h) (A : Asc ns) (h2 : 2 ≤ ns.length) (h6 : ns.length ≤ 6) (R : Ri ns (inL dl) seed 120 S) (v : Sx a q r τ) (gq : h[q]? = some (.lst (dl.map D.str))) (gr : h[r]? = some (.lst ((upL ns S).map D.str))) :
    ∃ τ' h', e9 τ h = .nx τ' h' ∧ Sx a q r τ' ∧ Fr none h h' := by
  unfold e9
  rw [forM_e, varM_at v.w.s2, toS_ok, lstIt_e C.nms]
  simp only []
  have hU : ∀ x, x ∈ upL ns S ↔ x ∈ ns ∧ inL dl x = false := fun x => up_mem R.g.dn
  obtain ⟨τ', h', b1, v', F', _⟩ := for_list (φ := D.str) (f := nameG 6) (b := law_f6b) (live := isLst (a .names) (ns.map D.str)) (P := fun rr τ hh => Sx a q r τ ∧ Fr none h hh ∧ ∀ x ∈ rr, x ∈ ns) (fun _ _ _ p => isLst_mk (C.frame p.2.1).nms)
    (fun x rr τ hh p => by
      obtain ⟨v, F, hr⟩ := p
      have hx := hr x (by simp)
      have Ch := C.frame F
      have v1 := v.set (i := 6) (o := some (.str x)) (by decide)
      have m6 : Sl (τ.set 6 (some (.str x))) 6 (.str x) := Sl.new (by rw [v.w.len]; decide)
      rw [nameG_e, sbind_nx]
      generalize τ.set 6 (some (.str x)) = τ1 at *
      obtain ⟨j, h1, a1, g1', l1, f1⟩ := agree_run (x := x) Ch A (fun y hy => by
        obtain ⟨c, t, er, _⟩ := R.g.row y ((hU y).mp hy).1 x hx
        rw [er]; rfl) (if x ∈ dl then "dead" else "alive") (fun y hy => by
        obtain ⟨hy1, dy⟩ := (hU y).mp hy
        by_cases hd : x ∈ dl
        · rw [if_pos hd]; exact R.deadS hy1 hx dy (decide_eq_true hd)
        · rw [if_neg hd]; exact R.alive A h6 hy1 hx dy (decide_eq_false hd))
      have ea : methF "agree_on" 2 2 [] F_Crowd_agree_on (varM 3) (consM (varM 6) nilM) τ1 hh = .ok (.ref j) h1 := by
        rw [meth_c Ch.crowd rfl (varM_at v1.w.s3), consM_e, varM_at m6, bindL_ok, nilM_e, lbind_ok, bindE_ok]
        exact a1
      rw [f6_eq, seqM_e]
      unfold g1
      rw [setM_e, ea, toS_ok, sbind_nx]
      have v2 := v1.set (i := 10) (o := some (.ref j)) (by decide)
      have n6 := m6.set (j := 10) (o := some (.ref j)) (by decide)
      have n10 : Sl (τ1.set 10 (some (.ref j))) 10 (.ref j) := Sl.new (by rw [v1.w.len]; decide)
      generalize τ1.set 10 (some (.ref j)) = τ2 at *
      have F1 := F.trans f1
      have gj : h1[j]? = some (.lst ((seenL (upL ns S) dl x).map D.str)) := by rw [g1']; unfold seenL; rfl
      obtain ⟨h3, a3, f3⟩ := g2_run v2 n6 n10 (F1.getN gq) (F1.getN gr) gj
      have F3 := F1.trans f3
      obtain ⟨h4, a4, f4⟩ := g3_run v2 n6 n10 (F3.getN gr) (f3.getN gj) (fun hx => by
        have := ((hU x).mp hx).2
        unfold inL at this
        exact of_decide_eq_false this)
      have F4 := F3.trans f4
      obtain ⟨h5, a5, f5⟩ := g4_run (C.frame F4) A v2 n6 h2
      refine ⟨τ2, h5, ?_, v2, F4.trans f5, fun y hy => hr y (by simp [hy])⟩
      rw [seqM_e, a3, sbind_nx, seqM_e, a4, sbind_nx, a5]) ns τ h ⟨v, .refl, fun _ z => z⟩
  exact ⟨τ', h', b1, v', F'⟩
theorem gosL_time {U : List Str} : ∀ (l : List Str) (S : St), (gosL ns U S l).time = S.time
  | [], S => rfl
  | x :: l, S => by
    have e : gosL ns U S (x :: l) = gosL ns U (gos1 ns U S x) l := rfl
    rw [e, gosL_time l]
    unfold gos1
    split
    · split
      · rw [(hear_keep _ _).1, (hear_keep _ _).1]
      · rfl
    · rfl
theorem e10_run {seed : Nat} (C : Cr ns false a S h) (A : Asc ns) (R : Ri ns (inL dl) seed 120 S) (v : Sx a q r τ) (gq : h[q]? = some (.lst (dl.map D.str))) (fr : ∀ t, Vd ns false t → a t ≠ q) (hd : ∀ x ∈ dl, x ∈ ns) :
    ∃ h' S', e10 τ h = .nx τ h' ∧ Cr ns false a S' h' := by
  obtain ⟨h1, a1, f1⟩ := ne_empty (h := h) (varM_at v.w.s9) gq
  unfold e10
  rw [ifSM_e, a1, toS_ok]
  have C1 := C.frame f1
  cases dl with
  | nil => exact ⟨h1, S, rfl, C1⟩
  | cons d l =>
    rw [decide_eq_false (by simp)]
    simp only [Bool.not_false]
    have hdn := hd d (by simp)
    have g1 := f1.getN gq
    have e0 : ∀ hh : AH, hh[q]? = some (.lst ((d :: l).map D.str)) → binM (varM 9) (cM (.int 0)) itM τ hh = .ok (.str d) hh := fun hh g => by
      have e1 : atI ((d :: l).map D.str) 0 = some (.str d) := by
        rw [show (0 : Int) = ((0 : Nat) : Int) from rfl, atI_k (by simp)]
        rfl
      rw [binM_e, varM_at v.w.s9, bind_ok, cM_e, bind_ok, it_r, g]
      simp only [e1]
    obtain ⟨h2, a2, C2, F2⟩ := updn_run C1 A hdn
    have es : methF "set_down" 2 3 [] F_Crowd_set_down (varM 3) (consM (binM (varM 9) (cM (.int 0)) itM) (consM (cM (.bl false)) nilM)) τ h1 = .ok .non h2 := by
      rw [meth_c C1.crowd rfl (varM_at v.w.s3), consM_e, e0 h1 g1, bindL_ok, consM_e, cM_e, bindL_ok, nilM_e, lbind_ok, lbind_ok, bindE_ok]
      exact a2
    have g2 := F2.get g1 fr
    obtain ⟨h3, a3, C3, F3⟩ := round_run C2 A fun x hx => by
      obtain ⟨c, t, er, _⟩ := R.g.row x hx x hx
      show (S.row x x).isSome = true
      rw [er]; rfl
    have er : methF "tell_round" 2 1 [] F_Crowd_tell_round (varM 3) nilM τ h2 = .ok .non h3 := by
      rw [meth_c C2.crowd rfl (varM_at v.w.s3), nilM_e, bindE_ok]
      exact a3
    have g3 := F3.get g2 fr
    have tm : (roundS ns { S with dn := up S.dn d false }).time d = 1 := by
      unfold roundS
      rw [gosL_time]
      have hu : d ∈ upL ns { S with dn := up S.dn d false } := List.mem_filter.mpr ⟨hdn, by simp [up_eq]⟩
      obtain ⟨_, _, t3, _⟩ := ticks_are (upL ns { S with dn := up S.dn d false }) { S with dn := up S.dn d false, turn := S.turn + 1 } (A.nd.sublist List.filter_sublist)
      have t3' := t3 d
      rw [if_pos hu] at t3'
      refine t3'.trans ?_
      show S.time d + 1 = 1
      rw [R.g.time d hdn, show inL (d :: l) d = true from by simp [inL]]
      rfl
    obtain ⟨kvs, gv, iv⟩ := C3.views
    have ev : binM (unM (varM 3) (fldM "views" cs_views)) (binM (varM 9) (cM (.int 0)) itM) dgetM τ h3 = .ok (.ref (a (.view d))) h3 := by
      rw [binM_e, unM_e, varM_at v.w.s3, bind_ok, rc1 C3.crowd, bind_ok, e0 h3 g3, bind_ok, dget_run gv iv (refs_some hdn)]
    refine ⟨h3, _, ?_, C3⟩
    rw [seqM_e, exprM_e, es, toS_ok, sbind_nx, seqM_e, exprM_e, er, toS_ok, sbind_nx, ifSM_e, binM_e, unM_e, ev, bind_ok, rv2 (C3.view hdn), bind_ok, cM_e, bind_ok, tm, ne_ii, toS_ok]
    rfl
end
end K08
end

section
set_option Elab.async false
set_option linter.all false
set_option maxRecDepth 100000
set_option maxHeartbeats 2000000
namespace K08
open PySem L2 DD
def six : List Str := ["p", "q", "r", "s", "t", "u"]
theorem asc_six : Asc six := ⟨by decide +kernel, by unfold six leT; decide +kernel, by decide⟩
theorem asc_take (k : Nat) : Asc (six.take k) := ⟨asc_six.nd.sublist (List.take_sublist k six), asc_six.pw.sublist (List.take_sublist k six), Nat.lt_of_le_of_lt (List.take_sublist k six).length_le asc_six.few⟩
theorem asc_ab : Asc ["a", "b"] := ⟨by decide +kernel, by unfold leT; decide +kernel, by decide⟩
theorem asc_a : Asc ["a"] := ⟨by decide +kernel, by unfold leT; decide +kernel, by decide⟩
/-- the dice at d, the names at n -/
def a0 (d n l : Nat) : Tg → Nat
  | .dice => d
  | .extra => l
  | _ => n
section
variable {ns dl U : List Str} {lw : Bool} {a : Tg → Nat} {S S' : St} {h h' h'' : AH} {x y z : Str} {o : O} {t s : Tg} {i q r d : Nat} {τ : SL}
theorem rollD (di : Di h d) (s1 : Sl τ 1 (.ref d)) {many : Nat} (hm : 0 < many) (hb : many ≤ 100000000) : ∃ (r : Nat) (h' : AH), callM (consM (varM 1) (consM (cM (.int (many : Int))) nilM)) (callF 2 [] (R__law_roll 5)) τ h = .ok (.int (r : Int)) h' ∧ r < many ∧ Dd d h h' := by
  obtain ⟨r, h', b1, b2, b3⟩ := roll5 many h d di hm (.inl hb) (by omega)
  refine ⟨r, h', ?_, b2, b3⟩
  rw [callM_e, consM_e, varM_at s1, bindL_ok, consM_e, cM_e, bindL_ok, nilM_e, lbind_ok, lbind_ok, bindE_ok]
  exact b1
theorem e1_run {l : Nat} (di : Di h d) (gl : h[l]? = some (.lst [.ref d])) (hdl : d ≠ l) (s1 : Sl τ 1 (.ref d)) : ∃ (k n : Nat) (h' : AH), e1 τ h = .nx (τ.set 2 (some (.ref n))) h' ∧ 2 ≤ k ∧ k ≤ 6 ∧ h'[n]? = some (.lst ((six.take k).map D.str)) ∧ Di h' d ∧ h'[l]? = some (.lst [.ref d]) := by
  have e0 : lstM (consM (cM (.str "p")) (consM (cM (.str "q")) (consM (cM (.str "r")) (consM (cM (.str "s")) (consM (cM (.str "t")) (consM (cM (.str "u")) nilM)))))) τ h = .ok (.ref h.length) (h ++ [.lst (six.map D.str)]) := by
    rw [lstM_e, consM_e, cM_e, bindL_ok, consM_e, cM_e, bindL_ok, consM_e, cM_e, bindL_ok, consM_e, cM_e, bindL_ok, consM_e, cM_e, bindL_ok, consM_e, cM_e, bindL_ok, nilM_e, lbind_ok, lbind_ok, lbind_ok, lbind_ok, lbind_ok, lbind_ok, bindE_ok, if_pos (by rw [sizeLine_eq]; simp only [List.length_cons, List.length_nil]; decide)]
    rfl
  have dd : d < h.length := by obtain ⟨_, _, _, q⟩ := di; exact lt_of_get q
  have di1 : Di (h ++ [O.lst (six.map D.str)]) d := by obtain ⟨x, y, z, q⟩ := di; exact ⟨x, y, z, get_app q⟩
  obtain ⟨r, h2, b1, b2, b3⟩ := rollD (many := 5) di1 s1 (by decide) (by decide)
  have g2 : h2[h.length]? = some (.lst (six.map D.str)) := b3.1.get get_new (by intro z; injection z with z; omega)
  have g3 : (h2 ++ [O.lst ((six.take (2 + r)).map D.str)])[h2.length]? = some (.lst ((six.take (2 + r)).map D.str)) := get_new
  refine ⟨2 + r, h2.length, h2 ++ [.lst ((six.take (2 + r)).map D.str)], ?_, by omega, by omega, g3, ?_, get_app (b3.1.get (get_app gl) (by intro z; injection z with z; exact hdl z.symm))⟩
  · unfold e1
    rw [setM_e, slM_e, e0, bind_ok, om_none, om_some, binM_e, cM_e, bind_ok]
    have b1' : callM (consM (varM 1) (consM (cM (.int 5)) nilM)) (callF 2 [] (R__law_roll 5)) τ (h ++ [O.lst (six.map D.str)]) = .ok (.int (r : Int)) h2 := b1
    rw [b1', bind_ok, add_ii, bind_ok]
    simp only []
    rw [sl_r, g2]
    simp only []
    rw [show (2 : Int) + (r : Int) = ((2 + r : Nat) : Int) from by omega, cut_n, ← List.map_take, toS_ok]
  · obtain ⟨x, y, z, q⟩ := b3.2
    exact ⟨x, y, z, get_app q⟩
theorem turn_run {l : Nat} (hl : τ.length = 20) (s1 : Sl τ 1 (.ref d)) (di : Di h d) (gl : h[l]? = some (.lst [.ref d])) (hdl : d ≠ l) : ∃ τ' h', law_f7b τ h = .nx τ' h' ∧ Di h' d ∧ h'[l]? = some (.lst [.ref d]) := by
  obtain ⟨k, n, h1, q1, k2, k6, gn, di1, gl1⟩ := e1_run (τ := τ) di gl hdl s1
  have A := asc_take k
  have len : (six.take k).length = k := by rw [List.length_take]; simp only [six, List.length_cons, List.length_nil]; omega
  generalize six.take k = ns at *
  have hn : ns ≠ [] := fun e => by rw [e] at len; simp at len; omega
  rw [f7_eq, seqM_e, q1, sbind_nx]
  have l1 := len_set (i := 2) (o := some (.ref n)) hl
  have t1 := s1.set (j := 2) (o := some (.ref n)) (by decide)
  have t2 : Sl (τ.set 2 (some (.ref n))) 2 (.ref n) := Sl.new (by rw [hl]; decide)
  generalize τ.set 2 (some (.ref n)) = τ1 at *
  obtain ⟨seed, h2, b1, b2, b3⟩ := rollD (many := 1000) di1 t1 (by decide) (by decide)
  have hdn : d ≠ n := fun e => by
    obtain ⟨x, y, z, q⟩ := di1
    rw [e, gn] at q
    match ns, hn with
    | w :: l, _ => unfold Dc at q; simp at q
  have gn2 : h2[n]? = some (.lst (ns.map D.str)) := b3.1.get gn (by intro z; injection z with z; exact hdn z.symm)
  have B : Bs ns (a0 d n l) h2 := ⟨b3.2, gn2, b3.1.get gl1 (by intro z; injection z with z; exact hdl z.symm)⟩
  obtain ⟨h3, c1, F3, C3⟩ := crowd_new A hn B seed
  have ec : callM (consM (varM 2) (consM (callM (consM (varM 1) (consM (cM (.int 1000)) nilM)) (callF 2 [] (R__law_roll 5))) nilM)) (makeF 2 3 [] F_Crowd_init) τ1 h1 = .ok (.ref h2.length) h3 := by
    have b1' : callM (consM (varM 1) (consM (cM (.int 1000)) nilM)) (callF 2 [] (R__law_roll 5)) τ1 h1 = .ok (.int (seed : Int)) h2 := b1
    have c1' : makeF 2 3 [] F_Crowd_init [.ref n, .int (seed : Int)] h2 = .ok (.ref h2.length) h3 := c1
    rw [callM_e, consM_e, varM_at t2, bindL_ok, consM_e, b1', bindL_ok, nilM_e, lbind_ok, lbind_ok, bindE_ok, c1']
  rw [seqM_e]
  unfold e2
  rw [setM_e, ec, toS_ok, sbind_nx]
  have l2 := len_set (i := 3) (o := some (.ref h2.length)) l1
  have u1 := t1.set (j := 3) (o := some (.ref h2.length)) (by decide)
  have u2 := t2.set (j := 3) (o := some (.ref h2.length)) (by decide)
  have u3 : Sl (τ1.set 3 (some (.ref h2.length))) 3 (.ref h2.length) := Sl.new (by rw [l1]; decide)
  generalize τ1.set 3 (some (.ref h2.length)) = τ2 at *
  obtain ⟨h4, a4, q4, C4, F4, ea⟩ := e3_run A C3 l2 u2
  rw [seqM_e, q4, sbind_nx]
  have d4 : a4 .dice = d := ea .dice True.intro
  have x4 : a4 .extra = l := ea .extra True.intro
  have v : Sv a4 (τ2.set 4 (some (.ref (a4 .lviews)))) := by
    refine ⟨len_set l2, ?_, ?_, ?_, Sl.new (by rw [l2]; decide)⟩
    · rw [d4]; exact u1.set (by decide)
    · rw [ea .names True.intro]; exact u2.set (by decide)
    · rw [ea .crowd True.intro]; exact u3.set (by decide)
  generalize τ2.set 4 (some (.ref (a4 .lviews))) = τ3 at *
  obtain ⟨τ5, h5, S5, q5, v5, C5⟩ := e4_run C4 A hn Eqv.start v
  rw [seqM_e, q5, sbind_nx]
  obtain ⟨τ6, h6, a6, dl, seed2, q, q6, w6, C6, g6, fr6, hd6, d6, x6⟩ := e5_run C5 A hn v5
  rw [seqM_e, q6, sbind_nx]
  obtain ⟨τ7, h7, q7, w7, C7, g7⟩ := e6_run C6 A w6 g6 fr6 hd6
  rw [seqM_e, q7, sbind_nx]
  obtain ⟨τ8, h8, S8, q8, w8, C8, R8, g8⟩ := e7_run C7 A w7 g7 fr6
  rw [seqM_e, q8, sbind_nx]
  obtain ⟨r, h9, q9, f9, g9, l9⟩ := e8_run C8 A w8 g8 R8.g.dn
  rw [seqM_e, q9, sbind_nx]
  have x9 : Sx a6 q r (τ8.set 8 (some (.ref r))) := ⟨w8.set (by decide), Sl.new (by rw [w8.len]; decide)⟩
  have C9 := C8.frame f9
  obtain ⟨τ10, h10, q10, x10, f10⟩ := e9_run C9 A (by omega) (by omega) R8 x9 (f9.getN g8) g9
  rw [seqM_e, q10, sbind_nx]
  have C10 := C9.frame f10
  obtain ⟨h11, S11, q11, C11⟩ := e10_run C10 A R8 x10 (f10.getN (f9.getN g8)) fr6 hd6
  exact ⟨τ10, h11, q11, by rw [← d4, ← d6]; exact C11.dice, by rw [← x4, ← x6, ← d4, ← d6]; exact C11.ext⟩
/-! ### what is refused -/
theorem ci_me : ci_MachineError 0 = some true := rfl
theorem told_exc {e : EM} (he : e τ h = .exc 0 h') : toldM ci_MachineError "MachineError" e τ h = .ok (.str "MachineError") h' := by
  rw [toldM_e, he]
  simp only [ci_me]
theorem view_bad {L : Nat} (hx : x ∉ ns) (hL : h[L]? = some (.lst (ns.map D.str))) : makeF 1 3 [] F_View_init [.str x, .ref L] h = .exc 0 (h ++ [.ins 1 []]) := by
  unfold makeF
  simp only [callF, List.append_nil, List.length_cons, List.length_nil, Nat.zero_add, Nat.reduceAdd, ↓reduceIte]
  unfold F_View_init m_View_init
  have e0 : startD N_View_init.length [D.ref h.length, .str x, .ref L] = [some (.ref h.length), some (.str x), some (.ref L), none] := rfl
  have hL' : (h ++ [O.ins 1 []])[L]? = some (.lst (ns.map D.str)) := get_app hL
  rw [e0, seqM_e, ifSM_e, binM_e, varM_1, bind_ok, varM_2, bind_ok, nin_str hL', decide_eq_false hx, toS_ok]
  simp only [Bool.not_false]
  rw [raiseM_e, sbind_exc, ret_exc, bind_exc]
theorem down_bad (C : Cr ns lw a S h) (hx : x ∉ ns) (b : Bool) : F_Crowd_set_down [.ref (a .crowd), .str x, .bl b] h = .exc 0 h := by
  unfold F_Crowd_set_down m_Crowd_set_down
  have e0 : startD N_Crowd_set_down.length [D.ref (a .crowd), .str x, .bl b] = [some (.ref (a .crowd)), some (.str x), some (.bl b)] := rfl
  obtain ⟨kvs, g, i⟩ := C.views
  have er : refs ns (fun x => a (.view x)) x = none := if_neg hx
  rw [e0, seqM_e, ifSM_e, binM_e, varM_1, bind_ok, unM_e, varM_0, bind_ok, rc1 C.crowd, bind_ok, dnin_run (x := x) g i, er, toS_ok]
  simp only [Option.isSome_none, Bool.not_false]
  rw [raiseM_e, sbind_exc, ret_exc]
theorem w2_run {l : Nat} (di : Di h d) (gl : h[l]? = some (.lst [.ref d])) : ∃ h', w2 τ h = .nx τ h' := by
  have e1 : callM (consM (cM (.str "x")) (consM (lstM (consM (cM (.str "y")) nilM)) nilM)) (makeF 1 3 [] F_View_init) τ h = .exc 0 ((h ++ [.lst [.str "y"]]) ++ [.ins 1 []]) := by
    rw [callM_e, consM_e, cM_e, bindL_ok, consM_e, lst1, bindL_ok, nilM_e, lbind_ok, lbind_ok, bindE_ok]
    exact view_bad (x := "x") (ns := ["y"]) (h := h ++ [O.lst [.str "y"]]) (by decide +kernel) get_new
  have t1 := told_exc e1
  have di1 : Di ((h ++ [O.lst [.str "y"]]) ++ [.ins 1 []]) d := by obtain ⟨x, y, z, q⟩ := di; exact ⟨x, y, z, get_app (get_app q)⟩
  have gl1 : ((h ++ [O.lst [.str "y"]]) ++ [.ins 1 []])[l]? = some (.lst [.ref d]) := get_app (get_app gl)
  generalize (h ++ [O.lst [.str "y"]]) ++ [.ins 1 []] = h1 at *
  have l2 : lstM (consM (cM (.str "a")) (consM (cM (.str "b")) nilM)) τ h1 = .ok (.ref h1.length) (h1 ++ [.lst [.str "a", .str "b"]]) := by
    rw [lstM_e, consM_e, cM_e, bindL_ok, consM_e, cM_e, bindL_ok, nilM_e, lbind_ok, lbind_ok, bindE_ok, if_pos (by rw [sizeLine_eq]; simp only [List.length_cons, List.length_nil]; decide)]
  have B : Bs ["a", "b"] (a0 d h1.length l) (h1 ++ [O.lst [.str "a", .str "b"]]) := ⟨by obtain ⟨x, y, z, q⟩ := di1; exact ⟨x, y, z, get_app q⟩, get_new, get_app gl1⟩
  obtain ⟨h2, c1, F2, C2⟩ := crowd_new asc_ab (by decide) B 1
  have ec : callM (consM (lstM (consM (cM (.str "a")) (consM (cM (.str "b")) nilM))) nilM) (makeF 2 3 [(.int 1)] F_Crowd_init) τ h1 = .ok (.ref (h1 ++ [O.lst [.str "a", .str "b"]]).length) h2 := by
    rw [callM_e, consM_e, l2, bindL_ok, nilM_e, lbind_ok, bindE_ok]
    exact c1
  have e2 : methF "set_down" 2 3 [] F_Crowd_set_down (callM (consM (lstM (consM (cM (.str "a")) (consM (cM (.str "b")) nilM))) nilM) (makeF 2 3 [(.int 1)] F_Crowd_init)) (consM (cM (.str "c")) (consM (cM (.bl true)) nilM)) τ h1 = .exc 0 h2 := by
    rw [meth_c C2.crowd rfl ec, consM_e, cM_e, bindL_ok, consM_e, cM_e, bindL_ok, nilM_e, lbind_ok, lbind_ok, bindE_ok]
    exact down_bad (x := "c") C2 (by decide +kernel) true
  have t2 := told_exc e2
  refine ⟨h2, ?_⟩
  unfold w2
  rw [ifSM_e, orM_e, binM_e, t1, bind_ok, cM_e, bind_ok, ne_ss, bind_ok, beq_self_eq_true]
  simp only [Bool.not_true]
  rw [binM_e, t2, bind_ok, cM_e, bind_ok, ne_ss, beq_self_eq_true, toS_ok]
  rfl
theorem w3_run : ∃ h', w3 τ h = .rt (.bl true) h' := by
  have hL : (h ++ [O.lst [.str "a"]])[h.length]? = some (.lst ((["a"] : List Str).map D.str)) := get_new
  obtain ⟨kvs, c1, i⟩ := view_new (x := "a") asc_a (by decide +kernel) hL
  have ec : callM (consM (cM (.str "a")) (consM (lstM (consM (cM (.str "a")) nilM)) nilM)) (makeF 1 3 [] F_View_init) τ h = .ok (.ref (h ++ [O.lst [.str "a"]]).length) ((h ++ [O.lst [.str "a"]]) ++ [.ins 1 (FV (.str "a") (.int 0) (.ref ((h ++ [O.lst [.str "a"]]).length + 1)) (.ref ((h ++ [O.lst [.str "a"]]).length + 2))), .dct kvs, .dct []]) := by
    rw [callM_e, consM_e, cM_e, bindL_ok, consM_e, lst1, bindL_ok, nilM_e, lbind_ok, lbind_ok, bindE_ok]
    exact c1
  generalize h ++ [O.lst [.str "a"]] = h1 at *
  have g0 : (h1 ++ [O.ins 1 (FV (.str "a") (.int 0) (.ref (h1.length + 1)) (.ref (h1.length + 2))), .dct kvs, .dct []])[h1.length]? = some (.ins 1 (FV (.str "a") (.int 0) (.ref (h1.length + 1)) (.ref (h1.length + 2)))) := get_new
  have gr : (h1 ++ [O.ins 1 (FV (.str "a") (.int 0) (.ref (h1.length + 1)) (.ref (h1.length + 2))), .dct kvs, .dct []])[h1.length + 1]? = some (.dct kvs) := by
    rw [List.getElem?_append_right (by omega)]; simp
  generalize h1 ++ [O.ins 1 (FV (.str "a") (.int 0) (.ref (h1.length + 1)) (.ref (h1.length + 2))), .dct kvs, .dct []] = h2 at *
  have e2 : methF "state_of" 1 2 [] F_View_state_of (callM (consM (cM (.str "a")) (consM (lstM (consM (cM (.str "a")) nilM)) nilM)) (makeF 1 3 [] F_View_init)) (consM (cM (.str "b")) nilM) τ h = .exc 0 h2 := by
    rw [meth_v g0 rfl ec, consM_e, cM_e, bindL_ok, nilM_e, lbind_ok, bindE_ok]
    show F_View_state_of [.ref h1.length, .str "b"] h2 = _
    unfold F_View_state_of m_View_state_of
    have e0 : startD N_View_state_of.length [D.ref h1.length, .str "b"] = [some (.ref h1.length), some (.str "b"), none] := rfl
    have ez : z0 ["a"] "b" = none := if_neg (by decide +kernel)
    rw [e0, seqM_e, ifSM_e, binM_e, varM_1, bind_ok, unM_e, varM_0, bind_ok, rv3 g0, bind_ok, dnin_run (x := "b") gr i, ez, toS_ok]
    simp only [Option.isSome_none, Bool.not_false]
    rw [raiseM_e, sbind_exc, ret_exc]
  refine ⟨h2, ?_⟩
  unfold w3
  rw [retM_e, binM_e, told_exc e2, bind_ok, cM_e, bind_ok, eq_ss, beq_self_eq_true, toS_ok]
theorem math (ns : List Int) (hl : ns.length ≤ 63) (hb : ∀ z ∈ ns, Builtin.Int.intBits z ≤ 1048576) (d : D) (h : AH) (s : Scr ns d h) : ∃ h', F_law [d] h = .ok (.bl true) h' := by
  obtain ⟨L, D1, h1, a, b, c, r1, r2, r3, r4⟩ := rounds_run s
  unfold F_law
  have hlen : (startD N_law.length [d]).length = 20 := rfl
  have s0 : Sl (startD N_law.length [d]) 0 d := rfl
  generalize startD N_law.length [d] = τ0 at *
  have L1 : (τ0.set 1 (some (.ref D1))).length = 20 := len_set hlen
  have t1 : Sl (τ0.set 1 (some (.ref D1))) 1 (.ref D1) := Sl.new (by omega)
  obtain ⟨τ1, h2, b1, b2, b3⟩ := turn_run (h := h1) L1 t1 ⟨a, b, c, r3⟩ r2 r4
  obtain ⟨h3, b4⟩ := w2_run (τ := τ1) b2 b3
  obtain ⟨h4, b5⟩ := w3_run (h := h3) (τ := τ1)
  refine ⟨h4, ?_⟩
  have er : callM (consM (varM 0) (consM (cM (.int 1)) nilM)) (callF 2 [] F__law_rounds) τ0 h = .ok (.ref L) h1 := by
    rw [callM_e, consM_e, varM_at s0, bindL_ok, consM_e, cM_e, bindL_ok, nilM_e, lbind_ok, lbind_ok, bindE_ok]
    exact r1
  rw [ml_eq, seqM_e]
  unfold w1
  rw [forM_e, er, toS_ok, lstIt_e r2]
  simp only []
  rw [loopL_cons (isLst_mk r2), nameG_e, sbind_nx, b1, next_nx, loopL_nil (isLst_mk b3), sbind_nx, seqM_e, b4, sbind_nx, b5, ret_rt]
end
end K08
end

section
set_option Elab.async false
set_option linter.all false
set_option maxRecDepth 100000
set_option maxHeartbeats 0
namespace K08
open PySem L2 DD
end K08
open PySem PySem.W PyProof.Rows
theorem PySem.Challenge.cw_shardstack_k08_who_hears_of_whom_holds : PySem.Challenge.rw_shardstack_k08_who_hears_of_whom.Holds := by
  w_on; o_law; k_head; (case hw => w_witness2)
  k_fill
  refine LamX.walk_ofTsE (l := PySem.Challenge.rw_shardstack_k08_who_hears_of_whom) (n := 63) (k := 7) (x := "script") (CX := fun w => L2.CX PySem.Challenge.pw_shardstack_k08_who_hears_of_whom w) rfl (by decide) rfl ⟨rfl, by decide, by decide⟩ ?F ?C
  case C =>
    intro w H s e s' z
    obtain ⟨_, _, _, _, _, _, _, _, _, _, _, _, z⟩ := z
    exact z
  case F =>
    intro w mg fa h Y G hmg
    refine ⟨_, PySem.W.km_in_of Y, ?_⟩
    refine K08.lawAt (l := PySem.Challenge.rw_shardstack_k08_who_hears_of_whom) (PySem.W.km_in_of Y) (PySem.W.km_tabs_of Y) G hmg ?c ?lb ?nd K08.math
    case c => show He.obsD K08.fa K08.fn _ = He.valD K08.fn; kernel_rfl
    case lb => kernel_rfl
    case nd => unfold K08.lams; simp
end
